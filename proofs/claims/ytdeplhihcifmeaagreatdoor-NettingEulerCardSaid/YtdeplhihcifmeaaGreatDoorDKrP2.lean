/- Helpers: DKrP2. -/
import Derived.Test.YtdeplhihcifmeaaGreatDoorDKrP1
import Derived.Deep.RegionHeld3
import Derived.ProofKit
import Derived.Deep.Slices
import Derived.Deep.Fields
/- partsOf of the program, with what its rows hold. -/
namespace Go.Proofs.YtdeplhihcifmeaaGreatDoor
open Go.RowKit

structure HeadsX (W : World) (base P n : Nat) (F : Nat → List Ck.Bar) (cur : Array Value) : Prop where
  blk : W.heap[P]? = some (.cells cur 22 (0, 0))
  size : cur.size = n
  own : ∀ j (h : j < cur.size), W.ownsRow base 24 3 cur[j] (F j).length (bcellsL (F j))
  apart : ∀ j j' (h : j < cur.size) (h' : j' < cur.size), j ≠ j' → cur[j].ownBlock = none ∨ cur[j].ownBlock ≠ cur[j'].ownBlock
theorem HeadsX.lt {W : World} {base P n : Nat} {F : Nat → List Ck.Bar} {cur : Array Value} (h : HeadsX W base P n F cur) : P < W.heap.size := (Array.getElem?_eq_some_iff.1 h.blk).1
theorem HeadsX.cell {W : World} {base P n : Nat} {F : Nat → List Ck.Bar} {cur : Array Value} (h : HeadsX W base P n F cur) {q : Nat} (hq : q < cur.size) : W.cell? ⟨P, q, none⟩ = some cur[q] := by
  simp [World.cell?, h.blk, Array.getElem?_eq_getElem hq]
theorem HeadsX.frozen {W : World} {base P n : Nat} {F : Nat → List Ck.Bar} {cur : Array Value} (h : HeadsX W base P n F cur) (q : Nat) : W.frozen? ⟨P, q, none⟩ = false := by
  simp [World.frozen?, h.blk]
theorem HeadsX.below {W W' : World} {base P n : Nat} {F : Nat → List Ck.Bar} {cur : Array Value} (h : HeadsX W base P n F cur) (hb : Below W.heap.size W W') : HeadsX W' base P n F cur where
  blk := (hb.block P h.lt).trans h.blk
  size := h.size
  own j hj := ownsRow_below (h.own j hj) hb
  apart := h.apart
theorem HeadsX.step {W W1 W2 : World} {base P n q g cap : Nat} {F F' : Nat → List Ck.Bar} {cur : Array Value} (h : HeadsX W base P n F cur) (hF : ∀ j, j ≠ q → F' j = F j) (hW : Below W.heap.size W W1) (hq : q < cur.size)
    {m : Nat} (hm : m = (F' q).length) (hown : W2.ownsRow base 24 3 (.slice (some ⟨g, 0, none⟩) m cap) m (bcellsL (F' q))) (hg : W1.grownBy W2 cur[q].ownBlock) (hblk : cur[q].ownBlock = some g ∨ g = W1.heap.size) :
    HeadsX (W2.setCell ⟨P, q, none⟩ (.slice (some ⟨g, 0, none⟩) m cap)) base P n F' (cur.set q (.slice (some ⟨g, 0, none⟩) m cap)) := by
  have hT : (24 : Nat) ≠ 22 := by decide
  have h1 := h.below hW
  have oq := h1.own q hq
  have hPne := own_block_ne oq h1.blk hT
  have hP2 : W2.heap[P]? = some (.cells cur 22 (0, 0)) := (hg.block P h1.lt (fun e => hPne e.symm)).trans h1.blk
  have hs := setCell_grown W2 P q (.slice (some ⟨g, 0, none⟩) m cap)
  have hgne : (Value.slice (some ⟨g, 0, none⟩) m cap).ownBlock ≠ some P := own_block_ne hown hP2 hT
  have hold : ∀ j (hj : j < cur.size) (hjq : j ≠ q), W2.ownsRow base 24 3 cur[j] (F j).length (bcellsL (F j)) := fun j hj hjq =>
    (h1.own j hj).kept hg (h.apart j q hj hq hjq)
  refine ⟨?_, by rw [Array.size_set, h.size], fun j hj => ?_, fun j j' hj hj' hne => ?_⟩
  · simp only [World.setCell, Array.getElem?_modify, hP2]
    simp [Array.setIfInBounds, hq]
  · rw [Array.size_set] at hj
    by_cases hjq : q = j
    · subst hjq
      rw [Array.getElem_set_self]
      rw [← hm]
      exact hown.kept hs (.inr hgne)
    · rw [Array.getElem_set_ne _ hj hjq]
      have oj := hold j hj (fun e => hjq e.symm)
      rw [hF j (fun e => hjq e.symm)]
      exact oj.kept hs (.inr (own_block_ne oj hP2 hT))
  · rw [Array.size_set] at hj hj'
    have other : ∀ i (hi : i < cur.size), i ≠ q → cur[i].ownBlock = none ∨ cur[i].ownBlock ≠ some g := fun i hi hiq => by
      rcases hblk with hb | hb
      · rw [← hb]; exact h.apart i q hi hq hiq
      · refine .inr (fun e => ?_)
        have oi := h1.own i hi
        have := own_lt oi e
        omega
    by_cases e1 : q = j
    · subst e1
      rw [Array.getElem_set_self, Array.getElem_set_ne _ hj' hne]
      refine .inr (fun e => ?_)
      rcases other j' hj' (fun e => hne e.symm) with h' | h'
      · rw [h'] at e; cases e
      · exact h' e.symm
    · rw [Array.getElem_set_ne _ hj e1]
      by_cases e2 : q = j'
      · subst e2
        rw [Array.getElem_set_self]
        exact other j hj (fun e => e1 e.symm)
      · rw [Array.getElem_set_ne _ hj' e2]
        exact h.apart j j' hj hj' hne
theorem HeadsX.made (w : World) (base n : Nat) (_ : base ≤ w.heap.size) : HeadsX (w.alloc (.cells (zeros n) 22)) base w.heap.size n (fun _ => []) (zeros n) where
  blk := heap_alloc_new _ _
  size := by rw [zeros, size_madeCells]; omega
  own j hj := by
    have : (zeros n)[j] = .slice none 0 0 := by simp [zeros, madeCells, Value.cells, Nat.mod_one]
    rw [this]
    exact World.ownsRow_nil _ _ _ _
  apart j j' hj hj' _ := by
    have : (zeros n)[j] = .slice none 0 0 := by simp [zeros, madeCells, Value.cells, Nat.mod_one]
    rw [this]
    exact .inl rfl

theorem partN_snoc {M : List (Ck.Knot × Int)} {l : List Ck.Bar} {k q : Nat} (hk : k < l.length) (hq : mget M l[k].lo = (q : Int) + 1) :
    partN M (l.take (k + 1)) q = partN M (l.take k) q ++ [l[k]] ∧ ∀ j, j ≠ q → partN M (l.take (k + 1)) j = partN M (l.take k) j := by
  refine ⟨?_, fun j hj => ?_⟩
  · rw [List.take_succ_eq_append_getElem hk, partN, List.filter_append, partN]
    congr 1
    rw [List.filter_cons, if_pos (by simp only [decide_eq_true_eq]; omega)]
    rfl
  · rw [List.take_succ_eq_append_getElem hk, partN, List.filter_append, partN]
    rw [List.filter_cons, if_neg (by simp only [decide_eq_true_eq]; omega)]
    simp
def hdOf (v : Value) (l : List Ck.Bar) : Hd := match v with
  | .slice a _ c => ⟨a, c, l⟩
  | _ => ⟨none, 0, l⟩
theorem hdOf_l (v : Value) (l : List Ck.Bar) : (hdOf v l).l = l := by unfold hdOf; split <;> rfl
theorem HeadsX.forms {W : World} {base P n : Nat} {M : List (Ck.Knot × Int)} {l : List Ck.Bar} {cur : Array Value} (h : HeadsX W base P n (partN M l) cur) (hP : base ≤ P) (hn : n ≤ maxLen) (hle : ∀ q, (partN M l q).length ≤ 4096) : Forms base (.slice (some ⟨P, 0, none⟩) n n) (partsN M l n) W := by
  have hv : ∀ j (hj : j < cur.size), (hdOf cur[j] (partN M l j)).v = cur[j] := fun j hj => by
    obtain ⟨a, c, e, -, -⟩ := own_slice (h.own j hj)
    rw [e]; rfl
  refine ⟨(List.range n).map fun j => hdOf (cur.getD j (.slice none 0 0)) (partN M l j), ?_, ?_, ?_⟩
  · rw [List.map_map, partsN]
    exact List.map_congr_left fun j _ => hdOf_l _ _
  · intro f hf
    obtain ⟨j, hj, rfl⟩ := List.mem_map.1 hf
    have hj' : j < cur.size := by rw [h.size]; exact List.mem_range.1 hj
    rw [show cur.getD j (.slice none 0 0) = cur[j] by simp [Array.getD, hj']]
    refine ⟨by rw [hdOf_l]; exact hle j, ?_⟩
    rw [hv j hj', hdOf_l]
    exact h.own j hj'
  · have e : ((List.range n).map fun j => hdOf (cur.getD j (.slice none 0 0)) (partN M l j)).map Hd.v = cur.toList := by
      refine List.ext_getElem (by simp [h.size]) fun j h1 h2 => ?_
      have hj' : j < cur.size := by simpa using h2
      simp only [List.getElem_map, List.getElem_range, Array.getElem_toList]
      rw [show cur.getD j (.slice none 0 0) = cur[j] by simp [Array.getD, hj']]
      exact hv j hj'
    rw [e]
    have hs := h.size
    refine ⟨by simp [hs], .inr ⟨P, n, cur, by simp, hP, h.blk, by simp, hn, by simp [hs], ?_⟩⟩
    rw [List.take_of_length_le (by simp [hs])]
set_option maxHeartbeats 4000000 in
set_option maxRecDepth 100000 in
theorem netPartsOfX (A : Option Addr) (c : Nat) (l : List Ck.Bar) (w : World) (hl : l.length ≤ 4096) (hs : l.Pairwise Ck.Blt) (hok : ∀ x ∈ l, Ck.okBar x) (h : RB w w.heap.size A l) :
    Calls Tryz.prog 105 #[.slice A l.length c] w (PartsR l w) := by
  have hmm := @run_makeMap Tryz.prog
  have hl' : (l.length : Int) ≤ 4096 := by omega
  have HS := Lib.hid hs
  have HR := Lib.hid h
  have HOK := Lib.hid hok
  clear hs h hok
  go_enter Tryz.func105, Tryz.ntmps105
  go_wp2_with fail
  go_step3
  go_wp2_with fail
  go_step3
  go_wp2_with fail

  go_loopg [4, 5] l.length (fun g cv iv wi => ∃ i n F M, g = l.length - i ∧ i ≤ l.length ∧ cv = .int .i64 (n : Nat) ∧ iv = .int .i64 (i : Nat) ∧ PtX l i F M ∧ Hid (F.length = n) ∧ MIs wi w.heap.size M ∧ Below w.heap.size w wi)
  case atStart => exact ⟨0, 0, [], [], rfl, Nat.zero_le _, rfl, rfl, PtX.start l, Lib.hid rfl, MIs.made _, (Below.refl _ _).alloc (Nat.le_refl _) _⟩
  case round =>
    obtain ⟨i, n, F, M, hg, hi, rfl, rfl, hpt, HFN, hmi, hbi⟩ := hrel
    have HG := Lib.hid hg
    have HPT := Lib.hid hpt
    have hnl : n ≤ i := by have := hpt.pt.le; rw [HFN.out] at this; exact this
    clear hg hpt
    by_cases hlt : i < l.length
    · have hne : ((i : Int) == (l.length : Int)) = false := by rw [beq_eq_false_iff_ne]; omega
      have hrb := HR.out.below hbi
      have hbz := hbi.size
      obtain ⟨b, off, rfl, hB, hc⟩ := hrb (by omega)
      obtain ⟨c0, c1, c2⟩ := hc i hlt
      clear hc hrb
      have hml := hmi.lt
      by_cases hz : mget M l[i].lo = 0
      · have hzb : (mget M l[i].lo == 0) = true := by rw [hz]; rfl
        have HZ := Lib.hid hz
        clear hz
        go_wp2_with fail
        refine (netLower _ _ _ _).mono ?_
        rintro e w2 ⟨rfl, hb2⟩
        have hm2 := hmi.below hb2 hml
        have hz2 : b < wr.heap.size := by omega
        have d0 := (hb2.cell (p := ⟨b, off + i * 3, none⟩) hz2).trans c0
        have d1 := (hb2.cell (p := ⟨b, off + i * 3 + 1, none⟩) hz2).trans c1
        have d2 := (hb2.cell (p := ⟨b, off + i * 3 + 2, none⟩) hz2).trans c2
        clear c0 c1 c2
        go_wp2_with (first
          | (at_lookup; refine wpList_lookup_kn _ rfl _ _ rfl w.heap.size M hm2 l[i].lo rfl rfl ?_)
          | (go_at_call 86; refine (netLower _ _ _ _).mono ?_; rintro e w3 ⟨rfl, hb3⟩)
          | (go_at_call 142; refine (netNumberFrom _ c w.heap.size l l[i].lo ((n : Int) + 1) M _ hl HS.out HOK.out ((HR.out.below ((hbi.trans (hb2.mono hbz)).trans (hb3.mono (by have := hb2.size; omega)))).more (by have := hb2.size; have := hb3.size; omega)) (Ck.lo_ends (List.getElem_mem hlt)) (by omega) (by omega) HZ.out HPT.out.pt.closed (hm2.below hb3 hm2.lt)).mono ?_; rintro e w4 ⟨rfl, M', hnum, hm4, hg4⟩))
        have hb4 : Below w.heap.size w w4 := ((hbi.trans (hb2.mono hbz)).trans (hb3.mono (by have := hb2.size; omega))).grown hg4 (by have := hb2.size; have := hb3.size; omega) (fun q e => by cases e; exact Nat.le_refl _)
        go_roundg (l.length - (i + 1))
        case measure => rw [HG.out]; omega
        case rel => exact ⟨i + 1, n + 1, F ++ [l[i]], M', rfl, by omega, by go_num, by go_num, HPT.out.fresh HS.out hlt HZ.out (fun k hk => by rw [hnum.1 k hk, HFN.out]; omega) hnum.2, Lib.hid (by rw [List.length_append, HFN.out]; rfl), hm4, hb4⟩
      · have hzb : (mget M l[i].lo == 0) = false := by simpa using hz
        have HZ := Lib.hid hz
        clear hz
        go_wp2_with fail
        refine (netLower _ _ _ _).mono ?_
        rintro e w2 ⟨rfl, hb2⟩
        have hm2 := hmi.below hb2 hml
        go_wp2_with (at_lookup; refine wpList_lookup_kn _ rfl _ _ rfl w.heap.size M hm2 l[i].lo rfl rfl ?_)
        go_roundg (l.length - (i + 1))
        case measure => rw [HG.out]; omega
        case rel => exact ⟨i + 1, n, F, M, rfl, by omega, rfl, by go_num, HPT.out.old hlt HZ.out, HFN, hm2, hbi.trans (hb2.mono hbz)⟩
    · obtain rfl : i = l.length := by omega
      obtain ⟨i1, hi1, hz01, hz11, hz21⟩ := info_parts Tryz.info22
      have hmk : ∀ W : World, (Instr.makeSlice 82 (.int .i64 (n : Int)) (.int .i64 (n : Int))).run Tryz.prog W = .ok (.slice (some ⟨W.heap.size, 0, none⟩) n n) (W.alloc (.cells (zeros n) 22)) := fun W => by
        have := run_make (P := Tryz.prog) W 82 22 i1 (.slice none 0 0) Tryz.underlying82 hi1 hz01 .i64 .i64 (n : Int) (n : Int) (by omega) (by omega) (by rw [hz21]; omega) (by omega)
        rw [hz11, Int.toNat_natCast] at this
        exact this
      have hbz := hbi.size
      obtain ⟨wo, rfl⟩ : ∃ wo : World, wo = wr := ⟨_, rfl⟩
      have HH := Lib.hid (HeadsX.made wo w.heap.size n hbz)
      have hm1 := hmi.below ((Below.refl _ _).alloc (Nat.le_refl _) (.cells (zeros n) 22)) hmi.lt
      have hb1 := hbi.alloc hbz (.cells (zeros n) 22)
      obtain ⟨wp, hwp⟩ : ∃ wp, wp = wo.alloc (.cells (zeros n) 22) := ⟨_, rfl⟩
      rw [← hwp] at HH hm1 hb1
      have HWP := Lib.hid hwp
      clear hwp hi1 hz01 hz11 hz21
      go_wp2_with fail
      rw [← HWP.out]
      obtain ⟨ib, hib, hb0, hb01, hb02⟩ := info_parts Tryz.info24
      have HIB := Lib.hid hib
      have HB0 := Lib.hid hb0
      have HB1 := Lib.hid hb01
      have HB2 := Lib.hid hb02
      clear hib hb0 hb01 hb02
      go_loopg [8, 9, 42] l.length (fun g _ _ iv wi => ∃ k cur, g = l.length - k ∧ k ≤ l.length ∧ iv = .int .i64 (k : Nat) ∧ HeadsX wi w.heap.size wo.heap.size n (partN M (l.take k)) cur ∧ MIs wi w.heap.size M ∧ Below w.heap.size w wi)
      case atStart => exact ⟨0, zeros n, rfl, Nat.zero_le _, rfl, HH.out, hm1, hb1⟩
      case round =>
        obtain ⟨k, cur, hg, hk, rfl, hh, hmk2, hbk⟩ := hrel
        have HGK := Lib.hid hg
        have HHK := Lib.hid hh
        clear hg hh
        by_cases hlt : k < l.length
        · have hrb := HR.out.below hbk
          have hbkz := hbk.size
          obtain ⟨b, off, rfl, hB, hc⟩ := hrb (by omega)
          obtain ⟨c0, c1, c2⟩ := hc k hlt
          obtain ⟨hp1, hp2⟩ := HPT.out.pt.pos (List.getElem_mem hlt)
          rw [HFN.out] at hp2
          obtain ⟨q, hq⟩ : ∃ q : Nat, mget M l[k].lo = (q : Int) + 1 := ⟨(mget M l[k].lo - 1).toNat, by omega⟩
          have hqn : q < n := by omega
          have HQ := Lib.hid hq
          clear hc hrb hq hp1 hp2
          go_wp2_with fail
          refine (netLower _ _ _ _).mono ?_
          rintro e w2 ⟨rfl, hb2⟩
          have b0 : w2.cell? ⟨wr.heap.size, 0, none⟩ = some (.int .i64 l[k].x) := by
            rw [hb2.cell (p := ⟨_, _, none⟩) (by simp), World.cell?_alloc_at _ _ _ _ (by simp)]; rfl
          have b1 : w2.cell? ⟨wr.heap.size, 1, none⟩ = some (.int .i64 l[k].y) := by
            rw [hb2.cell (p := ⟨_, _, none⟩) (by simp), World.cell?_alloc_at _ _ _ _ (by simp)]; rfl
          have b2 : w2.cell? ⟨wr.heap.size, 2, none⟩ = some (.int .i64 l[k].s) := by
            rw [hb2.cell (p := ⟨_, _, none⟩) (by simp), World.cell?_alloc_at _ _ _ _ (by simp)]; rfl
          have hq2 : Below wr.heap.size wr w2 := ((Below.refl _ _).alloc (Nat.le_refl _) _).trans (hb2.mono (by simp))
          have hm2 := hmk2.below hq2 hmk2.lt
          have hh2 := HHK.out.below hq2
          have hqs : q < cur.size := by rw [hh2.size]; exact hqn
          have hPc := hh2.cell hqs
          have hPf := hh2.frozen q
          have oq := hh2.own q hqs
          obtain ⟨mq, hmqe⟩ : ∃ mq, (partN M (l.take k) q).length = mq := ⟨_, rfl⟩
          obtain ⟨xq, hxqe⟩ : ∃ xq, bcellsL (partN M (l.take k) q) = xq := ⟨_, rfl⟩
          have hmq : mq ≤ k := by
            have h1 := List.length_filter_le (fun b : Ck.Bar => decide (mget M b.lo = ((q + 1 : Nat) : Int))) (l.take k)
            rw [← hmqe]; unfold partN
            rw [List.length_take] at h1; omega
          rw [hmqe, hxqe] at oq
          have HPQ := Lib.hid (partN_snoc hlt HQ.out)
          have HMQ := Lib.hid hmqe
          have HXQ := Lib.hid hxqe
          clear hmqe hxqe
          have HO := Lib.hid oq
          have HH2 := Lib.hid hh2
          have HPC := Lib.hid hPc
          have HPF := Lib.hid hPf
          have hbq := hbk.trans (hq2.mono hbkz)
          have hbqz := hbq.size
          generalize hcq : cur[q] = vq at hPc oq HO
          have HCQ := Lib.hid hcq
          have hqi0 : (0 : Int) ≤ (q : Int) := by omega
          have hqi1 : (q : Int) < (n : Int) := by omega
          clear oq hh2 hcq c0 c1 c2 hb2
          go_wp2_with (at_lookup; refine wpList_lookup_kn _ rfl _ _ rfl w.heap.size M hm2 l[k].lo rfl rfl ?_; rw [HQ.out])
          have hPlt := HH2.out.lt
          have hPne : vq.ownBlock ≠ some wo.heap.size := own_block_ne HO.out HH2.out.blk (by decide)
          go_region_law (first
            | (refine step_append_lies _ rfl (.tmp 56) (.tmp 58) 22 rfl w.heap.size 24 ib (.agg #[.int .i64 0, .int .i64 0, .int .i64 0]) 3 24 Tryz.underlying22 HIB.out HB0.out HB1.out HB2.out rfl (by decide) vq mq xq (by simp [Act.eval]) (by exact HO.out.alloc _) ⟨w2.heap.size, 0, none⟩ 1 1 [.int .i64 l[k].x, .int .i64 l[k].y, .int .i64 l[k].s] (by simp [Act.eval]) rfl (by exact three_new _ _ _ _ _) (by intro u hu; simp at hu; rcases hu with rfl | rfl | rfl <;> rfl) (by decide) (by unfold maxLen; omega) (by omega) (by simp; omega) (w2.heap.size + 1) (by simp) ?_; intro g cap w5 hown5 hgrow5 hblk5 hg5; have s0 : w5.cell? ⟨wo.heap.size, q, none⟩ = some vq := (World.cell?_of_block (hgrow5.block wo.heap.size (by simp; omega) (fun e => hPne e.symm))).trans (((Below.refl _ w2).alloc (Nat.le_refl _) _).cell (p := ⟨wo.heap.size, q, none⟩) hPlt |>.trans hPc); have sf : w5.frozen? ⟨wo.heap.size, q, none⟩ = false := (World.frozen?_of_block (hgrow5.block wo.heap.size (by simp; omega) (fun e => hPne e.symm))).trans (((Below.refl _ w2).alloc (Nat.le_refl _) _).frozen (p := ⟨wo.heap.size, q, none⟩) hPlt |>.trans hPf)))
          all_goals
            have hW1 : Below w2.heap.size w2 ((w2.alloc (.cells #[.int .i64 l[k].x, .int .i64 l[k].y, .int .i64 l[k].s] 24)).drew) := below_drew ((Below.refl _ _).alloc (Nat.le_refl _) _)
            have hmlt := hmi.lt
            have hm5 : MIs w5 w.heap.size M := (hm2.below hW1 hm2.lt).of_block (hgrow5.block w.heap.size (by have := hm2.lt; simp; omega) (fun e => own_map_ne HO.out hm2 e.symm))
            have hm6 : MIs (w5.setCell ⟨wo.heap.size, q, none⟩ (.slice (some ⟨g, 0, none⟩) (mq + 1) cap)) w.heap.size M := hm5.of_block (Below.heap_setCell _ _ _ _ (by show w.heap.size ≠ wo.heap.size; omega))
            have hb6 : Below w.heap.size w (w5.setCell ⟨wo.heap.size, q, none⟩ (.slice (some ⟨g, 0, none⟩) (mq + 1) cap)) := ((hbq.trans (hW1.mono hbqz)).grown hgrow5 (by simp; omega) (ownsRow_base HO.out)).setCell (by show w.heap.size ≤ wo.heap.size; omega) _
            have HST := Lib.hid (HH2.out.step (F' := partN M (l.take (k + 1))) HPQ.out.2 hW1 hqs (m := mq + 1) (by rw [HPQ.out.1, List.length_append, HMQ.out]; rfl) (by rw [HPQ.out.1, bcellsL_snoc, HXQ.out]; exact hown5) (by rw [HCQ.out]; exact hgrow5) (by rw [HCQ.out]; simpa using hblk5))
            have HM6 := Lib.hid hm6
            have HB6 := Lib.hid hb6
            clear hW1 hm5 hm6 hb6 hown5 hgrow5 hblk5 s0 sf hg5
            go_wp2
            go_roundg (l.length - (k + 1))
            case measure => rw [HGK.out]; omega
            case rel => exact ⟨k + 1, _, rfl, by omega, by go_num, HST.out, HM6.out, HB6.out⟩
        · obtain rfl : k = l.length := by omega
          have hh := HHK.out
          rw [List.take_length] at hh
          have HD := Lib.hid (HPT.out.parts HS.out)
          have HHF := Lib.hid hh
          clear hh
          go_wp2
          go_ret
          exact ⟨_, partsN M l n, rfl, by have := HD.out; rw [HFN.out] at this; exact this, by rw [partsN_length]; exact hnl, HHF.out.forms hbz (by unfold maxLen; omega) (fun q => by have := List.length_filter_le (fun b : Ck.Bar => decide (mget M b.lo = ((q + 1 : Nat) : Int))) l; unfold partN; omega), hbk⟩
end Go.Proofs.YtdeplhihcifmeaaGreatDoor

/- The knots of a net in their order: plain mathematics; Knots, Legs and Meshes of the program. -/
namespace Go.Proofs.YtdeplhihcifmeaaGreatDoor
open Go.RowKit Go.Sort Go.Shelf

def knotsL (l : List Ck.Bar) : List Ck.Knot := insL ltK (Ck.ends l) []
theorem knotsL_pw (l : List Ck.Bar) : (knotsL l).Pairwise fun a b => ltK a b = true := insL_sorted ltK ltK_tr ltK_tri _ [] List.Pairwise.nil
theorem knotsL_mem (l : List Ck.Bar) (k : Ck.Knot) : k ∈ knotsL l ↔ k ∈ Ck.ends l := by rw [knotsL, insL_mem]; simp
theorem knotsL_of {l : List Ck.Bar} {ks : List Ck.Knot} (hs : ks.Pairwise fun a b => ltK a b = true) (hm : ∀ k, k ∈ ks ↔ k ∈ Ck.ends l) : ks = knotsL l :=
  told ltK ltK_tr ltK_irr hs (knotsL_pw l) fun k => by rw [hm, knotsL_mem]
theorem knotsL_nodup (l : List Ck.Bar) : (knotsL l).Nodup := (knotsL_pw l).imp fun {a b} h e => by subst e; rw [ltK_irr] at h; cases h
theorem two_at_most {l : List Ck.Bar} (hN : Ck.Net l) (p : Ck.Bar → Bool) (a b : Ck.Bar) (h : ∀ x ∈ l, p x = true → x = a ∨ x = b) : l.countP p ≤ 2 := by
  rw [List.countP_eq_length_filter]
  have hn : l.Nodup := hN.nodup
  have hf : (l.filter p).Nodup := hn.filter p
  have h1 := hf.length_le_of_subset (l₂ := [a, b]) (fun x hx => by
    obtain ⟨hx1, hx2⟩ := List.mem_filter.1 hx
    have := h x hx1 hx2
    simpa using this)
  simpa using h1
theorem degs_four {l : List Ck.Bar} (hN : Ck.Net l) (k : Ck.Knot) : (Ck.ends l).count k ≤ 4 := by
  rw [ends_count]
  have h1 := two_at_most hN (fun b => decide (b.lo = k)) ⟨k.x, k.y, 1⟩ ⟨k.x, k.y, -1⟩ (fun x hx he => by
    have h2 : x.lo = k := by simpa using he
    obtain ⟨-, h3, -, -⟩ := hN.1 x hx
    cases x; cases k
    simp only [Ck.Bar.lo, Ck.Knot.mk.injEq, Ck.Bar.mk.injEq] at *
    omega)
  have h2 := two_at_most hN (fun b => decide (b.hi = k)) ⟨k.x - 1, k.y - 1, 1⟩ ⟨k.x + 1, k.y - 1, -1⟩ (fun x hx he => by
    have h2 : x.hi = k := by simpa using he
    obtain ⟨-, h3, -, -⟩ := hN.1 x hx
    cases x; cases k
    simp only [Ck.Bar.hi, Ck.Knot.mk.injEq, Ck.Bar.mk.injEq] at *
    omega)
  omega
theorem legN_knots {l : List Ck.Bar} {K : List Ck.Knot} (hK : K = (degsL (Ck.ends l)).map (·.1)) (hn : K.Nodup) (hm : ∀ x, x ∈ K ↔ x ∈ Ck.ends l) (i : Nat) : legN l i = (knotsL l).countP fun k => decide ((Ck.ends l).count k = i) := by
  unfold legN
  rw [← hK]
  exact List.Perm.countP_eq _ ((List.perm_ext_iff_of_nodup hn (knotsL_nodup l)).2 fun x => by rw [hm, knotsL_mem])
set_option maxHeartbeats 2000000 in
set_option maxRecDepth 100000 in
theorem netKnotsS (A : Option Addr) (c : Nat) (l : List Ck.Bar) (w : World) (u : List Ck.Knot) (hu : knotsL l = u) (hl : l.length ≤ 4096) (hN : Ck.Net l) (hO : OKS w A c l) :
    Calls Tryz.prog 41 #[.slice A l.length c] w fun e w' => ∃ v, e = .returned (.tuple #[v, .int .i64 0]) ∧ w'.ownsRow w.heap.size 26 2 v u.length (kcellsL u) ∧ Below w.heap.size w w' := by
  obtain ⟨hcap, hcm, -, h⟩ := hO
  have HU := Lib.hid hu
  clear hu
  have HR := Lib.hid h
  have HN := Lib.hid hN
  have HE := Lib.hid ((netE_zero l).2 ⟨hl, hN⟩)
  have hnk := nK_le l
  clear h hN
  go_enter Tryz.func41, Tryz.ntmps41
  go_wp2_with fail
  refine (netCheckNet A c l _ hl hcap hcm HR.out).mono ?_
  rintro e w1 ⟨rfl, hb1⟩
  rw [HE.out]
  go_wp2_with fail
  refine (netDegrees A c l _ hl HN.out.1 ((HR.out.below hb1).more hb1.size)).mono ?_
  rintro e w2 ⟨b, rfl, hbz, hm2, hb2⟩
  have hc2 := hb1.trans (hb2.mono hb1.size)
  have hdl := degs_length hm2
  have hbl := hm2.lt
  have HM := Lib.hid hm2
  clear hm2
  go_wp2_with fail
  refine (keys_any (some b) _).mono ?_
  rintro e w3 ⟨rfl, rfl⟩
  have bM := Boxed.new w2 139 (.map (some b))
  have hb3 : Below w2.heap.size w2 (w2.alloc (.cells #[.map (some b)] 139)) := (Below.refl _ _).alloc (Nat.le_refl _) _
  have hM3 : MIs (w2.alloc (.cells #[.map (some b)] 139)) b (degsL (Ck.ends l)) := HM.out.below hb3 hbl
  have hc3 := hc2.trans (hb3.mono hc2.size)
  have hsz3 : w2.heap.size < (w2.alloc (.cells #[.map (some b)] 139)).heap.size := by simp
  obtain ⟨W3, hW3⟩ : ∃ W3, W3 = w2.alloc (.cells #[.map (some b)] 139) := ⟨_, rfl⟩
  rw [← hW3] at bM hM3 hc3 hsz3
  have HW3 := Lib.hid hW3
  clear hW3 hb3
  have hseq := keys_stops Fence.wide 1 trivial rfl (Nat.le_refl _) w2.heap.size b (degsL (Ck.ends l)) W3 hsz3 bM.cell hM3
  have HDL := Lib.hid hdl
  clear hdl hM3
  go_wp2_with fail
  rw [← HW3.out]
  refine (netSortedFunc _ _ (enters_of Tryz.func137 (by kernel_rfl) rfl) _ _ _ (by rw [HDL.out]; omega) (fun ss hs => by
    have h1 : ss.length ≤ (degsL (Ck.ends l)).length := by
      have := hs.1.length_le_of_subset (l₂ := (degsL (Ck.ends l)).map (·.1)) (fun x hx => (hs.2 x).1 hx)
      rwa [List.length_map] at this
    rw [HDL.out] at h1; omega) _ hseq).mono ?_
  rintro e w4 ⟨v, ss, rfl, hS, hrow, hb4⟩
  have HO := Lib.hid (ownsRow_mono hrow hc3.size)
  have HS := Lib.hid hS
  clear hrow hS hseq
  go_wp2
  go_ret2
  have e := knotsL_of (l := l) (ks := sortKnots ss) (sortKnots_pw HS.out.1) (fun k => by rw [(sortKnots_perm ss).mem_iff, HS.out.2 k, degs_mem])
  refine ⟨v, rfl, ?_, hc3.trans (hb4.mono hc3.size)⟩
  rw [← HU.out, ← e, (sortKnots_perm ss).length_eq]
  exact HO.out
end Go.Proofs.YtdeplhihcifmeaaGreatDoor

/- Rows of pairs (knots, meshes) in memory; SameKnots of the reference. -/
namespace Go.Proofs.YtdeplhihcifmeaaGreatDoor
open Go.RowKit

theorem kcellsL_at (l : List Ck.Knot) : ∀ (i : Nat) (h : i < l.length), (kcellsL l)[i * 2]? = some (.int .i64 l[i].x) ∧ (kcellsL l)[i * 2 + 1]? = some (.int .i64 l[i].y) := by
  induction l with
  | nil => intro i h; simp at h
  | cons a r ih =>
    intro i h
    have e : kcellsL (a :: r) = [.int .i64 a.x, .int .i64 a.y] ++ kcellsL r := by simp [kcellsL]
    rw [e]
    cases i with
    | zero => exact ⟨rfl, rfl⟩
    | succ i =>
      have := ih i (by simpa using h)
      rw [show (i + 1) * 2 = i * 2 + 2 from by omega]
      simpa using this
/-- The slice reads as these pairs. -/
def OKP (w : World) (a : Option Addr) (c : Nat) (l : List Ck.Knot) : Prop := l.length ≤ c ∧ c ≤ maxLen ∧ RK w w.heap.size a l
theorem RK.below' {w w' : World} {B : Nat} {A : Option Addr} {l : List Ck.Knot} (h : RK w B A l) (hb : Below B w w') : RK w' B A l := fun hl => by
  obtain ⟨b, off, rfl, hB, hc⟩ := h hl
  exact ⟨b, off, rfl, hB, fun i hi => ⟨(hb.cell (p := ⟨b, _, none⟩) hB).trans (hc i hi).1, (hb.cell (p := ⟨b, _, none⟩) hB).trans (hc i hi).2⟩⟩
theorem RK.more' {w : World} {B B' : Nat} {A : Option Addr} {l : List Ck.Knot} (h : RK w B A l) (hB : B ≤ B') : RK w B' A l := fun hl => by
  obtain ⟨b, off, h1, h2, hc⟩ := h hl
  exact ⟨b, off, h1, by omega, hc⟩
theorem OKP.below {w w' : World} {a : Option Addr} {c : Nat} {l : List Ck.Knot} (h : OKP w a c l) (hb : Below w.heap.size w w') : OKP w' a c l := ⟨h.1, h.2.1, (h.2.2.below' hb).more' hb.size⟩
theorem own_okp {w : World} {base : Nat} {t : TypeId} {v : Value} {l : List Ck.Knot} (h : w.ownsRow base t 2 v l.length (kcellsL l)) : ∃ a c, v = .slice a l.length c ∧ OKP w a c l := by
  rcases h.2 with ⟨rfl, hz⟩ | ⟨g, cap, cur, rfl, _, hgb, h1, h2, _⟩
  · have : l = [] := List.eq_nil_of_length_eq_zero hz
    subst this
    exact ⟨none, 0, rfl, Nat.zero_le _, by unfold maxLen; omega, fun hl => by simp at hl⟩
  · refine ⟨_, _, rfl, h1, h2, fun _ => ⟨g, 0, rfl, (Array.getElem?_eq_some_iff.1 hgb).1, fun i hi => ?_⟩⟩
    have hc := h.cells (g := g) rfl
    obtain ⟨h0, h1⟩ := kcellsL_at l i hi
    have k0 := hc _ _ h0
    have k1 := hc _ _ h1
    rw [add0] at k0 k1
    simp only [Nat.zero_add]
    exact ⟨k0, k1⟩
end Go.Proofs.YtdeplhihcifmeaaGreatDoor

/- The reference's Legs. -/
namespace Go.Proofs.YtdeplhihcifmeaaGreatDoor
open Go.RowKit Go.Shelf Ck

def lgC (es : List Knot) (K : List Knot) (i : Nat) : Nat := K.countP fun k => decide (es.count k = i)
end Go.Proofs.YtdeplhihcifmeaaGreatDoor

/- Degree of the program with an error; the lists of pairs as slices of the way. -/
namespace Go.Proofs.YtdeplhihcifmeaaGreatDoor
open Go.RowKit Go.Shelf Ck

def KPair (ks : List Knot) (w : World) (e : Ending) (w' : World) : Prop := ∃ a c, e = .returned (.tuple #[.slice a ks.length c, .int .i64 0]) ∧ OKP w' a c ks ∧ Below w.heap.size w w'
def KSlice (ks : List Knot) (w : World) (e : Ending) (w' : World) : Prop := ∃ a c, e = .returned (.slice a ks.length c) ∧ OKP w' a c ks ∧ Below w.heap.size w w'
theorem KPair.of {ks : List Knot} {w : World} {t : TypeId} {e : Ending} {w' : World} (h : ∃ v, e = .returned (.tuple #[v, .int .i64 0]) ∧ w'.ownsRow w.heap.size t 2 v ks.length (kcellsL ks) ∧ Below w.heap.size w w') : KPair ks w e w' := by
  obtain ⟨v, rfl, h, hb⟩ := h
  obtain ⟨a, c, rfl, ok⟩ := own_okp h
  exact ⟨a, c, rfl, ok, hb⟩
theorem KSlice.of {ks : List Knot} {w : World} {t : TypeId} {e : Ending} {w' : World} (h : ∃ v, e = .returned v ∧ w'.ownsRow w.heap.size t 2 v ks.length (kcellsL ks) ∧ Below w.heap.size w w') : KSlice ks w e w' := by
  obtain ⟨v, rfl, h, hb⟩ := h
  obtain ⟨a, c, rfl, ok⟩ := own_okp h
  exact ⟨a, c, rfl, ok, hb⟩
theorem knotsN (A : Option Addr) (c : Nat) (l : List Bar) (u : List Knot) (w : World) (hu : knotsL l = u) (hl : l.length ≤ 4096) (hN : Net l) (h : OKS w A c l) : Calls Tryz.prog 41 #[.slice A l.length c] w (KPair u w) :=
  (netKnotsS A c l w u hu hl hN h).mono fun _ _ h => KPair.of h
def legV (l : List Bar) : Array Value := #[.int .i64 (lgC (ends l) (knotsL l) 0), .int .i64 (lgC (ends l) (knotsL l) 1), .int .i64 (lgC (ends l) (knotsL l) 2), .int .i64 (lgC (ends l) (knotsL l) 3), .int .i64 (lgC (ends l) (knotsL l) 4)]
theorem legsN (A : Option Addr) (c : Nat) (l : List Bar) (w : World) (n0 n1 n2 n3 n4 : Int) (hn : legV l = #[.int .i64 n0, .int .i64 n1, .int .i64 n2, .int .i64 n3, .int .i64 n4]) (hl : l.length ≤ 4096) (hN : Net l) (h : OKS w A c l) :
    Calls Tryz.prog 43 #[.slice A l.length c] w fun e w' => e = .returned (.tuple #[.agg #[.int .i64 n0, .int .i64 n1, .int .i64 n2, .int .i64 n3, .int .i64 n4], .int .i64 0]) ∧ Below w.heap.size w w' :=
  (netLegs A c l w hl h.1 h.2.1 hN (fun k => by rw [degs_count]; have := degs_four hN k; omega) h.2.2.2).mono fun _ _ ⟨⟨he, K, hK, hn', hm⟩, hb⟩ => by
    have e := fun i => legN_knots hK hn' hm i
    refine ⟨?_, hb⟩
    rw [he, ← hn, legV, e 0, e 1, e 2, e 3, e 4]
    rfl
end Go.Proofs.YtdeplhihcifmeaaGreatDoor

/- The parts of a net are counted; Parts and Count of the program with and without an error; Count of the reference. -/
namespace Go.Proofs.YtdeplhihcifmeaaGreatDoor
open Go.RowKit Go.Shelf Ck

open Classical in
theorem PartsAre.exist {l : List Bar} (hs : l.Pairwise Blt) : ∃ G, PartsAre l G ∧ PartsIs l G.length := by
  have key : ∀ i, i ≤ l.length → ∃ G, PartsTo l i G ∧ ∀ n, CntIs l ((l.take i).map Bar.lo).reverse (l.drop i) n → CntIs l [] l (G.length + n) := by
    intro i
    induction i with
    | zero => exact fun _ => ⟨[], PartsTo.start l, fun n hn => by simpa using hn⟩
    | succ i ih =>
      intro hi
      have hi' : i < l.length := by omega
      obtain ⟨G, h, hc⟩ := ih (by omega)
      by_cases hf : ∃ g ∈ G, l[i] ∈ g
      · refine ⟨G, h.old hi' hf, fun n hn => hc n ?_⟩
        rw [List.drop_eq_getElem_cons hi']
        obtain ⟨g, hg, hb⟩ := hf
        obtain ⟨a, ha, ha2⟩ := h.hd g hg
        have hag : a ∈ g := List.mem_of_head? ha
        exact .old (seen_iff.2 ⟨a, ha2, (h.cls g hg a hag _ (List.getElem_mem hi')).1 hb⟩) (by rw [seen_succ hi'] at hn; exact hn)
      · refine ⟨G ++ [l.filter fun c => decide (Conn l l[i].lo c.lo)], h.fresh hs hi' hf (hs.filter _) (fun y => by simp [List.mem_filter]), fun n hn => ?_⟩
        rw [List.length_append, show G.length + [l.filter fun c => decide (Conn l l[i].lo c.lo)].length + n = G.length + (n + 1) by simp; omega]
        refine hc (n + 1) ?_
        rw [List.drop_eq_getElem_cons hi']
        refine .fresh (fun hx => ?_) (by rw [seen_succ hi'] at hn; exact hn)
        obtain ⟨b, hb, hbc⟩ := seen_iff.1 hx
        obtain ⟨g, hg, hbg⟩ := h.all b hb
        exact hf ⟨g, hg, (h.cls g hg b hbg _ (List.getElem_mem hi')).2 hbc⟩
  obtain ⟨G, h, hc⟩ := key l.length (Nat.le_refl _)
  exact ⟨G, h.done, hc 0 (by rw [List.drop_length]; exact .nil _)⟩
theorem PartsAre.is {l : List Bar} {G : List (List Bar)} (hs : l.Pairwise Blt) (h : PartsAre l G) : PartsIs l G.length := by
  obtain ⟨G', h', hc⟩ := PartsAre.exist hs
  rw [h.unique h']
  exact hc
def NPair (G : List (List Bar)) (w : World) (e : Ending) (w' : World) : Prop := ∃ a c, e = .returned (.tuple #[.slice a G.length c, .int .i64 0]) ∧ OKN w' a c G ∧ Below w.heap.size w w'
set_option maxHeartbeats 1000000 in
set_option maxRecDepth 100000 in
theorem partsP (A : Option Addr) (c : Nat) (l : List Bar) (G : List (List Bar)) (w : World) (hG : PartsAre l G) (hl : l.length ≤ 4096) (hN : Net l) (h : OKS w A c l) :
    Calls Tryz.prog 52 #[.slice A l.length c] w (NPair G w) := by
  have HO := Lib.hid h
  have HN := Lib.hid hN
  have HG := Lib.hid hG
  have HE := Lib.hid ((netE_zero l).2 ⟨hl, hN⟩)
  clear h hN hG
  go_enter Tryz.func52, Tryz.ntmps52
  go_wp2_with fail
  refine (netCheckNetA A c l _ HO.out).mono ?_
  rintro e w1 ⟨rfl, hb1⟩
  rw [HE.out]
  go_wp2_with fail
  refine (netPartsOfX A c l _ hl HN.out.2 HN.out.1 (HO.out.below hb1).2.2.2).mono ?_
  rintro e w2 ⟨v, G', rfl, hP, -, hF, hb2⟩
  rw [hP.unique HG.out] at hF
  obtain ⟨a, c', rfl, ok⟩ := hF.okn
  have HK := Lib.hid ok
  clear hP hF ok
  go_wp2
  go_ret2
  exact ⟨a, c', rfl, HK.out, hb1.trans (hb2.mono hb1.size)⟩
theorem countP' (A : Option Addr) (c : Nat) (l : List Bar) (G : List (List Bar)) (w : World) (k m p h5 : Int) (hk : k = (nK l : Nat)) (hm : m = (nM l : Nat)) (hp : p = (G.length : Nat)) (h5e : h5 = (l.length : Int) - k + p - m) (hG : PartsAre l G) (hl : l.length ≤ 4096) (hN : Net l) (h : OKS w A c l) :
    Calls Tryz.prog 53 #[.slice A l.length c] w fun e w' => e = .returned (.tuple #[.agg #[.int .i64 k, .int .i64 (l.length : Int), .int .i64 m, .int .i64 p, .int .i64 h5], .int .i64 0]) ∧ Below w.heap.size w w' :=
  (netCount A c l w hl h.1 h.2.1 hN h.2.2.2).mono fun _ _ ⟨q, hq, he, hb⟩ => by
    have : q = G.length := hq.det (hG.is hN.2)
    subst this
    refine ⟨?_, hb⟩
    rw [he, h5e, hk, hm, hp]
end Go.Proofs.YtdeplhihcifmeaaGreatDoor

/- Legs, parts and ranks of a net: plain mathematics. -/
namespace Go.Proofs.YtdeplhihcifmeaaGreatDoor
open Go.RowKit Ck

theorem count_four (f : Knot → Nat) : ∀ K : List Knot, (∀ k ∈ K, 1 ≤ f k ∧ f k ≤ 4) →
    K.countP (fun k => decide (f k = 0)) = 0 ∧ K.countP (fun k => decide (f k = 1)) + K.countP (fun k => decide (f k = 2)) + K.countP (fun k => decide (f k = 3)) + K.countP (fun k => decide (f k = 4)) = K.length ∧
    (K.map f).sum = K.countP (fun k => decide (f k = 1)) + 2 * K.countP (fun k => decide (f k = 2)) + 3 * K.countP (fun k => decide (f k = 3)) + 4 * K.countP (fun k => decide (f k = 4))
  | [], _ => by simp
  | k :: r, h => by
    obtain ⟨h0, h1, h2⟩ := count_four f r fun x hx => h x (List.mem_cons_of_mem _ hx)
    have hk := h k (List.mem_cons_self ..)
    have hc : f k = 1 ∨ f k = 2 ∨ f k = 3 ∨ f k = 4 := by omega
    simp only [List.countP_cons, List.map_cons, List.sum_cons, List.length_cons]
    generalize List.countP (fun k => decide (f k = 0)) r = c0 at *
    generalize List.countP (fun k => decide (f k = 1)) r = c1 at *
    generalize List.countP (fun k => decide (f k = 2)) r = c2 at *
    generalize List.countP (fun k => decide (f k = 3)) r = c3 at *
    generalize List.countP (fun k => decide (f k = 4)) r = c4 at *
    generalize (List.map f r).sum = s at *
    rcases hc with e | e | e | e <;> rw [e] <;> refine ⟨?_, ?_, ?_⟩ <;> simp <;> omega
/-- How many knots have so many legs: none has none, and they add up. -/
theorem legs_add {l : List Bar} (hN : Net l) : lgC (ends l) (knotsL l) 0 = 0 ∧
    lgC (ends l) (knotsL l) 1 + lgC (ends l) (knotsL l) 2 + lgC (ends l) (knotsL l) 3 + lgC (ends l) (knotsL l) 4 = nK l ∧
    lgC (ends l) (knotsL l) 1 + 2 * lgC (ends l) (knotsL l) 2 + 3 * lgC (ends l) (knotsL l) 3 + 4 * lgC (ends l) (knotsL l) 4 = 2 * l.length := by
  obtain ⟨h0, h1, h2⟩ := count_four (fun k => (ends l).count k) (knotsL l) fun k hk => ⟨List.count_pos_iff.2 ((knotsL_mem l k).1 hk), degs_four hN k⟩
  refine ⟨h0, ?_, ?_⟩
  · rw [← nK_eq (knotsL_nodup l) (knotsL_mem l)]
    exact h1
  · rw [← ends_length, ← sum_counts (knotsL_nodup l) (ends l) fun x hx => (knotsL_mem l x).2 hx]
    exact h2.symm
theorem PartsAre.net {l : List Bar} {G : List (List Bar)} (hN : Net l) (h : PartsAre l G) {g : List Bar} (hg : g ∈ G) : Net g := ⟨fun b hb => hN.1 b (h.sub g hg b hb), h.pw g hg⟩
theorem PartsAre.same {l : List Bar} {G : List (List Bar)} (h : PartsAre l G) {g g' : List Bar} (hg : g ∈ G) (hg' : g' ∈ G) {x y : Bar} (hx : x ∈ g) (hy : y ∈ g') (hc : Conn l x.lo y.lo) : g = g' :=
  sorted_unique (h.pw g hg) (h.pw g' hg') fun c => by
    constructor
    · intro hcg
      have hcl := h.sub g hg c hcg
      exact (h.cls g' hg' y hy c hcl).2 (hc.symm.trans ((h.cls g hg x hx c hcl).1 hcg))
    · intro hcg
      have hcl := h.sub g' hg' c hcg
      exact (h.cls g hg x hx c hcl).2 (hc.trans ((h.cls g' hg' y hy c hcl).1 hcg))
theorem bar_end {l : List Bar} {x : Bar} (hx : x ∈ l) {k : Knot} (hk : k = x.lo ∨ k = x.hi) : Conn l x.lo k := by
  rcases hk with rfl | rfl
  · exact .refl _
  · exact bar_conn hx
theorem PartsAre.apart {l : List Bar} {G : List (List Bar)} (h : PartsAre l G) : G.Pairwise fun g g' => ∀ k ∈ ends g, k ∉ ends g' := by
  refine List.Pairwise.imp_of_mem (fun {g g'} hg hg' ho => ?_) h.ord
  intro k hk hk'
  obtain ⟨x, hx, hkx⟩ := mem_ends.1 hk
  obtain ⟨y, hy, hky⟩ := mem_ends.1 hk'
  have hc := (bar_end (h.sub g hg x hx) hkx).trans (bar_end (h.sub g' hg' y hy) hky).symm
  have e := h.same hg hg' hx hy hc
  subst e
  rw [hdlt_irr] at ho
  cases ho
theorem ends_flat (k : Knot) : ∀ G : List (List Bar), k ∈ ends G.flatten ↔ ∃ g ∈ G, k ∈ ends g
  | [] => by simp [ends]
  | g :: r => by rw [List.flatten_cons, ends_append, List.mem_append, ends_flat k r]; simp
theorem nK_flat : ∀ G : List (List Bar), (G.Pairwise fun g g' => ∀ k ∈ ends g, k ∉ ends g') → nK G.flatten = (G.map nK).sum
  | [], _ => rfl
  | g :: r, h => by
    obtain ⟨h1, h2⟩ := List.pairwise_cons.1 h
    rw [List.flatten_cons, nK_add (fun k hk hk' => by
      obtain ⟨g', hg', hkg⟩ := (ends_flat k r).1 hk'
      exact h1 g' hg' k hk hkg), nK_flat r h2, List.map_cons, List.sum_cons]
theorem PartsAre.mem_flat {l : List Bar} {G : List (List Bar)} (h : PartsAre l G) (b : Bar) : b ∈ G.flatten ↔ b ∈ l := by
  rw [List.mem_flatten]
  exact ⟨fun ⟨g, hg, hb⟩ => h.sub g hg b hb, fun hb => h.all b hb⟩
theorem PartsAre.knots {l : List Bar} {G : List (List Bar)} (h : PartsAre l G) : (G.map nK).sum = nK l := by
  rw [← nK_flat G h.apart]
  refine same_length (nub_nodup _) (nub_nodup _) fun k => ?_
  rw [mem_nub, mem_nub, mem_ends, mem_ends]
  exact ⟨fun ⟨b, hb, hk⟩ => ⟨b, (h.mem_flat b).1 hb, hk⟩, fun ⟨b, hb, hk⟩ => ⟨b, (h.mem_flat b).2 hb, hk⟩⟩
theorem PartsAre.flat_nodup {l : List Bar} {G : List (List Bar)} (h : PartsAre l G) : G.flatten.Nodup := by
  refine List.pairwise_flatten.2 ⟨fun g hg => (h.pw g hg).imp fun {a b} (k : Blt a b) e => by subst e; exact k.irrefl, h.apart.imp fun {g g'} ha x hx y hy e => ?_⟩
  subst e
  exact ha x.lo (mem_ends.2 ⟨x, hx, .inl rfl⟩) (mem_ends.2 ⟨x, hy, .inl rfl⟩)
theorem PartsAre.flat_length {l : List Bar} {G : List (List Bar)} (hN : Net l) (h : PartsAre l G) : G.flatten.length = l.length :=
  ((List.perm_ext_iff_of_nodup h.flat_nodup hN.nodup).2 h.mem_flat).length_eq
theorem PartsAre.flat_srt {l : List Bar} {G : List (List Bar)} (hN : Net l) (h : PartsAre l G) : srtL G.flatten = l := srtL_eq hN.2 h.mem_flat
theorem PartsAre.pos {l : List Bar} {G : List (List Bar)} (h : PartsAre l G) {g : List Bar} (hg : g ∈ G) : 0 < g.length := List.length_pos_iff.2 (h.ne g hg)
theorem PartsAre.some {l : List Bar} {G : List (List Bar)} (h : PartsAre l G) (hl : 0 < l.length) : 0 < G.length := by
  obtain ⟨g, hg, -⟩ := h.all (l[0]'hl) (List.getElem_mem hl)
  exact List.length_pos_of_mem hg
theorem PartsAre.less {l : List Bar} {G : List (List Bar)} (h : PartsAre l G) {j : Nat} (hj : j + 1 < G.length) (h0 : 0 < G[j].length) (h1 : 0 < G[j + 1].length) : Blt G[j][0] G[j + 1][0] := by
  have ho := List.pairwise_iff_getElem.1 h.ord j (j + 1) (by omega) hj (by omega)
  unfold hdlt at ho
  rw [List.head?_eq_getElem?, List.head?_eq_getElem?, List.getElem?_eq_getElem h0, List.getElem?_eq_getElem h1] at ho
  simpa using ho
def sK (G : List (List Bar)) (i : Nat) : Nat := ((G.take i).map nK).sum
theorem sK_succ {G : List (List Bar)} {i : Nat} (h : i < G.length) : sK G (i + 1) = sK G i + nK G[i] := by
  rw [sK, List.take_succ_eq_append_getElem h, List.map_append, List.sum_append, sK]
  simp
theorem flat_succ {G : List (List Bar)} {i : Nat} (h : i < G.length) : (G.take (i + 1)).flatten = (G.take i).flatten ++ G[i] := by
  rw [List.take_succ_eq_append_getElem h, List.flatten_append]
  simp
theorem flat_le (G : List (List Bar)) (i : Nat) : (G.take i).flatten.length ≤ G.flatten.length := by
  have h : G.flatten = (G.take i).flatten ++ (G.drop i).flatten := by rw [← List.flatten_append, List.take_append_drop]
  rw [h, List.length_append]
  omega
theorem sum_le_of (a b : List Nat) : a.sum ≤ (a ++ b).sum := by rw [List.sum_append]; omega
theorem sK_le (G : List (List Bar)) (i : Nat) : sK G i ≤ (G.map nK).sum := by
  have h : G.map nK = (G.take i).map nK ++ (G.drop i).map nK := by rw [← List.map_append, List.take_append_drop]
  rw [h]
  exact sum_le_of _ _
theorem less_mem {l : List Bar} {b : Bar} (hb : b ∈ l) (x : Bar) : x ∈ l ↔ x = b ∨ x ∈ l.filter (fun y => decide (y ≠ b)) := by
  rw [List.mem_filter]
  by_cases e : x = b
  · subst e; simp [hb]
  · simp [e]
/-- What one bar less makes of the numbers. -/
theorem rank_less {l : List Bar} {b : Bar} (hb : b ∈ l) {p p' : Nat} (hp : PartsIs l p) (hp' : PartsIs (l.filter fun y => decide (y ≠ b)) p') :
    (p = p' ∧ nK l = nK (l.filter fun y => decide (y ≠ b))) ∨ 1 + p + nK (l.filter fun y => decide (y ≠ b)) = p' + nK l := by
  rcases rank_more (less_mem hb) hp' hp with ⟨-, -, -, h1, h2⟩ | ⟨-, h⟩
  · exact .inl ⟨h1, h2⟩
  · exact .inr h
end Go.Proofs.YtdeplhihcifmeaaGreatDoor

/- The law of NettingKnots. -/
namespace Go.Proofs.YtdeplhihcifmeaaGreatDoor
open Go.RowKit Go.Shelf Ck

/-- A box of five numbers. -/
def Five (w : World) (b : Nat) (cs : Array Value) : Prop := b < w.heap.size ∧ w.heap[b]? = some (.cells cs 67 (0, 0))
theorem Five.below {w w' : World} {b : Nat} {cs : Array Value} (h : Five w b cs) (hb : Below w.heap.size w w') : Five w' b cs := ⟨Nat.lt_of_lt_of_le h.1 hb.size, (hb.block _ h.1).trans h.2⟩
theorem Five.at5 {w : World} {g : Nat} {a b c d e : Value} (h : Five w g #[a, b, c, d, e]) : w.cell? ⟨g, 0, none⟩ = some a ∧ w.cell? ⟨g, 1, none⟩ = some b ∧ w.cell? ⟨g, 2, none⟩ = some c ∧ w.cell? ⟨g, 3, none⟩ = some d ∧ w.cell? ⟨g, 4, none⟩ = some e := by
  obtain ⟨c0, c1, c2, c3, c4, -⟩ := five_of_block h.2
  exact ⟨c0, c1, c2, c3, c4⟩
end Go.Proofs.YtdeplhihcifmeaaGreatDoor

/- The law of NettingParts. -/
namespace Go.Proofs.YtdeplhihcifmeaaGreatDoor
open Go.RowKit Go.Shelf Ck

/-- A box of the numbers of a net. -/
def FiveC (w : World) (b : Nat) (cs : Array Value) : Prop := b < w.heap.size ∧ w.heap[b]? = some (.cells cs 86 (0, 0))
theorem cntLe {l : List Bar} : ∀ {r : List Bar} {seen : List Knot} {n : Nat}, CntIs l seen r n → n ≤ r.length
  | [], _, _, .nil _ => Nat.le_refl _
  | _ :: _, _, _, .old _ h => Nat.le_succ_of_le (cntLe h)
  | _ :: _, _, _, .fresh _ h => Nat.succ_le_succ (cntLe h)
theorem FiveC.below {w w' : World} {b : Nat} {cs : Array Value} (h : FiveC w b cs) (hb : Below w.heap.size w w') : FiveC w' b cs := ⟨Nat.lt_of_lt_of_le h.1 hb.size, (hb.block _ h.1).trans h.2⟩
theorem FiveC.at5 {w : World} {g : Nat} {a b c d e : Value} (h : FiveC w g #[a, b, c, d, e]) : w.cell? ⟨g, 0, none⟩ = some a ∧ w.cell? ⟨g, 1, none⟩ = some b ∧ w.cell? ⟨g, 2, none⟩ = some c ∧ w.cell? ⟨g, 3, none⟩ = some d ∧ w.cell? ⟨g, 4, none⟩ = some e := by
  obtain ⟨c0, c1, c2, c3, c4, -⟩ := five_of_block h.2
  exact ⟨c0, c1, c2, c3, c4⟩
end Go.Proofs.YtdeplhihcifmeaaGreatDoor

/- The law of NettingEuler. -/
namespace Go.Proofs.YtdeplhihcifmeaaGreatDoor
open Go.RowKit Go.Shelf Ck

def lgS (n1 n2 n3 n4 : Int) : Nat → Int
  | 0 => 0
  | 1 => 0
  | 2 => n1
  | 3 => n1 + n2
  | 4 => n1 + n2 + n3
  | _ => n1 + n2 + n3 + n4
def lgT (n1 n2 n3 n4 : Int) : Nat → Int
  | 0 => 0
  | 1 => 0
  | 2 => n1
  | 3 => n1 + 2 * n2
  | 4 => n1 + 2 * n2 + 3 * n3
  | _ => n1 + 2 * n2 + 3 * n3 + 4 * n4
set_option maxHeartbeats 16000000 in
set_option maxRecDepth 100000 in
theorem lawEu1 (A : Option Addr) (c : Nat) (l : List Bar) (X : Int) (w : World) (hL : LaidLen w) (hO : OKS w A c l) (h0 : l = []) :
    Calls Tryz.prog 11 #[.slice A l.length c, .int .u8 X] w fun e w' => e = .returned (.bool true) ∧ Below w.heap.size w w' := by
  have ex0 : ∀ (a b : Value) (w : World), (Instr.extract (.tuple #[a, b]) 0).run Tryz.prog w = .ok a w := fun _ _ _ => by kernel_rfl
  have ex1 : ∀ (a b : Value) (w : World), (Instr.extract (.tuple #[a, b]) 1).run Tryz.prog w = .ok b w := fun _ _ _ => by kernel_rfl
  have HLL := Lib.hid hL
  have HO := Lib.hid hO
  have fin : ∀ {W : World}, Below w.heap.size w W → Below w.heap.size w W := fun hb => hb
  have BW := Below.refl w.heap.size w
  subst h0
  clear hL hO
  go_enter Tryz.func11, Tryz.ntmps11
  go_wp2_with fail
  refine (awake1 _ (HLL.out.below (fin BW) HLL.out.lt)).mono ?_
  rintro e w11 ⟨rfl, hb11⟩
  replace BW := hbT BW hb11
  clear hb11
  go_wp2_with fail
  refine (awake1 _ (HLL.out.below (fin BW) HLL.out.lt)).mono ?_
  rintro e w12 ⟨rfl, hb12⟩
  replace BW := hbT BW hb12
  clear hb12
  go_wp2
  go_ret
  exact ⟨rfl, fin BW⟩
set_option maxHeartbeats 16000000 in
set_option maxRecDepth 100000 in
theorem lawEu2 (A : Option Addr) (c : Nat) (l : List Bar) (X : Int) (w : World) (hL : LaidLen w) (hO : OKS w A c l) (h0 : ¬ l = []) (h1 : (24 : Int) < (l.length : Int)) :
    Calls Tryz.prog 11 #[.slice A l.length c, .int .u8 X] w fun e w' => e = .returned (.bool true) ∧ Below w.heap.size w w' := by
  have ex0 : ∀ (a b : Value) (w : World), (Instr.extract (.tuple #[a, b]) 0).run Tryz.prog w = .ok a w := fun _ _ _ => by kernel_rfl
  have ex1 : ∀ (a b : Value) (w : World), (Instr.extract (.tuple #[a, b]) 1).run Tryz.prog w = .ok b w := fun _ _ _ => by kernel_rfl
  have HLL := Lib.hid hL
  have HO := Lib.hid hO
  have fin : ∀ {W : World}, Below w.heap.size w W → Below w.heap.size w W := fun hb => hb
  have BW := Below.refl w.heap.size w
  have hz : ((l.length : Int) == 0) = false := by rw [beq_eq_false_iff_ne]; intro e; exact h0 (List.eq_nil_of_length_eq_zero (by omega))
  clear hL hO
  go_enter Tryz.func11, Tryz.ntmps11
  go_wp2_with fail
  refine (awake1 _ (HLL.out.below (fin BW) HLL.out.lt)).mono ?_
  rintro e w11 ⟨rfl, hb11⟩
  replace BW := hbT BW hb11
  clear hb11
  go_wp2_with fail
  refine (awake1 _ (HLL.out.below (fin BW) HLL.out.lt)).mono ?_
  rintro e w12 ⟨rfl, hb12⟩
  replace BW := hbT BW hb12
  clear hb12
  go_wp2
  go_ret
  exact ⟨rfl, fin BW⟩
set_option maxHeartbeats 16000000 in
set_option maxRecDepth 100000 in
theorem lawEu3 (A : Option Addr) (c : Nat) (l : List Bar) (X : Int) (w : World) (hL : LaidLen w) (hO : OKS w A c l) (h0 : ¬ l = []) (h1 : ¬ (24 : Int) < (l.length : Int)) (E : Int) (hE : netE l = E) (hne : E ≠ 0) :
    Calls Tryz.prog 11 #[.slice A l.length c, .int .u8 X] w fun e w' => e = .returned (.bool true) ∧ Below w.heap.size w w' := by
  have ex0 : ∀ (a b : Value) (w : World), (Instr.extract (.tuple #[a, b]) 0).run Tryz.prog w = .ok a w := fun _ _ _ => by kernel_rfl
  have ex1 : ∀ (a b : Value) (w : World), (Instr.extract (.tuple #[a, b]) 1).run Tryz.prog w = .ok b w := fun _ _ _ => by kernel_rfl
  have HLL := Lib.hid hL
  have HO := Lib.hid hO
  have fin : ∀ {W : World}, Below w.heap.size w W → Below w.heap.size w W := fun hb => hb
  have BW := Below.refl w.heap.size w
  have hz : ((l.length : Int) == 0) = false := by rw [beq_eq_false_iff_ne]; intro e; exact h0 (List.eq_nil_of_length_eq_zero (by omega))
  have HE := Lib.hid hE
  have en0 : (E != 0) = true := by rw [bne_iff_ne]; exact hne
  clear hE hne
  clear hL hO
  go_enter Tryz.func11, Tryz.ntmps11
  go_wp2_with fail
  refine (awake1 _ (HLL.out.below (fin BW) HLL.out.lt)).mono ?_
  rintro e w11 ⟨rfl, hb11⟩
  replace BW := hbT BW hb11
  clear hb11
  go_wp2_with fail
  refine (refCheckNetA A c l _ (HO.out.below (fin BW))).mono ?_
  rintro e w12 ⟨rfl, hb12⟩
  rw [HE.out]
  replace BW := hbT BW hb12
  clear hb12
  go_wp2_with fail
  refine (awake1 _ (HLL.out.below (fin BW) HLL.out.lt)).mono ?_
  rintro e w13 ⟨rfl, hb13⟩
  replace BW := hbT BW hb13
  clear hb13
  go_wp2
  go_ret
  exact ⟨rfl, fin BW⟩
set_option maxHeartbeats 16000000 in
set_option maxRecDepth 100000 in
theorem lawEuM (A : Option Addr) (c : Nat) (l : List Bar) (X : Int) (w : World) (hL : LaidLen w) (hO : OKS w A c l) (h0 : 0 < l.length) (hl : l.length ≤ 24) (hN : Net l) (G : List (List Bar)) (hG : PartsAre l G) (hgl : G.length ≤ l.length) (hgp : 0 < G.length) (k m h5 n1 n2 n3 n4 : Int) (hk : k = (nK l : Nat)) (hm : m = (nM l : Nat)) (h5e : h5 = (l.length : Int) - k + (G.length : Nat) - m)
    (hv : legV l = #[.int .i64 0, .int .i64 n1, .int .i64 n2, .int .i64 n3, .int .i64 n4]) (hn1 : 0 ≤ n1) (hn2 : 0 ≤ n2) (hn3 : 0 ≤ n3) (hn4 : 0 ≤ n4) (hns : n1 + n2 + n3 + n4 = k) (hnt : n1 + 2 * n2 + 3 * n3 + 4 * n4 = 2 * (l.length : Int)) (h5p : 0 ≤ h5) (hx0 : 0 ≤ X) (hx1 : X < 256)
    (q : Nat) (hq : q < l.length) (hqe : X.tmod (l.length : Int) = (q : Int)) (b : Bar) (hb : l[q] = b) (L2 : List Bar) (hL2 : mergeM l [b] = L2) (h2l : L2.length + 1 = l.length) (hN2 : Net L2) (hNb : Net [b]) (G2 : List (List Bar)) (hG2 : PartsAre L2 G2) (k2 m2 p2 h2 : Int) (hk2 : k2 = (nK L2 : Nat)) (hm2 : m2 = (nM L2 : Nat)) (hp2 : p2 = (G2.length : Nat)) (h2e : h2 = (L2.length : Int) - k2 + p2 - m2) (hp2l : p2 ≤ 24) (hrk : m + h5 - m2 - h2 = 0 ∨ (m + h5 - m2 - h2 = 1 ∧ k2 = k ∧ p2 = (G.length : Int))) :
    Calls Tryz.prog 11 #[.slice A l.length c, .int .u8 X] w fun e w' => e = .returned (.bool true) ∧ Below w.heap.size w w' := by
  obtain ⟨ib, hib, hbb0, hbb1, hbb2⟩ := info_parts Tryz.info24
  have HIB := Lib.hid hib
  have HB0 := Lib.hid hbb0
  have HB1 := Lib.hid hbb1
  have HB2 := Lib.hid hbb2
  clear hib hbb0 hbb1 hbb2
  have ex0 : ∀ (a b : Value) (w : World), (Instr.extract (.tuple #[a, b]) 0).run Tryz.prog w = .ok a w := fun _ _ _ => by kernel_rfl
  have ex1 : ∀ (a b : Value) (w : World), (Instr.extract (.tuple #[a, b]) 1).run Tryz.prog w = .ok b w := fun _ _ _ => by kernel_rfl
  have HLL := Lib.hid hL
  have HO := Lib.hid hO
  have fin : ∀ {W : World}, Below w.heap.size w W → Below w.heap.size w W := fun hb => hb
  have BW := Below.refl w.heap.size w
  have HN := Lib.hid hN
  have HG := Lib.hid hG
  have HK := Lib.hid hk
  have HM := Lib.hid hm
  have H5 := Lib.hid h5e
  have HV := Lib.hid hv
  have HQE := Lib.hid hqe
  have HB := Lib.hid hb
  have HL2 := Lib.hid hL2
  have HN2 := Lib.hid hN2
  have HNB := Lib.hid hNb
  have HG2 := Lib.hid hG2
  have HK2 := Lib.hid hk2
  have HM2 := Lib.hid hm2
  have HP2 := Lib.hid hp2
  have H2E := Lib.hid h2e
  have HRK := Lib.hid hrk
  have hlm : l.length ≤ 4098 := by omega
  have HE := Lib.hid ((netE_zero l).2 ⟨by omega, hN⟩)
  have hz : ((l.length : Int) == 0) = false := by rw [beq_eq_false_iff_ne]; omega
  have h24 : ¬ (24 : Int) < (l.length : Int) := by omega
  have hkb : 0 ≤ k ∧ k ≤ 48 := by have := nK_le l; omega
  have hmb : 0 ≤ m ∧ m ≤ 24 := by have := meshL_le l l.length; rw [List.take_length] at this; rw [meshL_nM] at this; omega
  have hk2b : 0 ≤ k2 ∧ k2 ≤ 48 := by have := nK_le L2; omega
  have hm2b : 0 ≤ m2 ∧ m2 ≤ 24 := by have := meshL_le L2 L2.length; rw [List.take_length] at this; rw [meshL_nM] at this; omega
  have hp2b : 0 ≤ p2 := by omega
  have a1 : ¬ h5 < 0 := by omega
  have a2 : ¬ m < 0 := by omega
  have a3 : ¬ (G.length : Int) < 1 := by omega
  have s1 : IntKind.i64.wrap n1 = n1 := by rw [IntKind.wrap_i64]; omega
  have s2 : IntKind.i64.wrap (n1 + n2) = n1 + n2 := by rw [IntKind.wrap_i64]; omega
  have s3 : IntKind.i64.wrap (n1 + n2 + n3) = n1 + n2 + n3 := by rw [IntKind.wrap_i64]; omega
  have s4 : IntKind.i64.wrap (n1 + n2 + n3 + n4) = n1 + n2 + n3 + n4 := by rw [IntKind.wrap_i64]; omega
  have t2 : IntKind.i64.wrap (2 * n2) = 2 * n2 := by rw [IntKind.wrap_i64]; omega
  have t3 : IntKind.i64.wrap (3 * n3) = 3 * n3 := by rw [IntKind.wrap_i64]; omega
  have t4 : IntKind.i64.wrap (4 * n4) = 4 * n4 := by rw [IntKind.wrap_i64]; omega
  have u2 : IntKind.i64.wrap (n1 + 2 * n2) = n1 + 2 * n2 := by rw [IntKind.wrap_i64]; omega
  have u3 : IntKind.i64.wrap (n1 + 2 * n2 + 3 * n3) = n1 + 2 * n2 + 3 * n3 := by rw [IntKind.wrap_i64]; omega
  have u4 : IntKind.i64.wrap (n1 + 2 * n2 + 3 * n3 + 4 * n4) = n1 + 2 * n2 + 3 * n3 + 4 * n4 := by rw [IntKind.wrap_i64]; omega
  have b0 : ¬ (48 : Int) < 0 := by omega
  have b1 : ¬ (48 : Int) < n1 := by omega
  have b2 : ¬ (48 : Int) < n2 := by omega
  have b3 : ¬ (48 : Int) < n3 := by omega
  have b4 : ¬ (48 : Int) < n4 := by omega
  have c1_ : ¬ n1 < 0 := by omega
  have c2_ : ¬ n2 < 0 := by omega
  have c3_ : ¬ n3 < 0 := by omega
  have c4_ : ¬ n4 < 0 := by omega
  have v1 : (n1 + n2 + n3 + n4 != k) = false := by rw [bne_eq_false_iff_eq]; omega
  have v0 : IntKind.i64.wrap (2 * (l.length : Int)) = 2 * (l.length : Int) := by rw [IntKind.wrap_i64]; omega
  have v2 : (n1 + 2 * n2 + 3 * n3 + 4 * n4 != 2 * (l.length : Int)) = false := by rw [bne_eq_false_iff_eq]; omega
  have v3 : IntKind.i64.wrap ((l.length : Int) - k) = (l.length : Int) - k := by rw [IntKind.wrap_i64]; omega
  have v4 : IntKind.i64.wrap ((l.length : Int) - k + (G.length : Int)) = (l.length : Int) - k + (G.length : Int) := by rw [IntKind.wrap_i64]; omega
  have v5 : IntKind.i64.wrap (m + h5) = m + h5 := by rw [IntKind.wrap_i64]; omega
  have v6 : ((l.length : Int) - k + (G.length : Int) != m + h5) = false := by rw [bne_eq_false_iff_eq]; omega
  have i0_ : ∀ w : World, (Instr.index 67 (.agg #[.int .i64 0, .int .i64 n1, .int .i64 n2, .int .i64 n3, .int .i64 n4]) (.int .i64 0)).run Tryz.prog w = .ok (.int .i64 0) w := fun _ => by kernel_rfl
  have i1_ : ∀ w : World, (Instr.index 67 (.agg #[.int .i64 0, .int .i64 n1, .int .i64 n2, .int .i64 n3, .int .i64 n4]) (.int .i64 1)).run Tryz.prog w = .ok (.int .i64 n1) w := fun _ => by kernel_rfl
  have i2_ : ∀ w : World, (Instr.index 67 (.agg #[.int .i64 0, .int .i64 n1, .int .i64 n2, .int .i64 n3, .int .i64 n4]) (.int .i64 2)).run Tryz.prog w = .ok (.int .i64 n2) w := fun _ => by kernel_rfl
  have i3_ : ∀ w : World, (Instr.index 67 (.agg #[.int .i64 0, .int .i64 n1, .int .i64 n2, .int .i64 n3, .int .i64 n4]) (.int .i64 3)).run Tryz.prog w = .ok (.int .i64 n3) w := fun _ => by kernel_rfl
  have i4_ : ∀ w : World, (Instr.index 67 (.agg #[.int .i64 0, .int .i64 n1, .int .i64 n2, .int .i64 n3, .int .i64 n4]) (.int .i64 4)).run Tryz.prog w = .ok (.int .i64 n4) w := fun _ => by kernel_rfl
  have HNS := Lib.hid hns
  have HNT := Lib.hid hnt
  clear hN hG hk hm h5e hv hqe hb hL2 hN2 hNb hG2 hk2 hm2 hp2 h2e hrk hns hnt
  clear hL hO
  go_enter Tryz.func11, Tryz.ntmps11
  go_wp2_with fail
  refine (awake1 _ (HLL.out.below (fin BW) HLL.out.lt)).mono ?_
  rintro e w11 ⟨rfl, hb11⟩
  replace BW := hbT BW hb11
  clear hb11
  go_wp2_with fail
  refine (refCheckNetA A c l _ (HO.out.below (fin BW))).mono ?_
  rintro e w12 ⟨rfl, hb12⟩
  rw [HE.out]
  replace BW := hbT BW hb12
  clear hb12
  go_wp2_with fail
  refine (lwCopied A c l _ hlm (HO.out.below (fin BW))).mono ?_
  rintro e w13 ⟨a13, c13, rfl, o13, hb13⟩
  replace BW := hbT BW hb13
  have O13 := Lib.hid o13
  clear o13 hb13
  go_wp2_with fail
  refine (countP' a13 c13 l G _ k m (G.length : Nat) h5 HK.out HM.out rfl H5.out HG.out (by omega) HN.out O13.out).mono ?_
  rintro e w14 ⟨rfl, hb14⟩
  replace BW := hbT BW hb14
  replace O13 := Lib.hid (O13.out.below hb14)
  clear hb14
  clear O13
  go_wp2_with fail
  obtain ⟨w15, hw, LG, hbq, LZ⟩ := box5H w14 (.int .i64 k) (.int .i64 (l.length : Int)) (.int .i64 m) (.int .i64 (G.length : Int)) (.int .i64 h5) 86
  rw [← hw]
  have LC := Lib.hid (show FiveC w15 w14.heap.size #[.int .i64 k, .int .i64 (l.length : Int), .int .i64 m, .int .i64 (G.length : Int), .int .i64 h5] from ⟨by omega, LG⟩)
  replace BW := hbT BW hbq
  clear hw LZ LG hbq
  generalize w14.heap.size = BC at *
  go_wp2_with fail
  refine (lwCopied A c l _ hlm (HO.out.below (fin BW))).mono ?_
  rintro e w16 ⟨a16, c16, rfl, o16, hb16⟩
  replace BW := hbT BW hb16
  replace LC := Lib.hid (LC.out.below hb16)
  have O16 := Lib.hid o16
  clear o16 hb16
  go_wp2_with fail
  refine (legsN a16 c16 l _ 0 n1 n2 n3 n4 HV.out (by omega) HN.out O16.out).mono ?_
  rintro e w17 ⟨rfl, hb17⟩
  replace BW := hbT BW hb17
  replace LC := Lib.hid (LC.out.below hb17)
  replace O16 := Lib.hid (O16.out.below hb17)
  clear hb17
  clear O16
  go_wp2_with fail
  obtain ⟨w18, hw, LG, hbq, LZ⟩ := box5H w17 (.int .i64 0) (.int .i64 n1) (.int .i64 n2) (.int .i64 n3) (.int .i64 n4) 67
  rw [← hw]
  have LL := Lib.hid (show Five w18 w17.heap.size #[.int .i64 0, .int .i64 n1, .int .i64 n2, .int .i64 n3, .int .i64 n4] from ⟨by omega, LG⟩)
  replace BW := hbT BW hbq
  replace LC := Lib.hid (LC.out.below hbq)
  clear hw LZ LG hbq
  generalize w17.heap.size = BL at *
  go_wp2_with fail
  refine (lwCopied A c l _ hlm (HO.out.below (fin BW))).mono ?_
  rintro e w19 ⟨a19, c19, rfl, o19, hb19⟩
  replace BW := hbT BW hb19
  replace LC := Lib.hid (LC.out.below hb19)
  replace LL := Lib.hid (LL.out.below hb19)
  have O19 := Lib.hid o19
  clear o19 hb19
  go_wp2_with fail
  refine (partsP a19 c19 l G _ HG.out (by omega) HN.out O19.out).mono ?_
  rintro e w20 ⟨a20, c20, rfl, o20, hb20⟩
  replace BW := hbT BW hb20
  replace LC := Lib.hid (LC.out.below hb20)
  replace LL := Lib.hid (LL.out.below hb20)
  replace O19 := Lib.hid (O19.out.below hb20)
  have O20 := Lib.hid o20
  clear o20 hb20
  clear O19
  obtain ⟨x0, x1, x2, x3, x4⟩ := LC.out.at5
  obtain ⟨y0, y1, y2, y3, y4⟩ := LL.out.at5
  go_wp2_with fail
  go_loopw [11, 12, 13, 14, 99] (fun kn sm _ _ iv wr => ∃ i : Nat, i ≤ 5 ∧ iv = .int .i64 i ∧ Hid (kn = .int .i64 (lgS n1 n2 n3 n4 i) ∧ sm = .int .i64 (lgT n1 n2 n3 n4 i)) ∧ Below w20.heap.size w20 wr) (fun _ _ _ _ iv _ => 5 - (intOf iv).toNat)
  case atStart => exact ⟨0, by omega, rfl, Lib.hid ⟨rfl, rfl⟩, Below.refl _ _⟩
  case round =>
    obtain ⟨i, hi, rfl, hkt, hbi⟩ := hrel
    obtain ⟨hkn, hsm⟩ := hkt.out
    by_cases hlt : i < 5
    · have hcs : i = 0 ∨ i = 1 ∨ i = 2 ∨ i = 3 ∨ i = 4 := by omega
      clear hkt x0 x1 x2 x3 x4 y0 y1 y2 y3 y4
      rcases hcs with rfl | rfl | rfl | rfl | rfl
      · subst hkn hsm
        simp only [lgS, lgT]
        go_wp2
        go_roundw
        case rel => exact ⟨1, by omega, by go_num, Lib.hid ⟨by simp [lgS], by simp [lgT]⟩, hbi⟩
        case measure => simp [intOf]
      · subst hkn hsm
        simp only [lgS, lgT]
        go_wp2
        go_roundw
        case rel => exact ⟨2, by omega, by go_num, Lib.hid ⟨by simp [lgS], by simp [lgT]⟩, hbi⟩
        case measure => simp [intOf]
      · subst hkn hsm
        simp only [lgS, lgT]
        go_wp2
        go_roundw
        case rel => exact ⟨3, by omega, by go_num, Lib.hid ⟨by simp [lgS], by simp [lgT]⟩, hbi⟩
        case measure => simp [intOf]
      · subst hkn hsm
        simp only [lgS, lgT]
        go_wp2
        go_roundw
        case rel => exact ⟨4, by omega, by go_num, Lib.hid ⟨by simp [lgS], by simp [lgT]⟩, hbi⟩
        case measure => simp [intOf]
      · subst hkn hsm
        simp only [lgS, lgT]
        go_wp2
        go_roundw
        case rel => exact ⟨5, by omega, by go_num, Lib.hid ⟨by simp [lgS], by simp [lgT]⟩, hbi⟩
        case measure => simp [intOf]
    · have e5 : i = 5 := by omega
      have hlt5 : ¬ (i : Int) < 5 := by omega
      rw [show lgS n1 n2 n3 n4 i = n1 + n2 + n3 + n4 by rw [e5]; rfl] at hkn
      rw [show lgT n1 n2 n3 n4 i = n1 + 2 * n2 + 3 * n3 + 4 * n4 by rw [e5]; rfl] at hsm
      subst hkn hsm
      clear e5
      replace BW := hbT BW hbi
      replace LC := Lib.hid (LC.out.below hbi)
      replace LL := Lib.hid (LL.out.below hbi)
      replace O20 := Lib.hid (O20.out.below hbi)
      clear hbi hkt x0 x1 x2 x3 x4 y0 y1 y2 y3 y4
      obtain ⟨x0, x1, x2, x3, x4⟩ := LC.out.at5
      obtain ⟨y0, y1, y2, y3, y4⟩ := LL.out.at5
      obtain ⟨wo, hwo⟩ : ∃ wo, wo = wr := ⟨_, rfl⟩
      have HWO := Lib.hid hwo
      clear hwo
      go_wp2_with fail
      go_loopw [15, 16, 17, 18, 19, 20, 152] (fun av iv _ _ _ _ ix wi => ∃ i : Nat, i ≤ G.length ∧ ix = .int .i64 i ∧ iv = .int .i64 (sK G i : Nat) ∧ Hid (ShRow wo.heap.size av (G.take i).flatten wi) ∧ Below wo.heap.size wo wi) (fun _ _ _ _ _ _ ix _ => G.length - (intOf ix).toNat)
      case atStart => exact ⟨0, Nat.zero_le _, rfl, by simp [sK], Lib.hid (by simp only [List.take_zero, List.flatten_nil]; exact ⟨rfl, .inl ⟨rfl, rfl⟩⟩), by rw [HWO.out]; exact Below.refl _ _⟩
      case round =>
        have hWO := HWO.out
        subst hWO
        clear x0 x1 x2 x3 x4 y0 y1 y2 y3 y4
        obtain ⟨i, hi, rfl, rfl, hrow, hbi⟩ := hrel
        by_cases hlt : i < G.length
        · obtain ⟨b', off', fa, fc, hA, hB, hcell, hfo, hf4⟩ := (O20.out.below hbi).at hlt
          have hgm : G[i] ∈ G := List.getElem_mem hlt
          have HGN := Lib.hid (HG.out.net HN.out hgm)
          have HG0 := HG.out.pos hgm
          have HSK := Lib.hid (sK_succ hlt)
          have HFL := Lib.hid (flat_succ hlt)
          have hal : (G.take i).flatten.length + G[i].length ≤ 24 := by
            have h1 := flat_le G (i + 1)
            rw [HFL.out, List.length_append, HG.out.flat_length HN.out] at h1
            omega
          have hsk : (sK G i : Int) + (nK G[i] : Nat) ≤ 48 := by
            have h1 := sK_le G (i + 1)
            rw [HSK.out, HG.out.knots] at h1
            have h2 := HK.out
            omega
          have HKL := Lib.hid (show (knotsL G[i]).length = nK G[i] from nK_eq (knotsL_nodup _) (knotsL_mem _))
          have hgE := Lib.hid ((netE_zero G[i]).2 ⟨by omega, HGN.out⟩)
          have HJ := Lib.hid (show ∀ j, i = j + 1 → ∃ (hj : j < G.length) (fa' : Option Addr) (fc' : Nat), (∃ off'', a20 = some ⟨b', off'', none⟩ ∧ off'' = off') ∧ wr.cell? ⟨b', off' + j, none⟩ = some (.slice fa' G[j].length fc') ∧ OKS wr fa' fc' G[j] ∧ ∃ (h0 : 0 < G[j].length) (h1 : 0 < G[i].length), Blt G[j][0] G[i][0] from fun j hj => by
            subst hj
            have hj' : j < G.length := by omega
            obtain ⟨b2, off2, fa2, fc2, hA2, hB2, hcell2, hfo2, hf42⟩ := (O20.out.below hbi).at hj'
            rw [hA] at hA2
            cases hA2
            have p0 := HG.out.pos (List.getElem_mem hj')
            exact ⟨hj', fa2, fc2, ⟨off', hA, rfl⟩, hcell2, hfo2, p0, HG0, HG.out.less hlt p0 HG0⟩)
          subst hA
          have hiI : (i : Int) < (G.length : Int) := by omega
          have hi0 : (0 : Int) ≤ (i : Int) := by omega
          have hgz : ((G[i].length : Int) == 0) = false := by rw [beq_eq_false_iff_ne]; omega
          obtain ⟨gg, hgg⟩ : ∃ gg, G[i] = gg := ⟨_, rfl⟩
          rw [hgg] at hcell hfo hf4 HGN HG0 HSK HFL hal hsk HKL hgE HJ hgz
          have HGG := Lib.hid hgg
          have HFO := Lib.hid hfo
          have hgI : (0 : Int) < (gg.length : Int) := by omega
          have hsk0 : (0 : Int) ≤ (sK G i : Int) := by omega
          have wsk : IntKind.i64.wrap ((sK G i : Int) + (nK gg : Nat)) = (sK G i : Int) + (nK gg : Nat) := by rw [IntKind.wrap_i64]; omega
          clear hgg hfo
          go_wp2_with fail
          refine (lwCopied fa fc gg _ (by omega) HFO.out).mono ?_
          rintro e w30 ⟨a30, c30, rfl, o30, hb30⟩
          have O30 := Lib.hid o30
          have B30 := hb30
          clear o30 hb30
          go_wp2_with fail
          refine (knotsN a30 c30 gg _ _ rfl (by omega) HGN.out O30.out).mono ?_
          rintro e w31 ⟨a31, c31, rfl, -, hb31⟩
          have B31 := hbT B30 hb31
          clear B30 hb31 O30
          have hkl : ((knotsL gg).length : Int) = (nK gg : Nat) := by rw [HKL.out]
          obtain ⟨FI, hFI⟩ : ∃ FI, (G.take i).flatten = FI := ⟨_, rfl⟩
          have hrow2 := hrow.out
          rw [hFI] at hrow2 HFL hal
          clear hFI hrow
          by_cases hiz : i = 0
          · have hgt : decide ((0 : Int) < (i : Int)) = false := by rw [decide_eq_false_iff_not]; omega
            have hgt2 : decide (0 < i) = false := by rw [decide_eq_false_iff_not]; omega
            clear HJ hcell hiz
            go_wp2_with fail
            refine wp_region_held_drew (S := (fun w' => Below w31.heap.size w31 w')) (by kernel_rfl) ?_ (fun hHeld => ?_)
            · exact below_drew (Below.refl _ _)
            refine wpAnyH_take (i := 0) (oi := _) (v := ?vra0) rfl (by kernel_rfl) (by kernel_rfl) (by kernel_rfl) (fun _ _ _ h => h) (Or.inl ⟨by rfl, ?hyra0⟩) (by assumption) ?restra0
            case hyra0 => (intro w hSw; (try dsimp only at hSw); go_simp; first | done | rfl)
            try simp only [layA]
            refine wpAnyH_take (i := 1) (oi := _) (v := ?vra1) rfl (by kernel_rfl) (by kernel_rfl) (by kernel_rfl) (fun _ _ _ h => h) (Or.inl ⟨by rfl, ?hyra1⟩) (by assumption) ?restra1
            case hyra1 => (intro w hSw; (try dsimp only at hSw); go_simp; first | done | rfl)
            try simp only [layA]
            refine wpAnyH_take (i := 2) (oi := _) (v := ?vra2) rfl (by kernel_rfl) (by kernel_rfl) (by kernel_rfl) (fun _ _ _ h => h) (Or.inl ⟨by rfl, ?hyra2⟩) (by assumption) ?restra2
            case hyra2 => (intro w hSw; (try dsimp only at hSw); go_simp; first | done | rfl)
            try simp only [layA]
            refine wpAnyH_take (i := 3) (oi := _) (v := ?vra3) rfl (by kernel_rfl) (by kernel_rfl) (by kernel_rfl) (fun _ _ _ h => h) (Or.inl ⟨by rfl, ?hyra3⟩) (by assumption) ?restra3
            case hyra3 => (intro w hSw; (try dsimp only at hSw); go_simp; first | done | rfl)
            try simp only [layA]
            refine wpAnyH_take (i := 4) (oi := _) (v := ?vra4) rfl (by kernel_rfl) (by kernel_rfl) (by kernel_rfl) (fun _ _ _ h => h) (Or.inl ⟨by rfl, ?hyra4⟩) (by assumption) ?restra4
            case hyra4 => (intro w hSw; (try dsimp only at hSw); go_simp; first | done | rfl)
            try simp only [layA]
            refine wpAnyH_take (i := 5) (oi := _) (v := ?vra5) rfl (by kernel_rfl) (by kernel_rfl) (by kernel_rfl) (fun _ _ _ h => h) (Or.inl ⟨by rfl, ?hyra5⟩) (by assumption) ?restra5
            case hyra5 => (intro w hSw; (try dsimp only at hSw); go_simp; first | done | rfl)
            try simp only [layA]
            refine wpAnyH_take (i := 6) (oi := _) (v := ?vra6) rfl (by kernel_rfl) (by kernel_rfl) (by kernel_rfl) (fun _ _ _ h => h) (Or.inl ⟨by rfl, ?hyra6⟩) (by assumption) ?restra6
            case hyra6 => (intro w hSw; (try dsimp only at hSw); go_simp; first | done | rfl)
            try simp only [layA]
            refine wpAnyH_take (i := 7) (oi := _) (v := ?vra7) rfl (by kernel_rfl) (by kernel_rfl) (by kernel_rfl) (fun _ _ _ h => h) (Or.inl ⟨by rfl, ?hyra7⟩) (by assumption) ?restra7
            case hyra7 => (intro w hSw; (try dsimp only at hSw); go_simp; first | done | rfl)
            try simp only [layA]
            refine wpAnyH_take (i := 8) (oi := _) (v := ?vra8) rfl (by kernel_rfl) (by kernel_rfl) (by kernel_rfl) (fun _ _ _ h => h) (Or.inl ⟨by rfl, ?hyra8⟩) (by assumption) ?restra8
            case hyra8 => (intro w hSw; (try dsimp only at hSw); go_simp; first | done | rfl)
            try simp only [layA]
            refine wpAnyH_ready (rs := [9]) (by kernel_rfl) (by simp) ?_
            refine AllReadyH.cons (o := _) rfl (fun K hK => ?_) AllReadyH.nil
            simp only [layG]
            rw [if_pos (by rfl)]
            go_simp
            go_at_call 17
            refine (refCheckNetA fa fc gg _ ((HFO.out.below B31).below hHeld)).mono ?_
            rintro e w32 ⟨rfl, hbq⟩
            rw [hgE.out]
            refine hK.out _ _ (hbT (by assumption) hbq) (fun hHeld => ?_)
            clear hK K
            try simp only [layA]
            refine wpAnyH_take (i := 10) (oi := _) (v := ?vra10) rfl (by kernel_rfl) (by kernel_rfl) (by kernel_rfl) (fun _ _ _ h => h) (Or.inl ⟨by rfl, ?hyra10⟩) (by assumption) ?restra10
            case hyra10 => (intro w hSw; (try dsimp only at hSw); go_simp; first | done | rfl)
            try simp only [layA]
            refine wpAnyH_take (i := 11) (oi := _) (v := ?vra11) rfl (by kernel_rfl) (by kernel_rfl) (by kernel_rfl) (fun _ _ _ h => h) (Or.inl ⟨by rfl, ?hyra11⟩) (by assumption) ?restra11
            case hyra11 => (intro w hSw; (try dsimp only at hSw); go_simp; first | done | rfl)
            try simp only [layA]
            refine wpAnyH_take (i := 12) (oi := _) (v := ?vra12) rfl (by kernel_rfl) (by kernel_rfl) (by kernel_rfl) (fun _ _ _ h => h) (Or.inl ⟨by rfl, ?hyra12⟩) (by assumption) ?restra12
            case hyra12 => (intro w hSw; (try dsimp only at hSw); go_simp; first | done | rfl)
            try simp only [layA]
            refine wpAnyH_take (i := 13) (oi := _) (v := ?vra13) rfl (by kernel_rfl) (by kernel_rfl) (by kernel_rfl) (fun _ _ _ h => h) (Or.inl ⟨by rfl, ?hyra13⟩) (by assumption) ?restra13
            case hyra13 => (intro w hSw; (try dsimp only at hSw); go_simp; first | done | rfl)
            try simp only [layA]
            refine wpAnyH_take (i := 14) (oi := _) (v := ?vra14) rfl (by kernel_rfl) (by kernel_rfl) (by kernel_rfl) (fun _ _ _ h => h) (Or.inl ⟨by rfl, ?hyra14⟩) (by assumption) ?restra14
            case hyra14 => (intro w hSw; (try dsimp only at hSw); go_simp; first | done | rfl)
            try simp only [layA]
            refine wpAnyH_take (i := 15) (oi := _) (v := ?vra15) rfl (by kernel_rfl) (by kernel_rfl) (by kernel_rfl) (fun _ _ _ h => h) (Or.inl ⟨by rfl, ?hyra15⟩) (by assumption) ?restra15
            case hyra15 => (intro w hSw; (try dsimp only at hSw); go_simp; first | done | rfl)
            try simp only [layA]
            refine wpAnyH_take (i := 16) (oi := _) (v := undef) rfl (by kernel_rfl) (by kernel_rfl) (by kernel_rfl) (fun _ _ _ h => h) (Or.inr ⟨by rfl, rfl⟩) (by assumption) ?restra16
            try simp only [layA]
            refine wpAnyH_take (i := 17) (oi := _) (v := undef) rfl (by kernel_rfl) (by kernel_rfl) (by kernel_rfl) (fun _ _ _ h => h) (Or.inr ⟨by rfl, rfl⟩) (by assumption) ?restra17
            try simp only [layA]
            refine wpAnyH_take (i := 18) (oi := _) (v := undef) rfl (by kernel_rfl) (by kernel_rfl) (by kernel_rfl) (fun _ _ _ h => h) (Or.inr ⟨by rfl, rfl⟩) (by assumption) ?restra18
            try simp only [layA]
            refine wpAnyH_take (i := 19) (oi := _) (v := undef) rfl (by kernel_rfl) (by kernel_rfl) (by kernel_rfl) (fun _ _ _ h => h) (Or.inr ⟨by rfl, rfl⟩) (by assumption) ?restra19
            try simp only [layA]
            refine wpAnyH_take (i := 20) (oi := _) (v := undef) rfl (by kernel_rfl) (by kernel_rfl) (by kernel_rfl) (fun _ _ _ h => h) (Or.inr ⟨by rfl, rfl⟩) (by assumption) ?restra20
            try simp only [layA]
            refine wpAnyH_take (i := 21) (oi := _) (v := undef) rfl (by kernel_rfl) (by kernel_rfl) (by kernel_rfl) (fun _ _ _ h => h) (Or.inr ⟨by rfl, rfl⟩) (by assumption) ?restra21
            try simp only [layA]
            refine wpAnyH_take (i := 22) (oi := _) (v := undef) rfl (by kernel_rfl) (by kernel_rfl) (by kernel_rfl) (fun _ _ _ h => h) (Or.inr ⟨by rfl, rfl⟩) (by assumption) ?restra22
            try simp only [layA]
            refine wpAnyH_take (i := 23) (oi := _) (v := undef) rfl (by kernel_rfl) (by kernel_rfl) (by kernel_rfl) (fun _ _ _ h => h) (Or.inr ⟨by rfl, rfl⟩) (by assumption) ?restra23
            try simp only [layA]
            refine wpAnyH_take (i := 24) (oi := _) (v := undef) rfl (by kernel_rfl) (by kernel_rfl) (by kernel_rfl) (fun _ _ _ h => h) (Or.inr ⟨by rfl, rfl⟩) (by assumption) ?restra24
            try simp only [layA]
            refine wpAnyH_take (i := 25) (oi := _) (v := undef) rfl (by kernel_rfl) (by kernel_rfl) (by kernel_rfl) (fun _ _ _ h => h) (Or.inr ⟨by rfl, rfl⟩) (by assumption) ?restra25
            try simp only [layA]
            refine wpAnyH_take (i := 26) (oi := _) (v := undef) rfl (by kernel_rfl) (by kernel_rfl) (by kernel_rfl) (fun _ _ _ h => h) (Or.inr ⟨by rfl, rfl⟩) (by assumption) ?restra26
            try simp only [layA]
            refine wpAnyH_take (i := 27) (oi := _) (v := undef) rfl (by kernel_rfl) (by kernel_rfl) (by kernel_rfl) (fun _ _ _ h => h) (Or.inr ⟨by rfl, rfl⟩) (by assumption) ?restra27
            try simp only [layA]
            refine wpAnyH_take (i := 28) (oi := _) (v := ?vra28) rfl (by kernel_rfl) (by kernel_rfl) (by kernel_rfl) (fun _ _ _ h => h) (Or.inl ⟨by rfl, ?hyra28⟩) (by assumption) ?restra28
            case hyra28 => (intro w hSw; (try dsimp only at hSw); go_simp; first | done | rfl)
            try simp only [layA]
            refine wpAnyH_take (i := 29) (oi := _) (v := ?vra29) rfl (by kernel_rfl) (by kernel_rfl) (by kernel_rfl) (fun _ _ _ h => h) (Or.inl ⟨by rfl, ?hyra29⟩) (by assumption) ?restra29
            case hyra29 => (intro w hSw; (try dsimp only at hSw); go_simp; first | done | rfl)
            try simp only [layA]
            refine wpAnyH_done (by kernel_rfl) ?_ _
            have B34 := hbT B31 hHeld
            have HRW := ownsRow_below hrow2 B34
            have BW4 := hbi.trans (B34.mono hbi.size)
            have z4 := BW4.size
            have HF4 := Lib.hid (HFO.out.below B34)
            clear hHeld B34 B31 hrow2
            go_wp2_with (at_builtin; refine wpList_append_gen rfl _ _ 22 rfl wo.heap.size 24 ib (.agg #[.int .i64 0, .int .i64 0, .int .i64 0]) 3 24 Tryz.underlying22 HIB.out HB0.out HB1.out HB2.out rfl (by decide) _ FI.length (bcellsL FI) rfl HRW (fa) gg.length fc (bcellsL gg) rfl (bcellsL_length gg) (none_oks HF4.out) (news_oks HF4.out) (bcellsL_one gg) ?d1 ?d2 ?d3 ?_)
            case d1 => unfold maxLen; omega
            case d2 => omega
            case d3 => exact z4
            intro v35 w35 hown35 hgrow35
            have B35 : Below wo.heap.size wo w35 := BW4.grown hgrow35 z4 (ownsRow_base HRW)
            have HO35 := Lib.hid (show ShRow wo.heap.size v35 (G.take (i + 1)).flatten w35 by unfold ShRow; rw [HFL.out, List.length_append, bcellsL_app]; exact hown35)
            clear hown35 hgrow35 HRW
            go_wp2
            go_roundw
            case rel => exact ⟨i + 1, by omega, by go_num, by rw [HSK.out]; go_num, HO35, B35⟩
            case measure => simp [intOf]; omega
          · have hgt : decide ((0 : Int) < (i : Int)) = true := by rw [decide_eq_true_eq]; omega
            have hgt2 : decide (0 < i) = true := by rw [decide_eq_true_eq]; omega
            obtain ⟨j, hij⟩ : ∃ j, i = j + 1 := ⟨i - 1, by omega⟩
            obtain ⟨hj', fa', fc', -, hcj, hoj, p0, g0, hbl⟩ := HJ.out j hij
            obtain ⟨bj, oj, rfl, hBj, hcc⟩ := hoj.2.2.2 p0
            obtain ⟨bg, og, hfae, hBg, hcg⟩ := HFO.out.2.2.2 g0
            obtain ⟨d0, d1, d2⟩ := hcc 0 p0
            obtain ⟨f0, f1, f2⟩ := hcg 0 g0
            simp only [Nat.zero_mul, Nat.add_zero] at d0 d1 d2 f0 f1 f2
            obtain ⟨u, hu⟩ : ∃ u, G[j][0] = u := ⟨_, rfl⟩
            obtain ⟨v, hvv⟩ : ∃ v, gg[0] = v := ⟨_, rfl⟩
            rw [hu] at d0 d1 d2 hbl
            rw [hvv] at f0 f1 f2 hbl
            have HLS := Lib.hid (show lessB u.x u.y u.s v.x v.y v.s = true from (lessB_iff u v).2 hbl)
            obtain ⟨np, hnp⟩ : ∃ np, G[j].length = np := ⟨_, rfl⟩
            have hnp0 : (0 : Int) < (np : Int) := by omega
            have hnp1 : 0 < np := by omega
            rw [hnp] at hcj
            have wi1 : IntKind.i64.wrap ((i : Int) - 1) = (j : Int) := by rw [IntKind.wrap_i64]; omega
            have hjI : (j : Int) < (G.length : Int) := by omega
            have hj0 : (0 : Int) ≤ (j : Int) := by omega
            have CR : ∀ {W : World}, Below w31.heap.size w31 W → W.cell? ⟨b', off' + j, none⟩ = some (.slice (some ⟨bj, oj, none⟩) np fc') ∧ W.cell? ⟨bj, oj, none⟩ = some (.int .i64 u.x) ∧ W.cell? ⟨bj, oj + 1, none⟩ = some (.int .i64 u.y) ∧ W.cell? ⟨bj, oj + 2, none⟩ = some (.int .i64 u.s) ∧ W.cell? ⟨bg, og, none⟩ = some (.int .i64 v.x) ∧ W.cell? ⟨bg, og + 1, none⟩ = some (.int .i64 v.y) ∧ W.cell? ⟨bg, og + 2, none⟩ = some (.int .i64 v.s) := fun hq => by
              have hq2 := hbT B31 hq
              exact ⟨(hq2.cell (p := ⟨b', off' + j, none⟩) hB).trans hcj, (hq2.cell (p := ⟨bj, oj, none⟩) hBj).trans d0, (hq2.cell (p := ⟨bj, oj + 1, none⟩) hBj).trans d1, (hq2.cell (p := ⟨bj, oj + 2, none⟩) hBj).trans d2, (hq2.cell (p := ⟨bg, og, none⟩) hBg).trans f0, (hq2.cell (p := ⟨bg, og + 1, none⟩) hBg).trans f1, (hq2.cell (p := ⟨bg, og + 2, none⟩) hBg).trans f2⟩
            subst hfae
            clear HJ hcell hcj hoj hcc hcg d0 d1 d2 f0 f1 f2 hu hvv hbl hij hnp hiz
            go_wp2_with fail
            refine wp_region_held_drew (S := (fun w' => Below w31.heap.size w31 w')) (by kernel_rfl) ?_ (fun hHeld => ?_)
            · exact below_drew (Below.refl _ _)
            refine wpAnyH_take (i := 0) (oi := _) (v := ?vrb0) rfl (by kernel_rfl) (by kernel_rfl) (by kernel_rfl) (fun _ _ _ h => h) (Or.inl ⟨by rfl, ?hyrb0⟩) (by assumption) ?restrb0
            case hyrb0 => (intro w hSw; (try dsimp only at hSw); go_simp; first | done | rfl)
            try simp only [layA]
            refine wpAnyH_take (i := 1) (oi := _) (v := ?vrb1) rfl (by kernel_rfl) (by kernel_rfl) (by kernel_rfl) (fun _ _ _ h => h) (Or.inl ⟨by rfl, ?hyrb1⟩) (by assumption) ?restrb1
            case hyrb1 => (intro w hSw; (try dsimp only at hSw); go_simp; first | done | rfl)
            try simp only [layA]
            refine wpAnyH_take (i := 2) (oi := _) (v := ?vrb2) rfl (by kernel_rfl) (by kernel_rfl) (by kernel_rfl) (fun _ _ _ h => h) (Or.inl ⟨by rfl, ?hyrb2⟩) (by assumption) ?restrb2
            case hyrb2 => (intro w hSw; (try dsimp only at hSw); go_simp; first | done | rfl)
            try simp only [layA]
            refine wpAnyH_take (i := 3) (oi := _) (v := ?vrb3) rfl (by kernel_rfl) (by kernel_rfl) (by kernel_rfl) (fun _ _ _ h => h) (Or.inl ⟨by rfl, ?hyrb3⟩) (by assumption) ?restrb3
            case hyrb3 => (intro w hSw; (try dsimp only at hSw); go_simp; first | done | rfl)
            try simp only [layA]
            refine wpAnyH_take (i := 4) (oi := _) (v := ?vrb4) rfl (by kernel_rfl) (by kernel_rfl) (by kernel_rfl) (fun _ _ _ h => h) (Or.inl ⟨by rfl, ?hyrb4⟩) (by assumption) ?restrb4
            case hyrb4 => (intro w hSw; (try dsimp only at hSw); go_simp; first | done | rfl)
            try simp only [layA]
            refine wpAnyH_take (i := 5) (oi := _) (v := ?vrb5) rfl (by kernel_rfl) (by kernel_rfl) (by kernel_rfl) (fun _ _ _ h => h) (Or.inl ⟨by rfl, ?hyrb5⟩) (by assumption) ?restrb5
            case hyrb5 => (intro w hSw; (try dsimp only at hSw); go_simp; first | done | rfl)
            try simp only [layA]
            refine wpAnyH_take (i := 6) (oi := _) (v := ?vrb6) rfl (by kernel_rfl) (by kernel_rfl) (by kernel_rfl) (fun _ _ _ h => h) (Or.inl ⟨by rfl, ?hyrb6⟩) (by assumption) ?restrb6
            case hyrb6 => (intro w hSw; (try dsimp only at hSw); go_simp; first | done | rfl)
            try simp only [layA]
            refine wpAnyH_take (i := 7) (oi := _) (v := ?vrb7) rfl (by kernel_rfl) (by kernel_rfl) (by kernel_rfl) (fun _ _ _ h => h) (Or.inl ⟨by rfl, ?hyrb7⟩) (by assumption) ?restrb7
            case hyrb7 => (intro w hSw; (try dsimp only at hSw); go_simp; first | done | rfl)
            try simp only [layA]
            refine wpAnyH_take (i := 8) (oi := _) (v := ?vrb8) rfl (by kernel_rfl) (by kernel_rfl) (by kernel_rfl) (fun _ _ _ h => h) (Or.inl ⟨by rfl, ?hyrb8⟩) (by assumption) ?restrb8
            case hyrb8 => (intro w hSw; (try dsimp only at hSw); go_simp; first | done | rfl)
            try simp only [layA]
            refine wpAnyH_ready (rs := [9]) (by kernel_rfl) (by simp) ?_
            refine AllReadyH.cons (o := _) rfl (fun K hK => ?_) AllReadyH.nil
            simp only [layG]
            rw [if_pos (by rfl)]
            go_simp
            go_at_call 17
            refine (refCheckNetA (some ⟨bg, og, none⟩) fc gg _ ((HFO.out.below B31).below hHeld)).mono ?_
            rintro e w32 ⟨rfl, hbq⟩
            rw [hgE.out]
            refine hK.out _ _ (hbT (by assumption) hbq) (fun hHeld => ?_)
            clear hK K
            try simp only [layA]
            refine wpAnyH_take (i := 10) (oi := _) (v := ?vrb10) rfl (by kernel_rfl) (by kernel_rfl) (by kernel_rfl) (fun _ _ _ h => h) (Or.inl ⟨by rfl, ?hyrb10⟩) (by assumption) ?restrb10
            case hyrb10 => (intro w hSw; (try dsimp only at hSw); go_simp; first | done | rfl)
            try simp only [layA]
            refine wpAnyH_take (i := 11) (oi := _) (v := ?vrb11) rfl (by kernel_rfl) (by kernel_rfl) (by kernel_rfl) (fun _ _ _ h => h) (Or.inl ⟨by rfl, ?hyrb11⟩) (by assumption) ?restrb11
            case hyrb11 => (intro w hSw; (try dsimp only at hSw); go_simp; first | done | rfl)
            try simp only [layA]
            refine wpAnyH_take (i := 12) (oi := _) (v := ?vrb12) rfl (by kernel_rfl) (by kernel_rfl) (by kernel_rfl) (fun _ _ _ h => h) (Or.inl ⟨by rfl, ?hyrb12⟩) (by assumption) ?restrb12
            case hyrb12 => (intro w hSw; (try dsimp only at hSw); go_simp; first | done | rfl)
            try simp only [layA]
            refine wpAnyH_take (i := 13) (oi := _) (v := ?vrb13) rfl (by kernel_rfl) (by kernel_rfl) (by kernel_rfl) (fun _ _ _ h => h) (Or.inl ⟨by rfl, ?hyrb13⟩) (by assumption) ?restrb13
            case hyrb13 => (intro w hSw; (try dsimp only at hSw); go_simp; first | done | rfl)
            try simp only [layA]
            refine wpAnyH_take (i := 14) (oi := _) (v := ?vrb14) rfl (by kernel_rfl) (by kernel_rfl) (by kernel_rfl) (fun _ _ _ h => h) (Or.inl ⟨by rfl, ?hyrb14⟩) (by assumption) ?restrb14
            case hyrb14 => (intro w hSw; (try dsimp only at hSw); go_simp; first | done | rfl)
            try simp only [layA]
            refine wpAnyH_take (i := 15) (oi := _) (v := ?vrb15) rfl (by kernel_rfl) (by kernel_rfl) (by kernel_rfl) (fun _ _ _ h => h) (Or.inl ⟨by rfl, ?hyrb15⟩) (by assumption) ?restrb15
            case hyrb15 => (intro w hSw; (try dsimp only at hSw); go_simp; first | done | rfl)
            try simp only [layA]
            refine wpAnyH_take (i := 16) (oi := _) (v := ?vrb16) rfl (by kernel_rfl) (by kernel_rfl) (by kernel_rfl) (fun _ _ _ h => h) (Or.inl ⟨by rfl, ?hyrb16⟩) (by assumption) ?restrb16
            case hyrb16 => (intro w hSw; (try dsimp only at hSw); go_simp; first | done | rfl)
            try simp only [layA]
            refine wpAnyH_take (i := 17) (oi := _) (v := ?vrb17) rfl (by kernel_rfl) (by kernel_rfl) (by kernel_rfl) (fun _ _ _ h => h) (Or.inl ⟨by rfl, ?hyrb17⟩) (by assumption) ?restrb17
            case hyrb17 => (intro w hSw; (try dsimp only at hSw); go_simp; first | done | rfl)
            try simp only [layA]
            refine wpAnyH_take (i := 18) (oi := _) (v := ?vrb18) rfl (by kernel_rfl) (by kernel_rfl) (by kernel_rfl) (fun _ _ _ h => h) (Or.inl ⟨by rfl, ?hyrb18⟩) (by assumption) ?restrb18
            case hyrb18 => (intro w hSw; (try dsimp only at hSw); go_simp; first | done | rfl)
            try simp only [layA]
            refine wpAnyH_take (i := 19) (oi := _) (v := ?vrb19) rfl (by kernel_rfl) (by kernel_rfl) (by kernel_rfl) (fun _ _ _ h => h) (Or.inl ⟨by rfl, ?hyrb19⟩) (by assumption) ?restrb19
            case hyrb19 => (intro w hSw; (try dsimp only at hSw); go_simp; first | done | rfl)
            try simp only [layA]
            refine wpAnyH_take (i := 20) (oi := _) (v := ?vrb20) rfl (by kernel_rfl) (by kernel_rfl) (by kernel_rfl) (fun _ _ _ h => h) (Or.inl ⟨by rfl, ?hyrb20⟩) (by assumption) ?restrb20
            case hyrb20 => (intro w hSw; (try dsimp only at hSw); obtain ⟨e0, e1, e2, e3, e4, e5, e6⟩ := CR hSw; go_simp; first | done | rfl)
            try simp only [layA]
            refine wpAnyH_take (i := 21) (oi := _) (v := ?vrb21) rfl (by kernel_rfl) (by kernel_rfl) (by kernel_rfl) (fun _ _ _ h => h) (Or.inl ⟨by rfl, ?hyrb21⟩) (by assumption) ?restrb21
            case hyrb21 => (intro w hSw; (try dsimp only at hSw); go_simp; first | done | rfl)
            try simp only [layA]
            refine wpAnyH_take (i := 22) (oi := _) (v := ?vrb22) rfl (by kernel_rfl) (by kernel_rfl) (by kernel_rfl) (fun _ _ _ h => h) (Or.inl ⟨by rfl, ?hyrb22⟩) (by assumption) ?restrb22
            case hyrb22 => (intro w hSw; (try dsimp only at hSw); obtain ⟨e0, e1, e2, e3, e4, e5, e6⟩ := CR hSw; go_simp; first | done | rfl)
            try simp only [layA]
            refine wpAnyH_take (i := 23) (oi := _) (v := ?vrb23) rfl (by kernel_rfl) (by kernel_rfl) (by kernel_rfl) (fun _ _ _ h => h) (Or.inl ⟨by rfl, ?hyrb23⟩) (by assumption) ?restrb23
            case hyrb23 => (intro w hSw; (try dsimp only at hSw); go_simp; first | done | rfl)
            try simp only [layA]
            refine wpAnyH_take (i := 24) (oi := _) (v := ?vrb24) rfl (by kernel_rfl) (by kernel_rfl) (by kernel_rfl) (fun _ _ _ h => h) (Or.inl ⟨by rfl, ?hyrb24⟩) (by assumption) ?restrb24
            case hyrb24 => (intro w hSw; (try dsimp only at hSw); go_simp; first | done | rfl)
            try simp only [layA]
            refine wpAnyH_take (i := 25) (oi := _) (v := ?vrb25) rfl (by kernel_rfl) (by kernel_rfl) (by kernel_rfl) (fun _ _ _ h => h) (Or.inl ⟨by rfl, ?hyrb25⟩) (by assumption) ?restrb25
            case hyrb25 => (intro w hSw; (try dsimp only at hSw); obtain ⟨e0, e1, e2, e3, e4, e5, e6⟩ := CR hSw; go_simp; first | done | rfl)
            try simp only [layA]
            refine wpAnyH_ready (rs := [26]) (by kernel_rfl) (by simp) ?_
            refine AllReadyH.cons (o := _) rfl (fun K hK => ?_) AllReadyH.nil
            simp only [layG]
            rw [if_pos (by rfl)]
            go_simp
            go_at_call 72
            refine (refLess u.x u.y u.s v.x v.y v.s _).mono ?_
            rintro e w33 ⟨rfl, hbq⟩
            rw [HLS.out]
            refine hK.out _ _ (hbT (by assumption) hbq) (fun hHeld => ?_)
            clear hK K
            try simp only [layA]
            refine wpAnyH_take (i := 27) (oi := _) (v := ?vrb27) rfl (by kernel_rfl) (by kernel_rfl) (by kernel_rfl) (fun _ _ _ h => h) (Or.inl ⟨by rfl, ?hyrb27⟩) (by assumption) ?restrb27
            case hyrb27 => (intro w hSw; (try dsimp only at hSw); go_simp; first | done | rfl)
            try simp only [layA]
            refine wpAnyH_take (i := 28) (oi := _) (v := ?vrb28) rfl (by kernel_rfl) (by kernel_rfl) (by kernel_rfl) (fun _ _ _ h => h) (Or.inl ⟨by rfl, ?hyrb28⟩) (by assumption) ?restrb28
            case hyrb28 => (intro w hSw; (try dsimp only at hSw); go_simp; first | done | rfl)
            try simp only [layA]
            refine wpAnyH_take (i := 29) (oi := _) (v := ?vrb29) rfl (by kernel_rfl) (by kernel_rfl) (by kernel_rfl) (fun _ _ _ h => h) (Or.inl ⟨by rfl, ?hyrb29⟩) (by assumption) ?restrb29
            case hyrb29 => (intro w hSw; (try dsimp only at hSw); go_simp; first | done | rfl)
            try simp only [layA]
            refine wpAnyH_done (by kernel_rfl) ?_ _
            have B34 := hbT B31 hHeld
            have HRW := ownsRow_below hrow2 B34
            have BW4 := hbi.trans (B34.mono hbi.size)
            have z4 := BW4.size
            have HF4 := Lib.hid (HFO.out.below B34)
            clear hHeld B34 B31 hrow2
            go_wp2_with (at_builtin; refine wpList_append_gen rfl _ _ 22 rfl wo.heap.size 24 ib (.agg #[.int .i64 0, .int .i64 0, .int .i64 0]) 3 24 Tryz.underlying22 HIB.out HB0.out HB1.out HB2.out rfl (by decide) _ FI.length (bcellsL FI) rfl HRW (some ⟨bg, og, none⟩) gg.length fc (bcellsL gg) rfl (bcellsL_length gg) (none_oks HF4.out) (news_oks HF4.out) (bcellsL_one gg) ?d1 ?d2 ?d3 ?_)
            case d1 => unfold maxLen; omega
            case d2 => omega
            case d3 => exact z4
            intro v35 w35 hown35 hgrow35
            have B35 : Below wo.heap.size wo w35 := BW4.grown hgrow35 z4 (ownsRow_base HRW)
            have HO35 := Lib.hid (show ShRow wo.heap.size v35 (G.take (i + 1)).flatten w35 by unfold ShRow; rw [HFL.out, List.length_append, bcellsL_app]; exact hown35)
            clear hown35 hgrow35 HRW
            go_wp2
            go_roundw
            case rel => exact ⟨i + 1, by omega, by go_num, by rw [HSK.out]; go_num, HO35, B35⟩
            case measure => simp [intOf]; omega
        · obtain rfl : i = G.length := by omega
          rw [List.take_length] at hrow
          obtain ⟨FL, hFL⟩ : ∃ FL, G.flatten = FL := ⟨_, rfl⟩
          rw [hFL] at hrow
          have HFLl := Lib.hid (show FL.length = l.length by rw [← hFL]; exact HG.out.flat_length HN.out)
          have HFLs := Lib.hid (show srtL FL = l by rw [← hFL]; exact HG.out.flat_srt HN.out)
          obtain ⟨aF, cF, rfl, oF⟩ := own_oks (show wr.ownsRow wo.heap.size 24 3 _ FL.length (bcellsL FL) from hrow.out)
          have HOF := Lib.hid oF
          have z1 : ((sK G G.length : Int) != k) = false := by
            rw [bne_eq_false_iff_eq, HK.out, show sK G G.length = nK l by rw [sK, List.take_length]; exact HG.out.knots]
          have z2 : ((FL.length : Int) != (l.length : Int)) = false := by rw [bne_eq_false_iff_eq, HFLl.out]
          have z3 : (FL.length != l.length) = false := by rw [bne_eq_false_iff_eq, HFLl.out]
          replace BW := hbT BW hbi
          replace LC := Lib.hid (LC.out.below hbi)
          clear hrow oF hFL hbi LL O20
          obtain ⟨x0, x1, x2, x3, x4⟩ := LC.out.at5
          go_wp2_with fail
          refine (refSorted aF cF FL _ (by rw [HFLl.out]; omega) HOF.out.2.2.2).mono ?_
          rintro e w40 ⟨v40, rfl, hr40, hb40⟩
          rw [HFLs.out] at hr40
          obtain ⟨a40, c40, rfl, o40⟩ := own_oks hr40
          have O40 := Lib.hid o40
          replace BW := hbT BW hb40
          replace LC := Lib.hid (LC.out.below hb40)
          clear hr40 o40 hb40 HOF HFLs HFLl
          go_wp2_with fail
          refine (refSameNet a40 A c40 c l _ (by omega) O40.out.2.2.2 (HO.out.below (fin BW)).2.2.2).mono ?_
          rintro e w41 ⟨rfl, hb41⟩
          replace BW := hbT BW hb41
          replace LC := Lib.hid (LC.out.below hb41)
          clear hb41 O40 x0 x1 x2 x3 x4
          obtain ⟨bA, oA, hAe, hBA, hcA⟩ := HO.out.2.2.2 h0
          subst hAe
          obtain ⟨g0, g1, g2⟩ := hcA q hq
          rw [HB.out] at g0 g1 g2
          replace g0 := (BW.cell (p := ⟨bA, _, none⟩) hBA).trans g0
          replace g1 := (BW.cell (p := ⟨bA, _, none⟩) hBA).trans g1
          replace g2 := (BW.cell (p := ⟨bA, _, none⟩) hBA).trans g2
          have hqe := HQE.out
          have hqi : (q : Int) < (l.length : Int) := by omega
          have hq0 : (0 : Int) ≤ (q : Int) := by omega
          have hwq : IntKind.i64.wrap (q : Int) = (q : Int) := by rw [IntKind.wrap_i64]; omega
          have hwX : IntKind.i64.wrap X = X := by rw [IntKind.wrap_i64]; omega
          have hln : ¬ (l.length : Int) = 0 := by omega
          clear hcA
          go_wp2_with fail
          obtain ⟨w42, hw42, e0, e1, e2, hb42, hz42⟩ := box3 w41 (.int .i64 b.x) (.int .i64 b.y) (.int .i64 b.s) 24
          rw [← hw42]
          replace BW := hbT BW hb42
          replace LC := Lib.hid (LC.out.below hb42)
          clear hw42 hb42 g0 g1 g2 hqe hqi hq0 hwq hwX hln z1 z2 z3
          generalize w41.heap.size = BB at *
          have CB : ∀ {W : World}, Below w42.heap.size w42 W → W.cell? ⟨BB, 0, none⟩ = some (.int .i64 b.x) ∧ W.cell? ⟨BB, 1, none⟩ = some (.int .i64 b.y) ∧ W.cell? ⟨BB, 2, none⟩ = some (.int .i64 b.s) := fun hq => ⟨(hq.cell (p := ⟨BB, 0, none⟩) hz42).trans e0, (hq.cell (p := ⟨BB, 1, none⟩) hz42).trans e1, (hq.cell (p := ⟨BB, 2, none⟩) hz42).trans e2⟩
          clear e0 e1 e2
          go_wp2_with fail
          refine wp_region_held_drew (S := (fun w' => Below w42.heap.size w42 w')) (by kernel_rfl) ?_ (fun hHeld => ?_)
          · exact below_drew (Below.refl _ _)
          refine wpAnyH_take (i := 0) (oi := _) (v := ?vrc0_1) rfl (by kernel_rfl) (by kernel_rfl) (by kernel_rfl) (fun _ _ _ h => h) (Or.inl ⟨by rfl, ?hyrc0_1⟩) (by assumption) ?restrc0_1
          case hyrc0_1 => (intro w hSw; (try dsimp only at hSw); go_simp; first | done | rfl)
          try simp only [layA]
          refine wpAnyH_take (i := 2) (oi := _) (v := ?vrc2_2) rfl (by kernel_rfl) (by kernel_rfl) (by kernel_rfl) (fun _ _ _ h => h) (Or.inl ⟨by rfl, ?hyrc2_2⟩) (by assumption) ?restrc2_2
          case hyrc2_2 => (intro w hSw; (try dsimp only at hSw); obtain ⟨e0, e1, e2⟩ := CB hSw; go_simp; first | done | rfl)
          try simp only [layA]
          refine wpAnyH_ready (rs := [1, 3]) (by kernel_rfl) (by simp) ?_
          refine (AllReadyH.cons (o := _) rfl (fun K hK => ?rrc1_3) (AllReadyH.cons (o := _) rfl (fun K hK => ?rrc3_3) AllReadyH.nil))
          case rrc1_3 =>
            simp only [layG]
            go_simp
            go_at_call 21
            refine (lwCopied (some ⟨bA, oA, none⟩) c l _ hlm (HO.out.below (fin (hbT BW hHeld)))).mono ?_
            rintro e wc1 ⟨ax, cx, rfl, ox, hbq⟩
            have OX := Lib.hid ox
            refine hK.out _ _ (hbT hHeld hbq) (fun hHeld => ?_)
            clear ox hbq
            clear hK K
            try simp only [layA]
            refine wpAnyH_ready (rs := [3]) (by kernel_rfl) (by simp) ?_
            refine (AllReadyH.cons (o := _) rfl (fun K hK => ?rrc3_4) AllReadyH.nil)
            case rrc3_4 =>
              simp only [layG]
              go_simp
              obtain ⟨wb3, hWb⟩ : ∃ W, wc1.alloc (.cells #[.int .i64 b.x, .int .i64 b.y, .int .i64 b.s] 24) = W := ⟨_, rfl⟩
              have hrb : wb3.ownsRow wc1.heap.size 24 3 (.slice (some ⟨wc1.heap.size, 0, none⟩) 1 1) [b].length (bcellsL [b]) := by rw [← hWb]; exact rowNew wc1 _ (Nat.le_refl _) _ [b] (by simp)
              obtain ⟨_, _, hbe, ob⟩ := own_oks hrb
              cases hbe
              have OB := Lib.hid ob
              have hal : Below wc1.heap.size wc1 wb3 := by rw [← hWb]; exact (Below.refl _ _).alloc (Nat.le_refl _) _
              replace OX := Lib.hid (OX.out.below hal)
              rw [hWb]
              refine hK.out _ _ (hbT hHeld hal) (fun hHeld => ?_)
              clear hWb hrb ob hal
              clear hK K
              try simp only [layA]
              refine wpAnyH_ready (rs := [4]) (by kernel_rfl) (by simp) ?_
              refine (AllReadyH.cons (o := _) rfl (fun K hK => ?rrc4_5) AllReadyH.nil)
              case rrc4_5 =>
                simp only [layG]
                go_simp
                go_at_call 58
                refine (minusS ax _ cx 1 l [b] L2 _ HL2.out (by omega) (by simp) HN.out HNB.out OX.out OB.out).mono ?_
                rintro e w44 ⟨a44, c44, rfl, o44, hbq⟩
                have O44 := Lib.hid o44
                refine hK.out _ _ (hbT hHeld hbq) (fun hHeld => ?_)
                clear o44 hbq
                clear hK K
                try simp only [layA]
                refine wpAnyH_take (i := 5) (oi := _) (v := ?vrc5_6) rfl (by kernel_rfl) (by kernel_rfl) (by kernel_rfl) (fun _ _ _ h => h) (Or.inl ⟨by rfl, ?hyrc5_6⟩) (by assumption) ?restrc5_6
                case hyrc5_6 => (intro w hSw; (try dsimp only at hSw); go_simp; first | done | rfl)
                try simp only [layA]
                refine wpAnyH_take (i := 6) (oi := _) (v := ?vrc6_7) rfl (by kernel_rfl) (by kernel_rfl) (by kernel_rfl) (fun _ _ _ h => h) (Or.inl ⟨by rfl, ?hyrc6_7⟩) (by assumption) ?restrc6_7
                case hyrc6_7 => (intro w hSw; (try dsimp only at hSw); go_simp; first | done | rfl)
                try simp only [layA]
                refine wpAnyH_take (i := 7) (oi := _) (v := ?vrc7_8) rfl (by kernel_rfl) (by kernel_rfl) (by kernel_rfl) (fun _ _ _ h => h) (Or.inl ⟨by rfl, ?hyrc7_8⟩) (by assumption) ?restrc7_8
                case hyrc7_8 => (intro w hSw; (try dsimp only at hSw); go_simp; first | done | rfl)
                try simp only [layA]
                refine wpAnyH_take (i := 8) (oi := _) (v := ?vrc8_9) rfl (by kernel_rfl) (by kernel_rfl) (by kernel_rfl) (fun _ _ _ h => h) (Or.inl ⟨by rfl, ?hyrc8_9⟩) (by assumption) ?restrc8_9
                case hyrc8_9 => (intro w hSw; (try dsimp only at hSw); go_simp; first | done | rfl)
                try simp only [layA]
                refine wpAnyH_take (i := 9) (oi := _) (v := ?vrc9_10) rfl (by kernel_rfl) (by kernel_rfl) (by kernel_rfl) (fun _ _ _ h => h) (Or.inl ⟨by rfl, ?hyrc9_10⟩) (by assumption) ?restrc9_10
                case hyrc9_10 => (intro w hSw; (try dsimp only at hSw); go_simp; first | done | rfl)
                try simp only [layA]
                refine wpAnyH_done (by kernel_rfl) ?_ _
                have BW4 := hbT BW hHeld
                have LC4 := Lib.hid (LC.out.below hHeld)
                clear hHeld OX OB BW LC CB
                go_wp2_with fail
                refine (lwCopied a44 c44 L2 _ (by omega) O44.out).mono ?_
                rintro e w45 ⟨a45, c45, rfl, o45, hb45⟩
                have O45 := Lib.hid o45
                replace BW4 := hbT BW4 hb45
                replace LC4 := Lib.hid (LC4.out.below hb45)
                clear o45 hb45 O44
                go_wp2_with fail
                refine (countP' a45 c45 L2 G2 _ k2 m2 p2 h2 HK2.out HM2.out HP2.out H2E.out HG2.out (by omega) HN2.out O45.out).mono ?_
                rintro e w46 ⟨rfl, hb46⟩
                replace BW4 := hbT BW4 hb46
                replace LC4 := Lib.hid (LC4.out.below hb46)
                clear hb46 O45
                obtain ⟨x0, x1, x2, x3, x4⟩ := LC4.out.at5
                have hBC := LC4.out.1
                have r1 : IntKind.i64.wrap ((l.length : Int) - 1) = (l.length : Int) - 1 := by rw [IntKind.wrap_i64]; omega
                have r2 : ((L2.length : Int) != (l.length : Int) - 1) = false := by rw [bne_eq_false_iff_eq]; omega
                have h5b : -200 ≤ h5 ∧ h5 ≤ 200 := by have := H5.out; omega
                have r3 : IntKind.i64.wrap (m + h5) = m + h5 := by rw [IntKind.wrap_i64]; omega
                have h2b : -200 ≤ h2 ∧ h2 ≤ 200 := by have := H2E.out; omega
                have r4 : IntKind.i64.wrap (m + h5 - m2) = m + h5 - m2 := by rw [IntKind.wrap_i64]; omega
                have r5 : IntKind.i64.wrap (m + h5 - m2 - h2) = m + h5 - m2 - h2 := by rw [IntKind.wrap_i64]; omega
                rcases HRK.out with hr | ⟨hr, hrk, hrp⟩
                · have q1 : (m + h5 - m2 - h2 == 0) = true := by rw [beq_iff_eq]; exact hr
                  clear hr
                  go_wp2
                  go_ret
                  exact ⟨rfl, fin (BW4.alloc BW4.size _)⟩
                · have q1 : (m + h5 - m2 - h2 == 0) = false := by rw [beq_eq_false_iff_ne]; omega
                  have q2 : (m + h5 - m2 - h2 == 1) = true := by rw [beq_iff_eq]; exact hr
                  have q3 : (k2 == k) = true := by rw [beq_iff_eq]; exact hrk
                  have q4 : (p2 == (G.length : Int)) = true := by rw [beq_iff_eq]; exact hrp
                  clear hr hrk hrp
                  go_wp2
                  go_ret
                  exact ⟨rfl, fin (BW4.alloc BW4.size _)⟩
          case rrc3_3 =>
            simp only [layG]
            go_simp
            obtain ⟨wb3, hWb⟩ : ∃ W, w42.drew.alloc (.cells #[.int .i64 b.x, .int .i64 b.y, .int .i64 b.s] 24) = W := ⟨_, rfl⟩
            have hrb : wb3.ownsRow w42.drew.heap.size 24 3 (.slice (some ⟨w42.heap.size, 0, none⟩) 1 1) [b].length (bcellsL [b]) := by rw [← hWb]; exact rowNew w42.drew _ (Nat.le_refl _) _ [b] (by simp)
            obtain ⟨_, _, hbe, ob⟩ := own_oks hrb
            cases hbe
            have OB := Lib.hid ob
            have hal : Below w42.drew.heap.size w42.drew wb3 := by rw [← hWb]; exact (Below.refl _ _).alloc (Nat.le_refl _) _
            rw [show (w42.alloc (.cells #[.int .i64 b.x, .int .i64 b.y, .int .i64 b.s] 24)).drew = wb3 from hWb]
            refine hK.out _ _ (hbT hHeld hal) (fun hHeld => ?_)
            clear hWb hrb ob hal
            clear hK K
            try simp only [layA]
            refine wpAnyH_ready (rs := [1]) (by kernel_rfl) (by simp) ?_
            refine (AllReadyH.cons (o := _) rfl (fun K hK => ?rrc1_11) AllReadyH.nil)
            case rrc1_11 =>
              simp only [layG]
              go_simp
              go_at_call 21
              refine (lwCopied (some ⟨bA, oA, none⟩) c l _ hlm (HO.out.below (fin (hbT BW hHeld)))).mono ?_
              rintro e wc1 ⟨ax, cx, rfl, ox, hbq⟩
              replace OB := Lib.hid (OB.out.below hbq)
              have OX := Lib.hid ox
              refine hK.out _ _ (hbT hHeld hbq) (fun hHeld => ?_)
              clear ox hbq
              clear hK K
              try simp only [layA]
              refine wpAnyH_ready (rs := [4]) (by kernel_rfl) (by simp) ?_
              refine (AllReadyH.cons (o := _) rfl (fun K hK => ?rrc4_12) AllReadyH.nil)
              case rrc4_12 =>
                simp only [layG]
                go_simp
                go_at_call 58
                refine (minusS ax _ cx 1 l [b] L2 _ HL2.out (by omega) (by simp) HN.out HNB.out OX.out OB.out).mono ?_
                rintro e w44 ⟨a44, c44, rfl, o44, hbq⟩
                have O44 := Lib.hid o44
                refine hK.out _ _ (hbT hHeld hbq) (fun hHeld => ?_)
                clear o44 hbq
                clear hK K
                try simp only [layA]
                refine wpAnyH_take (i := 5) (oi := _) (v := ?vrc5_13) rfl (by kernel_rfl) (by kernel_rfl) (by kernel_rfl) (fun _ _ _ h => h) (Or.inl ⟨by rfl, ?hyrc5_13⟩) (by assumption) ?restrc5_13
                case hyrc5_13 => (intro w hSw; (try dsimp only at hSw); go_simp; first | done | rfl)
                try simp only [layA]
                refine wpAnyH_take (i := 6) (oi := _) (v := ?vrc6_14) rfl (by kernel_rfl) (by kernel_rfl) (by kernel_rfl) (fun _ _ _ h => h) (Or.inl ⟨by rfl, ?hyrc6_14⟩) (by assumption) ?restrc6_14
                case hyrc6_14 => (intro w hSw; (try dsimp only at hSw); go_simp; first | done | rfl)
                try simp only [layA]
                refine wpAnyH_take (i := 7) (oi := _) (v := ?vrc7_15) rfl (by kernel_rfl) (by kernel_rfl) (by kernel_rfl) (fun _ _ _ h => h) (Or.inl ⟨by rfl, ?hyrc7_15⟩) (by assumption) ?restrc7_15
                case hyrc7_15 => (intro w hSw; (try dsimp only at hSw); go_simp; first | done | rfl)
                try simp only [layA]
                refine wpAnyH_take (i := 8) (oi := _) (v := ?vrc8_16) rfl (by kernel_rfl) (by kernel_rfl) (by kernel_rfl) (fun _ _ _ h => h) (Or.inl ⟨by rfl, ?hyrc8_16⟩) (by assumption) ?restrc8_16
                case hyrc8_16 => (intro w hSw; (try dsimp only at hSw); go_simp; first | done | rfl)
                try simp only [layA]
                refine wpAnyH_take (i := 9) (oi := _) (v := ?vrc9_17) rfl (by kernel_rfl) (by kernel_rfl) (by kernel_rfl) (fun _ _ _ h => h) (Or.inl ⟨by rfl, ?hyrc9_17⟩) (by assumption) ?restrc9_17
                case hyrc9_17 => (intro w hSw; (try dsimp only at hSw); go_simp; first | done | rfl)
                try simp only [layA]
                refine wpAnyH_done (by kernel_rfl) ?_ _
                have BW4 := hbT BW hHeld
                have LC4 := Lib.hid (LC.out.below hHeld)
                clear hHeld OX OB BW LC CB
                go_wp2_with fail
                refine (lwCopied a44 c44 L2 _ (by omega) O44.out).mono ?_
                rintro e w45 ⟨a45, c45, rfl, o45, hb45⟩
                have O45 := Lib.hid o45
                replace BW4 := hbT BW4 hb45
                replace LC4 := Lib.hid (LC4.out.below hb45)
                clear o45 hb45 O44
                go_wp2_with fail
                refine (countP' a45 c45 L2 G2 _ k2 m2 p2 h2 HK2.out HM2.out HP2.out H2E.out HG2.out (by omega) HN2.out O45.out).mono ?_
                rintro e w46 ⟨rfl, hb46⟩
                replace BW4 := hbT BW4 hb46
                replace LC4 := Lib.hid (LC4.out.below hb46)
                clear hb46 O45
                obtain ⟨x0, x1, x2, x3, x4⟩ := LC4.out.at5
                have hBC := LC4.out.1
                have r1 : IntKind.i64.wrap ((l.length : Int) - 1) = (l.length : Int) - 1 := by rw [IntKind.wrap_i64]; omega
                have r2 : ((L2.length : Int) != (l.length : Int) - 1) = false := by rw [bne_eq_false_iff_eq]; omega
                have h5b : -200 ≤ h5 ∧ h5 ≤ 200 := by have := H5.out; omega
                have r3 : IntKind.i64.wrap (m + h5) = m + h5 := by rw [IntKind.wrap_i64]; omega
                have h2b : -200 ≤ h2 ∧ h2 ≤ 200 := by have := H2E.out; omega
                have r4 : IntKind.i64.wrap (m + h5 - m2) = m + h5 - m2 := by rw [IntKind.wrap_i64]; omega
                have r5 : IntKind.i64.wrap (m + h5 - m2 - h2) = m + h5 - m2 - h2 := by rw [IntKind.wrap_i64]; omega
                rcases HRK.out with hr | ⟨hr, hrk, hrp⟩
                · have q1 : (m + h5 - m2 - h2 == 0) = true := by rw [beq_iff_eq]; exact hr
                  clear hr
                  go_wp2
                  go_ret
                  exact ⟨rfl, fin (BW4.alloc BW4.size _)⟩
                · have q1 : (m + h5 - m2 - h2 == 0) = false := by rw [beq_eq_false_iff_ne]; omega
                  have q2 : (m + h5 - m2 - h2 == 1) = true := by rw [beq_iff_eq]; exact hr
                  have q3 : (k2 == k) = true := by rw [beq_iff_eq]; exact hrk
                  have q4 : (p2 == (G.length : Int)) = true := by rw [beq_iff_eq]; exact hrp
                  clear hr hrk hrp
                  go_wp2
                  go_ret
                  exact ⟨rfl, fin (BW4.alloc BW4.size _)⟩
        
theorem lawEuler (A : Option Addr) (c : Nat) (l : List Bar) (X : Int) (w : World) (hL : LaidLen w) (hO : OKS w A c l) (hx0 : 0 ≤ X) (hx1 : X < 256) :
    Calls Tryz.prog 11 #[.slice A l.length c, .int .u8 X] w fun e w' => e = .returned (.bool true) ∧ Below w.heap.size w w' := by
  by_cases h0 : l = []
  · exact lawEu1 A c l X w hL hO h0
  by_cases h1 : (24 : Int) < (l.length : Int)
  · exact lawEu2 A c l X w hL hO h0 h1
  by_cases hE : netE l = 0
  · obtain ⟨hl, hN⟩ := (netE_zero l).1 hE
    have hp0 : 0 < l.length := List.length_pos_iff.2 h0
    obtain ⟨G, hG, hP⟩ := PartsAre.exist hN.2
    have hgl := cntLe hP
    have hlI : (0 : Int) < (l.length : Int) := by omega
    have hm0 := Int.tmod_nonneg (a := X) (l.length : Int) hx0
    have hm1 := Int.tmod_lt_of_pos X hlI
    obtain ⟨q, hq⟩ : ∃ q : Nat, X.tmod (l.length : Int) = (q : Int) := ⟨(X.tmod (l.length : Int)).toNat, by omega⟩
    have hql : q < l.length := by omega
    obtain ⟨b, hb⟩ : ∃ b, l[q] = b := ⟨_, rfl⟩
    have hbm : b ∈ l := by rw [← hb]; exact List.getElem_mem hql
    obtain ⟨L2, hL2⟩ : ∃ L2, l.filter (fun y => decide (y ≠ b)) = L2 := ⟨_, rfl⟩
    have hN2 : Net L2 := by rw [← hL2]; exact ⟨fun x hx => hN.1 x (List.mem_filter.1 hx).1, hN.2.filter _⟩
    obtain ⟨G2, hG2, hP2⟩ := PartsAre.exist hN2.2
    have hgl2 := cntLe hP2
    have hlen2 : L2.length + 1 = l.length := by rw [← hL2]; exact filter_length hN.2 hbm
    obtain ⟨c0, cs, ct⟩ := legs_add hN
    have heu := euler l.length rfl hN hP
    have hrk := rank_less hbm hP (by rw [hL2]; exact hP2)
    rw [hL2] at hrk
    refine lawEuM A c l X w hL hO hp0 (by omega) hN G hG hgl (hG.some hp0) (nK l : Nat) (nM l : Nat) ((l.length : Int) - (nK l : Nat) + (G.length : Nat) - (nM l : Nat)) (lgC (ends l) (knotsL l) 1 : Nat) (lgC (ends l) (knotsL l) 2 : Nat) (lgC (ends l) (knotsL l) 3 : Nat) (lgC (ends l) (knotsL l) 4 : Nat) rfl rfl rfl
      (by rw [legV, c0]; rfl) (by omega) (by omega) (by omega) (by omega) (by omega) (by omega) (by omega) hx0 hx1 q hql hq b hb L2 (by rw [mergeM_one hN.2]; exact hL2) hlen2 hN2 ⟨fun x hx => by rw [List.mem_singleton] at hx; subst hx; exact hN.1 _ hbm, List.pairwise_singleton _ _⟩ G2 hG2
      (nK L2 : Nat) (nM L2 : Nat) (G2.length : Nat) ((L2.length : Int) - (nK L2 : Nat) + (G2.length : Nat) - (nM L2 : Nat)) rfl rfl rfl rfl (by omega) ?_
    rcases hrk with ⟨h3, h4⟩ | h3
    · exact .inr ⟨by omega, by omega, by omega⟩
    · exact .inl (by omega)
  · exact lawEu3 A c l X w hL hO h0 h1 _ rfl hE
end Go.Proofs.YtdeplhihcifmeaaGreatDoor

/- An argument that is a list of bars, opened. -/
namespace Go.Proofs.YtdeplhihcifmeaaGreatDoor
open Go.ChangeShapes Go.WideShapes Go.ChangeAt Go.RowKit Go.Deep

variable {H : Type} {enc : TypeId × Value → H} {w : World} {spare : Nat → Bool} {held : Bool}
set_option maxRecDepth 100000 in
theorem bar_cells {n : Nat} {cs : List Value} {x : DataW H × List MemPlace} (h : DataW.trod enc Tryz.prog w 0 spare held n 24 cs = some x) : ∃ b : Ck.Bar, cs = bcells b := by
  obtain ⟨xs, m, _, _, hl, hx, hf⟩ := DataW.trod_struct Tryz.underlying24 h
  have hC : Tryz.prog.cellsOf 24 = 3 := by kernel_rfl
  have c3 : Tryz.prog.cellsOf 3 = 1 := by kernel_rfl
  rw [hC] at hl
  match cs, hl, xs, hx with
  | [c0, c1, c2], _, [x0, x1, x2], _ =>
    have h0 := hf 0 _ rfl
    have h1 := hf 1 _ rfl
    have h2 := hf 2 _ rfl
    simp [c3] at h0 h1 h2
    obtain ⟨n0, e0, _⟩ := DataW.trod_int Tryz.underlying3 h0
    obtain ⟨n1, e1, _⟩ := DataW.trod_int Tryz.underlying3 h1
    obtain ⟨n2, e2, _⟩ := DataW.trod_int Tryz.underlying3 h2
    simp only [List.cons.injEq, and_true] at e0 e1 e2
    exact ⟨⟨n0, n1, n2⟩, by rw [e0, e1, e2]; rfl⟩
set_option maxRecDepth 100000 in
/-- The argument is nil, or a slice that reads as bars. -/
theorem open_bars {v : Value} {d : DataW H} {p : List MemPlace} {r : Reach} {b0 : Nat} (hv : Value.okWide Tryz.prog w r b0 22 v) (h : DataW.Trod enc Tryz.prog w 0 spare held 22 v d p) (_ : ∀ x ∈ p, x.block < w.heap.size) :
    ∃ (A : Option Addr) (c : Nat) (l : List Ck.Bar), v = .slice A l.length c ∧ (A = none → c = 0) ∧ l.length ≤ c ∧ c ≤ maxLen ∧ RB w w.heap.size A l := by
  obtain ⟨a, len, cap, rfl⟩ := okWide_slice Tryz.underlying22 hv
  obtain ⟨fuel, hf⟩ := h
  have hC : Tryz.prog.cellsOf 24 = 3 := by kernel_rfl
  rcases open_slice Tryz.underlying22 hf with ⟨hcs, _⟩ | ⟨a', len', cap', m, n, D, Pl, hcs, hb, hl, hm, hmm, hx, hi⟩
  · simp [Value.cells] at hcs
    obtain ⟨rfl, rfl, rfl⟩ := hcs
    exact ⟨none, 0, [], rfl, fun _ => rfl, Nat.zero_le _, by unfold maxLen; omega, fun h => by simp at h⟩
  · simp [Value.cells] at hcs
    obtain ⟨rfl, rfl, rfl⟩ := hcs
    rw [hC] at hi hx
    have hle : len ≤ m := by rw [hmm]; split <;> omega
    have each : ∀ i, ∃ b : Ck.Bar, i < len → w.cell? (a'.add (i * 3)) = some (.int .i64 b.x) ∧ w.cell? ((a'.add (i * 3)).add 1) = some (.int .i64 b.y) ∧ w.cell? ((a'.add (i * 3)).add 2) = some (.int .i64 b.s) := fun i => by
      by_cases hi' : i < len
      · obtain ⟨cs', h1, h2⟩ := hi i (by omega)
        obtain ⟨b, rfl⟩ := bar_cells h2
        obtain ⟨_, _, h3⟩ := World.cells?_some h1
        exact ⟨b, fun _ => ⟨h3 0 (by omega), h3 1 (by omega), h3 2 (by omega)⟩⟩
      · exact ⟨⟨0, 0, 0⟩, fun h => absurd h hi'⟩
    obtain ⟨f, hf'⟩ := Classical.axiomOfChoice each
    have hlen : ((List.range len).map f).length = len := by simp
    refine ⟨some a', cap, (List.range len).map f, by rw [hlen], (fun h => by cases h), by rw [hlen]; exact hl, hm, fun hpos => ?_⟩
    rw [hlen] at hpos
    obtain ⟨blk, off, spot⟩ := a'
    have h0 := (hf' 0 hpos).1
    have hspot : spot = none := by
      cases spot with
      | none => rfl
      | some s =>
        simp [Addr.add, World.cell?] at h0
        split at h0 <;> simp at h0
    subst hspot
    have hadd : ∀ k, (⟨blk, off, none⟩ : Addr).add k = ⟨blk, off + k, none⟩ := fun k => by
      unfold Addr.add
      split
      · simp
      · rfl
    have hblk : blk < w.heap.size := by
      rw [hadd] at h0
      unfold World.cell? at h0
      cases hh : w.heap[blk]? with
      | none => simp [hh] at h0
      | some o => exact (Array.getElem?_eq_some_iff.1 hh).1
    refine ⟨blk, off, rfl, hblk, fun i hi' => ?_⟩
    rw [hlen] at hi'
    obtain ⟨k0, k1, k2⟩ := hf' i hi'
    rw [hadd] at k0 k1 k2
    have hadd2 : ∀ k j, (⟨blk, k, none⟩ : Addr).add j = ⟨blk, k + j, none⟩ := fun k j => by
      unfold Addr.add
      split
      · simp
      · rfl
    rw [hadd2] at k1 k2
    have hg : ((List.range len).map f)[i]'(by simpa using hi') = f i := by simp
    rw [hg]
    exact ⟨k0, k1, k2⟩
end Go.Proofs.YtdeplhihcifmeaaGreatDoor

/- A byte, an int8 as arguments. -/
namespace Go.Proofs.YtdeplhihcifmeaaGreatDoor
open Go.ChangeShapes Go.WideShapes Go.ChangeAt Go.WideMaps Go.WideElems Go.RowKit

set_option maxRecDepth 100000 in
theorem open_bytev {w : World} {r : Reach} {b0 : Nat} {v : Value} (h : Value.okWide Tryz.prog w r b0 5 v) : ∃ n, v = .int .u8 n ∧ 0 ≤ n ∧ n < 256 := by
  have hS := Tryz.underlying5
  simp only [Value.okWide, hS] at h
  obtain ⟨n, rfl, hn⟩ := cell_intT hS h
  simp only [IntKind.has, IntKind.min, IntKind.max, IntKind.signed, IntKind.bits] at hn
  refine ⟨n, rfl, ?_, ?_⟩ <;> simp at hn <;> omega
end Go.Proofs.YtdeplhihcifmeaaGreatDoor
