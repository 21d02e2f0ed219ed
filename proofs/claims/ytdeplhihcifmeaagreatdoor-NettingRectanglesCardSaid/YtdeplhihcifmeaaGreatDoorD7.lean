/- Helpers: D7. -/
import Derived.Test.YtdeplhihcifmeaaGreatDoorD6
import Derived.BigRegionIn
import Derived.RangeFuncCalls
import Derived.BigQuiet
import Derived.Laws.RangeAny
import Derived.Test.YtdeplhihcifmeaaGreatDoorCards
import Derived.Test.YtdeplhihcifmeaaGreatDoorTie
import Derived.ProofKit
import Derived.LaidMore
import Derived.LaidLaws
import Derived.OpenShut
import Derived.Stop.Joined
import Derived.SevenTiedAt
import Derived.HandedShaped
import Derived.Shelf.Vars
import Derived.Lay
/- What strings.Lines yields at the example's string. -/
namespace Go.Proofs.YtdeplhihcifmeaaGreatDoor
open Go.RowKit Go.Shelf Ck

/-- Boxes of one string lie as they lay. -/
def KS (W W' : World) : Prop := W.heap.size ≤ W'.heap.size ∧ ∀ (b : Nat) (s : ByteArray) (f : Nat × Nat), W.heap[b]? = some (Obj.cells #[Value.string s] 9 f) → W'.heap[b]? = some (Obj.cells #[Value.string s] 9 f)
theorem KS.trans {A B C : World} (h : KS A B) (k : KS B C) : KS A C := ⟨Nat.le_trans h.1 k.1, fun b s f e => k.2 b s f (h.2 b s f e)⟩
theorem KS.put {w : World} (W : World) (l : Nat) (o o' : Obj) (_ : w.heap.size ≤ l) (hl : W.heap[l]? = some o) (h1 : o.isCells = false) (_ : o.isWalk = false) : KS W (W.putObj l o') :=
  ⟨by simp, fun b s f e => by
    have : b ≠ l := by
      rintro rfl
      rw [hl] at e
      cases e
      cases h1
    exact (World.putObj_heap_other this).trans e⟩
theorem KS.of_below {W W' : World} (h : Below W.heap.size W W') : KS W W' := ⟨h.size, fun b _ _ e => (h.block b (Array.getElem?_eq_some_iff.1 e).1).trans e⟩
theorem ln_box {W : World} {b : Nat} {u : Value} {t : TypeId} (h : W.heap[b]? = some (.cells #[u] t (0, 0))) : W.cell? ⟨b, 0, none⟩ = some u ∧ W.frozen? ⟨b, 0, none⟩ = false := by
  refine ⟨?_, ?_⟩ <;> simp [World.cell?, World.frozen?, h]
theorem ln_set {W : World} {b : Nat} {u : Value} {t : TypeId} (h : W.heap[b]? = some (.cells #[u] t (0, 0))) (p : Value) :
    (W.setCell ⟨b, 0, none⟩ p).heap[b]? = some (.cells #[p] t (0, 0)) ∧ W.grownBy (W.setCell ⟨b, 0, none⟩ p) (some b) := by
  refine ⟨by simp only [World.setCell, Array.getElem?_modify, if_true, h, Option.map_some]; rfl, ⟨rfl, rfl, rfl, by simp [World.setCell], fun i _ hi => ?_⟩⟩
  simp only [World.setCell, Array.getElem?_modify]
  rw [if_neg (fun e => hi (by rw [e]))]
def restL (k : Nat) : List UInt8 := if k = 0 then T8 else if k = 1 then L2 else []
def lineArr (x : List UInt8) : Array Value := #[.string ⟨x.toArray⟩]
def boxLen (b : Nat) (w : World) : Nat := match w.cell? ⟨b, 0, none⟩ with | some (.string s) => s.size | _ => 0
theorem slIdx (l : List UInt8) (k : Int) (hk : Lib.indexByte l 10 = k) (w : World) : Calls Tryz.prog 155 #[.string ⟨l.toArray⟩, .int .u8 10] w fun e w' => e = .returned (.int .i64 k) ∧ w = w' := by
  have h := Any.strings_IndexByte Tryz.ly137 ⟨l.toArray⟩ 10 w
  rw [Tryz.lyF137] at h
  subst hk
  exact h.mono fun e w' ⟨a, b⟩ => ⟨by rw [a]; simp, b.symm⟩
set_option maxHeartbeats 4000000 in
set_option maxRecDepth 100000 in
theorem lines_visits (B0 n bS : Nat) (hn : 3 ≤ n) (hB : B0 ≤ bS) (w : World) (hS : w.heap[bS]? = some (.cells #[.string ⟨T8.toArray⟩] 9 (0, 0))) :
    Visits1 Tryz.prog B0 n 9 154 #[.pointer (some ⟨bS, 0, none⟩)] lineArr KS (fun ss => ss = [L1, L2]) (fun pre x' => ∃ r, [L1, L2] = pre ++ x' :: r) w := by
  intro l J W hbw hJ hY h0
  have h1n : 1 ≤ n := by omega
  have fi : Fence.wide.fn 155 := trivial
  have zs := (Array.getElem?_eq_some_iff.1 hS).1
  have q0 := (hbw.block bS zs).trans hS
  have HJ := Lib.hid hJ
  refine callsIn_of_wp Tryz.func154 rfl trivial ?_ rfl
  simp only [Tryz.ntmps154, List.size_toArray, List.length_cons, List.length_nil, Nat.reduceAdd, Nat.reduceSub, Array.replicate_succ, Array.replicate_zero, List.push_toArray, List.append_toArray, List.nil_append, List.cons_append]
  have hj0 := h0
  clear h0 hJ
  gi_wp2_with fail
  gi_loopw [3, 4] (fun _ _ wr => ∃ k : Nat, k ≤ 2 ∧ wr.heap[bS]? = some (.cells #[.string ⟨(restL k).toArray⟩] 9 (0, 0)) ∧ J ([L1, L2].take k) wr) (fun _ _ wr => boxLen bS wr)
  case atStart => exact ⟨0, by omega, q0, hj0⟩
  case round =>
    obtain ⟨k, hk, hq, hj⟩ := hrel
    obtain ⟨c0, z0⟩ := ln_box hq
    have hk' : k = 0 ∨ k = 1 ∨ k = 2 := by omega
    rcases hk' with rfl | rfl | rfl
    · obtain ⟨S0, hS0⟩ : ∃ S0 : ByteArray, (⟨T8.toArray⟩ : ByteArray) = S0 := ⟨_, rfl⟩
      have z30 : S0.size = 30 := by rw [← hS0]; decide +kernel
      have x1 : S0.extract 0 15 = ⟨L1.toArray⟩ := by rw [← hS0]; decide +kernel
      have x2 : S0.extract 15 30 = ⟨L2.toArray⟩ := by rw [← hS0]; decide +kernel
      have hq' : wr.heap[bS]? = some (.cells #[.string S0] 9 (0, 0)) := by rw [← hS0]; exact hq
      have c0' : wr.cell? ⟨bS, 0, none⟩ = some (.string S0) := (ln_box hq').1
      have hm : boxLen bS wr = 30 := by simp only [boxLen, c0']; exact z30
      have HS0 := Lib.hid hS0
      clear c0 hq hS0
      gi_wp2_with (gi_at_call 155; rw [← HS0.out]; refine (callsIn_wide.2 (slIdx T8 14 (by decide +kernel) _)).mono ?_; rintro e w1 ⟨rfl, rfl⟩)
      gi_big_region
      obtain ⟨hq5, hg5⟩ := ln_set hq' (.string ⟨L2.toArray⟩)
      have hj5 := HJ.out.below (HJ.out _ _ _ (some bS) hj hg5 (fun b e => by cases e; exact ⟨_, hq', .inr ⟨_, _, rfl, rfl, hB⟩⟩)) (below_drew (Below.refl _ _))
      have hq6 : ((wr.setCell ⟨bS, 0, none⟩ (.string ⟨L2.toArray⟩)).drew).heap[bS]? = some (.cells #[.string ⟨L2.toArray⟩] 9 (0, 0)) := hq5
      generalize (wr.setCell ⟨bS, 0, none⟩ (.string ⟨L2.toArray⟩)).drew = W5 at hj5 hq6 ⊢
      obtain ⟨fn, tmps, assign, body, hy, hR⟩ := hY _ L1 _ hj5 ⟨[L2], rfl⟩
      dsimp only [lineArr] at hy
      clear hq5 hg5 c0' x1 x2 z30
      gi_wp2
      refine hR.mono ?_
      rintro e W6 ⟨rfl, hj6, hk6⟩
      have hq7 := hk6.2 _ _ _ hq6
      have c7 : W6.cell? ⟨bS, 0, none⟩ = some (.string ⟨L2.toArray⟩) := (ln_box hq7).1
      have hm7 : boxLen bS W6 = 15 := by simp only [boxLen, c7]; decide +kernel
      clear hy hR
      gi_wp2
      go_roundw
      case rel => exact ⟨1, by omega, hq7, hj6⟩
      case measure => rw [hm, hm7]; decide
    · obtain ⟨S0, hS0⟩ : ∃ S0 : ByteArray, (⟨L2.toArray⟩ : ByteArray) = S0 := ⟨_, rfl⟩
      have z30 : S0.size = 15 := by rw [← hS0]; decide +kernel
      have x1 : S0.extract 0 15 = ⟨L2.toArray⟩ := by rw [← hS0]; decide +kernel
      have x2 : S0.extract 15 15 = ByteArray.empty := by rw [← hS0]; decide +kernel
      have hq' : wr.heap[bS]? = some (.cells #[.string S0] 9 (0, 0)) := by rw [← hS0]; exact hq
      have c0' : wr.cell? ⟨bS, 0, none⟩ = some (.string S0) := (ln_box hq').1
      have hm : boxLen bS wr = 15 := by simp only [boxLen, c0']; exact z30
      have HS0 := Lib.hid hS0
      clear c0 hq hS0
      gi_wp2_with (gi_at_call 155; rw [← HS0.out]; refine (callsIn_wide.2 (slIdx L2 14 (by decide +kernel) _)).mono ?_; rintro e w1 ⟨rfl, rfl⟩)
      gi_big_region
      obtain ⟨hq5, hg5⟩ := ln_set hq' (.string ByteArray.empty)
      have hj5 := HJ.out.below (HJ.out _ _ _ (some bS) hj hg5 (fun b e => by cases e; exact ⟨_, hq', .inr ⟨_, _, rfl, rfl, hB⟩⟩)) (below_drew (Below.refl _ _))
      have hq6 : ((wr.setCell ⟨bS, 0, none⟩ (.string ByteArray.empty)).drew).heap[bS]? = some (.cells #[.string ByteArray.empty] 9 (0, 0)) := hq5
      generalize (wr.setCell ⟨bS, 0, none⟩ (.string ByteArray.empty)).drew = W5 at hj5 hq6 ⊢
      obtain ⟨fn, tmps, assign, body, hy, hR⟩ := hY _ L2 _ hj5 ⟨[], rfl⟩
      dsimp only [lineArr] at hy
      clear hq5 hg5 c0' x1 x2 z30
      gi_wp2
      refine hR.mono ?_
      rintro e W6 ⟨rfl, hj6, hk6⟩
      have hq7 := hk6.2 _ _ _ hq6
      have c7 : W6.cell? ⟨bS, 0, none⟩ = some (.string ByteArray.empty) := (ln_box hq7).1
      have hm7 : boxLen bS W6 = 0 := by simp only [boxLen, c7]; decide +kernel
      clear hy hR
      gi_wp2
      go_roundw
      case rel => exact ⟨2, by omega, hq7, hj6⟩
      case measure => rw [hm, hm7]; decide
    · have c2 : wr.cell? ⟨bS, 0, none⟩ = some (.string ⟨#[]⟩) := c0
      have HJE := Lib.hid (show J [L1, L2] wr from hj)
      clear c0 hj
      gi_wp2
      go_end0
      exact ⟨⟨_, rfl⟩, _, rfl, HJE.out⟩
end Go.Proofs.YtdeplhihcifmeaaGreatDoor

/- Parse of netting at the example's string. -/
namespace Go.Proofs.YtdeplhihcifmeaaGreatDoor
open Go.RowKit Go.Shelf Ck
attribute [local go_sem] Oper.semAt_some

set_option maxHeartbeats 1000000 in
set_option maxRecDepth 100000 in
theorem netLines (s : ByteArray) (w : World) : Calls Tryz.prog 128 #[.string s] w fun e w' => e = .returned (.func (.func 154) #[] #[.pointer (some ⟨w.heap.size, 0, none⟩)]) ∧ w' = w.alloc (.cells #[.string s] 9) := by
  go_enter Tryz.func128, Tryz.ntmps128
  go_wp2
  go_ret
  exact ⟨rfl, rfl⟩
/-- What Parse knows while it goes over the lines. -/
structure PsI (w : World) (B B1 B2 B3 B4 z : Nat) (pre : List (List UInt8)) (W : World) : Prop where
  r2 : Blk B (.cells #[.slice none 0 0] 22 (0, 0)) W
  r3 : Blk B1 (.cells #[.int .i64 0] 3 (0, 0)) W
  r4 : Blk B2 (.cells #[.int .i64 0] 32 (0, 0)) W
  net : ∃ v, Blk B3 (.cells #[v] 22 (0, 0)) W ∧ W.ownsRow B 24 3 v (S8.take (4 * pre.length)).length (bcellsL (S8.take (4 * pre.length)))
  at_ : Blk B4 (.cells #[.int .i64 (pre.length : Int)] 3 (0, 0)) W
  b : Below B w W
  z : z ≤ W.heap.size
theorem blk_bides {W W' : World} {r : Option Nat} {k B0 z : Nat} {cs : Array Value} {t : TypeId} {f : Nat × Nat} (h : Blk k (.cells cs t f) W) (hg : W.grownBy W' r) (hr : ∀ b, r = some b → ∃ o, W.heap[b]? = some o ∧ ((o.isCells = false ∧ z ≤ b) ∨ (∃ cs f, o = .cells cs 9 f ∧ cs.size = 1 ∧ B0 ≤ b))) (ht : t ≠ 9) : Blk k (.cells cs t f) W' := by
  have h' : W.heap[k]? = some (.cells cs t f) := h
  refine (hg.block k (Array.getElem?_eq_some_iff.1 h').1 (fun e => ?_)).trans h'
  obtain ⟨o, ho, h1⟩ := hr k e.symm
  rw [h'] at ho
  injection ho with ho
  subst ho
  rcases h1 with ⟨h1, -⟩ | ⟨cs', f', h1, -, -⟩
  · cases h1
  · injection h1 with _ h1 _
    exact ht h1
theorem psI_bides (w : World) (B B1 B2 B3 B4 z B0 : Nat) (hw : B = w.heap.size) (hB : B ≤ B0) (hBz : B ≤ z) : Bides1 B0 z 9 (PsI w B B1 B2 B3 B4 z) := by
  intro s W W' r h hg hr
  obtain ⟨v, n1, n2⟩ := h.net
  refine ⟨blk_bides h.r2 hg hr (by decide), blk_bides h.r3 hg hr (by decide), blk_bides h.r4 hg hr (by decide), ⟨v, blk_bides n1 hg hr (by decide), n2.kept hg ?_⟩, blk_bides h.at_ hg hr (by decide), h.b.grown hg (by rw [hw]; exact h.b.size) (fun b e => ?_), Nat.le_trans h.z hg.size⟩
  · rcases n2.2 with ⟨rfl, -⟩ | ⟨g, cap, cur, rfl, -, hgb, -⟩
    · exact .inl rfl
    · refine .inr fun e => ?_
      obtain ⟨o, ho, h1⟩ := hr g e.symm
      rw [hgb] at ho
      injection ho with ho
      subst ho
      rcases h1 with ⟨h1, -⟩ | ⟨cs', f', h1, -, -⟩
      · cases h1
      · injection h1 with _ h1 _
        exact absurd h1 (by decide)
  · obtain ⟨o, -, h1⟩ := hr b e
    rcases h1 with ⟨-, h1⟩ | ⟨-, -, -, -, h1⟩ <;> omega
theorem blk_gb {k B e z n : Nat} {cs : Array Value} {t : TypeId} {f : Nat × Nat} {w w' : World} {v : Value} {xs : List Value} (h : Blk k (.cells cs t f) w) (hrow : w.ownsRow B e z v n xs) (ht : t ≠ e) (hg : w.grownBy w' v.ownBlock) : Blk k (.cells cs t f) w' := by
  have h' : w.heap[k]? = some (.cells cs t f) := h
  refine (hg.block k (Array.getElem?_eq_some_iff.1 h').1 (fun e' => ?_)).trans h'
  rcases hrow.2 with ⟨rfl, -⟩ | ⟨g2, cap2, cur2, rfl, -, hgb2, -⟩
  · simp [Value.ownBlock] at e'
  · simp only [Value.ownBlock, Option.some.injEq] at e'
    subst e'
    rw [h'] at hgb2
    injection hgb2 with h1
    injection h1 with _ h2 _
    exact ht h2
theorem obj_gb {k B e z n : Nat} {o : Obj} {w w' : World} {v : Value} {xs : List Value} (h : w.heap[k]? = some o) (hrow : w.ownsRow B e z v n xs) (ht : ∀ cs f, o ≠ .cells cs e f) (hg : w.grownBy w' v.ownBlock) : w'.heap[k]? = some o := by
  refine (hg.block k (Array.getElem?_eq_some_iff.1 h).1 (fun e' => ?_)).trans h
  rcases hrow.2 with ⟨rfl, -⟩ | ⟨g2, cap2, cur2, rfl, -, hgb2, -⟩
  · simp [Value.ownBlock] at e'
  · simp only [Value.ownBlock, Option.some.injEq] at e'
    subst e'
    rw [h] at hgb2
    injection hgb2 with h1
    exact ht _ _ h1
theorem obj_set {k b : Nat} {o : Obj} {w : World} {u p : Value} {t : TypeId} (h : w.heap[k]? = some o) (hb : Blk b (.cells #[u] t (0, 0)) w) (ht : ∀ cs f, o ≠ .cells cs t f) : (w.setCell ⟨b, 0, none⟩ p).heap[k]? = some o := by
  refine ((ln_set hb p).2.block k (Array.getElem?_eq_some_iff.1 h).1 (fun e => ?_)).trans h
  have hb' : w.heap[b]? = some (.cells #[u] t (0, 0)) := hb
  injection e with e
  subst e
  rw [hb'] at h
  injection h with h
  exact ht _ _ h.symm
theorem row_set {b B e z n : Nat} {w : World} {u p v : Value} {t : TypeId} {xs : List Value} (h : w.ownsRow B e z v n xs) (hb : Blk b (.cells #[u] t (0, 0)) w) (ht : t ≠ e) : (w.setCell ⟨b, 0, none⟩ p).ownsRow B e z v n xs := by
  refine h.kept (ln_set hb p).2 ?_
  rcases h.2 with ⟨rfl, -⟩ | ⟨g2, cap2, cur2, rfl, -, hgb2, -⟩
  · exact .inl rfl
  · refine .inr fun e' => ?_
    have hb' : w.heap[b]? = some (.cells #[u] t (0, 0)) := hb
    simp only [Value.ownBlock, Option.some.injEq] at e'
    subst e'
    rw [hb'] at hgb2
    injection hgb2 with h1
    injection h1 with _ h2 _
    exact ht h2
theorem boxes5 (w : World) : ∃ W, W = ((((w.alloc (.cells #[.slice none 0 0] 22)).alloc (.cells #[.int .i64 0] 3)).alloc (.cells #[.int .i64 0] 32)).alloc (.cells #[.slice none 0 0] 22)).alloc (.cells #[.int .i64 0] 3) ∧ PsI w w.heap.size (w.heap.size + 1) (w.heap.size + 1 + 1) (w.heap.size + 1 + 1 + 1) (w.heap.size + 1 + 1 + 1 + 1) W.heap.size [] W ∧ W.heap.size = w.heap.size + 5 := by
  obtain ⟨w1, h1, k1, b1, -⟩ := boxO w (.cells #[.slice none 0 0] 22)
  obtain ⟨w2, h2, k2, b2, -⟩ := boxO w1 (.cells #[.int .i64 0] 3)
  obtain ⟨w3, h3, k3, b3, -⟩ := boxO w2 (.cells #[.int .i64 0] 32)
  obtain ⟨w4, h4, k4, b4, -⟩ := boxO w3 (.cells #[.slice none 0 0] 22)
  obtain ⟨w5, h5, k5, b5, -⟩ := boxO w4 (.cells #[.int .i64 0] 3)
  have s1 : w1.heap.size = w.heap.size + 1 := by rw [← h1]; simp
  have s2 : w2.heap.size = w.heap.size + 2 := by rw [← h2]; simp; omega
  have s3 : w3.heap.size = w.heap.size + 3 := by rw [← h3]; simp; omega
  have s4 : w4.heap.size = w.heap.size + 4 := by rw [← h4]; simp; omega
  have s5 : w5.heap.size = w.heap.size + 5 := by rw [← h5]; simp; omega
  rw [s1] at k2
  rw [s2] at k3
  rw [s3] at k4
  rw [s4] at k5
  have c2 := b2.trans (b3.mono (by omega))
  have c3 := c2.trans (b4.mono (by omega))
  have c4 := c3.trans (b5.mono (by omega))
  have d3 := (b3.trans (b4.mono (by omega))).trans (b5.mono (by omega))
  have d4 := b4.trans (b5.mono (by omega))
  refine ⟨w5, by rw [← h5, ← h4, ← h3, ← h2, ← h1], ⟨Blk.below k1 c4, Blk.below k2 d3, Blk.below k3 d4, ⟨_, Blk.below k4 b5, ⟨rfl, .inl ⟨rfl, rfl⟩⟩⟩, k5, b1.trans (c4.mono (by omega)), Nat.le_refl _⟩, s5⟩
theorem set_ne {k b : Nat} {w : World} {u p : Value} {t : TypeId} {o : Obj} (h : w.heap[k]? = some o) (hb : Blk b (.cells #[u] t (0, 0)) w) (hn : k ≠ b) : (w.setCell ⟨b, 0, none⟩ p).heap[k]? = some o :=
  ((ln_set hb p).2.block k (Array.getElem?_eq_some_iff.1 h).1 (fun e => by injection e with e; exact hn e)).trans h
theorem ps_round {w Wb w2 w3 : World} {B B1 B2 B3 B4 z k n N3 : Nat} {g3 cap3 : Nat} {pre : List (List UInt8)} (q : List UInt8) {v : Value} {xs : List Value}
    (hBe : w.heap.size = B) (h1 : B + 1 = B1) (h2 : B1 + 1 = B2) (h3 : B2 + 1 = B3) (h4 : B3 + 1 = B4) (hk : pre.length = k)
    (HI : PsI w B B1 B2 B3 B4 z pre Wb) (HB2 : Below Wb.heap.size Wb w2) (HO2 : w2.ownsRow B 24 3 v n xs) (HG3 : w2.grownBy w3 v.ownBlock)
    (HN3 : (S8.take (4 * (k + 1))).length = N3) (HR3 : w3.ownsRow B 24 3 (.slice (some ⟨g3, 0, none⟩) N3 cap3) N3 (bcellsL (S8.take (4 * (k + 1)))))
    (HQ3 : Blk B3 (.cells #[v] 22 (0, 0)) w3) (HQ4 : Blk B4 (.cells #[.int .i64 (k : Int)] 3 (0, 0)) w3)
    (HBK : (∃ o, Wb.heap[z]? = some o ∧ o.isCells = false) ∧ ∃ o, Wb.heap[z + 1]? = some o ∧ o.isCells = false) :
    ∃ W5, W5 = (w3.setCell ⟨B3, 0, none⟩ (.slice (some ⟨g3, 0, none⟩) N3 cap3)).setCell ⟨B4, 0, none⟩ (.int .i64 ((k : Int) + 1)) ∧ Book z Wb W5 ∧ KS Wb W5 ∧ PsI w B B1 B2 B3 B4 z (pre ++ [q]) W5 := by
  obtain ⟨p3, hp3⟩ : ∃ p3, Value.slice (some ⟨g3, 0, none⟩) N3 cap3 = p3 := ⟨_, rfl⟩
  rw [hp3] at HR3 ⊢
  have q3 : Blk B3 (.cells #[p3] 22 (0, 0)) (w3.setCell ⟨B3, 0, none⟩ p3) := (ln_set HQ3 p3).1
  have q4 : Blk B4 (.cells #[.int .i64 (k : Int)] 3 (0, 0)) (w3.setCell ⟨B3, 0, none⟩ p3) := set_ne HQ4 HQ3 (by omega)
  have q5 := (ln_set q4 (.int .i64 ((k : Int) + 1))).1
  have sz2 := HB2.size
  have sz3 := HG3.size
  have sz4 := (ln_set HQ3 p3).2.size
  have sz5 := (ln_set q4 (.int .i64 ((k : Int) + 1))).2.size
  have szb := HI.b.size
  have far : ∀ {i : Nat} {o : Obj}, Wb.heap[i]? = some o → (∀ cs f, o ≠ .cells cs 24 f) → w3.heap[i]? = some o := fun h ht =>
    obj_gb ((HB2.block _ (Array.getElem?_eq_some_iff.1 h).1).trans h) HO2 ht HG3
  have far2 : ∀ {i : Nat} {o : Obj}, Wb.heap[i]? = some o → (∀ cs f, o ≠ .cells cs 24 f) → i ≠ B3 → i ≠ B4 → ((w3.setCell ⟨B3, 0, none⟩ p3).setCell ⟨B4, 0, none⟩ (.int .i64 ((k : Int) + 1))).heap[i]? = some o := fun h ht n3 n4 =>
    set_ne (set_ne (far h ht) HQ3 n3) q4 n4
  have far3 : ∀ {i : Nat} {o : Obj}, Wb.heap[i]? = some o → (∀ cs f, o ≠ .cells cs 24 f) → (∀ cs f, o ≠ .cells cs 22 f) → (∀ cs f, o ≠ .cells cs 3 f) → ((w3.setCell ⟨B3, 0, none⟩ p3).setCell ⟨B4, 0, none⟩ (.int .i64 ((k : Int) + 1))).heap[i]? = some o := fun h ht t3 t4 =>
    obj_set (obj_set (far h ht) HQ3 t3) q4 t4
  have nc : ∀ {o : Obj} {t : TypeId}, o.isCells = false → ∀ cs f, o ≠ .cells cs t f := fun h cs f e => by rw [e] at h; cases h
  obtain ⟨⟨o0, a0, c0⟩, ⟨o1, a1, c1⟩⟩ := HBK
  refine ⟨_, rfl, ⟨(far3 a0 (nc c0) (nc c0) (nc c0)).trans a0.symm, (far3 a1 (nc c1) (nc c1) (nc c1)).trans a1.symm, by omega⟩, ⟨by omega, fun b s f e => ?_⟩, ?_⟩
  · exact far3 e (fun cs f h => by injection h with _ h _; exact absurd h (by decide)) (fun cs f h => by injection h with _ h _; exact absurd h (by decide)) (fun cs f h => by injection h with _ h _; exact absurd h (by decide))
  have hlen : (pre ++ [q]).length = k + 1 := by rw [List.length_append, hk]; rfl
  refine ⟨?_, ?_, ?_, ⟨p3, set_ne q3 q4 (by omega), ?_⟩, ?_, ?_, ?_⟩
  · exact far2 HI.r2 (fun cs f h => by injection h with _ h _; exact absurd h (by decide)) (by omega) (by omega)
  · exact far2 HI.r3 (fun cs f h => by injection h with _ h _; exact absurd h (by decide)) (by omega) (by omega)
  · exact far2 HI.r4 (fun cs f h => by injection h with _ h _; exact absurd h (by decide)) (by omega) (by omega)
  · rw [hlen, HN3]
    exact row_set (row_set HR3 HQ3 (by decide)) q4 (by decide)
  · rw [hlen]
    have : ((k + 1 : Nat) : Int) = (k : Int) + 1 := by omega
    rw [this]
    exact q5
  · have b2 : Below B w w2 := HI.b.trans (HB2.mono (by omega))
    have b3 : Below B w w3 := b2.grown HG3 (by omega) (fun j e => (HO2.lt j e).1)
    have b4 := b3.grown (ln_set HQ3 p3).2 (by omega) (fun j e => by injection e with e; omega)
    exact b4.grown (ln_set q4 (.int .i64 ((k : Int) + 1))).2 (by omega) (fun j e => by injection e with e; omega)
  · have := HI.z
    omega
theorem ps_done {w W : World} {B B1 B2 D : Nat} {v : Value}
    (hBe : w.heap.size = B) (h1 : B + 1 = B1) (h2 : B1 + 1 = B2) (hz : B2 < D)
    (b2 : Blk B (.cells #[.slice none 0 0] 22 (0, 0)) W) (b3 : Blk B1 (.cells #[.int .i64 0] 3 (0, 0)) W) (b4 : Blk B2 (.cells #[.int .i64 0] 32 (0, 0)) W)
    (hb : Below B w W) (hrow : W.ownsRow B 24 3 v S8.length (bcellsL S8)) (hK : W.heap[D]? = some (.deferred (some []))) :
    ∃ W5, W5 = ((W.setCell ⟨B, 0, none⟩ v).setCell ⟨B1, 0, none⟩ (.int .i64 0)).setCell ⟨B2, 0, none⟩ (.int .i64 0) ∧ Blk B (.cells #[v] 22 (0, 0)) W5 ∧ Blk B1 (.cells #[.int .i64 0] 3 (0, 0)) W5 ∧ Blk B2 (.cells #[.int .i64 0] 32 (0, 0)) W5
      ∧ W5.heap[D]? = some (.deferred (some [])) ∧ W5.ownsRow B 24 3 v S8.length (bcellsL S8) ∧ Below B w W5 := by
  have x2 := (ln_set b2 v).1
  have x3 := set_ne (p := v) b3 b2 (by omega)
  have x4 := set_ne (p := v) b4 b2 (by omega)
  have xK := set_ne (p := v) hK b2 (by omega)
  have xr := row_set (p := v) hrow b2 (by decide)
  have xs := (ln_set b2 v).2
  generalize W.setCell ⟨B, 0, none⟩ v = W1 at *
  have y2 := set_ne (p := .int .i64 0) x2 x3 (by omega)
  have y3 := (ln_set x3 (.int .i64 0)).1
  have y4 := set_ne (p := .int .i64 0) x4 x3 (by omega)
  have yK := set_ne (p := .int .i64 0) xK x3 (by omega)
  have yr := row_set (p := .int .i64 0) xr x3 (by decide)
  have ys := (ln_set x3 (.int .i64 0)).2
  generalize W1.setCell ⟨B1, 0, none⟩ (.int .i64 0) = W2 at *
  have z2 := set_ne (p := .int .i64 0) y2 y4 (by omega)
  have z3 := set_ne (p := .int .i64 0) y3 y4 (by omega)
  have z4 := (ln_set y4 (.int .i64 0)).1
  have zK := set_ne (p := .int .i64 0) yK y4 (by omega)
  have zr := row_set (p := .int .i64 0) yr y4 (by decide)
  have zs := (ln_set y4 (.int .i64 0)).2
  have s0 := hb.size
  have s1 := xs.size
  have s2 := ys.size
  exact ⟨_, rfl, z2, z3, z4, zK, zr, ((hb.grown xs (by omega) (fun j e => by injection e with e; omega)).grown ys (by omega) (fun j e => by injection e with e; omega)).grown zs (by omega) (fun j e => by injection e with e; omega)⟩
set_option maxHeartbeats 8000000 in
set_option maxRecDepth 100000 in
theorem netParse8 (w : World) (hL : LaidLen w) : Calls Tryz.prog 78 #[.string ⟨T8.toArray⟩] w fun e w' => ∃ a c, e = .returned (.tuple #[.slice a S8.length c, .int .i64 0, .int .i64 0]) ∧ OKS w' a c S8 ∧ Below w.heap.size w w' := by
  obtain ⟨S0, hS0⟩ : ∃ S0 : ByteArray, (⟨T8.toArray⟩ : ByteArray) = S0 := ⟨_, rfl⟩
  have z30 : S0.size = 30 := by rw [← hS0]; decide +kernel
  have HS0 := Lib.hid hS0
  rw [hS0]
  clear hS0
  refine (callsIn_wide (n := 6)).1 (callsIn_of_wp_marks Tryz.func78 rfl trivial (wpIn_wide.2 ?_) rfl)
  simp only [Tryz.ntmps78, List.size_toArray, List.length_cons, List.length_nil, Nat.reduceAdd, Nat.reduceSub, Array.replicate_succ, Array.replicate_zero, List.push_toArray, List.append_toArray, List.nil_append, List.cons_append]
  obtain ⟨W0, hW0, HI0, hz0⟩ := boxes5 w
  have HW0 := Lib.hid hW0
  clear hW0
  go_wp2_with fail
  rw [← HW0.out]
  refine (netLines S0 _).mono ?_
  rintro e w1 ⟨rfl, hw1⟩
  have hq1 : w1.heap[W0.heap.size]? = some (.cells #[.string S0] 9 (0, 0)) := by rw [hw1]; exact heap_alloc_new _ _
  have hb1 : Below W0.heap.size W0 w1 := by rw [hw1]; exact (Below.refl _ _).alloc (Nat.le_refl _) _
  have hz1 : w1.heap.size = w.heap.size + 6 := by rw [hw1]; simp; omega
  obtain ⟨B, hBe⟩ : ∃ B, w.heap.size = B := ⟨_, rfl⟩
  obtain ⟨B1, hB1⟩ : ∃ B1, B + 1 = B1 := ⟨_, rfl⟩
  obtain ⟨B2, hB2⟩ : ∃ B2, B1 + 1 = B2 := ⟨_, rfl⟩
  obtain ⟨B3, hB3⟩ : ∃ B3, B2 + 1 = B3 := ⟨_, rfl⟩
  obtain ⟨B4, hB4⟩ : ∃ B4, B3 + 1 = B4 := ⟨_, rfl⟩
  obtain ⟨bS, hbS⟩ : ∃ bS, W0.heap.size = bS := ⟨_, rfl⟩
  rw [hBe, hB1, hB2, hB3, hB4] at HI0
  have HI1 : Hid (PsI w B B1 B2 B3 B4 w1.heap.size [] w1) := Lib.hid ⟨HI0.r2.below hb1, HI0.r3.below hb1, HI0.r4.below hb1, (by obtain ⟨v, h1, h2⟩ := HI0.net; exact ⟨v, h1.below hb1, ownsRow_below h2 hb1⟩), HI0.at_.below hb1, HI0.b.trans (hb1.mono (by omega)), Nat.le_refl _⟩
  have hbd := psI_bides w B B1 B2 B3 B4 w1.heap.size bS hBe.symm (by omega) (by omega)
  have hvis := lines_visits bS 4 bS (by omega) (Nat.le_refl _) w1 (by rw [← hbS, HS0.out]; exact hq1)
  have HLW := Lib.hid hL
  obtain rfl : bS = B + 5 := by omega
  clear hw1 HI0 hb1
  go_wp2_with fail
  refine (wpIn_wide (n := 5)).1 ?_
  generalize hA0 : (Act.mk _ _) = A0
  refine wpIn_visits1 (n := 5) (by omega) (gf := 154) (lb := #[.pointer (some ⟨B + 5, 0, none⟩)]) (by rw [← hA0]; rfl) ?eg hvis KS.trans (KS.put (w := w1)) (fun _ => rfl) (PsI w B B1 B2 B3 B4 w1.heap.size) hbd HI1.out ?round ?done
  case eg => exact fun _ _ => by kernel_rfl
  case round =>
    rintro l pre q W hz hI ⟨r, hr⟩
    have hcase : (pre = [] ∧ q = L1) ∨ (pre = [L1] ∧ q = L2) := by
      rcases pre with _ | ⟨p, _ | ⟨p', pre⟩⟩
      · simp at hr; exact .inl ⟨rfl, hr.1.symm⟩
      · simp at hr; exact .inr ⟨by rw [hr.1], hr.2.1.symm⟩
      · simp at hr
    obtain ⟨k, y, ws, hk, hline, hnext, hnet, hfirst⟩ : ∃ (k y : Nat) (ws : List (Nat × Int)), pre.length = k ∧ LineIs q y ws ∧ S8.take (4 * (k + 1)) = S8.take (4 * k) ++ ws.map (barW y) ∧ Net (S8.take (4 * k) ++ ws.map (barW y)) ∧ (∀ n p, (S8.take (4 * k)).length = n + 1 → (S8.take (4 * k))[n]? = some p → ∀ b, (ws.map (barW y))[0]? = some b → p.y < b.y) := by
      rcases hcase with ⟨rfl, rfl⟩ | ⟨rfl, rfl⟩
      · exact ⟨0, 0, W1, rfl, L1_is, by decide +kernel, net_of (by decide +kernel), fun n p h => by simp at h⟩
      · refine ⟨1, 1, W2, rfl, L2_is, by decide +kernel, net_of (by decide +kernel), fun n p h1 h2 b h3 => ?_⟩
        have : n = 3 := by simp [S8] at h1; omega
        subst this
        simp [S8] at h2
        simp [W2, barW] at h3
        subst h2 h3
        decide
    obtain ⟨m, hm⟩ : ∃ m, ws.map (barW y) = m := ⟨_, rfl⟩
    rw [hm] at hnext hnet hfirst
    have HMM := Lib.hid hm
    have hml : m.length = ws.length := by rw [← hm, List.length_map]
    have HML := Lib.hid hml
    clear hm hml
    subst hA0
    dsimp only [lineArr]
    gi_wp2
    refine ⟨Book.below hz (Below.refl _ _), KS.of_below (Below.refl _ _), fun Wb hg hobj hbk => ?_⟩
    have hIb := hbd _ _ _ _ hI hg (fun b e => by cases e; obtain ⟨o, ho, hc⟩ := hobj; exact ⟨o, ho, .inl ⟨hc, by omega⟩⟩)
    have hLb := HLW.out.below hIb.b (by rw [← hBe]; exact HLW.out.lt)
    obtain ⟨v, n1, n2⟩ := hIb.net
    rw [hk] at n2
    have HLN := Lib.hid hline
    have HNX := Lib.hid hnext
    have HNT := Lib.hid hnet
    have HFI := Lib.hid hfirst
    have HIB := Lib.hid hIb
    have HN1 := Lib.hid n1
    have HN2 := Lib.hid n2
    have HBK := Lib.hid hbk
    have HLB := Lib.hid hLb
    have HAT := Lib.hid (show Blk B4 (.cells #[.int .i64 (k : Int)] 3 (0, 0)) Wb by rw [← hk]; exact hIb.at_)
    clear hline hnext hnet hfirst hIb n1 n2 hbk hLb hI hg hobj hcase hr
    have g1 : Fence.wide.fn 129 := trivial
    have g2 : Fence.wide.fn 130 := trivial
    have f1 : (Fence.wide.inRound l).fn 129 := trivial
    have f2 : (Fence.wide.inRound l).fn 130 := trivial
    have ex0 : ∀ (a b : Value) (w : World), (Instr.extract (.tuple #[a, b]) 0).run Tryz.prog w = .ok a w := fun _ _ _ => by kernel_rfl
    have ex1 : ∀ (a b : Value) (w : World), (Instr.extract (.tuple #[a, b]) 1).run Tryz.prog w = .ok b w := fun _ _ _ => by kernel_rfl
    gi_wp2_with (gi_at_call 129; refine (CallsIn.inRound l (callsIn_wide.2 (netReadLine q y ws _ HLN.out HLB.out))).mono ?_; rintro e w2 ⟨v2, rfl, hr2, hb2⟩; rw [HMM.out] at hr2; have hwl : 0 < m.length := (by rw [HML.out]; exact HLN.out.some); obtain ⟨gl, cl, rfl, hgl, -, -, hglz⟩ := own_form hr2 hwl; have c3 := (ln_box (HN1.out.below hb2)).1)
    have hk1 : 4 * k + m.length ≤ 4096 := by
      have := HNX.out
      have h1 := congrArg List.length this
      rw [List.length_append, List.length_take, List.length_take] at h1
      simp [S8] at h1
      omega
    have HO2 := Lib.hid (ownsRow_below HN2.out hb2)
    have hLine : LineAt gl m w2 := by
      refine ⟨hglz, fun i hi => ?_⟩
      obtain ⟨b, off, e, -, hc⟩ := RB.of_own hr2 hwl
      simp only [Option.some.injEq, Addr.mk.injEq] at e
      obtain ⟨rfl, rfl, -⟩ := e
      have := hc i hi
      simpa using this
    have hne : v.ownBlock ≠ some gl := fun e => by
      rcases HN2.out.2 with ⟨rfl, -⟩ | ⟨g2, cap2, cur2, rfl, -, hgb2, -⟩
      · simp [Value.ownBlock] at e
      · simp only [Value.ownBlock, Option.some.injEq] at e
        have := (Array.getElem?_eq_some_iff.1 hgb2).1
        omega
    have hBz : B ≤ w2.heap.size := by have := HIB.out.b.size; have := hb2.size; omega
    refine (CallsIn.inRound l (callsIn_wide.2 (netWithLine B gl cl v (S8.take (4 * k)) m w2 HNT.out (by rw [List.length_append, List.length_take]; omega) HFI.out HO2.out hBz hLine hne))).mono ?_
    rintro e w3 ⟨v3, rfl, hr3, hv3, hg3⟩
    rw [← HNX.out] at hr3
    have hpos : 0 < (S8.take (4 * (k + 1))).length := by rw [HNX.out, List.length_append]; omega
    obtain ⟨g3, cap3, rfl, -⟩ := own_form hr3 hpos
    obtain ⟨N3, hN3⟩ : ∃ N3, (S8.take (4 * (k + 1))).length = N3 := ⟨_, rfl⟩
    rw [hN3] at hr3 ⊢
    have HN3 := Lib.hid hN3
    clear hN3
    have q3 := blk_gb (HN1.out.below hb2) HO2.out (by decide) hg3
    have q4 := blk_gb (HAT.out.below hb2) HO2.out (by decide) hg3
    obtain ⟨c30, c31⟩ := ln_box q3
    obtain ⟨c40, c41⟩ := ln_box q4
    have hwk : IntKind.i64.wrap ((k : Int) + 1) = (k : Int) + 1 := by rw [IntKind.wrap_i64]; omega
    have HR3 := Lib.hid hr3
    have HG3 := Lib.hid hg3
    have HQ3 := Lib.hid q3
    have HQ4 := Lib.hid q4
    have HB2 := Lib.hid hb2
    clear hr3 hg3 q3 q4 hb2 hr2 hv3 hLine hne c3
    gi_wp2
    obtain ⟨W5, hW5, k1, k2, k3⟩ := ps_round q hBe hB1 hB2 hB3 hB4 hk HIB.out HB2.out HO2.out HG3.out HN3.out HR3.out HQ3.out HQ4.out HBK.out
    rw [← hW5]
    exact ⟨k1, k2, k3⟩
  case done =>
    subst hA0
    intro D ys W hD hS hI hK
    subst hS
    obtain ⟨v, n1, n2⟩ := hI.net
    obtain ⟨v', c', hv', -⟩ := own_oks (l := S8) n2
    obtain ⟨c30, c31⟩ := ln_box n1
    obtain ⟨c20, c21⟩ := ln_box hI.r2
    obtain ⟨c10, c11⟩ := ln_box hI.r3
    obtain ⟨c00, c01⟩ := ln_box hI.r4
    go_wp2
    have n3 : W.ownsRow B 24 3 v S8.length (bcellsL S8) := n2
    subst hv'
    obtain ⟨W5, hW5, x2, x3, x4, xK, xr, xb⟩ := ps_done hBe hB1 hB2 (by omega) hI.r2 hI.r3 hI.r4 hI.b n3 hK
    rw [← hW5]
    refine ⟨by simp, .inl ⟨_, _, rfl, run_takeDeferred xK, ?_⟩⟩
    have hm : ∀ (i : Nat) (cs : Array Value) (t : TypeId), Blk i (.cells cs t (0, 0)) W5 → i ≠ D := fun i cs t h e => by
      subst e
      have h' : W5.heap[i]? = some (.cells cs t (0, 0)) := h
      rw [xK] at h'
      cases h'
    obtain ⟨W6, hW6⟩ : ∃ W6, W6 = W5.putObj D (.deferred none) := ⟨_, rfl⟩
    have z2 := (ln_box ((World.putObj_heap_other (o := .deferred none) (hm _ _ _ x2)).trans x2)).1
    have z3 := (ln_box ((World.putObj_heap_other (o := .deferred none) (hm _ _ _ x3)).trans x3)).1
    have z4 := (ln_box ((World.putObj_heap_other (o := .deferred none) (hm _ _ _ x4)).trans x4)).1
    refine ⟨.tuple #[.slice v' S8.length c', .int .i64 0, .int .i64 0], ?_, v', c', rfl, ?_, ?_⟩
    · simp [results, Tryz.results78, z2, z3, z4, go_sem]
    · obtain ⟨a6, c6, e6, h6⟩ := own_oks (l := S8) (ownsRow_putObj xr (.deferred none) xK rfl)
      injection e6 with e1 _ e2
      subst e1 e2
      exact h6
    · rw [hBe]
      exact xb.grown (grownBy_putObj' W5 D _) (by have := xb.size; omega) (fun j e => by injection e with e; omega)
end Go.Proofs.YtdeplhihcifmeaaGreatDoor

/- awake of chapter 1 returns true. -/
namespace Go.Proofs.YtdeplhihcifmeaaGreatDoor
open Go.RowKit Go.Shelf Ck

theorem awPrintL (a : Option Addr) (c : Nat) (w : World) (h : OKS w a c S8) : Calls Tryz.prog 77 #[.slice a S8.length c] w fun e w' => e = .returned (.tuple #[.string ⟨#[48, 58, 32, 48, 47, 32, 50, 92, 32, 50, 47, 32, 52, 92, 10, 49, 58, 32, 49, 92, 32, 49, 47, 32, 51, 92, 32, 51, 47, 10]⟩, .int .i64 0]) ∧ Below w.heap.size w w' := awPrint a c w h
theorem parseLit (w : World) (hL : LaidLen w) : Calls Tryz.prog 78 #[.string ⟨#[48, 58, 32, 48, 47, 32, 50, 92, 32, 50, 47, 32, 52, 92, 10, 49, 58, 32, 49, 92, 32, 49, 47, 32, 51, 92, 32, 51, 47, 10]⟩] w fun e w' => ∃ a c, e = .returned (.tuple #[.slice a S8.length c, .int .i64 0, .int .i64 0]) ∧ OKS w' a c S8 ∧ Below w.heap.size w w' := netParse8 w hL
theorem ri_new (w : World) : RI (w.alloc (.cells #[.int .i64 0, .int .i64 2, .int .i64 1] 3)) (w.alloc (.cells #[.int .i64 0, .int .i64 2, .int .i64 1] 3)).heap.size (some ⟨w.heap.size, 0, none⟩) [0, 2, 1] := fun _ => ⟨w.heap.size, 0, rfl, by simp, fun i hi => by
  have h3 : i = 0 ∨ i = 1 ∨ i = 2 := by simp at hi; omega
  have key : ∀ W : World, W.heap[w.heap.size]? = some (.cells #[.int .i64 0, .int .i64 2, .int .i64 1] 3 (0, 0)) → W.cell? ⟨w.heap.size, 0 + i, none⟩ = some (.int .i64 ([0, 2, 1][i] : Nat)) := fun W hn => by
    rcases h3 with rfl | rfl | rfl <;> simp [World.cell?, hn]
  exact key _ (heap_alloc_new _ _)⟩
set_option maxHeartbeats 16000000 in
set_option maxRecDepth 100000 in
theorem awake1 (w : World) (hL : LaidLen w) : Calls Tryz.prog 15 #[] w fun e w' => e = .returned (.bool true) ∧ Below w.heap.size w w' := by
  have ex0 : ∀ (a b : Value) (w : World), (Instr.extract (.tuple #[a, b]) 0).run Tryz.prog w = .ok a w := fun _ _ _ => by kernel_rfl
  have ex1 : ∀ (a b : Value) (w : World), (Instr.extract (.tuple #[a, b]) 1).run Tryz.prog w = .ok b w := fun _ _ _ => by kernel_rfl
  have ey0 : ∀ (a b c : Value) (w : World), (Instr.extract (.tuple #[a, b, c]) 0).run Tryz.prog w = .ok a w := fun _ _ _ _ => by kernel_rfl
  have ey1 : ∀ (a b c : Value) (w : World), (Instr.extract (.tuple #[a, b, c]) 1).run Tryz.prog w = .ok b w := fun _ _ _ _ => by kernel_rfl
  have ey2 : ∀ (a b c : Value) (w : World), (Instr.extract (.tuple #[a, b, c]) 2).run Tryz.prog w = .ok c w := fun _ _ _ _ => by kernel_rfl
  have g5 := guardFive
  have gm := guardMesh
  have gc := guardCounts
  have q5 := eqFive 0 4 2 0 2
  have qm := eqMesh 2 1
  have qc := eqCountsSame 8 8 1 1 0
  have qd := eqCountsSame 12 12 0 1 1
  have HLL := Lib.hid hL
  have BW := Below.refl w.heap.size w
  clear hL
  go_enter Tryz.func15, Tryz.ntmps15
  go_wp2_with fail
  refine (awSheet22 _).mono ?_
  rintro e w1 ⟨a1, c1, rfl, k1, hb1⟩
  replace BW := BW.trans (hb1.mono BW.size)
  clear hb1
  have K1 := Lib.hid k1
  clear k1
  go_wp2_with fail
  refine (awSmall _).mono ?_
  rintro e w2 ⟨as2, cs2, rfl, ks2, hb2⟩
  replace K1 := Lib.hid (K1.out.below hb2)
  replace BW := BW.trans (hb2.mono BW.size)
  clear hb2
  have KS2 := Lib.hid ks2
  clear ks2
  go_wp2_with fail
  refine (awKnots _ _ _ KS2.out).mono ?_
  rintro e w3 ⟨a2, c2, rfl, hb3⟩
  replace K1 := Lib.hid (K1.out.below hb3)
  replace KS2 := Lib.hid (KS2.out.below hb3)
  replace BW := BW.trans (hb3.mono BW.size)
  clear hb3
  clear KS2
  go_wp2_with fail
  refine (awSmall _).mono ?_
  rintro e w4 ⟨as3, cs3, rfl, ks3, hb4⟩
  replace K1 := Lib.hid (K1.out.below hb4)
  replace BW := BW.trans (hb4.mono BW.size)
  clear hb4
  have KS3 := Lib.hid ks3
  clear ks3
  go_wp2_with fail
  refine (awLegs _ _ _ KS3.out).mono ?_
  rintro e w5 ⟨rfl, hb5⟩
  replace K1 := Lib.hid (K1.out.below hb5)
  replace KS3 := Lib.hid (KS3.out.below hb5)
  replace BW := BW.trans (hb5.mono BW.size)
  clear hb5
  clear KS3
  obtain ⟨w6, hw6, qQL, hb6, hz6⟩ := boxO w5 (.cells #[.int .i64 0, .int .i64 4, .int .i64 2, .int .i64 0, .int .i64 2] 67)
  obtain ⟨bL, hbL⟩ : ∃ b, w5.heap.size = b := ⟨_, rfl⟩
  have HW6 := Lib.hid hw6
  have HB6 := Lib.hid hbL
  replace K1 := Lib.hid (K1.out.below hb6)
  replace BW := BW.trans (hb6.mono BW.size)
  rw [hbL] at qQL
  have QL : Hid (Blk bL _ w6) := Lib.hid qQL
  clear qQL hb6 hz6 hw6 hbL
  go_wp2_with fail
  rw [HW6.out]
  simp only [HB6.out]
  refine (awSmall _).mono ?_
  rintro e w7 ⟨as4, cs4, rfl, ks4, hb7⟩
  replace K1 := Lib.hid (K1.out.below hb7)
  replace QL := Lib.hid (QL.out.below hb7)
  replace BW := BW.trans (hb7.mono BW.size)
  clear hb7
  have KS4 := Lib.hid ks4
  clear ks4
  go_wp2_with fail
  refine (awMeshes _ _ _ KS4.out).mono ?_
  rintro e w8 ⟨gm4, cm4, rfl, mz, m0, m1, hb8⟩
  replace K1 := Lib.hid (K1.out.below hb8)
  replace QL := Lib.hid (QL.out.below hb8)
  replace KS4 := Lib.hid (KS4.out.below hb8)
  replace BW := BW.trans (hb8.mono BW.size)
  clear hb8
  have MM : Hid (MeshAt gm4 w8) := Lib.hid ⟨mz, m0, m1⟩
  clear mz m0 m1
  clear KS4
  go_wp2_with fail
  refine (awSmall _).mono ?_
  rintro e w9 ⟨as5, cs5, rfl, ks5, hb9⟩
  replace K1 := Lib.hid (K1.out.below hb9)
  replace QL := Lib.hid (QL.out.below hb9)
  replace MM := Lib.hid (MM.out.below hb9)
  replace BW := BW.trans (hb9.mono BW.size)
  clear hb9
  have KS5 := Lib.hid ks5
  clear ks5
  go_wp2_with fail
  refine (awPrintL _ _ _ KS5.out).mono ?_
  rintro e w10 ⟨rfl, hb10⟩
  replace K1 := Lib.hid (K1.out.below hb10)
  replace QL := Lib.hid (QL.out.below hb10)
  replace MM := Lib.hid (MM.out.below hb10)
  replace KS5 := Lib.hid (KS5.out.below hb10)
  replace BW := BW.trans (hb10.mono BW.size)
  clear hb10
  clear KS5
  go_wp2_with fail
  refine (parseLit _ (HLL.out.below BW HLL.out.lt)).mono ?_
  rintro e w11 ⟨a6, c6, rfl, k6, hb11⟩
  replace K1 := Lib.hid (K1.out.below hb11)
  replace QL := Lib.hid (QL.out.below hb11)
  replace MM := Lib.hid (MM.out.below hb11)
  replace BW := BW.trans (hb11.mono BW.size)
  clear hb11
  have K6 := Lib.hid k6
  clear k6
  go_wp2_with fail
  refine (awSmall _).mono ?_
  rintro e w12 ⟨as7, cs7, rfl, ks7, hb12⟩
  replace K1 := Lib.hid (K1.out.below hb12)
  replace QL := Lib.hid (QL.out.below hb12)
  replace MM := Lib.hid (MM.out.below hb12)
  replace K6 := Lib.hid (K6.out.below hb12)
  replace BW := BW.trans (hb12.mono BW.size)
  clear hb12
  have KS7 := Lib.hid ks7
  clear ks7
  go_wp2_with fail
  refine (awCount8 _ _ _ KS7.out).mono ?_
  rintro e w13 ⟨rfl, hb13⟩
  replace K1 := Lib.hid (K1.out.below hb13)
  replace QL := Lib.hid (QL.out.below hb13)
  replace MM := Lib.hid (MM.out.below hb13)
  replace K6 := Lib.hid (K6.out.below hb13)
  replace KS7 := Lib.hid (KS7.out.below hb13)
  replace BW := BW.trans (hb13.mono BW.size)
  clear hb13
  clear KS7
  obtain ⟨w14, hw14, qQC, hb14, hz14⟩ := boxO w13 (.cells #[.int .i64 8, .int .i64 8, .int .i64 1, .int .i64 1, .int .i64 0] 86)
  obtain ⟨bC, hbC⟩ : ∃ b, w13.heap.size = b := ⟨_, rfl⟩
  have HW14 := Lib.hid hw14
  have HB14 := Lib.hid hbC
  replace K1 := Lib.hid (K1.out.below hb14)
  replace QL := Lib.hid (QL.out.below hb14)
  replace MM := Lib.hid (MM.out.below hb14)
  replace K6 := Lib.hid (K6.out.below hb14)
  replace BW := BW.trans (hb14.mono BW.size)
  rw [hbC] at qQC
  have QC : Hid (Blk bC _ w14) := Lib.hid qQC
  clear qQC hb14 hz14 hw14 hbC
  go_wp2_with fail
  rw [HW14.out]
  simp only [HB14.out]
  refine (awSmall _).mono ?_
  rintro e w15 ⟨as8, cs8, rfl, ks8, hb15⟩
  replace K1 := Lib.hid (K1.out.below hb15)
  replace QL := Lib.hid (QL.out.below hb15)
  replace MM := Lib.hid (MM.out.below hb15)
  replace K6 := Lib.hid (K6.out.below hb15)
  replace QC := Lib.hid (QC.out.below hb15)
  replace BW := BW.trans (hb15.mono BW.size)
  clear hb15
  have KS8 := Lib.hid ks8
  clear ks8
  go_wp2_with fail
  refine (refSameNet a1 as8 c1 cs8 S8 _ (by decide) K1.out.2.2.2 KS8.out.2.2.2).mono ?_
  rintro e w16 ⟨rfl, hb16⟩
  replace K1 := Lib.hid (K1.out.below hb16)
  replace QL := Lib.hid (QL.out.below hb16)
  replace MM := Lib.hid (MM.out.below hb16)
  replace K6 := Lib.hid (K6.out.below hb16)
  replace QC := Lib.hid (QC.out.below hb16)
  replace KS8 := Lib.hid (KS8.out.below hb16)
  replace BW := BW.trans (hb16.mono BW.size)
  clear hb16
  clear KS8
  clear K1
  obtain ⟨r0, r1, r2, r3, r4, -⟩ := five_of_block QL.out
  obtain ⟨mz, m0, m1⟩ := MM.out
  go_wp2_with fail
  refine (awSmall _).mono ?_
  rintro e w17 ⟨as9, cs9, rfl, ks9, hb17⟩
  replace QL := Lib.hid (QL.out.below hb17)
  replace MM := Lib.hid (MM.out.below hb17)
  replace K6 := Lib.hid (K6.out.below hb17)
  replace QC := Lib.hid (QC.out.below hb17)
  replace BW := BW.trans (hb17.mono BW.size)
  clear hb17
  have KS9 := Lib.hid ks9
  clear ks9
  clear r0 r1 r2 r3 r4 mz m0 m1
  clear QL
  clear MM
  go_wp2_with fail
  refine (refSameNet a6 as9 c6 cs9 S8 _ (by decide) K6.out.2.2.2 KS9.out.2.2.2).mono ?_
  rintro e w18 ⟨rfl, hb18⟩
  replace K6 := Lib.hid (K6.out.below hb18)
  replace QC := Lib.hid (QC.out.below hb18)
  replace KS9 := Lib.hid (KS9.out.below hb18)
  replace BW := BW.trans (hb18.mono BW.size)
  clear hb18
  clear KS9
  clear K6
  obtain ⟨r0, r1, r2, r3, r4, -⟩ := five_of_block QC.out
  go_wp2_with fail
  refine (awSheet24 _).mono ?_
  rintro e w19 ⟨a10, c10, rfl, k10, hb19⟩
  replace QC := Lib.hid (QC.out.below hb19)
  replace BW := BW.trans (hb19.mono BW.size)
  clear hb19
  have K10 := Lib.hid k10
  clear k10
  clear r0 r1 r2 r3 r4
  clear QC
  go_wp2_with fail
  refine (awAround _).mono ?_
  rintro e w20 ⟨a11, c11, rfl, k11, hb20⟩
  replace K10 := Lib.hid (K10.out.below hb20)
  replace BW := BW.trans (hb20.mono BW.size)
  clear hb20
  have K11 := Lib.hid k11
  clear k11
  go_wp2_with fail
  refine (awMinus _ _ _ _ _ K10.out K11.out).mono ?_
  rintro e w21 ⟨a12, c12, rfl, k12, hb21⟩
  replace K10 := Lib.hid (K10.out.below hb21)
  replace K11 := Lib.hid (K11.out.below hb21)
  replace BW := BW.trans (hb21.mono BW.size)
  clear hb21
  have K12 := Lib.hid k12
  clear k12
  clear K10
  clear K11
  go_wp2_with fail
  refine (awCount12 _ _ _ K12.out).mono ?_
  rintro e w22 ⟨rfl, hb22⟩
  replace K12 := Lib.hid (K12.out.below hb22)
  replace BW := BW.trans (hb22.mono BW.size)
  clear hb22
  clear K12
  obtain ⟨w23, hw23, qQH, hb23, hz23⟩ := boxO w22 (.cells #[.int .i64 12, .int .i64 12, .int .i64 0, .int .i64 1, .int .i64 1] 86)
  obtain ⟨bH, hbH⟩ : ∃ b, w22.heap.size = b := ⟨_, rfl⟩
  have HW23 := Lib.hid hw23
  have HB23 := Lib.hid hbH
  replace BW := BW.trans (hb23.mono BW.size)
  rw [hbH] at qQH
  have QH : Hid (Blk bH _ w23) := Lib.hid qQH
  clear qQH hb23 hz23  hbH
  have ko14 := oks_new w23 [⟨1, 1, -1⟩] (by decide) #[.int .i64 1, .int .i64 1, .int .i64 (-1)] rfl
  obtain ⟨w24, hw24, -, hb24, -⟩ := boxO w23 (.cells #[.int .i64 1, .int .i64 1, .int .i64 (-1)] 24)
  rw [hw24] at ko14
  replace QH := Lib.hid (QH.out.below hb24)
  replace BW := BW.trans (hb24.mono BW.size)
  have KO14 := Lib.hid ko14
  clear ko14 hb24
  go_wp2_with fail
  simp only [HB23.out]
  clear hw23
  refine (awTurn _ _ _ KO14.out).mono ?_
  rintro e w25 ⟨a14, c14, rfl, k14, hb25⟩
  replace QH := Lib.hid (QH.out.below hb25)
  replace KO14 := Lib.hid (KO14.out.below hb25)
  replace BW := BW.trans (hb25.mono BW.size)
  clear hb25
  have K14 := Lib.hid k14
  clear k14
  clear KO14
  have ko15 := oks_new w25 [⟨2, 0, 1⟩] (by decide) #[.int .i64 2, .int .i64 0, .int .i64 1] rfl
  obtain ⟨w26, hw26, -, hb26, -⟩ := boxO w25 (.cells #[.int .i64 2, .int .i64 0, .int .i64 1] 24)
  rw [hw26] at ko15
  replace QH := Lib.hid (QH.out.below hb26)
  replace K14 := Lib.hid (K14.out.below hb26)
  replace BW := BW.trans (hb26.mono BW.size)
  have KO15 := Lib.hid ko15
  clear ko15 hb26
  go_wp2_with fail
  refine (awMirror _ _ _ KO15.out).mono ?_
  rintro e w27 ⟨a15, c15, rfl, k15, hb27⟩
  replace QH := Lib.hid (QH.out.below hb27)
  replace K14 := Lib.hid (K14.out.below hb27)
  replace KO15 := Lib.hid (KO15.out.below hb27)
  replace BW := BW.trans (hb27.mono BW.size)
  clear hb27
  have K15 := Lib.hid k15
  clear k15
  clear KO15
  have ko16 := oks_new w27 [⟨5, 3, 1⟩] (by decide) #[.int .i64 5, .int .i64 3, .int .i64 1] rfl
  obtain ⟨w28, hw28, -, hb28, -⟩ := boxO w27 (.cells #[.int .i64 5, .int .i64 3, .int .i64 1] 24)
  rw [hw28] at ko16
  replace QH := Lib.hid (QH.out.below hb28)
  replace K14 := Lib.hid (K14.out.below hb28)
  replace K15 := Lib.hid (K15.out.below hb28)
  replace BW := BW.trans (hb28.mono BW.size)
  have KO16 := Lib.hid ko16
  clear ko16 hb28
  go_wp2_with fail
  refine (awCanon _ _ _ KO16.out).mono ?_
  rintro e w29 ⟨a16, c16, rfl, k16, hb29⟩
  replace QH := Lib.hid (QH.out.below hb29)
  replace K14 := Lib.hid (K14.out.below hb29)
  replace K15 := Lib.hid (K15.out.below hb29)
  replace KO16 := Lib.hid (KO16.out.below hb29)
  replace BW := BW.trans (hb29.mono BW.size)
  clear hb29
  have K16 := Lib.hid k16
  clear k16
  clear KO16
  have ko17 := oks_new w29 [⟨0, 0, 1⟩, ⟨4, 0, 1⟩] (by decide) #[.int .i64 0, .int .i64 0, .int .i64 1, .int .i64 4, .int .i64 0, .int .i64 1] rfl
  obtain ⟨w30, hw30, -, hb30, -⟩ := boxO w29 (.cells #[.int .i64 0, .int .i64 0, .int .i64 1, .int .i64 4, .int .i64 0, .int .i64 1] 24)
  rw [hw30] at ko17
  replace QH := Lib.hid (QH.out.below hb30)
  replace K14 := Lib.hid (K14.out.below hb30)
  replace K15 := Lib.hid (K15.out.below hb30)
  replace K16 := Lib.hid (K16.out.below hb30)
  replace BW := BW.trans (hb30.mono BW.size)
  have KO17 := Lib.hid ko17
  clear ko17 hb30
  go_wp2_with fail
  refine (awParts _ _ _ KO17.out).mono ?_
  rintro e w31 ⟨a17, c17, rfl, hb31⟩
  replace QH := Lib.hid (QH.out.below hb31)
  replace K14 := Lib.hid (K14.out.below hb31)
  replace K15 := Lib.hid (K15.out.below hb31)
  replace K16 := Lib.hid (K16.out.below hb31)
  replace KO17 := Lib.hid (KO17.out.below hb31)
  replace BW := BW.trans (hb31.mono BW.size)
  clear hb31
  clear KO17
  go_wp2_with fail
  refine (awDraw _).mono ?_
  rintro e w32 ⟨a18, c18, rfl, k18, hb32⟩
  replace QH := Lib.hid (QH.out.below hb32)
  replace K14 := Lib.hid (K14.out.below hb32)
  replace K15 := Lib.hid (K15.out.below hb32)
  replace K16 := Lib.hid (K16.out.below hb32)
  replace BW := BW.trans (hb32.mono BW.size)
  clear hb32
  have KD := Lib.hid k18
  clear k18
  obtain ⟨r0, r1, r2, r3, r4, -⟩ := five_of_block QH.out
  clear QH
  have ko21 := oks_new w32 [⟨-2, 0, 1⟩] (by decide) #[.int .i64 (-2), .int .i64 0, .int .i64 1] rfl
  obtain ⟨w33, hw33, -, hb33, -⟩ := boxO w32 (.cells #[.int .i64 (-2), .int .i64 0, .int .i64 1] 24)
  rw [hw33] at ko21
  replace K14 := Lib.hid (K14.out.below hb33)
  replace K15 := Lib.hid (K15.out.below hb33)
  replace K16 := Lib.hid (K16.out.below hb33)
  replace KD := Lib.hid (KD.out.go hb33)
  replace BW := BW.trans (hb33.mono BW.size)
  have KO21 := Lib.hid ko21
  clear ko21 hb33
  go_wp2_with fail
  refine (refSameNet a14 _ c14 _ [⟨-2, 0, 1⟩] _ (by decide) K14.out.2.2.2 KO21.out.2.2.2).mono ?_
  rintro e w34 ⟨rfl, hb34⟩
  replace K14 := Lib.hid (K14.out.below hb34)
  replace K15 := Lib.hid (K15.out.below hb34)
  replace K16 := Lib.hid (K16.out.below hb34)
  replace KD := Lib.hid (KD.out.go hb34)
  replace KO21 := Lib.hid (KO21.out.below hb34)
  replace BW := BW.trans (hb34.mono BW.size)
  clear hb34
  clear KO21
  clear K14
  clear r0 r1 r2 r3 r4
  have ko22 := oks_new w34 [⟨-2, 0, -1⟩] (by decide) #[.int .i64 (-2), .int .i64 0, .int .i64 (-1)] rfl
  obtain ⟨w35, hw35, -, hb35, -⟩ := boxO w34 (.cells #[.int .i64 (-2), .int .i64 0, .int .i64 (-1)] 24)
  rw [hw35] at ko22
  replace K15 := Lib.hid (K15.out.below hb35)
  replace K16 := Lib.hid (K16.out.below hb35)
  replace KD := Lib.hid (KD.out.go hb35)
  replace BW := BW.trans (hb35.mono BW.size)
  have KO22 := Lib.hid ko22
  clear ko22 hb35
  go_wp2_with fail
  refine (refSameNet a15 _ c15 _ [⟨-2, 0, -1⟩] _ (by decide) K15.out.2.2.2 KO22.out.2.2.2).mono ?_
  rintro e w36 ⟨rfl, hb36⟩
  replace K15 := Lib.hid (K15.out.below hb36)
  replace K16 := Lib.hid (K16.out.below hb36)
  replace KD := Lib.hid (KD.out.go hb36)
  replace KO22 := Lib.hid (KO22.out.below hb36)
  replace BW := BW.trans (hb36.mono BW.size)
  clear hb36
  clear KO22
  clear K15
  have ko23 := oks_new w36 [⟨0, 0, -1⟩] (by decide) #[.int .i64 0, .int .i64 0, .int .i64 (-1)] rfl
  obtain ⟨w37, hw37, -, hb37, -⟩ := boxO w36 (.cells #[.int .i64 0, .int .i64 0, .int .i64 (-1)] 24)
  rw [hw37] at ko23
  replace K16 := Lib.hid (K16.out.below hb37)
  replace KD := Lib.hid (KD.out.go hb37)
  replace BW := BW.trans (hb37.mono BW.size)
  have KO23 := Lib.hid ko23
  clear ko23 hb37
  go_wp2_with fail
  refine (refSameNet a16 _ c16 _ [⟨0, 0, -1⟩] _ (by decide) K16.out.2.2.2 KO23.out.2.2.2).mono ?_
  rintro e w38 ⟨rfl, hb38⟩
  replace K16 := Lib.hid (K16.out.below hb38)
  replace KD := Lib.hid (KD.out.go hb38)
  replace KO23 := Lib.hid (KO23.out.below hb38)
  replace BW := BW.trans (hb38.mono BW.size)
  clear hb38
  clear KO23
  clear K16
  have kr := ri_new w38
  obtain ⟨w39, hw39, -, hb39, -⟩ := boxO w38 (.cells #[.int .i64 0, .int .i64 2, .int .i64 1] 3)
  rw [hw39] at kr
  replace KD := Lib.hid (KD.out.go hb39)
  replace BW := BW.trans (hb39.mono BW.size)
  have KR := Lib.hid kr
  clear kr hb39
  go_wp2_with fail
  refine (refSameInts a18 _ c18 _ [0, 2, 1] _ (by decide) KD.out KR.out).mono ?_
  rintro e wz ⟨rfl, hbz⟩
  replace BW := BW.trans (hbz.mono BW.size)
  clear KD KR hbz
  go_wp2
  go_ret
  exact ⟨rfl, BW⟩
end Go.Proofs.YtdeplhihcifmeaaGreatDoor

/- IsName of the reference and of the program, at every string. -/
namespace Go.Proofs.YtdeplhihcifmeaaGreatDoor
open Go.RowKit Go.Shelf Ck

def nmC (z : Bool) (c : Nat) : Bool := (decide (65 ≤ c) && decide (c ≤ 90)) || (decide (97 ≤ c) && decide (c ≤ 122)) || (!z && ((decide (48 ≤ c) && decide (c ≤ 57)) || decide (c = 95)))
def nmG : Bool → List UInt8 → Bool
  | _, [] => true
  | z, c :: r => nmC z c.toNat && nmG false r
def nameB (s : ByteArray) : Bool := decide (1 ≤ s.size) && (decide (s.size ≤ 24) && nmG true s.data.toList)
theorem nm_cls (z : Bool) (d : Nat) : (97 ≤ d ∧ d ≤ 122 ∧ nmC z d = true) ∨ (65 ≤ d ∧ d ≤ 90 ∧ nmC z d = true) ∨ (d < 48 ∧ nmC z d = false) ∨ (48 ≤ d ∧ d ≤ 57 ∧ nmC z d = !z) ∨ (58 ≤ d ∧ d ≤ 64 ∧ nmC z d = false) ∨ (91 ≤ d ∧ d ≤ 96 ∧ d ≠ 95 ∧ nmC z d = false) ∨ (d = 95 ∧ nmC z d = !z) ∨ (122 < d ∧ nmC z d = false) := by
  have key : nmC z d = true ↔ (65 ≤ d ∧ d ≤ 90) ∨ (97 ≤ d ∧ d ≤ 122) ∨ (z = false ∧ ((48 ≤ d ∧ d ≤ 57) ∨ d = 95)) := by
    simp [nmC, or_assoc]
  have keyF : nmC z d = false ↔ ¬ ((65 ≤ d ∧ d ≤ 90) ∨ (97 ≤ d ∧ d ≤ 122) ∨ (z = false ∧ ((48 ≤ d ∧ d ≤ 57) ∨ d = 95))) := by
    rw [← key]; simp
  by_cases h1 : 97 ≤ d
  · by_cases h2 : d ≤ 122
    · exact .inl ⟨h1, h2, key.2 (.inr (.inl ⟨h1, h2⟩))⟩
    · exact .inr (.inr (.inr (.inr (.inr (.inr (.inr ⟨by omega, keyF.2 (by omega)⟩))))))
  · by_cases h3 : 65 ≤ d
    · by_cases h4 : d ≤ 90
      · exact .inr (.inl ⟨h3, h4, key.2 (.inl ⟨h3, h4⟩)⟩)
      · by_cases h5 : d = 95
        · refine .inr (.inr (.inr (.inr (.inr (.inr (.inl ⟨h5, ?_⟩))))))
          cases z
          · exact key.2 (.inr (.inr ⟨rfl, .inr h5⟩))
          · exact keyF.2 (by rintro (h | h | h) <;> first | omega | cases h.1)
        · exact .inr (.inr (.inr (.inr (.inr (.inl ⟨by omega, by omega, h5, keyF.2 (by omega)⟩)))))
    · by_cases h4 : d < 48
      · exact .inr (.inr (.inl ⟨h4, keyF.2 (by omega)⟩))
      · by_cases h5 : d ≤ 57
        · refine .inr (.inr (.inr (.inl ⟨by omega, h5, ?_⟩)))
          cases z
          · exact key.2 (.inr (.inr ⟨rfl, .inl ⟨by omega, h5⟩⟩))
          · exact keyF.2 (by rintro (h | h | h) <;> first | omega | cases h.1)
        · exact .inr (.inr (.inr (.inr (.inl ⟨by omega, by omega, keyF.2 (by omega)⟩))))
theorem nmG_step {z : Bool} {c : UInt8} {r : List UInt8} {R : Bool} (h : nmG z (c :: r) = R) (hc : nmC z c.toNat = true) : nmG false r = R := by
  rw [← h, nmG, hc]; rfl
theorem nmG_no {z : Bool} {c : UInt8} {r : List UInt8} {R : Bool} (h : nmG z (c :: r) = R) (hc : nmC z c.toNat = false) : false = R := by
  rw [← h, nmG, hc]; rfl
theorem netIsLetter (r : Int) (b : Bool) (w : World) (hb : ((65 ≤ r ∧ r ≤ 90) ∨ (97 ≤ r ∧ r ≤ 122)) ↔ b = true) : Calls Tryz.prog 96 #[.int .i32 r] w fun e w' => e = .returned (.bool b) ∧ w = w' := by
  by_cases h1 : 65 ≤ r <;> by_cases h2 : r ≤ 90 <;> by_cases h3 : 97 ≤ r <;> by_cases h4 : r ≤ 122
  all_goals first
    | (exfalso; omega)
    | (have hb' : b = true := hb.1 (by omega)
       subst hb'
       clear hb
       go_enter Tryz.func96, Tryz.ntmps96
       go_wp2
       go_ret
       simp)
    | (have hb' : b = false := by
         cases b
         · rfl
         · have := hb.2 rfl
           omega
       subst hb'
       clear hb
       go_enter Tryz.func96, Tryz.ntmps96
       go_wp2
       go_ret
       simp)
theorem netIsDigit (r : Int) (b : Bool) (w : World) (hb : (48 ≤ r ∧ r ≤ 57) ↔ b = true) : Calls Tryz.prog 97 #[.int .i32 r] w fun e w' => e = .returned (.bool b) ∧ w = w' := by
  by_cases h1 : 48 ≤ r <;> by_cases h2 : r ≤ 57
  all_goals first
    | (exfalso; omega)
    | (have hb' : b = true := hb.1 (by omega)
       subst hb'
       clear hb
       go_enter Tryz.func97, Tryz.ntmps97
       go_wp2
       go_ret
       simp)
    | (have hb' : b = false := by
         cases b
         · rfl
         · have := hb.2 rfl
           omega
       subst hb'
       clear hb
       go_enter Tryz.func97, Tryz.ntmps97
       go_wp2
       go_ret
       simp)
theorem nameB_zero {s : ByteArray} (h : s.size = 0) : nameB s = false := by simp [nameB, h]
theorem nameB_big {s : ByteArray} (h : 24 < s.size) : nameB s = false := by simp [nameB]; omega
theorem nameB_mid {s : ByteArray} (h1 : 1 ≤ s.size) (h2 : s.size ≤ 24) : nameB s = nmG true s.data.toList := by simp [nameB, h1, h2]

set_option maxHeartbeats 8000000 in
set_option maxRecDepth 100000 in
theorem refIsName (s : ByteArray) (w : World) : Calls Tryz.prog 36 #[.string s] w fun e w' => e = .returned (.bool (nameB s)) ∧ w = w' := by
  by_cases hz : s.size = 0
  · have h0 : ((s.size : Int) == 0) = true := by rw [beq_iff_eq]; omega
    rw [nameB_zero hz]
    go_enter Tryz.func36, Tryz.ntmps36
    go_wp2
    go_ret
    simp
  by_cases hb : 24 < s.size
  · have h0 : ((s.size : Int) == 0) = false := by rw [beq_eq_false_iff_ne]; omega
    have h1 : (24 : Int) < (s.size : Int) := by omega
    rw [nameB_big hb]
    go_enter Tryz.func36, Tryz.ntmps36
    go_wp2
    go_ret
    simp
  rw [nameB_mid (by omega) (by omega)]
  have h0 : ((s.size : Int) == 0) = false := by rw [beq_eq_false_iff_ne]; omega
  have h1 : ¬ (24 : Int) < (s.size : Int) := by omega
  obtain ⟨L, hL⟩ : ∃ L, s.data.toList = L := ⟨_, rfl⟩
  have hsz : L.length = s.size := by rw [← hL, ← Lib.size_eq]
  obtain ⟨R, hR⟩ : ∃ R, nmG true L = R := ⟨_, rfl⟩
  rw [hL, hR]
  have HL := Lib.hid hL
  have HZ := Lib.hid hsz
  have HR := Lib.hid hR
  clear hL hsz hR
  go_enter Tryz.func36, Tryz.ntmps36
  go_wp2_with fail
  go_loopw [3] (fun i wr => ∃ k : Nat, k ≤ s.size ∧ i = .int .i64 k ∧ nmG (decide (k = 0)) (L.drop k) = R ∧ w = wr) (fun i _ => s.size - (intOf i).toNat)
  case atStart => exact ⟨0, Nat.zero_le _, rfl, HR.out, rfl⟩
  case round =>
    obtain ⟨k, hk, rfl, hG, rfl⟩ := hrel
    by_cases hlt : k < s.size
    · have b0 : (0 : Int) ≤ (k : Int) := by omega
      have b1 : (k : Int) < (s.size : Int) := by omega
      have hkl : k < L.length := by have := HZ.out; omega
      have hel : s[k]'hlt = L[k]'hkl := by
        have hkd : k < s.data.toList.length := by rw [HL.out]; exact hkl
        rw [← show s.data.toList[k] = s[k] from by rw [Array.getElem_toList]; rfl]
        simp only [HL.out]
      rw [List.drop_eq_getElem_cons hkl] at hG
      obtain ⟨c, hc0⟩ : ∃ c, L[k] = c := ⟨_, rfl⟩
      rw [hc0] at hG hel
      have HG := Lib.hid hG
      clear hG hc0
      have kn : decide (k + 1 = 0) = false := by simp
      by_cases k0 : k = 0
      · have hz0 : ((k : Int) == 0) = true := by rw [beq_iff_eq]; omega
        rw [show decide (k = 0) = true by simp [k0]] at HG
        clear k0
        rcases nm_cls true c.toNat with ⟨x1, x2, hc⟩ | ⟨x1, x2, hc⟩ | ⟨x1, hc⟩ | ⟨x1, x2, hc⟩ | ⟨x1, x2, hc⟩ | ⟨x1, x2, x3, hc⟩ | ⟨x1, hc⟩ | ⟨x1, hc⟩
        · have g0 : (97 : Int) ≤ (c.toNat : Int) := by omega
          have g1 : (c.toNat : Int) ≤ 122 := by omega
          have HN := Lib.hid (nmG_step HG.out hc)
          clear HG hc
          go_wp2
          go_roundw
          case rel => exact ⟨k + 1, by omega, by go_num, by rw [kn]; exact HN.out, by first | rfl | trivial⟩
          case measure => simp [intOf]; omega
        · have g0 : ¬ (97 : Int) ≤ (c.toNat : Int) := by omega
          have g1 : (65 : Int) ≤ (c.toNat : Int) := by omega
          have g2 : (c.toNat : Int) ≤ 90 := by omega
          have HN := Lib.hid (nmG_step HG.out hc)
          clear HG hc
          go_wp2
          go_roundw
          case rel => exact ⟨k + 1, by omega, by go_num, by rw [kn]; exact HN.out, by first | rfl | trivial⟩
          case measure => simp [intOf]; omega
        · have g0 : ¬ (97 : Int) ≤ (c.toNat : Int) := by omega
          have g1 : ¬ (65 : Int) ≤ (c.toNat : Int) := by omega
          have gn : ((c.toNat : Int) != 95) = true := by rw [bne_iff_ne]; omega
          have gl : (c.toNat : Int) < 48 := by omega
          have HN := Lib.hid (nmG_no HG.out hc)
          clear HG hc
          go_wp2
          go_ret
          exact ⟨by rw [← HN.out]; rfl, rfl⟩
        · have g0 : ¬ (97 : Int) ≤ (c.toNat : Int) := by omega
          have g1 : ¬ (65 : Int) ≤ (c.toNat : Int) := by omega
          have gn : ((c.toNat : Int) != 95) = true := by rw [bne_iff_ne]; omega
          have gl : ¬ (c.toNat : Int) < 48 := by omega
          have gg : ¬ (57 : Int) < (c.toNat : Int) := by omega
          have HN := Lib.hid (nmG_no HG.out hc)
          clear HG hc
          go_wp2
          go_ret
          exact ⟨by rw [← HN.out]; rfl, rfl⟩
        · have g0 : ¬ (97 : Int) ≤ (c.toNat : Int) := by omega
          have g1 : ¬ (65 : Int) ≤ (c.toNat : Int) := by omega
          have gn : ((c.toNat : Int) != 95) = true := by rw [bne_iff_ne]; omega
          have gl : ¬ (c.toNat : Int) < 48 := by omega
          have gg : (57 : Int) < (c.toNat : Int) := by omega
          have HN := Lib.hid (nmG_no HG.out hc)
          clear HG hc
          go_wp2
          go_ret
          exact ⟨by rw [← HN.out]; rfl, rfl⟩
        · have g0 : ¬ (97 : Int) ≤ (c.toNat : Int) := by omega
          have g1 : (65 : Int) ≤ (c.toNat : Int) := by omega
          have g2 : ¬ (c.toNat : Int) ≤ 90 := by omega
          have gn : ((c.toNat : Int) != 95) = true := by rw [bne_iff_ne]; omega
          have gl : ¬ (c.toNat : Int) < 48 := by omega
          have gg : (57 : Int) < (c.toNat : Int) := by omega
          have HN := Lib.hid (nmG_no HG.out hc)
          clear HG hc
          go_wp2
          go_ret
          exact ⟨by rw [← HN.out]; rfl, rfl⟩
        · have g0 : ¬ (97 : Int) ≤ (c.toNat : Int) := by omega
          have g1 : (65 : Int) ≤ (c.toNat : Int) := by omega
          have g2 : ¬ (c.toNat : Int) ≤ 90 := by omega
          have gn : ((c.toNat : Int) != 95) = false := by simp; omega
          have HN := Lib.hid (nmG_no HG.out hc)
          clear HG hc
          go_wp2
          go_ret
          exact ⟨by rw [← HN.out]; rfl, rfl⟩
        · have g0 : (97 : Int) ≤ (c.toNat : Int) := by omega
          have g1 : ¬ (c.toNat : Int) ≤ 122 := by omega
          have g2 : (65 : Int) ≤ (c.toNat : Int) := by omega
          have g3 : ¬ (c.toNat : Int) ≤ 90 := by omega
          have gn : ((c.toNat : Int) != 95) = true := by rw [bne_iff_ne]; omega
          have gl : ¬ (c.toNat : Int) < 48 := by omega
          have gg : (57 : Int) < (c.toNat : Int) := by omega
          have HN := Lib.hid (nmG_no HG.out hc)
          clear HG hc
          go_wp2
          go_ret
          exact ⟨by rw [← HN.out]; rfl, rfl⟩
      · have hz0 : ((k : Int) == 0) = false := by rw [beq_eq_false_iff_ne]; omega
        rw [show decide (k = 0) = false by simp [k0]] at HG
        rcases nm_cls false c.toNat with ⟨x1, x2, hc⟩ | ⟨x1, x2, hc⟩ | ⟨x1, hc⟩ | ⟨x1, x2, hc⟩ | ⟨x1, x2, hc⟩ | ⟨x1, x2, x3, hc⟩ | ⟨x1, hc⟩ | ⟨x1, hc⟩
        · have g0 : (97 : Int) ≤ (c.toNat : Int) := by omega
          have g1 : (c.toNat : Int) ≤ 122 := by omega
          have HN := Lib.hid (nmG_step HG.out hc)
          clear HG hc
          go_wp2
          go_roundw
          case rel => exact ⟨k + 1, by omega, by go_num, by rw [kn]; exact HN.out, by first | rfl | trivial⟩
          case measure => simp [intOf]; omega
        · have g0 : ¬ (97 : Int) ≤ (c.toNat : Int) := by omega
          have g1 : (65 : Int) ≤ (c.toNat : Int) := by omega
          have g2 : (c.toNat : Int) ≤ 90 := by omega
          have HN := Lib.hid (nmG_step HG.out hc)
          clear HG hc
          go_wp2
          go_roundw
          case rel => exact ⟨k + 1, by omega, by go_num, by rw [kn]; exact HN.out, by first | rfl | trivial⟩
          case measure => simp [intOf]; omega
        · have g0 : ¬ (97 : Int) ≤ (c.toNat : Int) := by omega
          have g1 : ¬ (65 : Int) ≤ (c.toNat : Int) := by omega
          have gn : ((c.toNat : Int) != 95) = true := by rw [bne_iff_ne]; omega
          have gl : (c.toNat : Int) < 48 := by omega
          have HN := Lib.hid (nmG_no HG.out hc)
          clear HG hc
          go_wp2
          go_ret
          exact ⟨by rw [← HN.out]; rfl, rfl⟩
        · have g0 : ¬ (97 : Int) ≤ (c.toNat : Int) := by omega
          have g1 : ¬ (65 : Int) ≤ (c.toNat : Int) := by omega
          have gn : ((c.toNat : Int) != 95) = true := by rw [bne_iff_ne]; omega
          have gl : ¬ (c.toNat : Int) < 48 := by omega
          have gg : ¬ (57 : Int) < (c.toNat : Int) := by omega
          have HN := Lib.hid (nmG_step HG.out hc)
          clear HG hc
          go_wp2
          go_roundw
          case rel => exact ⟨k + 1, by omega, by go_num, by rw [kn]; exact HN.out, by first | rfl | trivial⟩
          case measure => simp [intOf]; omega
        · have g0 : ¬ (97 : Int) ≤ (c.toNat : Int) := by omega
          have g1 : ¬ (65 : Int) ≤ (c.toNat : Int) := by omega
          have gn : ((c.toNat : Int) != 95) = true := by rw [bne_iff_ne]; omega
          have gl : ¬ (c.toNat : Int) < 48 := by omega
          have gg : (57 : Int) < (c.toNat : Int) := by omega
          have HN := Lib.hid (nmG_no HG.out hc)
          clear HG hc
          go_wp2
          go_ret
          exact ⟨by rw [← HN.out]; rfl, rfl⟩
        · have g0 : ¬ (97 : Int) ≤ (c.toNat : Int) := by omega
          have g1 : (65 : Int) ≤ (c.toNat : Int) := by omega
          have g2 : ¬ (c.toNat : Int) ≤ 90 := by omega
          have gn : ((c.toNat : Int) != 95) = true := by rw [bne_iff_ne]; omega
          have gl : ¬ (c.toNat : Int) < 48 := by omega
          have gg : (57 : Int) < (c.toNat : Int) := by omega
          have HN := Lib.hid (nmG_no HG.out hc)
          clear HG hc
          go_wp2
          go_ret
          exact ⟨by rw [← HN.out]; rfl, rfl⟩
        · have g0 : ¬ (97 : Int) ≤ (c.toNat : Int) := by omega
          have g1 : (65 : Int) ≤ (c.toNat : Int) := by omega
          have g2 : ¬ (c.toNat : Int) ≤ 90 := by omega
          have gn : ((c.toNat : Int) != 95) = false := by simp; omega
          have HN := Lib.hid (nmG_step HG.out hc)
          clear HG hc
          go_wp2
          go_roundw
          case rel => exact ⟨k + 1, by omega, by go_num, by rw [kn]; exact HN.out, by first | rfl | trivial⟩
          case measure => simp [intOf]; omega
        · have g0 : (97 : Int) ≤ (c.toNat : Int) := by omega
          have g1 : ¬ (c.toNat : Int) ≤ 122 := by omega
          have g2 : (65 : Int) ≤ (c.toNat : Int) := by omega
          have g3 : ¬ (c.toNat : Int) ≤ 90 := by omega
          have gn : ((c.toNat : Int) != 95) = true := by rw [bne_iff_ne]; omega
          have gl : ¬ (c.toNat : Int) < 48 := by omega
          have gg : (57 : Int) < (c.toNat : Int) := by omega
          have HN := Lib.hid (nmG_no HG.out hc)
          clear HG hc
          go_wp2
          go_ret
          exact ⟨by rw [← HN.out]; rfl, rfl⟩
    · have hd : L.drop k = [] := List.drop_of_length_le (by have := HZ.out; omega)
      rw [hd] at hG
      have HN := Lib.hid (show true = R from hG)
      have b1 : ¬ (k : Int) < (s.size : Int) := by omega
      clear hG hd
      go_wp2
      go_ret
      exact ⟨by rw [← HN.out]; rfl, rfl⟩

set_option maxHeartbeats 8000000 in
set_option maxRecDepth 100000 in
theorem netIsName (s : ByteArray) (w : World) : Calls Tryz.prog 35 #[.string s] w fun e w' => e = .returned (.bool (nameB s)) ∧ Below w.heap.size w w' := by
  by_cases hz : s.size = 0
  · have h0 : (s.size : Int) < 1 := by omega
    rw [nameB_zero hz]
    go_enter Tryz.func35, Tryz.ntmps35
    go_wp2
    go_ret
    exact ⟨by simp, Below.refl _ _⟩
  by_cases hb : 24 < s.size
  · have h0 : ¬ (s.size : Int) < 1 := by omega
    have h1 : (24 : Int) < (s.size : Int) := by omega
    rw [nameB_big hb]
    go_enter Tryz.func35, Tryz.ntmps35
    go_wp2
    go_ret
    exact ⟨by simp, Below.refl _ _⟩
  rw [nameB_mid (by omega) (by omega)]
  have h0 : ¬ (s.size : Int) < 1 := by omega
  have h1 : ¬ (24 : Int) < (s.size : Int) := by omega
  obtain ⟨L, hL⟩ : ∃ L, s.data.toList = L := ⟨_, rfl⟩
  have hsz : L.length = s.size := by rw [← hL, ← Lib.size_eq]
  obtain ⟨R, hR⟩ : ∃ R, nmG true L = R := ⟨_, rfl⟩
  rw [hL, hR]
  have HL := Lib.hid hL
  have HZ := Lib.hid hsz
  have HR := Lib.hid hR
  clear hL hsz hR
  obtain ⟨w1, hw1⟩ : ∃ w1, w1 = w.iter s 0 := ⟨_, rfl⟩
  have it1 : w1.heap[w.heap.size]? = some (.stringIter s 0) := by rw [hw1]; exact World.iter_heap w s 0
  have hb1 : Below w.heap.size w w1 := by rw [hw1]; exact (Below.refl _ _).alloc (Nat.le_refl _) (.stringIter s 0)
  have HW1 := Lib.hid hw1
  clear hw1
  go_enter Tryz.func35, Tryz.ntmps35
  go_wp2_with fail
  rw [← HW1.out]
  go_loopw [] (fun wr => ∃ pos : Nat, pos ≤ L.length ∧ wr.heap[w.heap.size]? = some (.stringIter s pos) ∧ Below w.heap.size w wr ∧ nmG (decide (pos = 0)) (L.drop pos) = R) (fun wr => s.size - wr.iterPos w.heap.size)
  case atStart => exact ⟨0, Nat.zero_le _, it1, hb1, HR.out⟩
  case round =>
    obtain ⟨pos, hpos, hit, hb, hG⟩ := hrel
    have hln := HZ.out
    clear it1 hb1
    by_cases hp : pos < s.size
    · have hpl : pos < L.length := by omega
      have hel : s[pos]'hp = L[pos]'hpl := by
        have hkd : pos < s.data.toList.length := by rw [HL.out]; exact hpl
        rw [← show s.data.toList[pos] = s[pos] from by rw [Array.getElem_toList]; rfl]
        simp only [HL.out]
      rw [List.drop_eq_getElem_cons hpl] at hG
      obtain ⟨c, hc0⟩ : ∃ c, L[pos] = c := ⟨_, rfl⟩
      rw [hc0] at hG hel
      have HG := Lib.hid hG
      have hmu : wr.iterPos w.heap.size = pos := by simp [World.iterPos, hit]
      have kn : decide (pos + 1 = 0) = false := by simp
      have p0 : (0 : Int) ≤ (pos : Int) := by omega
      clear hG hc0
      by_cases ha : c.toNat < 128
      · have hnext : ∀ ty, (Instr.next (.pointer (some ⟨w.heap.size, 0, none⟩)) true ty).run Tryz.prog wr = _ := fun ty => Lib.run_next_ascii_at wr w.heap.size s pos ty hit hp (by rw [hel]; exact ha)
        rw [hel] at hnext
        have hit1 := Lib.iterAt_heap wr w.heap.size s pos (pos + 1) hit
        have hb1' : Below w.heap.size w (wr.iterAt w.heap.size s (pos + 1)) := Lib.below_iterAt hb (Nat.le_refl _) s (pos + 1)
        generalize wr.iterAt w.heap.size s (pos + 1) = W1 at hnext hit1 hb1'
        have hmu1 : W1.iterPos w.heap.size = pos + 1 := by simp [World.iterPos, hit1]
        clear hel hit hb
        by_cases k0 : pos = 0
        · have hz0 : ((pos : Int) == 0) = true := by rw [beq_iff_eq]; omega
          rw [show decide (pos = 0) = true by simp [k0]] at HG
          rcases nm_cls true c.toNat with ⟨x1, x2, hc⟩ | ⟨x1, x2, hc⟩ | ⟨x1, hc⟩ | ⟨x1, x2, hc⟩ | ⟨x1, x2, hc⟩ | ⟨x1, x2, x3, hc⟩ | ⟨x1, hc⟩ | ⟨x1, hc⟩
          · have HN := Lib.hid (nmG_step HG.out hc)
            clear HG hc
            go_wp2_with fail
            refine (netIsLetter _ true _ (by simp <;> omega)).mono ?_
            rintro e W2 ⟨rfl, rfl⟩
            go_wp2
            go_roundw
            case rel => exact ⟨pos + 1, by omega, hit1, hb1', by rw [kn]; exact HN.out⟩
            case measure => rw [hmu, hmu1]; omega
          · have HN := Lib.hid (nmG_step HG.out hc)
            clear HG hc
            go_wp2_with fail
            refine (netIsLetter _ true _ (by simp <;> omega)).mono ?_
            rintro e W2 ⟨rfl, rfl⟩
            go_wp2
            go_roundw
            case rel => exact ⟨pos + 1, by omega, hit1, hb1', by rw [kn]; exact HN.out⟩
            case measure => rw [hmu, hmu1]; omega
          · have gn : ((c.toNat : Int) != 95) = true := by rw [bne_iff_ne]; omega
            have HN := Lib.hid (nmG_no HG.out hc)
            clear HG hc
            go_wp2_with fail
            refine (netIsLetter _ false _ (by simp <;> omega)).mono ?_
            rintro e W2 ⟨rfl, rfl⟩
            go_wp2
            go_ret
            exact ⟨by rw [← HN.out]; rfl, hb1'⟩
          · have gn : ((c.toNat : Int) != 95) = true := by rw [bne_iff_ne]; omega
            have HN := Lib.hid (nmG_no HG.out hc)
            clear HG hc
            go_wp2_with fail
            refine (netIsLetter _ false _ (by simp <;> omega)).mono ?_
            rintro e W2 ⟨rfl, rfl⟩
            go_wp2
            go_ret
            exact ⟨by rw [← HN.out]; rfl, hb1'⟩
          · have gn : ((c.toNat : Int) != 95) = true := by rw [bne_iff_ne]; omega
            have HN := Lib.hid (nmG_no HG.out hc)
            clear HG hc
            go_wp2_with fail
            refine (netIsLetter _ false _ (by simp <;> omega)).mono ?_
            rintro e W2 ⟨rfl, rfl⟩
            go_wp2
            go_ret
            exact ⟨by rw [← HN.out]; rfl, hb1'⟩
          · have gn : ((c.toNat : Int) != 95) = true := by rw [bne_iff_ne]; omega
            have HN := Lib.hid (nmG_no HG.out hc)
            clear HG hc
            go_wp2_with fail
            refine (netIsLetter _ false _ (by simp <;> omega)).mono ?_
            rintro e W2 ⟨rfl, rfl⟩
            go_wp2
            go_ret
            exact ⟨by rw [← HN.out]; rfl, hb1'⟩
          · have gn : ((c.toNat : Int) != 95) = false := by simp; omega
            have HN := Lib.hid (nmG_no HG.out hc)
            clear HG hc
            go_wp2_with fail
            refine (netIsLetter _ false _ (by simp <;> omega)).mono ?_
            rintro e W2 ⟨rfl, rfl⟩
            go_wp2
            go_ret
            exact ⟨by rw [← HN.out]; rfl, hb1'⟩
          · have gn : ((c.toNat : Int) != 95) = true := by rw [bne_iff_ne]; omega
            have HN := Lib.hid (nmG_no HG.out hc)
            clear HG hc
            go_wp2_with fail
            refine (netIsLetter _ false _ (by simp <;> omega)).mono ?_
            rintro e W2 ⟨rfl, rfl⟩
            go_wp2
            go_ret
            exact ⟨by rw [← HN.out]; rfl, hb1'⟩
        · have hz0 : ((pos : Int) == 0) = false := by rw [beq_eq_false_iff_ne]; omega
          rw [show decide (pos = 0) = false by simp [k0]] at HG
          rcases nm_cls false c.toNat with ⟨x1, x2, hc⟩ | ⟨x1, x2, hc⟩ | ⟨x1, hc⟩ | ⟨x1, x2, hc⟩ | ⟨x1, x2, hc⟩ | ⟨x1, x2, x3, hc⟩ | ⟨x1, hc⟩ | ⟨x1, hc⟩
          · have HN := Lib.hid (nmG_step HG.out hc)
            clear HG hc
            go_wp2_with fail
            refine (netIsLetter _ true _ (by simp <;> omega)).mono ?_
            rintro e W2 ⟨rfl, rfl⟩
            go_wp2
            go_roundw
            case rel => exact ⟨pos + 1, by omega, hit1, hb1', by rw [kn]; exact HN.out⟩
            case measure => rw [hmu, hmu1]; omega
          · have HN := Lib.hid (nmG_step HG.out hc)
            clear HG hc
            go_wp2_with fail
            refine (netIsLetter _ true _ (by simp <;> omega)).mono ?_
            rintro e W2 ⟨rfl, rfl⟩
            go_wp2
            go_roundw
            case rel => exact ⟨pos + 1, by omega, hit1, hb1', by rw [kn]; exact HN.out⟩
            case measure => rw [hmu, hmu1]; omega
          · have gn : ((c.toNat : Int) != 95) = true := by rw [bne_iff_ne]; omega
            have HN := Lib.hid (nmG_no HG.out hc)
            clear HG hc
            go_wp2_with fail
            refine (netIsLetter _ false _ (by simp <;> omega)).mono ?_
            rintro e W2 ⟨rfl, rfl⟩
            go_wp2_with fail
            refine (netIsDigit _ false _ (by simp <;> omega)).mono ?_
            rintro e W2 ⟨rfl, rfl⟩
            go_wp2
            go_ret
            exact ⟨by rw [← HN.out]; rfl, hb1'⟩
          · have gn : ((c.toNat : Int) != 95) = true := by rw [bne_iff_ne]; omega
            have HN := Lib.hid (nmG_step HG.out hc)
            clear HG hc
            go_wp2_with fail
            refine (netIsLetter _ false _ (by simp <;> omega)).mono ?_
            rintro e W2 ⟨rfl, rfl⟩
            go_wp2_with fail
            refine (netIsDigit _ true _ (by simp <;> omega)).mono ?_
            rintro e W2 ⟨rfl, rfl⟩
            go_wp2
            go_roundw
            case rel => exact ⟨pos + 1, by omega, hit1, hb1', by rw [kn]; exact HN.out⟩
            case measure => rw [hmu, hmu1]; omega
          · have gn : ((c.toNat : Int) != 95) = true := by rw [bne_iff_ne]; omega
            have HN := Lib.hid (nmG_no HG.out hc)
            clear HG hc
            go_wp2_with fail
            refine (netIsLetter _ false _ (by simp <;> omega)).mono ?_
            rintro e W2 ⟨rfl, rfl⟩
            go_wp2_with fail
            refine (netIsDigit _ false _ (by simp <;> omega)).mono ?_
            rintro e W2 ⟨rfl, rfl⟩
            go_wp2
            go_ret
            exact ⟨by rw [← HN.out]; rfl, hb1'⟩
          · have gn : ((c.toNat : Int) != 95) = true := by rw [bne_iff_ne]; omega
            have HN := Lib.hid (nmG_no HG.out hc)
            clear HG hc
            go_wp2_with fail
            refine (netIsLetter _ false _ (by simp <;> omega)).mono ?_
            rintro e W2 ⟨rfl, rfl⟩
            go_wp2_with fail
            refine (netIsDigit _ false _ (by simp <;> omega)).mono ?_
            rintro e W2 ⟨rfl, rfl⟩
            go_wp2
            go_ret
            exact ⟨by rw [← HN.out]; rfl, hb1'⟩
          · have gn : ((c.toNat : Int) != 95) = false := by simp; omega
            have HN := Lib.hid (nmG_step HG.out hc)
            clear HG hc
            go_wp2_with fail
            refine (netIsLetter _ false _ (by simp <;> omega)).mono ?_
            rintro e W2 ⟨rfl, rfl⟩
            go_wp2_with fail
            refine (netIsDigit _ false _ (by simp <;> omega)).mono ?_
            rintro e W2 ⟨rfl, rfl⟩
            go_wp2
            go_roundw
            case rel => exact ⟨pos + 1, by omega, hit1, hb1', by rw [kn]; exact HN.out⟩
            case measure => rw [hmu, hmu1]; omega
          · have gn : ((c.toNat : Int) != 95) = true := by rw [bne_iff_ne]; omega
            have HN := Lib.hid (nmG_no HG.out hc)
            clear HG hc
            go_wp2_with fail
            refine (netIsLetter _ false _ (by simp <;> omega)).mono ?_
            rintro e W2 ⟨rfl, rfl⟩
            go_wp2_with fail
            refine (netIsDigit _ false _ (by simp <;> omega)).mono ?_
            rintro e W2 ⟨rfl, rfl⟩
            go_wp2
            go_ret
            exact ⟨by rw [← HN.out]; rfl, hb1'⟩
      · have hnC : nmC (decide (pos = 0)) c.toNat = false := by
          rcases nm_cls (decide (pos = 0)) c.toNat with ⟨x1, x2, hc⟩ | ⟨x1, x2, hc⟩ | ⟨x1, hc⟩ | ⟨x1, x2, hc⟩ | ⟨x1, x2, hc⟩ | ⟨x1, x2, x3, hc⟩ | ⟨x1, hc⟩ | ⟨x1, hc⟩ <;> first | exact hc | (exfalso; omega)
        have HN := Lib.hid (nmG_no HG.out hnC)
        have hnext : ∀ ty, (Instr.next (.pointer (some ⟨w.heap.size, 0, none⟩)) true ty).run Tryz.prog wr = _ := fun ty => Lib.run_next_any_at wr w.heap.size s pos ty hit hp
        have hrn := (decode_high s pos hp (by rw [hel]; omega)).1
        have hb1' : Below w.heap.size w (wr.iterAt w.heap.size s (pos + (Utf8.decode s pos).2)) := Lib.below_iterAt hb (Nat.le_refl _) s _
        generalize wr.iterAt w.heap.size s (pos + (Utf8.decode s pos).2) = W1 at hnext hb1'
        generalize (Utf8.decode s pos).1 = rn at hnext hrn
        have gn : ((rn : Int) != 95) = true := by rw [bne_iff_ne]; omega
        clear hel hit hb HG hnC
        by_cases k0 : pos = 0
        · have hz0 : ((pos : Int) == 0) = true := by rw [beq_iff_eq]; omega
          go_wp2_with fail
          refine (netIsLetter _ false _ (by simp <;> omega)).mono ?_
          rintro e W2 ⟨rfl, rfl⟩
          go_wp2
          go_ret
          exact ⟨by rw [← HN.out]; rfl, hb1'⟩
        · have hz0 : ((pos : Int) == 0) = false := by rw [beq_eq_false_iff_ne]; omega
          go_wp2_with fail
          refine (netIsLetter _ false _ (by simp <;> omega)).mono ?_
          rintro e W2 ⟨rfl, rfl⟩
          go_wp2_with fail
          refine (netIsDigit _ false _ (by simp <;> omega)).mono ?_
          rintro e W2 ⟨rfl, rfl⟩
          go_wp2
          go_ret
          exact ⟨by rw [← HN.out]; rfl, hb1'⟩
    · have hd : L.drop pos = [] := List.drop_of_length_le (by omega)
      rw [hd] at hG
      have HN := Lib.hid (show true = R from hG)
      have hnext : ∀ ty, (Instr.next (.pointer (some ⟨w.heap.size, 0, none⟩)) true ty).run Tryz.prog wr = _ := fun ty => Lib.run_next_end_at wr w.heap.size s pos ty hit hp
      clear hG hd
      go_wp2
      go_ret
      exact ⟨by rw [← HN.out]; rfl, hb⟩
end Go.Proofs.YtdeplhihcifmeaaGreatDoor

/- The contract of the reference's CheckRange. -/
namespace Go.Proofs.YtdeplhihcifmeaaGreatDoor
open Go.RowKit

set_option maxHeartbeats 400000 in
theorem refCheckRange (n lo hi : Int) (w : World) :
    Calls Tryz.prog 75 #[.int .i64 n, .int .i64 lo, .int .i64 hi] w fun e w' => e = .returned (.int .i64 (if n < lo ∨ hi < n then 3 else 0)) ∧ w = w' := by
  by_cases h1 : n < lo
  · go_enter Tryz.func75, Tryz.ntmps75
    go_wp2
    go_ret
    simp
  · by_cases h2 : hi < n
    all_goals
      go_enter Tryz.func75, Tryz.ntmps75
      go_wp2
      go_ret
      simp <;> omega
end Go.Proofs.YtdeplhihcifmeaaGreatDoor

/- CheckDraw, Draw with an error, list, and the law of NettingNames. -/
namespace Go.Proofs.YtdeplhihcifmeaaGreatDoor
open Go.RowKit Go.Shelf Ck

def rngN (n lo hi : Int) : Int := if n < lo ∨ hi < n then 3 else 0
def drawE (key n : Int) : Int := if rngN key 1 2147483646 = 0 then rngN n 0 256 else 3
theorem rngN_or (n lo hi : Int) : rngN n lo hi = 0 ∨ rngN n lo hi = 3 := by
  unfold rngN
  split
  · exact .inr rfl
  · exact .inl rfl
theorem refCheckDraw (key n : Int) (w : World) : Calls Tryz.prog 33 #[.int .i64 key, .int .i64 n] w fun e w' => e = .returned (.int .i64 (drawE key n)) ∧ w = w' := by
  rcases rngN_or key 1 2147483646 with h1 | h1
  · rcases rngN_or n 0 256 with h2 | h2
    all_goals
      have HE := Lib.hid (show drawE key n = rngN n 0 256 by rw [drawE, if_pos h1])
      have H1 := Lib.hid h1
      have H2 := Lib.hid h2
      clear h1 h2
      go_enter Tryz.func33, Tryz.ntmps33
      go_wp2_with fail
      refine (refCheckRange key 1 2147483646 _).mono ?_
      rintro e w1 ⟨rfl, rfl⟩
      rw [show (if key < 1 ∨ 2147483646 < key then (3 : Int) else 0) = 0 from H1.out]
      go_wp2_with fail
      refine (refCheckRange n 0 256 _).mono ?_
      rintro e w1 ⟨rfl, rfl⟩
      have h2 := H2.out
      unfold rngN at h2
      rw [h2]
      clear h2
      go_wp2
      go_ret
      exact ⟨by rw [HE.out, H2.out]; rfl, rfl⟩
  · have HE := Lib.hid (show drawE key n = 3 by rw [drawE, if_neg (by rw [h1]; decide)])
    have H1 := Lib.hid h1
    clear h1
    go_enter Tryz.func33, Tryz.ntmps33
    go_wp2_with fail
    refine (refCheckRange key 1 2147483646 _).mono ?_
    rintro e w1 ⟨rfl, rfl⟩
    rw [show (if key < 1 ∨ 2147483646 < key then (3 : Int) else 0) = 3 from H1.out]
    go_wp2
    go_ret
    exact ⟨by rw [HE.out]; rfl, rfl⟩
theorem netDrawBad (key n : Int) (w : World) (h : drawE key n = 3) : Calls Tryz.prog 32 #[.int .i64 key, .int .i64 n] w fun e w' => e = .returned (.tuple #[.slice none 0 0, .int .i64 3]) ∧ Below w.heap.size w w' := by
  have HF := Lib.hid (show firstE [rngN key 1 2147483646, rngN n 0 256] = 3 by
    rcases rngN_or key 1 2147483646 with h1 | h1
    · rw [drawE, if_pos h1] at h
      rw [h1, h]
      rfl
    · rcases rngN_or n 0 256 with h2 | h2 <;> rw [h1, h2] <;> rfl)
  clear h
  go_enter Tryz.func32, Tryz.ntmps32
  go_wp2_with fail
  refine (netCheckRange key 1 2147483646 _).mono ?_
  rintro e w1 ⟨rfl, rfl⟩
  rw [show (if key < 1 ∨ 2147483646 < key then (3 : Int) else 0) = rngN key 1 2147483646 from rfl]
  go_wp2_with fail
  refine (netCheckRange n 0 256 _).mono ?_
  rintro e w1 ⟨rfl, rfl⟩
  rw [show (if n < 0 ∨ 256 < n then (3 : Int) else 0) = rngN n 0 256 from rfl]
  have hb0 : Below w.heap.size w (w.alloc (.cells #[.int .i64 (rngN key 1 2147483646), .int .i64 (rngN n 0 256)] 32)) := (Below.refl _ _).alloc (Nat.le_refl _) _
  go_wp2_with fail
  refine (netFirst2 w.heap.size _ (rngN key 1 2147483646) (rngN n 0 256) 32 _ (by exact heap_alloc_new _ _)).mono ?_
  rintro e w1 ⟨rfl, rfl⟩
  rw [HF.out]
  go_wp2
  go_ret2
  exact ⟨rfl, hb0⟩
theorem lwListBad (w : World) : Calls Tryz.prog 37 #[.slice none 0 0, .int .i64 3, .int .i64 3, .slice none 0 0] w fun e w' => e = .returned (.bool true) ∧ Below w.heap.size w w' := by
  go_enter Tryz.func37, Tryz.ntmps37
  go_wp2
  go_ret
  exact ⟨by simp, Below.refl _ _⟩
theorem lwListOk (A A' : Option Addr) (c c' : Nat) (l : List Nat) (w : World) (hl : l.length ≤ 4096) (h : RI w w.heap.size A l) (h' : RI w w.heap.size A' l) :
    Calls Tryz.prog 37 #[.slice A l.length c, .int .i64 0, .int .i64 0, .slice A' l.length c'] w fun e w' => e = .returned (.bool true) ∧ Below w.heap.size w w' := by
  have H1 := Lib.hid h
  have H2 := Lib.hid h'
  clear h h'
  go_enter Tryz.func37, Tryz.ntmps37
  go_wp2_with fail
  refine (refSameInts A A' c c' l _ hl H1.out H2.out).mono ?_
  rintro e w1 ⟨rfl, hb⟩
  go_wp2
  go_ret
  exact ⟨by simp, hb⟩
theorem drawE_zero {key n : Int} (h : drawE key n = 0) : 1 ≤ key ∧ key < 2147483647 ∧ ∃ k : Nat, n = k ∧ k ≤ 256 := by
  have e : ∀ a lo hi : Int, rngN a lo hi = 0 → lo ≤ a ∧ a ≤ hi := fun a lo hi h => by
    unfold rngN at h
    split at h
    · cases h
    · omega
  rcases rngN_or key 1 2147483646 with h1 | h1
  · rw [drawE, if_pos h1] at h
    have a := e _ _ _ h1
    have b := e _ _ _ h
    exact ⟨by omega, by omega, n.toNat, by omega, by omega⟩
  · rw [drawE, if_neg (by rw [h1]; decide)] at h
    cases h
theorem drawE_or (key n : Int) : drawE key n = 0 ∨ drawE key n = 3 := by
  unfold drawE
  split
  · exact rngN_or _ _ _
  · exact .inr rfl
set_option maxHeartbeats 4000000 in
set_option maxRecDepth 100000 in
theorem lawNames (s : ByteArray) (key n : Int) (w : World) (hL : LaidLen w) : Calls Tryz.prog 4 #[.string s, .int .i64 key, .int .i64 n] w fun e w' => e = .returned (.bool true) ∧ Below w.heap.size w w' := by
  have HLL := Lib.hid hL
  clear hL
  by_cases hs : 60 < s.size
  · have h1 : (60 : Int) < (s.size : Int) := by omega
    clear hs
    go_enter Tryz.func4, Tryz.ntmps4
    go_wp2_with fail
    refine (awake1 _ HLL.out).mono ?_
    rintro e w1 ⟨rfl, hb1⟩
    have hl1 := HLL.out.below hb1 HLL.out.lt
    go_wp2_with fail
    refine (awake1 _ hl1).mono ?_
    rintro e w2 ⟨rfl, hb2⟩
    go_wp2
    go_ret
    exact ⟨rfl, hb1.trans (hb2.mono hb1.size)⟩
  have h1 : ¬ (60 : Int) < (s.size : Int) := by omega
  clear hs
  rcases drawE_or key n with hd | hd
  · obtain ⟨k0, k1, m, rfl, hm⟩ := drawE_zero hd
    have HD := Lib.hid hd
    obtain ⟨l, hl⟩ : ∃ l, drawL key m = l := ⟨_, rfl⟩
    have hll : l.length ≤ 4096 := by rw [← hl, drawL_length]; omega
    clear hd
    go_enter Tryz.func4, Tryz.ntmps4
    go_wp2_with fail
    refine (awake1 _ HLL.out).mono ?_
    rintro e w1 ⟨rfl, hb1⟩
    go_wp2_with fail
    refine (netDraw key m _ k0 k1 hm).mono ?_
    rintro e w2 ⟨v, rfl, hrow, hb2⟩
    rw [hl] at hrow
    obtain ⟨a2, c2, rfl, r2⟩ := own_ri hrow
    have BW := hb1.trans (hb2.mono hb1.size)
    have R2 := Lib.hid r2
    clear hrow r2 hb1 hb2
    go_wp2_with fail
    refine (refCheckDraw key m _).mono ?_
    rintro e w3 ⟨rfl, rfl⟩
    rw [HD.out]
    go_wp2_with fail
    refine (refDrawX key m _ (by omega) k1 (by omega)).mono ?_
    rintro e w3 ⟨v3, rfl, hrow3, hb3⟩
    rw [hl] at hrow3
    obtain ⟨a3, c3, rfl, r3⟩ := own_ri hrow3
    replace BW := BW.trans (hb3.mono BW.size)
    replace R2 := Lib.hid (R2.out.go hb3)
    have R3 := Lib.hid r3
    clear hrow3 r3 hb3
    go_wp2_with fail
    refine (netIsName s _).mono ?_
    rintro e w4 ⟨rfl, hb4⟩
    replace BW := BW.trans (hb4.mono BW.size)
    replace R2 := Lib.hid (R2.out.go hb4)
    replace R3 := Lib.hid (R3.out.go hb4)
    clear hb4
    go_wp2_with fail
    refine (refIsName s _).mono ?_
    rintro e w5 ⟨rfl, rfl⟩
    have hq : (nameB s == nameB s) = true := by simp
    go_wp2_with fail
    refine (lwListOk a2 a3 c2 c3 l _ hll R2.out R3.out).mono ?_
    rintro e w6 ⟨rfl, hb6⟩
    replace BW := BW.trans (hb6.mono BW.size)
    clear hb6
    go_wp2
    go_ret
    exact ⟨by simp, BW⟩
  · have HD := Lib.hid hd
    clear hd
    go_enter Tryz.func4, Tryz.ntmps4
    go_wp2_with fail
    refine (awake1 _ HLL.out).mono ?_
    rintro e w1 ⟨rfl, hb1⟩
    go_wp2_with fail
    refine (netDrawBad key n _ HD.out).mono ?_
    rintro e w2 ⟨rfl, hb2⟩
    have BW := hb1.trans (hb2.mono hb1.size)
    clear hb1 hb2
    go_wp2_with fail
    refine (refCheckDraw key n _).mono ?_
    rintro e w3 ⟨rfl, rfl⟩
    rw [HD.out]
    go_wp2_with fail
    refine (netIsName s _).mono ?_
    rintro e w4 ⟨rfl, hb4⟩
    replace BW := BW.trans (hb4.mono BW.size)
    clear hb4
    go_wp2_with fail
    refine (refIsName s _).mono ?_
    rintro e w5 ⟨rfl, rfl⟩
    have hq : (nameB s == nameB s) = true := by simp
    go_wp2_with fail
    refine (lwListBad _).mono ?_
    rintro e w6 ⟨rfl, hb6⟩
    replace BW := BW.trans (hb6.mono BW.size)
    clear hb6
    go_wp2
    go_ret
    exact ⟨by simp, BW⟩
end Go.Proofs.YtdeplhihcifmeaaGreatDoor

/- What the netting rows list of the library's tables: a world that reads so; what the shape of a world says of MaxLen; arguments opened. -/
namespace Go.Proofs.YtdeplhihcifmeaaGreatDoor
open Go.ChangeShapes Go.WideShapes Go.ChangeAt Go.WideMaps Go.WideElems Go.RowKit

def naLaid : List (String × DataW Unit) := [("math/bits.deBruijn32tab", Rows.laid_math_bits_deBruijn32tab), ("math/bits.deBruijn64tab", Rows.laid_math_bits_deBruijn64tab), ("internal/strconv.uint64pow10", Rows.laid_internal_strconv_uint64pow10), ("unicode/utf8.acceptRanges", Rows.laid_unicode_utf8_acceptRanges), ("strconv.ErrRange", Rows.laid_strconv_ErrRange), ("strconv.ErrSyntax", Rows.laid_strconv_ErrSyntax), ("unicode/utf8.first", Rows.laid_unicode_utf8_first)]
theorem Tryz.ownT : ownKnob Tryz.prog.godebug = none := by kernel_rfl
theorem Tryz.laidOutT : laidOutB Tryz.prog = true := by kernel_rfl
/-- A world that is laid so meets the condition. -/
theorem door_met (os : Os) (args : Array Value) : laidMetH Tryz.prog naLaid ((World.laidAll Tryz.prog os naLaid).forCall (fun _ _ => 0) ⟨#[], args, []⟩).memory := by
  rw [MakeChecks.laidMetH_plain _ _ _ (by kernel_rfl)]
  exact laidMet_laidAll _ (by kernel_rfl) (by kernel_rfl)
theorem laidLen_shaped {w : World} (h : w.ShapedOpen Tryz.prog) : LaidLen w :=
  cell_of_shapedOpen_int (t := 3) (zero := #[.int .i64 0]) h (of_decide_eq_true (by kernel_rfl)) (by kernel_rfl) rfl (by kernel_rfl) (by kernel_rfl) Tryz.underlying3
/-- A contract that may lean on the world's shape and on what the row lists. -/
theorem returns_and_shaped {H : Type} {enc : TypeId × Value → H} {a : Assume} {C : Checked} {os : Os} {f : FuncId} {fn : Func} {s : ChangeSpec} {conds : List PathCond} {apart fresh handsOn again : Bool} {X : World → Array Value → Prop}
    (hX : ∀ (w w' : World) (args : Array Value), w.heap = w'.heap → X w args → X w' args)
    (own : ownKnob C.prog.godebug = none) (started : os.Started) (noInit : C.prog.inits.idxOf? f = none) (hfn : C.prog.funcs[f]? = some fn)
    (witness : ∃ (w : World) (tape : Tape) (i : Input), w.os = os ∧ (w.forCall tape i).Shaped C.prog ∧ i.vars = [] ∧ Input.okWide C.prog (w.forCall tape i) .any w.heap.size f i ∧
      ((s.pre enc C.prog fn conds apart (w.forCall tape i).memory i.args ∧ X (w.forCall tape i).memory i.args) ∧ sizedMet enc C.prog fn (OpenSpec.ofChange s) apart (w.forCall tape i).memory i.args) ∧ a.holds C.prog (lone (Frame.enter C.prog f i.args .normal) [] (w.forCall tape i)))
    (contract : ∀ (W : World) (base : Nat) (args : Array Value) (ds gs : List (DataW H)) (before : List MemPlace),
      (∀ (j : Nat) t v, fn.params[j]? = some t → args[j]? = some v → Value.okWide C.prog W .any base t v) →
      DataW.Whole enc C.prog fn.params.toList s.vars apart W args.toList ds gs before → X W args → W.ShapedOpen C.prog →
      Calls C.prog f args W fun e W' => ∃ v, e = .returned v ∧ s.post enc C.prog fn apart fresh handsOn again W args v W') :
    ReturnsInHanded a C os f .any (fun w args => (s.pre enc C.prog fn conds apart w args ∧ X w args) ∧ sizedMet enc C.prog fn (OpenSpec.ofChange s) apart w args) (s.post enc C.prog fn apart fresh handsOn again) := by
  refine returnsInHanded_of_calls own started noInit witness ?_
  intro w tape i _ hsh _ hok hpre hholds
  obtain ⟨_, _, _, fn', hfn', _, _, _, _, hval⟩ := hok
  obtain rfl : fn' = fn := Option.some.inj (hfn'.symm.trans hfn)
  obtain ⟨⟨⟨ds, gs, before, hw, hc⟩, hx⟩, hz⟩ := hpre
  refine (contract (w.forCall tape i) w.heap.size i.args ds gs before hval (DataW.Whole.of_heap (w' := w.forCall tape i) (by rfl) hw) (hX _ _ _ (by rfl) hx) hsh).mono fun e W' ⟨v, he, hp⟩ => ?_
  subst he
  exact ChangeSpec.post_blind hp
set_option maxRecDepth 100000 in
theorem cell_intT {w : World} {r : Reach} {b0 : Nat} {k : IntKind} {t : TypeId} {v : Value} (ht : Tryz.prog.underlying t = some (.int k)) (h : Cell.okWide Tryz.prog w r b0 t v) : ∃ n, v = .int k n ∧ k.has n := by
  simp only [Cell.okWide, ht] at h
  cases v <;> simp_all [Cell.ok]
set_option maxRecDepth 100000 in
theorem cell_strT {w : World} {r : Reach} {b0 : Nat} {v : Value} (h : Cell.okWide Tryz.prog w r b0 9 v) : ∃ s, v = .string s := by
  have ht := Tryz.underlying9
  simp only [Cell.okWide, ht] at h
  cases v <;> simp_all [Cell.ok]
set_option maxRecDepth 100000 in
theorem open_strv {w : World} {r : Reach} {b0 : Nat} {v : Value} (h : Value.okWide Tryz.prog w r b0 9 v) : ∃ s, v = .string s := by
  have hS := Tryz.underlying9
  simp only [Value.okWide, hS] at h
  exact cell_strT h
set_option maxRecDepth 100000 in
theorem open_intv {w : World} {r : Reach} {b0 : Nat} {v : Value} (h : Value.okWide Tryz.prog w r b0 3 v) : ∃ n, v = .int .i64 n ∧ -9223372036854775808 ≤ n ∧ n ≤ 9223372036854775807 := by
  have hS := Tryz.underlying3
  simp only [Value.okWide, hS] at h
  obtain ⟨n, rfl, hn⟩ := cell_intT hS h
  simp only [IntKind.has, IntKind.min, IntKind.max, IntKind.signed, IntKind.bits] at hn
  refine ⟨n, rfl, ?_, ?_⟩ <;> simp at hn <;> omega
end Go.Proofs.YtdeplhihcifmeaaGreatDoor
