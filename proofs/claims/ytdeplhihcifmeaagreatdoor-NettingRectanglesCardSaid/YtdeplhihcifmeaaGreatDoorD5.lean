/- Helpers: D5. -/
import Derived.Test.YtdeplhihcifmeaaGreatDoorD4
import Derived.Deep.RegionHeld3
import Derived.Test.YtdeplhihcifmeaaGreatDoorRows
import Derived.Shelf.Strings.BuilderK
import Derived.BigQuiet
import Derived.Shelf.Strings.Repeat
import Derived.Lib.OthersKept
import Derived.Lib.Strings
/- Mirror of netting: moved by the mirror, and a net whose mirror keeps its order. -/
namespace Go.Proofs.YtdeplhihcifmeaaGreatDoor
open Go.RowKit

set_option maxHeartbeats 1000000 in
set_option maxRecDepth 100000 in
theorem netMirrored (x y : Int) (w : World) (h1 : -1000000 ≤ x) (h2 : x ≤ 1000000) :
    Calls Tryz.prog 114 #[.agg #[.int .i64 x, .int .i64 y]] w fun e w' => e = .returned (.agg #[.int .i64 (-x), .int .i64 y]) ∧ Below w.heap.size w w' := by
  go_enter Tryz.func114, Tryz.ntmps114
  go_wp2
  exact bodyPost_ret (v := .agg #[.int .i64 (-x), .int .i64 y]) (by simp [results, Tryz.results114, go_sem]) rfl ⟨rfl, ((Below.refl _ _).alloc (Nat.le_refl _) _).alloc (by simp) _⟩
theorem mir_row {w10 : World} {base : Nat} {v : Value} {l : List Ck.Bar} {k : Nat} (hlt : k < l.length) (h : w10.ownsRow base 24 3 v (k + 1) (bcellsL ((l.take k).map (mirB)) ++ [.int .i64 (-l[k].x), .int .i64 l[k].y, .int .i64 (-l[k].s)])) :
    Hid (w10.ownsRow base 24 3 v (k + 1) (bcellsL ((l.take (k + 1)).map (mirB)))) := by
  rw [List.take_succ_eq_append_getElem hlt, List.map_append, bcellsL, List.flatMap_append, ← bcellsL]
  exact h
def MirPost (l : List Ck.Bar) (w : World) (e : Ending) (w' : World) : Prop :=
  ∃ v, e = .returned v ∧ w'.ownsRow w.heap.size 24 3 v l.length (bcellsL (sortBars (l.map (mirB)))) ∧ Below w.heap.size w w'

set_option maxHeartbeats 4000000 in
set_option maxRecDepth 100000 in
theorem netMovedM (A : Option Addr) (c : Nat) (l : List Ck.Bar) (w : World) (hl : l.length ≤ 4096) (hok : ∀ x ∈ l, Ck.okBar x) (h : RB w w.heap.size A l) :
    Calls Tryz.prog 113 #[.slice A l.length c, .func (.func 114) #[] #[]] w (MirPost l w) := by
  obtain ⟨ib, hib, hb0, hb01, hb02⟩ := info_parts Tryz.info24
  have hmk : ∀ W : World, (Instr.makeSlice 22 (.int .i64 0) (.int .i64 (l.length : Int))).run Tryz.prog W = .ok (.slice (some ⟨W.heap.size, 0, none⟩) 0 l.length) (W.alloc (.cells (zeros3 l.length) 24)) := fun W => by
    have := run_make (P := Tryz.prog) W 22 24 ib _ Tryz.underlying22 hib hb0 .i64 .i64 0 (l.length : Int) (by omega) (by omega) (by rw [hb02]; omega) (by omega)
    rw [hb01, Int.toNat_natCast] at this
    exact this
  have HIB := Lib.hid hib
  have HB0 := Lib.hid hb0
  have HB1 := Lib.hid hb01
  have HB2 := Lib.hid hb02
  have HR := Lib.hid h
  have hl' : (l.length : Int) ≤ 4096 := by omega
  clear hib hb0 hb01 hb02 h
  go_enter Tryz.func113, Tryz.ntmps113
  go_wp2_with fail
  go_loopw [5, 7, 13] (fun v _ i wi => ∃ k : Nat, k ≤ l.length ∧ i = .int .i64 k ∧ Hid (wi.ownsRow w.heap.size 24 3 v k (bcellsL ((l.take k).map (mirB)))) ∧ Below w.heap.size w wi) (fun _ _ i _ => l.length - (intOf i).toNat)
  case atStart => exact ⟨0, Nat.zero_le _, rfl, made_row _ _ _ (Nat.le_refl _) hl _ (by rw [zeros3, size_madeCells]) _, (Below.refl _ _).alloc (Nat.le_refl _) _⟩
  case round =>
    obtain ⟨k, hk, rfl, hown, hb⟩ := hrel
    by_cases hlt : k < l.length
    · obtain ⟨b, off, rfl, hB, hc⟩ := HR.out.below hb (by omega)
      obtain ⟨d0, d1, d2⟩ := hc k hlt
      have hbz := hb.size
      obtain ⟨⟨⟨hx1, hx2⟩, ⟨hy1, hy2⟩, _⟩, hs, _⟩ := hok _ (List.getElem_mem hlt)
      replace hx1 : -100000 ≤ l[k].x := hx1
      replace hx2 : l[k].x ≤ 100000 := hx2
      replace hy1 : -100000 ≤ l[k].y := hy1
      replace hy2 : l[k].y ≤ 100000 := hy2
      have hs1 : -1 ≤ l[k].s := by omega
      have hs2 : l[k].s ≤ 1 := by omega
      clear hc hs
      go_wp2_with fail
      obtain ⟨w1, hw1, e0, e1, e2, hb1, hz1⟩ := box3 wr (.int .i64 l[k].x) (.int .i64 l[k].y) (.int .i64 l[k].s) 24
      rw [← hw1]
      clear hw1 d0 d1 d2
      have hk0 : K5 wr wr.heap.size wr.heap.size (.int .i64 l[k].x) (.int .i64 l[k].y) (.int .i64 l[k].s) (.int .i64 l[k].x) (.int .i64 l[k].y) w1.drew := ⟨e0, e1, e2, e0, e1, hz1, hz1, below_drew hb1⟩
      go_region_law (first
        | (go_simp; go_at_call 86; refine (netLower _ _ _ _).mono ?_; rintro e w9 ⟨rfl, hb9⟩; have hk9 := carry5 hb9 (by assumption); obtain ⟨_, _, _, _, _, _, _, _⟩ := id hk9)
        | (go_simp; go_at_call 89; refine (netUpper _ _ _ _ hx1 hx2 hy1 hy2 hs1 hs2).mono ?_; rintro e w9 ⟨rfl, hb9⟩; have hk9 := carry5 hb9 (by assumption); obtain ⟨_, _, _, _, _, _, _, _⟩ := id hk9)
        | (go_simp; go_at_call 114; refine (netMirrored _ _ _ (by omega) (by omega)).mono ?_; rintro e w9 ⟨rfl, hb9⟩; have hk9 := carry5 hb9 (by assumption); obtain ⟨_, _, _, _, _, _, _, _⟩ := id hk9)
        | (go_simp; go_at_call 147; refine (netBetweenUp _ _ _ _ _ (by omega) (by omega) (by omega) (by omega) (by omega)).mono ?_; rintro e w9 ⟨rfl, hb9⟩; have hk9 := carry5 hb9 (by assumption); obtain ⟨_, _, _, _, _, _, _, _⟩ := id hk9; rw [show -(l[k].x + l[k].s) - -l[k].x = -l[k].s from by omega])
        | (refine step_append_lies _ rfl (.tmp 17) (.tmp 27) 22 rfl w.heap.size 24 ib (.agg #[.int .i64 0, .int .i64 0, .int .i64 0]) 3 24 Tryz.underlying22 HIB.out HB0.out HB1.out HB2.out rfl (by decide) u5 k (bcellsL ((l.take k).map (mirB))) (by simp [Act.eval]) (by exact (ownsRow_below hown.out (K5.below (by assumption))).alloc _) _ 1 1 [.int .i64 (-l[k].x), .int .i64 l[k].y, .int .i64 (-l[k].s)] (by first | (simp [Act.eval]; done) | (simp [Act.eval]; rfl)) rfl (by exact three_new _ _ _ _ _) (by intro u hu; simp at hu; rcases hu with rfl | rfl | rfl <;> rfl) (by decide) (by unfold maxLen; omega) (by omega) (by simp; omega) _ rfl ?_; intro gx cap w10 hown10 hgrow10 _ _))
      all_goals
        have hrow := mir_row hlt hown10
        have hbel := hb.trans (mov_below (K5.below (by assumption)) hgrow10 (ownsRow_base hown.out) hbz)
        clear hgrow10 hown10
        go_wp2
        go_roundw
        case rel => exact ⟨k + 1, by omega, by go_num, hrow, hbel⟩
        case measure => simp [intOf]; omega
    · obtain rfl : k = l.length := by omega
      have hrow := hown.out
      rw [List.take_length] at hrow
      have hlm : (l.map (mirB)).length = l.length := List.length_map ..
      rw [← hlm] at hrow
      have hbz := hb.size
      go_wp2_with fail
      refine (netSortBars w.heap.size _ (l.map (mirB)) _ (by omega) hbz hrow).mono ?_
      rintro e w2 ⟨rfl, hrow2, hb2⟩
      rw [hlm] at hrow2
      have HO := Lib.hid hrow2
      clear hrow hrow2
      go_wp2
      go_ret
      exact ⟨_, rfl, HO.out, hb.trans hb2⟩

set_option maxHeartbeats 1000000 in
set_option maxRecDepth 100000 in
/-- Mirror, where the mirrored bars stand in order. -/
theorem netMirrorUp (A : Option Addr) (c : Nat) (l : List Ck.Bar) (w : World) (hl : l.length ≤ 4096) (hcap : l.length ≤ c) (hcm : c ≤ maxLen) (hN : Ck.Net l) (hM : (l.map mirB).Pairwise Ck.Blt) (h : RB w w.heap.size A l) :
    Calls Tryz.prog 64 #[.slice A l.length c] w fun e w' => ∃ v, e = .returned (.tuple #[v, .int .i64 0]) ∧ w'.ownsRow w.heap.size 24 3 v (l.map mirB).length (bcellsL (l.map mirB)) ∧ Below w.heap.size w w' := by
  have HE := Lib.hid ((netE_zero l).2 ⟨hl, hN⟩)
  have HR := Lib.hid h
  have HN := Lib.hid hN
  have HS := Lib.hid (sortBars_net hM)
  have HL := Lib.hid (show (l.map mirB).length = l.length from List.length_map ..)
  clear h hN hM
  go_enter Tryz.func64, Tryz.ntmps64
  go_wp2_with fail
  refine (netCheckNet A c l _ hl hcap hcm HR.out).mono ?_
  rintro e w1 ⟨rfl, hb1⟩
  rw [HE.out]
  go_wp2_with fail
  refine (netMovedM A c l _ hl HN.out.1 ((HR.out.below hb1).more hb1.size)).mono ?_
  rintro e w2 ⟨v, rfl, hrow, hb2⟩
  have hrow' := ownsRow_mono hrow hb1.size
  rw [HS.out, ← HL.out] at hrow'
  have HO := Lib.hid hrow'
  clear hrow hrow'
  go_wp2
  go_ret2
  exact ⟨v, rfl, HO.out, hb1.trans (hb2.mono hb1.size)⟩
end Go.Proofs.YtdeplhihcifmeaaGreatDoor

/- normal of netting; what Canonical returns. -/
namespace Go.Proofs.YtdeplhihcifmeaaGreatDoor
open Go.RowKit

def normL : List Ck.Bar → List Ck.Bar
  | [] => []
  | a :: r => sortBars ((a :: r).map (Ck.Bar.shift (-a.x) (-a.y)))
theorem normL_length (l : List Ck.Bar) : (normL l).length = l.length := by
  cases l with
  | nil => rfl
  | cons a r => rw [normL, (sortBars_perm _).length_eq, List.length_map]
set_option maxHeartbeats 2000000 in
set_option maxRecDepth 100000 in
theorem netNormal (A : Option Addr) (c : Nat) (l : List Ck.Bar) (w : World) (hl : l.length ≤ 4096) (hok : ∀ x ∈ l, Ck.okBar x) (h : RB w w.heap.size A l) :
    Calls Tryz.prog 117 #[.slice A l.length c] w (CopyPost (normL l) w) := by
  rcases l with _ | ⟨x, r⟩
  · clear h hok
    go_enter Tryz.func117, Tryz.ntmps117
    go_wp2
    go_ret
    exact ⟨_, rfl, ⟨rfl, .inl ⟨rfl, rfl⟩⟩, Below.refl _ _⟩
  · obtain ⟨X, Y, S⟩ := x
    obtain ⟨L, hL⟩ : ∃ L, (⟨X, Y, S⟩ : Ck.Bar) :: r = L := ⟨_, rfl⟩
    have HNL := Lib.hid (show normL L = sortBars (L.map (Ck.Bar.shift (-X) (-Y))) by rw [← hL]; rfl)
    have hne : 0 < L.length := by rw [← hL]; simp
    have h0 : L[0]'hne = ⟨X, Y, S⟩ := by subst hL; rfl
    obtain ⟨⟨⟨x1, x2⟩, ⟨y1, y2⟩, -⟩, -⟩ := hok ⟨X, Y, S⟩ (by simp)
    simp only [Ck.Bar.lo] at x1 x2 y1 y2
    rw [hL] at hl hok h ⊢
    clear hL
    obtain ⟨b, off, rfl, hB, hc⟩ := id (h hne)
    obtain ⟨c0, c1, -⟩ := hc 0 hne
    rw [h0] at c0 c1
    simp only [Nat.zero_mul, Nat.add_zero] at c0 c1
    have HR := Lib.hid h
    have HOK := Lib.hid hok
    have hni : (0 : Int) < (L.length : Int) := by omega
    have hn0 : ((L.length : Int) == 0) = false := by rw [beq_eq_false_iff_ne]; omega
    have hnn : ¬ L = [] := fun e => by rw [e] at hne; simp at hne
    have w1' : IntKind.i64.wrap (-X) = -X := by rw [IntKind.wrap_i64]; omega
    have w2' : IntKind.i64.wrap (-Y) = -Y := by rw [IntKind.wrap_i64]; omega
    clear h hok hc h0
    go_enter Tryz.func117, Tryz.ntmps117
    go_wp2_with fail
    go_region_held3 (fun w' => w'.cell? ⟨b, off, none⟩ = some (.int .i64 X) ∧ w'.cell? ⟨b, off + 1, none⟩ = some (.int .i64 Y))
      (first
        | exact hq8
        | exact ⟨c0, c1⟩)
      ((go_at_call 112; refine (netShiftedBy _ c L (-X) (-Y) _ hl HOK.out (by first | exact HR.out | exact HR.out.below (below_drew (Below.refl _ _))) (by omega) (by omega) (by omega) (by omega)).mono ?_; rintro e w9 ⟨v9, rfl, hr9, hb9⟩; have hq8 := And.intro ((hb9.cell (p := ⟨b, off, none⟩) hB).trans c0) ((hb9.cell (p := ⟨b, off + 1, none⟩) hB).trans c1)))
    have HO := Lib.hid hr9
    have B9 : Below w.heap.size w w9 := (below_drew (Below.refl _ _)).trans hb9
    clear hr9 hb9 hq8
    go_wp2
    go_ret
    refine ⟨_, rfl, ?_, B9⟩
    rw [normL_length, HNL.out]
    exact HO.out
def minL (m : List Ck.Bar) : List (List Ck.Bar) → List Ck.Bar
  | [] => m
  | f :: r => if cmpNets f m < 0 then minL f r else minL m r
theorem minH_l : ∀ (r : List Hd) (m : Hd), (minH m r).l = minL m.l (r.map (·.l))
  | [], _ => rfl
  | f :: r, m => by
    rw [minH, List.map_cons, minL]
    split
    · exact minH_l r f
    · exact minH_l r m
def pickL (l : List Ck.Bar) (j : Nat) : List Ck.Bar := if j = 0 then l else sortBars (l.map mirB)
def formsL (l : List Ck.Bar) : List (List Ck.Bar) := (List.range 8).map fun n => normL (turnN (n % 4) (pickL l (n / 4)))
def canonL (l : List Ck.Bar) : List Ck.Bar := match formsL l with | [] => [] | f :: r => minL f r
theorem forms_get (l : List Ck.Bar) {j k : Nat} (hj : j < 2) (hk : k < 4) : (formsL l)[4 * j + k]? = some (normL (turnN k (pickL l j))) := by
  have h : 4 * j + k < 8 := by omega
  rw [formsL, List.getElem?_map, List.getElem?_range h, Option.map_some, show (4 * j + k) % 4 = k by omega, show (4 * j + k) / 4 = j by omega]
theorem mirB_ok {b : Ck.Bar} (h : Ck.okBar b) : Ck.okBar (mirB b) := by
  obtain ⟨⟨⟨h1, h2⟩, ⟨h3, h4⟩, h5⟩, hs, h6, h7⟩ := h
  simp only [Ck.Bar.lo, Ck.Bar.hi] at *
  rcases hs with hs | hs <;> simp only [Ck.inPlace, hs] at h6 h7 <;> simp [mirB, hs, Ck.okBar, Ck.okKnot, Ck.inPlace, Ck.Bar.lo, Ck.Bar.hi] <;> omega
theorem pickL_ok {l : List Ck.Bar} (h : ∀ x ∈ l, Ck.okBar x) (j : Nat) : ∀ x ∈ pickL l j, Ck.okBar x := by
  unfold pickL
  split
  · exact h
  · intro x hx
    rw [(sortBars_perm _).mem_iff, List.mem_map] at hx
    obtain ⟨y, hy, rfl⟩ := hx
    exact mirB_ok (h y hy)
theorem pickL_length (l : List Ck.Bar) (j : Nat) : (pickL l j).length = l.length := by
  unfold pickL
  split
  · rfl
  · rw [(sortBars_perm _).length_eq, List.length_map]
end Go.Proofs.YtdeplhihcifmeaaGreatDoor

/- Canonical of netting, where all forms are nets. -/
namespace Go.Proofs.YtdeplhihcifmeaaGreatDoor
open Go.RowKit

/-- A net of the call's own. -/
def Hd.own (B : Nat) (w : World) (f : Hd) : Prop := f.l.length ≤ 4096 ∧ w.ownsRow B 24 3 f.v f.l.length (bcellsL f.l)
theorem Hd.own.ok {B : Nat} {w : World} {f : Hd} (h : f.own B w) : f.ok w := by
  obtain ⟨a, c, e, ho⟩ := own_oks h.2
  injection e with e1 e2 e3
  exact ⟨h.1, by rw [e1, e3]; exact ho⟩
/-- The forms so far. -/
structure Forms (B : Nat) (v : Value) (ls : List (List Ck.Bar)) (w : World) : Prop where
  has : ∃ fs : List Hd, fs.map Hd.l = ls ∧ (∀ f ∈ fs, f.own B w) ∧ w.ownsRow B 22 1 v fs.length (fs.map Hd.v)
theorem Forms.below {B : Nat} {v : Value} {ls : List (List Ck.Bar)} {w w' : World} (h : Forms B v ls w) (hb : Below w.heap.size w w') : Forms B v ls w' := by
  obtain ⟨fs, h1, h2, h3⟩ := h.has
  exact ⟨fs, h1, fun f hf => ⟨(h2 f hf).1, ownsRow_below (h2 f hf).2 hb⟩, ownsRow_below h3 hb⟩
theorem row_keeps {w w' : World} {v v2 : Value} {b1 b2 e1 e2 z1 z2 n1 n2 : Nat} {xs ys : List Value} {tmp : Obj} (h : w.ownsRow b1 e1 z1 v n1 xs) (hrow : w.ownsRow b2 e2 z2 v2 n2 ys) (he : e1 ≠ e2) (hg : (w.alloc tmp).grownBy w' v2.ownBlock) : w'.ownsRow b1 e1 z1 v n1 xs := by
  refine (h.alloc _).kept hg ?_
  rcases h.2 with ⟨rfl, -⟩ | ⟨g, cap, cur, rfl, -, hgb, -⟩
  · exact .inl rfl
  · refine .inr fun e => ?_
    rcases hrow.2 with ⟨rfl, -⟩ | ⟨g2, cap2, cur2, rfl, -, hgb2, -⟩
    · simp [Value.ownBlock] at e
    · simp only [Value.ownBlock, Option.some.injEq] at e
      subst e
      rw [hgb] at hgb2
      injection hgb2 with h1
      injection h1 with _ h2 _
      exact he h2
theorem ix20 (a b : Value) (w : World) : (Instr.index 155 (.agg #[a, b]) (.int .i64 0)).run Tryz.prog w = .ok a w := by kernel_rfl
theorem ix21 (a b : Value) (w : World) : (Instr.index 155 (.agg #[a, b]) (.int .i64 1)).run Tryz.prog w = .ok b w := by kernel_rfl
set_option maxHeartbeats 8000000 in
set_option maxRecDepth 100000 in
theorem netCanonical (A : Option Addr) (c : Nat) (l : List Ck.Bar) (w : World) (hl : l.length ≤ 4096) (hcap : l.length ≤ c) (hcm : c ≤ maxLen) (hA : A = none → c = 0) (hN : Ck.Net l) (hG : ∀ j, j < 2 → ∀ q, q < 4 → Ck.Net (normL (turnN q (pickL l j)))) (h : RB w w.heap.size A l) :
    Calls Tryz.prog 70 #[.slice A l.length c] w fun e w' => ∃ a c', e = .returned (.tuple #[.slice a (canonL l).length c', .int .i64 0]) ∧ OKS w' a c' (canonL l) ∧ Below w.heap.size w w' := by
  obtain ⟨i0, hi, hz0, hz1, hz2⟩ := info_parts Tryz.info22
  have HI := Lib.hid hi
  have HZ0 := Lib.hid hz0
  have HZ1 := Lib.hid hz1
  have HZ2 := Lib.hid hz2
  have HE := Lib.hid ((netE_zero l).2 ⟨hl, hN⟩)
  have HR := Lib.hid h
  have HN := Lib.hid hN
  have HG := Lib.hid hG
  have HA := Lib.hid hA
  clear h hN hG hA hi hz0 hz1 hz2
  go_enter Tryz.func70, Tryz.ntmps70
  go_wp2_with fail
  refine (netCheckNet A c l _ hl hcap hcm HR.out).mono ?_
  rintro e w1 ⟨rfl, hb1⟩
  rw [HE.out]
  go_wp2_with fail
  refine (netMovedM A c l _ hl HN.out.1 ((HR.out.below hb1).more hb1.size)).mono ?_
  rintro e w2 ⟨v2, rfl, hr2, hb2⟩
  have B2 := hb1.trans (hb2.mono hb1.size)
  have hl2 : (pickL l 1).length = l.length := pickL_length l 1
  rw [← hl2] at hr2
  obtain ⟨A2, c2, rfl, ho2⟩ := own_oks (show w2.ownsRow w1.heap.size 24 3 v2 (pickL l 1).length (bcellsL (pickL l 1)) from hr2)
  have HO2 := Lib.hid ho2
  have HR2 := Lib.hid ((HR.out.below B2).more B2.size)
  have HPK := Lib.hid (show ∀ j : Nat, j < 2 → ∀ W, Below w2.heap.size w2 W → ∃ a c', (∀ w', (Instr.index 155 (.agg #[.slice A l.length c, .slice A2 (pickL l 1).length c2]) (.int .i64 (j : Int))).run Tryz.prog w' = .ok (.slice a (pickL l j).length c') w') ∧ (a = none → c' = 0) ∧ RB W W.heap.size a (pickL l j) by
    intro j hj W hW
    have hj' : j = 0 ∨ j = 1 := by omega
    rcases hj' with rfl | rfl
    · exact ⟨A, c, fun w' => ix20 _ _ _, HA.out, (HR2.out.below hW).more hW.size⟩
    · exact ⟨A2, c2, fun w' => ix21 _ _ _, HO2.out.2.2.1, (HO2.out.2.2.2.below hW).more hW.size⟩)
  have HL2 := Lib.hid hl2
  clear hr2 ho2 hb1 hb2 hl2
  go_wp2_with fail
  go_loopw [5, 7, 8, 9, 10, 20, 23] (fun v _ _ _ _ j _ wr => ∃ i : Nat, i ≤ 2 ∧ j = .int .i64 i ∧ Hid (Forms w2.heap.size v ((formsL l).take (4 * i)) wr) ∧ Below w2.heap.size w2 wr) (fun _ _ _ _ _ j _ _ => 2 - (intOf j).toNat)
  case atStart => exact ⟨0, by omega, rfl, Lib.hid ⟨[], rfl, by simp, ⟨rfl, .inl ⟨rfl, rfl⟩⟩⟩, Below.refl _ _⟩
  case round =>
    obtain ⟨i, hi2, rfl, HF, hb⟩ := hrel
    by_cases hlt : i < 2
    · have hil : (i : Int) < 2 := by omega
      obtain ⟨a, c', hidx, ha, -⟩ := HPK.out i hlt _ hb
      have HAA := Lib.hid ha
      have HIX := Lib.hid (show ∀ W, Below w2.heap.size w2 W → RB W W.heap.size a (pickL l i) by
        intro W hW
        obtain ⟨a', c'', hidx', -, hrb⟩ := HPK.out i hlt W hW
        have e := (hidx w).symm.trans (hidx' w)
        injection e with e _
        injection e with e _ _
        rw [e]; exact hrb)
      have hpl := pickL_length l i
      obtain ⟨m, hm⟩ : ∃ m, pickL l i = m := ⟨_, rfl⟩
      have HM := Lib.hid hm
      rw [hm] at hidx HIX hpl
      have HPL := Lib.hid hpl
      clear ha hm hpl
      go_wp2_with fail
      go_loopw [5, 8, 9, 10, 23] (fun v _ _ _ q wi => ∃ k : Nat, k ≤ 4 ∧ q = .int .i64 k ∧ Hid (Forms w2.heap.size v ((formsL l).take (4 * i + k)) wi) ∧ Below w2.heap.size w2 wi) (fun _ _ _ _ q _ => 4 - (intOf q).toNat)
      case atStart => exact ⟨0, by omega, rfl, HF, hb⟩
      case round =>
        clear HF hb
        obtain ⟨k, hk4, rfl, HF, hb⟩ := hrel
        by_cases hkt : k < 4
        · have hki : (k : Int) < 4 := by omega
          have HT := Lib.hid (show (formsL l).take (4 * i + (k + 1)) = (formsL l).take (4 * i + k) ++ [normL (turnN k m)] by
            rw [show 4 * i + (k + 1) = 4 * i + k + 1 by omega, List.take_add_one, forms_get l hlt hkt, HM.out]; rfl)
          have HGN := Lib.hid (show Ck.Net (normL (turnN k m)) by rw [← HM.out]; exact HG.out i hlt k hkt)
          have HOKm := Lib.hid (show ∀ x ∈ m, Ck.okBar x by rw [← HM.out]; exact pickL_ok HN.out.1 i)
          have HTL := Lib.hid (show (turnN k m).length ≤ 4096 by rw [turnN_length, HPL.out]; exact hl)
          have HNL := Lib.hid (show (normL (turnN k m)).length ≤ 4096 by rw [normL_length]; exact HTL.out)
          have BW := B2.trans (hb.mono B2.size)
          have HRB := Lib.hid (HIX.out _ hb)
          go_wp2_with fail
          refine (netTurnedBy a c' k m _ (by rw [HPL.out]; exact hl) HAA.out HOKm.out (by omega) HRB.out).mono ?_
          rintro e w3 ⟨v3, rfl, hr3, hb3⟩
          obtain ⟨A3, c3, rfl, ho3⟩ := own_oks hr3
          have HO3 := Lib.hid ho3
          clear hr3 ho3
          go_wp2_with fail
          refine (netNormal A3 c3 (turnN k m) _ HTL.out (turnN_ok HOKm.out k) HO3.out.2.2.2).mono ?_
          rintro e w4 ⟨v4, rfl, hr4, hb4⟩
          have C3 := hb.trans (hb3.mono hb.size)
          have hr4' := ownsRow_mono hr4 C3.size
          obtain ⟨A4, c4, rfl, ho4⟩ := own_oks hr4'
          have HO4 := Lib.hid ho4
          clear ho4 hr4
          obtain ⟨N, hNN⟩ : ∃ N, normL (turnN k m) = N := ⟨_, rfl⟩
          rw [hNN] at HT HGN HNL hr4' HO4
          have HNN := Lib.hid hNN
          rw [hNN]
          clear hNN
          go_wp2_with fail
          refine (netWithin A4 c4 N _ HNL.out HO4.out.1 HO4.out.2.1 HGN.out HO4.out.2.2.2).mono ?_
          rintro e w5 ⟨rfl, hb5⟩
          have b5 : Below wr.heap.size wr w5 := (hb3.trans (hb4.mono hb3.size)).trans (hb5.mono (Nat.le_trans hb3.size hb4.size))
          have HF5 := HF.out.below b5
          have hrow5 := ownsRow_below hr4' hb5
          have C5 := hb.trans (b5.mono hb.size)
          obtain ⟨fs, hfs, hfo, hfr⟩ := HF5.has
          have hfl : fs.length ≤ 8 := by
            have h1 : fs.length = ((formsL l).take (4 * i + k)).length := by rw [← hfs, List.length_map]
            rw [h1, List.length_take]
            exact Nat.le_trans (Nat.min_le_right _ _) (by simp [formsL])
          have HFS := Lib.hid hfs
          have HFO := Lib.hid hfo
          have HFR := Lib.hid hfr
          have HR5 := Lib.hid hrow5
          have hb5z := C5.size
          clear hb3 hb4 hb5 b5 HF HF5 hfs hfo hfr hrow5 hr4'
          go_wp2_with (at_builtin; refine wpList_append_own _ rfl _ _ 82 rfl w2.heap.size 22 i0 (.slice none 0 0) 1 24 Tryz.underlying82 HI.out HZ0.out HZ1.out HZ2.out rfl (by decide) _ _ _ rfl (HFR.out.alloc _) ⟨w5.heap.size, 0, none⟩ 1 1 [.slice A4 N.length c4] rfl rfl (one_new _ _ _) ?c2 ?c3 ?c4 ?c5 ?_)
          case c2 => intro u hu; simp at hu; subst hu; rfl
          case c3 => unfold maxLen; omega
          case c4 => omega
          case c5 => simp; omega
          intro v' w6 hown6 hgrow6 _
          have HF6 := Lib.hid (show Forms w2.heap.size v' ((formsL l).take (4 * i + (k + 1))) w6 from ⟨fs ++ [⟨A4, c4, N⟩], by rw [List.map_append, HFS.out, HT.out]; rfl, fun x hx => by
            rcases List.mem_append.1 hx with hx | hx
            · exact ⟨(HFO.out x hx).1, row_keeps (HFO.out x hx).2 HFR.out (by decide) hgrow6⟩
            · rw [List.mem_singleton] at hx
              subst hx
              exact ⟨HNL.out, row_keeps HR5.out HFR.out (by decide) hgrow6⟩, by
            rw [List.length_append, List.map_append]
            exact hown6⟩)
          have C6 : Below w2.heap.size w2 w6 := (C5.alloc hb5z _).grown hgrow6 (by simp; omega) (ownsRow_base HFR.out)
          clear hown6 hgrow6
          go_wp2
          go_roundw
          case rel => exact ⟨k + 1, by omega, by go_num, HF6, C6⟩
          case measure => simp [intOf]; omega
        · obtain rfl : k = 4 := by omega
          go_wp2
          go_roundw
          case rel => exact ⟨i + 1, by omega, by go_num, by rw [show 4 * (i + 1) = 4 * i + 4 by omega]; exact HF, hb⟩
          case measure => simp [intOf]; omega
    · obtain rfl : i = 2 := by omega
      obtain ⟨fs, hfs, hfo, hfr⟩ := HF.out.has
      rw [List.take_of_length_le (by simp [formsL])] at hfs
      rcases fs with _ | ⟨f0, fs⟩
      · have := congrArg List.length hfs
        simp [formsL] at this
      have hfl : fs.length ≤ 8 := by
        have := congrArg List.length hfs
        simp [formsL] at this
        omega
      have HCL := Lib.hid (show canonL l = (minH f0 fs).l by rw [minH_l, canonL, ← hfs]; rfl)
      have HMIN := Lib.hid (show (minH f0 fs).ok wr from (by
        rcases minH_mem fs f0 with h | h
        · rw [h]; exact (hfo f0 List.mem_cons_self).ok
        · exact (hfo _ (List.mem_cons_of_mem _ h)).ok))
      have HFO := Lib.hid (show ∀ f ∈ f0 :: fs, f.ok wr from fun f hf => (hfo f hf).ok)
      have HFR := Lib.hid hfr
      clear hfs hfo hfr HF
      go_wp2_with fail
      refine (netMinFunc w2.heap.size _ f0 fs _ (by omega) HFO.out HFR.out).mono ?_
      rintro e w3 ⟨rfl, hb3⟩
      obtain ⟨R, hR⟩ : ∃ R, minH f0 fs = R := ⟨_, rfl⟩
      have HM3 := Lib.hid (HMIN.out.below hb3)
      rw [hR] at HCL HM3 ⊢
      have B3 := (B2.trans (hb.mono B2.size)).trans (hb3.mono (B2.trans (hb.mono B2.size)).size)
      clear hR HMIN HFO HFR
      obtain ⟨Ra, Rc, Rl⟩ := R
      rw [Hd.v]
      simp only at HCL HM3 ⊢
      go_wp2
      go_ret2
      rw [HCL.out]
      exact ⟨_, _, rfl, HM3.out.2, B3⟩
end Go.Proofs.YtdeplhihcifmeaaGreatDoor

/- The library's strings.Builder laid at this program: WriteString, String, Len. -/
namespace Go.Proofs.YtdeplhihcifmeaaGreatDoor
open Go.RowKit Go.Shelf
def Tryz.bl_ren : Go.Shelf.Ren := ⟨fun | 166 => 123 | 169 => 127 | 170 => 126 | 240 => 152 | 276 => 171 | n => n, fun | 0 => 0 | 3 => 3 | 4 => 4 | 5 => 5 | 9 => 9 | 20 => 20 | 37 => 159 | 70 => 158 | 72 => 161 | 75 => 163 | 76 => 164 | 80 => 168 | 127 => 190 | 164 => 209 | 165 => 210 | n => n, fun | n => n⟩
theorem Tryz.lay166 : Go.Proofs.Lays.n166 Tryz.prog Tryz.bl_ren := {
  mixed := by kernel_rfl,
  f166 := Tryz.func123.trans (congrArg some (by kernel_rfl)),
  f240 := Tryz.func152.trans (congrArg some (by kernel_rfl)),
  f276 := Tryz.func171.trans (congrArg some (by kernel_rfl)),
  t0 := Tryz.underlying0,
  a0 := Tryz.isAgg0,
  z0 := Tryz.sizeOf0,
  v0 := Tryz.zeroValue0,
  t3 := Tryz.underlying3,
  a3 := Tryz.isAgg3,
  z3 := Tryz.sizeOf3,
  v3 := Tryz.zeroValue3,
  t4 := Tryz.underlying4,
  a4 := Tryz.isAgg4,
  z4 := Tryz.sizeOf4,
  v4 := Tryz.zeroValue4,
  t9 := Tryz.underlying9,
  a9 := Tryz.isAgg9,
  z9 := Tryz.sizeOf9,
  v9 := Tryz.zeroValue9,
  t20 := Tryz.underlying20,
  a20 := Tryz.isAgg20,
  z20 := Tryz.sizeOf20,
  v20 := Tryz.zeroValue20,
  t37 := Tryz.underlying159,
  a37 := Tryz.isAgg159,
  z37 := Tryz.sizeOf159,
  v37 := Tryz.zeroValue159,
  t70 := Tryz.underlying158,
  a70 := Tryz.isAgg158,
  z70 := Tryz.sizeOf158,
  v70 := Tryz.zeroValue158,
  t72 := Tryz.underlying161,
  a72 := Tryz.isAgg161,
  z72 := Tryz.sizeOf161,
  v72 := Tryz.zeroValue161,
  t75 := Tryz.underlying163,
  a75 := Tryz.isAgg163,
  z75 := Tryz.sizeOf163,
  v75 := Tryz.zeroValue163,
  t164 := Tryz.underlying209,
  a164 := Tryz.isAgg209,
  z164 := Tryz.sizeOf209,
  v164 := Tryz.zeroValue209 }
theorem Tryz.lay169 : Go.Proofs.Lays.n169 Tryz.prog Tryz.bl_ren := {
  mixed := by kernel_rfl,
  f169 := Tryz.func127.trans (congrArg some (by kernel_rfl)),
  t0 := Tryz.underlying0,
  a0 := Tryz.isAgg0,
  z0 := Tryz.sizeOf0,
  v0 := Tryz.zeroValue0,
  t3 := Tryz.underlying3,
  a3 := Tryz.isAgg3,
  z3 := Tryz.sizeOf3,
  v3 := Tryz.zeroValue3,
  t9 := Tryz.underlying9,
  a9 := Tryz.isAgg9,
  z9 := Tryz.sizeOf9,
  v9 := Tryz.zeroValue9,
  t37 := Tryz.underlying159,
  a37 := Tryz.isAgg159,
  z37 := Tryz.sizeOf159,
  v37 := Tryz.zeroValue159,
  t70 := Tryz.underlying158,
  a70 := Tryz.isAgg158,
  z70 := Tryz.sizeOf158,
  v70 := Tryz.zeroValue158,
  t72 := Tryz.underlying161,
  a72 := Tryz.isAgg161,
  z72 := Tryz.sizeOf161,
  v72 := Tryz.zeroValue161,
  t127 := Tryz.underlying190,
  a127 := Tryz.isAgg190,
  z127 := Tryz.sizeOf190,
  v127 := Tryz.zeroValue190 }
theorem Tryz.lay170 : Go.Proofs.Lays.n170 Tryz.prog Tryz.bl_ren := {
  mixed := by kernel_rfl,
  f170 := Tryz.func126.trans (congrArg some (by kernel_rfl)),
  t0 := Tryz.underlying0,
  a0 := Tryz.isAgg0,
  z0 := Tryz.sizeOf0,
  v0 := Tryz.zeroValue0,
  t3 := Tryz.underlying3,
  a3 := Tryz.isAgg3,
  z3 := Tryz.sizeOf3,
  v3 := Tryz.zeroValue3,
  t37 := Tryz.underlying159,
  a37 := Tryz.isAgg159,
  z37 := Tryz.sizeOf159,
  v37 := Tryz.zeroValue159,
  t70 := Tryz.underlying158,
  a70 := Tryz.isAgg158,
  z70 := Tryz.sizeOf158,
  v70 := Tryz.zeroValue158,
  t72 := Tryz.underlying161,
  a72 := Tryz.isAgg161,
  z72 := Tryz.sizeOf161,
  v72 := Tryz.zeroValue161 }
theorem Tryz.blX : Builder.Extra Tryz.prog Tryz.bl_ren := {
  sizeBuilder := by kernel_rfl,
  liesBuilder := by kernel_rfl,
  t5 := Tryz.underlying5,
  a5 := Tryz.isAgg5,
  z5 := Tryz.sizeOf5,
  v5 := Tryz.zeroValue5,
  infoByte := by kernel_rfl,
  cellsByte := by kernel_rfl,
  sizeByte := by kernel_rfl,
  neB5 := by decide }
theorem Tryz.blT72 : Tryz.bl_ren.t 72 = 161 := by kernel_rfl
theorem Tryz.blT5 : Tryz.bl_ren.t 5 = 5 := by kernel_rfl
theorem Tryz.blF166 : Tryz.bl_ren.f 166 = 123 := by kernel_rfl
theorem Tryz.blF169 : Tryz.bl_ren.f 169 = 127 := by kernel_rfl
theorem Tryz.blF170 : Tryz.bl_ren.f 170 = 126 := by kernel_rfl
def BldIs (B b : Nat) (l : List UInt8) (w : World) : Prop := Lib.IsBuilderF 161 5 B b (Lib.byteCells l) w
theorem bldNew (w : World) : BldIs w.heap.size w.heap.size [] (w.alloc (.cells #[.pointer none, .slice none 0 0] 161)) := Lib.IsBuilderF.of (Lib.fresh_isBuilder 161 5 w)
theorem bldWriteK (B b : Nat) (l : List UInt8) (s : ByteArray) (w : World) (h : BldIs B b l w) (hlen : l.length + s.size ≤ 1000000) (hBw : B ≤ w.heap.size) :
    Calls Tryz.prog 123 #[.pointer (some ⟨b, 0, none⟩), .string s] w fun e w' => (∃ v, e = .returned v) ∧ BldIs B b (l ++ s.data.toList) w' ∧ Below B w w' ∧ Lib.OthersKept 5 (some b) w w' := by
  have k := Any.Builder_WriteString_k Tryz.lay166 Tryz.blX B b (Lib.byteCells l) s w (by rw [Tryz.blT72, Tryz.blT5]; exact h) (by rw [Lib.byteCells_length]; omega) hBw
  rw [Tryz.blF166] at k
  refine k.mono fun e w' ⟨he, h1, h2, h3⟩ => ⟨⟨_, he⟩, ?_, h2, by rw [← Tryz.blT5]; exact h3⟩
  rw [Tryz.blT72, Tryz.blT5, Lib.strCells_eq, ← Lib.byteCells_append] at h1
  exact .inr h1
theorem bldString (B b : Nat) (l : List UInt8) (w : World) (h : BldIs B b l w) (hBw : B ≤ w.heap.size) :
    Calls Tryz.prog 127 #[.pointer (some ⟨b, 0, none⟩)] w fun e w' => e = .returned (.string ⟨l.toArray⟩) ∧ BldIs B b l w' ∧ Below B w w' := by
  have k := Any.Builder_String_any_k Tryz.lay169 Tryz.blX B b l w (by rw [Tryz.blT72, Tryz.blT5]; exact h) hBw
  rw [Tryz.blF169] at k
  refine k.mono fun e w' ⟨he, h1, h2, _⟩ => ⟨he, ?_, h2⟩
  rw [Tryz.blT72, Tryz.blT5] at h1
  exact h1
theorem bldLen (B b : Nat) (l : List UInt8) (w : World) (h : BldIs B b l w) :
    Calls Tryz.prog 126 #[.pointer (some ⟨b, 0, none⟩)] w fun e w' => e = .returned (.int .i64 l.length) ∧ w' = w := by
  have k := Any.Builder_Len_f Tryz.lay170 B b (Lib.byteCells l) w (by rw [Tryz.blT72, Tryz.blT5]; exact h)
  rw [Tryz.blF170, Lib.byteCells_length] at k
  exact k
end Go.Proofs.YtdeplhihcifmeaaGreatDoor

/- Print of netting. -/
namespace Go.Proofs.YtdeplhihcifmeaaGreatDoor
open Go.RowKit Go.Shelf

def d0 : Ck.Bar := ⟨0, 0, 0⟩
/-- Does a line begin at an index? -/
def begB (l : List Ck.Bar) (i : Nat) : Bool := i == 0 || i == l.length || decide ((l.getD i d0).y ≠ (l.getD (i - 1) d0).y)
def pieceB (dig : Int → List UInt8) (l : List Ck.Bar) (i : Nat) : List UInt8 :=
  (if begB l i = true then dig (l.getD i d0).y ++ [58] else []) ++ (32 :: dig (l.getD i d0).x ++ [if (l.getD i d0).s = 1 then 47 else 92]) ++ (if begB l (i + 1) = true then [10] else [])
def printTo (dig : Int → List UInt8) (l : List Ck.Bar) (k : Nat) : List UInt8 := (List.range k).flatMap (pieceB dig l)
def printB (dig : Int → List UInt8) (l : List Ck.Bar) : List UInt8 := printTo dig l l.length
theorem printTo_succ (dig : Int → List UInt8) (l : List Ck.Bar) (k : Nat) : printTo dig l (k + 1) = printTo dig l k ++ pieceB dig l k := by simp [printTo, List.range_succ]
theorem bldBelow {B b : Nat} {l : List UInt8} {w w' : World} (h : BldIs B b l w) (hb : Below w.heap.size w w') : BldIs B b l w' := by
  have conv : ∀ p, Lib.BuilderAtF 161 5 B b p (Lib.byteCells l) w → Lib.BuilderAtF 161 5 B b p (Lib.byteCells l) w' := by
    rintro p ⟨hB, v, hbk, hown, hne⟩
    refine ⟨hB, v, (hb.block _ (Array.getElem?_eq_some_iff.1 hbk).1).trans hbk, ⟨hown.1, ?_⟩, hne⟩
    rcases hown.2 with h | ⟨g, cap, cur, fz, h1, h2, h3, h4⟩
    · exact .inl h
    · exact .inr ⟨g, cap, cur, fz, h1, h2, (hb.block _ (Array.getElem?_eq_some_iff.1 h3).1).trans h3, h4⟩
  rcases h with h | h
  · exact .inl (conv _ h)
  · exact .inr (conv _ h)
theorem getD_bar {l : List Ck.Bar} {i : Nat} (h : i < l.length) : l.getD i d0 = l[i] := by rw [List.getD_eq_getElem?_getD, List.getElem?_eq_getElem h, Option.getD_some]
set_option maxHeartbeats 1000000 in
set_option maxRecDepth 100000 in
theorem netSideMark (s : Int) (w : World) : Calls Tryz.prog 125 #[.int .i64 s] w fun e w' => e = .returned (.string ⟨#[if s = 1 then 47 else 92]⟩) ∧ w = w' := by
  by_cases h : s = 1
  · have hb : (s == 1) = true := by rw [h]; rfl
    rw [if_pos h]
    go_enter Tryz.func125, Tryz.ntmps125
    go_wp2
    go_ret
    exact ⟨rfl, rfl⟩
  · have hb : (s == 1) = false := by rw [beq_eq_false_iff_ne]; exact h
    rw [if_neg h]
    go_enter Tryz.func125, Tryz.ntmps125
    go_wp2
    go_ret
    exact ⟨rfl, rfl⟩
set_option maxHeartbeats 1000000 in
set_option maxRecDepth 100000 in
theorem netBegins (A : Option Addr) (c i : Nat) (l : List Ck.Bar) (w : World) (hl : l.length ≤ 4096) (hi : i ≤ l.length) (h : RB w w.heap.size A l) :
    Calls Tryz.prog 122 #[.slice A l.length c, .int .i64 i] w fun e w' => e = .returned (.bool (begB l i)) ∧ Below w.heap.size w w' := by
  by_cases h0 : i = 0
  · have hB : begB l i = true := by simp [begB, h0]
    have hb : ((i : Int) == 0) = true := by rw [h0]; rfl
    rw [hB]
    clear hB h h0
    go_enter Tryz.func122, Tryz.ntmps122
    go_wp2_with fail
    go_quiet (fail)
    go_wp2
    go_ret
    exact ⟨rfl, below_drewN (Below.refl _ _) _⟩
  · have hb : ((i : Int) == 0) = false := by rw [beq_eq_false_iff_ne]; omega
    by_cases h1 : i = l.length
    · have hB : begB l i = true := by simp [begB, h1]
      have hb1 : ((i : Int) == (l.length : Int)) = true := by rw [beq_iff_eq]; omega
      rw [hB]
      clear hB h h1 h0
      go_enter Tryz.func122, Tryz.ntmps122
      go_wp2_with fail
      go_quiet (fail)
      go_wp2
      go_ret
      exact ⟨rfl, below_drewN (Below.refl _ _) _⟩
    · have hb1 : ((i : Int) == (l.length : Int)) = false := by rw [beq_eq_false_iff_ne]; omega
      have hil : i < l.length := by omega
      have hjl : i - 1 < l.length := by omega
      have hB : begB l i = decide (l[i].y ≠ (l[i - 1]'hjl).y) := by
        rw [begB, show (i == 0) = false from beq_eq_false_iff_ne.2 h0, show (i == l.length) = false from beq_eq_false_iff_ne.2 h1, getD_bar hil, getD_bar hjl]
        rfl
      obtain ⟨b, off, rfl, hbz, hc⟩ := h (by omega)
      obtain ⟨-, c1, -⟩ := hc i hil
      obtain ⟨-, c2, -⟩ := hc (i - 1) hjl
      obtain ⟨j, rfl⟩ : ∃ j, i = j + 1 := ⟨i - 1, by omega⟩
      simp only [Nat.add_sub_cancel] at c2 hB
      obtain ⟨u, hu⟩ : ∃ u, l[j + 1].y = u := ⟨_, rfl⟩
      obtain ⟨v, hv⟩ : ∃ v, (l[j]'(by omega)).y = v := ⟨_, rfl⟩
      rw [hu] at c1 hB
      rw [hv] at c2 hB
      rw [hB]
      have f1 : ((j : Int) + 1 == 0) = false := by rw [beq_eq_false_iff_ne]; omega
      have f2 : ((j : Int) + 1 == (l.length : Int)) = false := by rw [beq_eq_false_iff_ne]; omega
      rw [show ((j + 1 : Nat) : Int) = (j : Int) + 1 by omega]
      have e3' : (j : Int) + 1 - 1 = (j : Int) := by omega
      have e4 : (j : Int) < (l.length : Int) := by omega
      have e4' : (j : Int) + 1 < (l.length : Int) := by omega
      have e5 : (0 : Int) ≤ (j : Int) := by omega
      have e5' : (0 : Int) ≤ (j : Int) + 1 := by omega
      have e6 : ((j : Int) + 1).toNat = j + 1 := by omega
      have e7 : IntKind.i64.wrap (j : Int) = (j : Int) := by rw [IntKind.wrap_i64]; omega
      have hne : (u != v) = decide (u ≠ v) := by
        by_cases h : u = v <;> simp [h]
      clear hB hu hv hc h0 h1 hbz hil hjl hb hb1
      go_enter Tryz.func122, Tryz.ntmps122
      go_wp2_with fail
      go_quiet (fail)
      go_wp2
      go_ret
      exact ⟨ret_b (by simp), below_drewN (Below.refl _ _) _⟩
end Go.Proofs.YtdeplhihcifmeaaGreatDoor

/- Print of netting: the walk. -/
namespace Go.Proofs.YtdeplhihcifmeaaGreatDoor
open Go.RowKit Go.Shelf

theorem strcat (x y : List UInt8) : ((⟨x.toArray⟩ : ByteArray) ++ ⟨y.toArray⟩).data.toList = x ++ y := by simp
theorem strcat_size (a b : ByteArray) : (a ++ b).size = a.size + b.size := by simp
theorem printTo_le {dig : Int → List UInt8} {l : List Ck.Bar} (hd : ∀ b ∈ l, (dig b.x).length ≤ 7 ∧ (dig b.y).length ≤ 7) : ∀ k, k ≤ l.length → (printTo dig l k).length ≤ 18 * k
  | 0, _ => by simp [printTo]
  | k + 1, hk => by
    have ih := printTo_le hd k (by omega)
    have hm : l.getD k d0 ∈ l := by rw [getD_bar (by omega)]; exact List.getElem_mem _
    obtain ⟨h1, h2⟩ := hd _ hm
    rw [printTo_succ, List.length_append, pieceB]
    simp only [List.length_append, List.length_cons, List.length_nil]
    have : ∀ (p : Bool) (L : List UInt8), (if p = true then L else []).length ≤ L.length := fun p L => by cases p <;> simp
    have a1 := this (begB l k) (dig (l.getD k d0).y ++ [58])
    have a2 := this (begB l (k + 1)) [10]
    simp only [List.length_append, List.length_cons, List.length_nil] at a1 a2
    omega
/-- What the walk wants of the numerals: in every world that comes behind. -/
def Digs (dig : Int → List UInt8) (l : List Ck.Bar) (w : World) : Prop := ∀ b ∈ l, ∀ n, (n = b.x ∨ n = b.y) → ∀ w', Below w.heap.size w w' → Calls Tryz.prog 124 #[.int .i64 n] w' fun e w'' => e = .returned (.string ⟨(dig n).toArray⟩) ∧ Below w'.heap.size w' w''
theorem BldIs.lt {B b : Nat} {l : List UInt8} {w : World} (h : BldIs B b l w) : b < w.heap.size := by
  rcases h with ⟨-, v, hbk, -⟩ | ⟨-, v, hbk, -⟩ <;> exact (Array.getElem?_eq_some_iff.1 hbk).1
def markB (S : Int) : List UInt8 := [if S = 1 then 47 else 92]
theorem markB_one (S : Int) : (markB S).length = 1 := rfl
theorem netSideMarkB (s : Int) (w : World) : Calls Tryz.prog 125 #[.int .i64 s] w fun e w' => e = .returned (.string ⟨(markB s).toArray⟩) ∧ w = w' := netSideMark s w
/-- The box of the bar at hand. -/
def PrS (bx : Nat) (X Y S : Int) (w : World) : Prop := w.heap[bx]? = some (.cells #[.int .i64 X, .int .i64 Y, .int .i64 S] 24 (0, 0))
theorem PrS.below {bx : Nat} {X Y S : Int} {w w' : World} (h : PrS bx X Y S w) (hb : Below w.heap.size w w') : PrS bx X Y S w' := (hb.block _ (Array.getElem?_eq_some_iff.1 h).1).trans h
theorem PrS.cells {bx : Nat} {X Y S : Int} {w : World} (h : PrS bx X Y S w) : (w.cell? ⟨bx, 0, none⟩ = some (.int .i64 X) ∧ w.cell? ⟨bx, 1, none⟩ = some (.int .i64 Y) ∧ w.cell? ⟨bx, 2, none⟩ = some (.int .i64 S)) ∧ PrS bx X Y S w :=
  ⟨⟨by simp [World.cell?, show w.heap[bx]? = _ from h], by simp [World.cell?, show w.heap[bx]? = _ from h], by simp [World.cell?, show w.heap[bx]? = _ from h]⟩, h⟩
theorem PrS.lt {bx : Nat} {X Y S : Int} {w : World} (h : PrS bx X Y S w) : bx < w.heap.size := (Array.getElem?_eq_some_iff.1 h).1
theorem PrS.wrote {bx B : Nat} {X Y S : Int} {w w' : World} (h : PrS bx X Y S w) (ho : Lib.OthersKept 5 (some B) w w') (hB : B < bx) : PrS bx X Y S w' :=
  ho bx _ h (fun e => by injection e; omega) (fun c fz e => by injection e with _ e _; exact absurd e (by decide))
theorem netBeginsI (A : Option Addr) (c i : Nat) (n : Int) (hn : n = (i : Int)) (l : List Ck.Bar) (w : World) (hl : l.length ≤ 4096) (hi : i ≤ l.length) (h : RB w w.heap.size A l) :
    Calls Tryz.prog 122 #[.slice A l.length c, .int .i64 n] w fun e w' => e = .returned (.bool (begB l i)) ∧ Below w.heap.size w w' := by
  subst hn
  exact netBegins A c i l w hl hi h
theorem bldWriteL (B b : Nat) (l r : List UInt8) (s : ByteArray) (w : World) (hs : s.data.toList = r) (h : BldIs B b l w) (hlen : l.length + r.length ≤ 1000000) (hBw : B ≤ w.heap.size) :
    Calls Tryz.prog 123 #[.pointer (some ⟨b, 0, none⟩), .string s] w fun e w' => (∃ v, e = .returned v) ∧ BldIs B b (l ++ r) w' ∧ Below B w w' ∧ Lib.OthersKept 5 (some b) w w' := by
  subst hs
  exact bldWriteK B b l s w h (by rw [Lib.size_eq]; exact hlen) hBw
set_option maxHeartbeats 16000000 in
set_option maxRecDepth 100000 in
theorem netPrint (dig : Int → List UInt8) (A : Option Addr) (c : Nat) (l : List Ck.Bar) (w : World) (hl : l.length ≤ 4096) (hcap : l.length ≤ c) (hcm : c ≤ maxLen) (hN : Ck.Net l) (h : RB w w.heap.size A l) (hd : ∀ b ∈ l, (dig b.x).length ≤ 7 ∧ (dig b.y).length ≤ 7) (HI : Digs dig l w) (hlen : (printB dig l).length ≤ 65536) :
    Calls Tryz.prog 77 #[.slice A l.length c] w fun e w' => e = .returned (.tuple #[.string ⟨(printB dig l).toArray⟩, .int .i64 0]) ∧ Below w.heap.size w w' := by
  have HE := Lib.hid ((netE_zero l).2 ⟨hl, hN⟩)
  have HR := Lib.hid h
  have HII := Lib.hid HI
  have HPL := Lib.hid (printTo_le hd)
  have HD := Lib.hid hd
  have HLEN := Lib.hid hlen
  clear h hN HI hd hlen
  go_enter Tryz.func77, Tryz.ntmps77
  go_wp2_with fail
  refine (netCheckNet A c l _ hl hcap hcm HR.out).mono ?_
  rintro e w1 ⟨rfl, hb1⟩
  rw [HE.out]
  have b0 := bldNew w1
  have hb0 : Below w1.heap.size w1 (w1.alloc (.cells #[.pointer none, .slice none 0 0] 161)) := (Below.refl _ _).alloc (Nat.le_refl _) _
  have hbz := hb1.size
  have B2 := hb1.trans (hb0.mono hbz)
  have z2 : w1.heap.size < (w1.alloc (.cells #[.pointer none, .slice none 0 0] 161)).heap.size := by simp
  obtain ⟨B, hB⟩ : ∃ B, w1.heap.size = B := ⟨_, rfl⟩
  rw [hB] at b0 z2 hbz
  have HBB := Lib.hid hB
  have HB0 := Lib.hid b0
  have hli : (l.length : Int) ≤ 4096 := by omega
  clear b0 hb0 hb1
  go_wp2_with fail
  go_loopw [6, 7, 15] (fun _ _ i wr => ∃ k : Nat, k ≤ l.length ∧ i = .int .i64 k ∧ Hid (BldIs B B (printTo dig l k) wr) ∧ B < wr.heap.size ∧ Below w.heap.size w wr) (fun _ _ i _ => l.length - (intOf i).toNat)
  case atStart => exact ⟨0, Nat.zero_le _, rfl, HB0, z2, B2⟩
  case round =>
    clear B2 HB0 z2
    obtain ⟨k, hk, rfl, HBk, hBk, hb⟩ := hrel
    have HK := HPL.out k hk
    by_cases hlt : k < l.length
    · obtain ⟨b, off, rfl, hBb, hc⟩ := HR.out.below hb (by omega)
      obtain ⟨c0, c1, c2⟩ := hc k hlt
      have HM := Lib.hid (List.getElem_mem hlt)
      obtain ⟨⟨X, Y, S⟩, hX⟩ : ∃ x, l[k] = x := ⟨_, rfl⟩
      rw [hX] at c0 c1 c2 HM
      simp only at c0 c1 c2
      have HDD := Lib.hid (HD.out _ HM.out)
      have hdx := HDD.out.1
      have hdy := HDD.out.2
      simp only at hdx hdy
      have hm1 : (markB S).length = 1 := rfl
      have hkl : (k : Int) < (l.length : Int) := by omega
      have hk0 : (0 : Int) ≤ (k : Int) := by omega
      obtain ⟨w2, hw2, e0, e1, e2, hb2, hz2⟩ := box3 wr (.int .i64 X) (.int .i64 Y) (.int .i64 S) 24
      have q2 : PrS wr.heap.size X Y S w2 := by rw [hw2]; exact heap_alloc_new _ _
      have HW2 := Lib.hid hw2
      have HXX := Lib.hid (show l.getD k d0 = ⟨X, Y, S⟩ by rw [getD_bar hlt, hX])
      obtain ⟨g1, hg1⟩ : ∃ g, begB l k = g := ⟨_, rfl⟩
      obtain ⟨g2, hg2⟩ : ∃ g, begB l (k + 1) = g := ⟨_, rfl⟩
      have HG1 := Lib.hid hg1
      have HG2 := Lib.hid hg2
      have HBD := Lib.hid (bldBelow HBk.out hb2)
      have B2 := hb.trans (hb2.mono hb.size)
      have hB2 : B < w2.heap.size := by have := hb2.size; omega
      clear hw2 hX hc hg1 hg2 hBb HBk
      go_wp2_with fail
      rw [← HW2.out]
      clear c0 c1 c2
      refine (netBegins _ c k l _ hl hk ((HR.out.below B2).more B2.size)).mono ?_
      rintro e w3 ⟨rfl, hb3⟩
      rw [HG1.out]
      have q3 := q2.below hb3
      have B3 := B2.trans (hb3.mono B2.size)
      have hB3 : B < w3.heap.size := by have := hb3.size; omega
      replace HBD := Lib.hid (bldBelow HBD.out hb3)
      clear e0 e1 e2 hb2 hb3 hz2 B2 hB2 q2
      obtain ⟨P, hP⟩ : ∃ P, printTo dig l k = P := ⟨_, rfl⟩
      have HPP := Lib.hid hP
      rw [hP] at HBD HK
      clear hP
      obtain ⟨bx, hbx⟩ : ∃ bx, wr.heap.size = bx := ⟨_, rfl⟩
      rw [hbx] at q3
      have hbB : B < bx := by omega
      cases g1
      case false =>
        obtain ⟨T, hT⟩ : ∃ T, P = T := ⟨_, rfl⟩
        rw [hT] at HBD
        have HTT := Lib.hid hT
        have hTl : T.length ≤ 80000 := by rw [← hT]; (try simp); omega
        have HQ := Lib.hid q3
        have hBW : B < w3.heap.size := by have := q3.lt; omega
        obtain ⟨⟨k0, -, k2⟩, -⟩ := q3.cells
        clear hT q3
        go_wp2_with fail
        have hn1 : ¬ 9223372036854775807 < 1 + (dig X).length := by omega
        have hn2 : ¬ 9223372036854775807 < 1 + (dig X).length + (markB S).length := by rw [markB_one]; omega
        have hn3 : ¬ 9223372036854775807 < 1 + (dig X).length + 1 := by omega
        go_region_held3 (fun w' => (w'.cell? ⟨bx, 0, none⟩ = some (.int .i64 X) ∧ w'.cell? ⟨bx, 1, none⟩ = some (.int .i64 Y) ∧ w'.cell? ⟨bx, 2, none⟩ = some (.int .i64 S)) ∧ PrS bx X Y S w')
          (first
            | exact PrS.cells hq8
            | exact PrS.cells HQ.out)
          (first
            | (go_at_call 124; refine (HII.out _ HM.out X (.inl rfl) _ (by first | exact hW8 | exact below_drew hW8 | exact B3 | exact below_drew B3)).mono ?_; rintro e w9 ⟨rfl, hb9⟩; have hW8 := (show Below w.heap.size w _ by first | exact hW8 | exact below_drew hW8 | exact B3 | exact below_drew B3).trans (hb9.mono (by first | exact hW8.size | exact (B3).size)); have hB8 := bldBelow (B := B) (b := B) (l := T) (by first | exact hB8 | exact HBD.out) hb9; have hq8 := PrS.below (bx := bx) (X := X) (Y := Y) (S := S) (by first | exact hq8 | exact HQ.out) hb9)
            | (go_at_call 125; refine (netSideMarkB S _).mono ?_; rintro e w9 ⟨rfl, rfl⟩)
            | (go_at_call 123; refine (bldWriteL B B T (32 :: dig X ++ markB S) _ _ (by simp) (by first | exact hB8 | exact HBD.out) (by simp [markB_one]; omega) (by first | (have := hq8.lt; exact Nat.le_of_lt (Nat.lt_trans hbB this)) | (have := HQ.out.lt; exact Nat.le_of_lt (Nat.lt_trans hbB this)))).mono ?_; rintro e w9 ⟨⟨v9, rfl⟩, hI9, hb9, ho9⟩; have hq9 := PrS.wrote (bx := bx) (X := X) (Y := Y) (S := S) (by first | exact hq8 | exact HQ.out) ho9 hbB; have hq8 := hq9; have hW9 := (show Below w.heap.size w _ by first | exact hW8 | exact below_drew hW8 | exact B3 | exact below_drew B3).trans (hb9.mono hbz)))
        all_goals
          have HI9 := Lib.hid hI9
          have hB9z : B < w9.heap.size := by have := hq9.lt; omega
          have HW9 := hW9
          clear hI9 hq9 hb9 ho9 hW9
          go_wp2_with fail
          refine (netBeginsI _ c (k + 1) _ (by omega) l _ hl (by omega) ((HR.out.below HW9).more HW9.size)).mono ?_
          rintro e w10 ⟨rfl, hb10⟩
          rw [HG2.out]
          have HI10 := Lib.hid (bldBelow HI9.out hb10)
          have B10 := HW9.trans (hb10.mono HW9.size)
          have z10 : B < w10.heap.size := by have := hb10.size; omega
          clear hb10 HI9 hB9z
          cases g2
          case false =>
            have HPC := Lib.hid (show printTo dig l (k + 1) = T ++ (32 :: dig X ++ markB S) by rw [printTo_succ, pieceB, HG1.out, HG2.out, HXX.out, HPP.out, ← HTT.out]; simp [markB])
            go_wp2
            go_roundw
            case rel => exact ⟨k + 1, by omega, by go_num, Lib.hid (by rw [HPC.out]; exact HI10.out), z10, B10⟩
            case measure => simp [intOf]; omega
          case true =>
            have HPC := Lib.hid (show printTo dig l (k + 1) = T ++ (32 :: dig X ++ markB S) ++ [10] by rw [printTo_succ, pieceB, HG1.out, HG2.out, HXX.out, HPP.out, ← HTT.out]; simp [markB])
            go_wp2_with fail
            refine (bldWriteL B B _ [10] _ w10 rfl HI10.out (by simp [markB_one]; omega) (by omega)).mono ?_
            rintro e w11 ⟨⟨v11, rfl⟩, hI11, hb11, -⟩
            have HI11 := Lib.hid hI11
            have B11 := B10.trans (hb11.mono hbz)
            have z11 : B < w11.heap.size := by have := hI11.lt; omega
            clear hI11 hb11
            go_wp2
            go_roundw
            case rel => exact ⟨k + 1, by omega, by go_num, Lib.hid (by rw [HPC.out]; exact HI11.out), z11, B11⟩
            case measure => simp [intOf]; omega
      case true =>
        obtain ⟨⟨f0, f1, f2⟩, -⟩ := q3.cells
        go_wp2_with fail
        refine (HII.out _ HM.out Y (.inr rfl) _ B3).mono ?_
        rintro e w4 ⟨rfl, hb4⟩
        have q4 := q3.below hb4
        have B4 := B3.trans (hb4.mono B3.size)
        have hB4 : B < w4.heap.size := by have := hb4.size; omega
        replace HBD := Lib.hid (bldBelow HBD.out hb4)
        clear hb4 hB3 B3 f0 f1 f2 q3
        go_wp2_with fail
        refine (bldWriteL B B P (dig Y ++ [58]) _ w4 (by simp) HBD.out (by simp; omega) (by omega)).mono ?_
        rintro e w5 ⟨⟨v5, rfl⟩, h5, hb5, ho5⟩
        have q5 := q4.wrote ho5 hbB
        have B5 := B4.trans (hb5.mono hbz)
        replace HBD := Lib.hid h5
        clear h5 hb5 ho5 q4 B4 hB4
        obtain ⟨T, hT⟩ : ∃ T, P ++ (dig Y ++ [58]) = T := ⟨_, rfl⟩
        rw [hT] at HBD
        have HTT := Lib.hid hT
        have hTl : T.length ≤ 80000 := by rw [← hT]; (try simp); omega
        have HQ := Lib.hid q5
        have hBW : B < w5.heap.size := by have := q5.lt; omega
        obtain ⟨⟨k0, -, k2⟩, -⟩ := q5.cells
        clear hT q5
        go_wp2_with fail
        have hn1 : ¬ 9223372036854775807 < 1 + (dig X).length := by omega
        have hn2 : ¬ 9223372036854775807 < 1 + (dig X).length + (markB S).length := by rw [markB_one]; omega
        have hn3 : ¬ 9223372036854775807 < 1 + (dig X).length + 1 := by omega
        go_region_held3 (fun w' => (w'.cell? ⟨bx, 0, none⟩ = some (.int .i64 X) ∧ w'.cell? ⟨bx, 1, none⟩ = some (.int .i64 Y) ∧ w'.cell? ⟨bx, 2, none⟩ = some (.int .i64 S)) ∧ PrS bx X Y S w')
          (first
            | exact PrS.cells hq8
            | exact PrS.cells HQ.out)
          (first
            | (go_at_call 124; refine (HII.out _ HM.out X (.inl rfl) _ (by first | exact hW8 | exact below_drew hW8 | exact B5 | exact below_drew B5)).mono ?_; rintro e w9 ⟨rfl, hb9⟩; have hW8 := (show Below w.heap.size w _ by first | exact hW8 | exact below_drew hW8 | exact B5 | exact below_drew B5).trans (hb9.mono (by first | exact hW8.size | exact (B5).size)); have hB8 := bldBelow (B := B) (b := B) (l := T) (by first | exact hB8 | exact HBD.out) hb9; have hq8 := PrS.below (bx := bx) (X := X) (Y := Y) (S := S) (by first | exact hq8 | exact HQ.out) hb9)
            | (go_at_call 125; refine (netSideMarkB S _).mono ?_; rintro e w9 ⟨rfl, rfl⟩)
            | (go_at_call 123; refine (bldWriteL B B T (32 :: dig X ++ markB S) _ _ (by simp) (by first | exact hB8 | exact HBD.out) (by simp [markB_one]; omega) (by first | (have := hq8.lt; exact Nat.le_of_lt (Nat.lt_trans hbB this)) | (have := HQ.out.lt; exact Nat.le_of_lt (Nat.lt_trans hbB this)))).mono ?_; rintro e w9 ⟨⟨v9, rfl⟩, hI9, hb9, ho9⟩; have hq9 := PrS.wrote (bx := bx) (X := X) (Y := Y) (S := S) (by first | exact hq8 | exact HQ.out) ho9 hbB; have hq8 := hq9; have hW9 := (show Below w.heap.size w _ by first | exact hW8 | exact below_drew hW8 | exact B5 | exact below_drew B5).trans (hb9.mono hbz)))
        all_goals
          have HI9 := Lib.hid hI9
          have hB9z : B < w9.heap.size := by have := hq9.lt; omega
          have HW9 := hW9
          clear hI9 hq9 hb9 ho9 hW9
          go_wp2_with fail
          refine (netBeginsI _ c (k + 1) _ (by omega) l _ hl (by omega) ((HR.out.below HW9).more HW9.size)).mono ?_
          rintro e w10 ⟨rfl, hb10⟩
          rw [HG2.out]
          have HI10 := Lib.hid (bldBelow HI9.out hb10)
          have B10 := HW9.trans (hb10.mono HW9.size)
          have z10 : B < w10.heap.size := by have := hb10.size; omega
          clear hb10 HI9 hB9z
          cases g2
          case false =>
            have HPC := Lib.hid (show printTo dig l (k + 1) = T ++ (32 :: dig X ++ markB S) by rw [printTo_succ, pieceB, HG1.out, HG2.out, HXX.out, HPP.out, ← HTT.out]; simp [markB])
            go_wp2
            go_roundw
            case rel => exact ⟨k + 1, by omega, by go_num, Lib.hid (by rw [HPC.out]; exact HI10.out), z10, B10⟩
            case measure => simp [intOf]; omega
          case true =>
            have HPC := Lib.hid (show printTo dig l (k + 1) = T ++ (32 :: dig X ++ markB S) ++ [10] by rw [printTo_succ, pieceB, HG1.out, HG2.out, HXX.out, HPP.out, ← HTT.out]; simp [markB])
            go_wp2_with fail
            refine (bldWriteL B B _ [10] _ w10 rfl HI10.out (by simp [markB_one]; omega) (by omega)).mono ?_
            rintro e w11 ⟨⟨v11, rfl⟩, hI11, hb11, -⟩
            have HI11 := Lib.hid hI11
            have B11 := B10.trans (hb11.mono hbz)
            have z11 : B < w11.heap.size := by have := hI11.lt; omega
            clear hI11 hb11
            go_wp2
            go_roundw
            case rel => exact ⟨k + 1, by omega, by go_num, Lib.hid (by rw [HPC.out]; exact HI11.out), z11, B11⟩
            case measure => simp [intOf]; omega
    · obtain rfl : k = l.length := by omega
      have hle : ¬ (65536 : Int) < ((printTo dig l l.length).length : Int) := by have := HLEN.out; unfold printB at this; omega
      go_wp2_with fail
      refine (bldLen B B (printTo dig l l.length) _ HBk.out).mono ?_
      rintro e w3 ⟨rfl, rfl⟩
      go_wp2_with fail
      refine (bldString B B _ _ HBk.out (by omega)).mono ?_
      rintro e w4 ⟨rfl, -, hb4⟩
      go_wp2
      go_ret2
      exact ⟨rfl, hb.trans (hb4.mono hbz)⟩
end Go.Proofs.YtdeplhihcifmeaaGreatDoor

/- How many knots have one leg, and how many two: plain mathematics of the bars along an edge. -/
namespace Go.Proofs.YtdeplhihcifmeaaGreatDoor
open Ck

theorem foldl_count (k : Knot) : ∀ (ks : List Knot) (m : List (Knot × Int)), mget (ks.foldl incr m) k = mget m k + (ks.count k : Int)
  | [], m => by simp
  | a :: r, m => by
    rw [List.foldl_cons, foldl_count k r, incr, mget_mput, List.count_cons]
    by_cases h : k = a
    · subst h
      simp
      omega
    · have h' : ¬ (a == k) = true := by rw [beq_iff_eq]; exact fun e => h e.symm
      rw [if_neg h, if_neg h']
      simp
theorem degs_count (ks : List Knot) (k : Knot) : mget (degsL ks) k = (ks.count k : Int) := by
  rw [degsL, foldl_count]
  simp [mget]
/-- How many of the knots have so many legs. -/
def legN (l : List Bar) (i : Nat) : Nat := ((degsL (ends l)).map (·.1)).countP fun k => decide ((ends l).count k = i)

theorem sum_ones {a : Knot} : ∀ {K : List Knot}, K.Nodup → a ∈ K → ∀ f : Knot → Nat, (K.map fun k => f k + if a = k then 1 else 0).sum = (K.map f).sum + 1
  | [], _, h, _ => by simp at h
  | b :: r, hn, h, f => by
    obtain ⟨h1, h2⟩ := List.nodup_cons.1 hn
    by_cases hab : a = b
    · subst hab
      have e : (r.map fun k => f k + if a = k then 1 else 0) = r.map f := List.map_congr_left fun k hk => by
        have hne : ¬ a = k := fun e => h1 (by rw [e]; exact hk)
        rw [if_neg hne]
        rfl
      simp only [List.map_cons, List.sum_cons, e, if_true]
      omega
    · have hr : a ∈ r := by
        rcases List.mem_cons.1 h with h | h
        · exact absurd h hab
        · exact h
      have ih := sum_ones h2 hr f
      simp only [List.map_cons, List.sum_cons, ih, if_neg hab]
      omega
theorem sum_counts {K : List Knot} (hn : K.Nodup) : ∀ es : List Knot, (∀ x ∈ es, x ∈ K) → (K.map fun k => es.count k).sum = es.length
  | [], _ => by
    have e : (K.map fun k => List.count k ([] : List Knot)) = K.map fun _ => 0 := List.map_congr_left fun k _ => by simp
    rw [e]
    have : ∀ L : List Knot, (L.map fun _ => 0).sum = 0 := fun L => by induction L with
      | nil => rfl
      | cons a r ih => simpa using ih
    exact this K
  | a :: r, h => by
    have ih := sum_counts hn r fun x hx => h x (by simp [hx])
    have e : (K.map fun k => List.count k (a :: r)) = K.map fun k => r.count k + if a = k then 1 else 0 := List.map_congr_left fun k _ => by
      rw [List.count_cons]
      by_cases hk : a = k <;> simp [hk]
    rw [e, sum_ones hn (h a (by simp)), ih, List.length_cons]
theorem count_two {f : Knot → Nat} : ∀ K : List Knot, (∀ k ∈ K, f k = 1 ∨ f k = 2) → (K.map f).sum = K.countP (fun k => decide (f k = 1)) + 2 * K.countP (fun k => decide (f k = 2)) ∧ K.length = K.countP (fun k => decide (f k = 1)) + K.countP (fun k => decide (f k = 2))
  | [], _ => by simp
  | a :: r, h => by
    obtain ⟨i1, i2⟩ := count_two r fun k hk => h k (by simp [hk])
    rw [List.map_cons, List.sum_cons, List.countP_cons, List.countP_cons, List.length_cons]
    rcases h a (by simp) with h1 | h1 <;> rw [h1] <;> simp <;> omega
theorem one_lo {k : Knot} : ∀ {l : List Bar}, l.Pairwise (fun a b => a.y < b.y) → l.countP (fun b => decide (b.lo = k)) ≤ 1
  | [], _ => by simp
  | b :: r, h => by
    obtain ⟨h1, h2⟩ := List.pairwise_cons.1 h
    rw [List.countP_cons]
    by_cases hb : b.lo = k
    · have h0 : r.countP (fun b => decide (b.lo = k)) = 0 := by
        rw [List.countP_eq_zero]
        intro c hc hk
        have hk' : c.lo = k := by simpa using hk
        have := h1 c hc
        have e : c.lo.y = b.lo.y := by rw [hk', hb]
        simp only [Bar.lo] at e
        omega
      rw [h0]
      simp [hb]
    · have := one_lo (k := k) h2
      simp [hb]
      exact this
theorem one_hi {k : Knot} : ∀ {l : List Bar}, l.Pairwise (fun a b => a.y < b.y) → l.countP (fun b => decide (b.hi = k)) ≤ 1
  | [], _ => by simp
  | b :: r, h => by
    obtain ⟨h1, h2⟩ := List.pairwise_cons.1 h
    rw [List.countP_cons]
    by_cases hb : b.hi = k
    · have h0 : r.countP (fun b => decide (b.hi = k)) = 0 := by
        rw [List.countP_eq_zero]
        intro c hc hk
        have hk' : c.hi = k := by simpa using hk
        have := h1 c hc
        have e : c.hi.y = b.hi.y := by rw [hk', hb]
        simp only [Bar.hi] at e
        omega
      rw [h0]
      simp [hb]
    · have := one_hi (k := k) h2
      simp [hb]
      exact this
theorem ends_count (k : Knot) : ∀ l : List Bar, (ends l).count k = l.countP (fun b => decide (b.lo = k)) + l.countP (fun b => decide (b.hi = k))
  | [] => by simp [ends]
  | b :: r => by
    have ih := ends_count k r
    have e : ends (b :: r) = b.lo :: b.hi :: ends r := by simp [ends]
    rw [e, List.count_cons, List.count_cons, ih, List.countP_cons, List.countP_cons]
    by_cases h1 : b.lo = k <;> by_cases h2 : b.hi = k <;> simp [h1, h2] <;> omega
theorem degs_le {l : List Bar} (h : l.Pairwise fun a b => a.y < b.y) (k : Knot) : mget (degsL (ends l)) k ≤ 2 := by
  rw [degs_count, ends_count]
  have h1 := one_lo (k := k) h
  have h2 := one_hi (k := k) h
  omega
/-- The numbers of legs of the knots along an edge. -/
theorem edge_legs {σ : Int} (hσ : σ = 1 ∨ σ = -1) {L : List UInt8} {k : Knot} (hl : ∀ c ∈ L, isL c) {K : List Knot} (hK : K = (degsL (ends (barsP σ k L))).map (·.1)) (hn : K.Nodup) (hm : ∀ x, x ∈ K ↔ x ∈ ends (barsP σ k L)) :
    legN (barsP σ k L) 0 = 0 ∧ legN (barsP σ k L) 1 = 2 * endsR L ∧ legN (barsP σ k L) 2 + endsR L = barsN L ∧ legN (barsP σ k L) 3 = 0 ∧ legN (barsP σ k L) 4 = 0 := by
  have hp := barsP_pair (σ := σ) L k
  obtain ⟨-, hnk⟩ := barsP_parts hσ (l := L) (k := k) hl
  have hlen : (barsP σ k L).length = barsN L := barsP_length L k
  have hKl : K.length = barsN L + endsR L := by
    rw [← hnk]
    exact nK_eq hn hm
  have hsum := sum_counts hn (ends (barsP σ k L)) fun x hx => (hm x).2 hx
  have hel : (ends (barsP σ k L)).length = 2 * barsN L := by
    rw [← hlen]
    generalize barsP σ k L = l
    induction l with
    | nil => rfl
    | cons a r ih => simp [ends] at ih ⊢; omega
  have hf : ∀ x ∈ K, (ends (barsP σ k L)).count x = 1 ∨ (ends (barsP σ k L)).count x = 2 := fun x hx => by
    have h1 := one_lo (k := x) hp
    have h2 := one_hi (k := x) hp
    have h3 := List.count_pos_iff.2 ((hm x).1 hx)
    rw [ends_count] at h3 ⊢
    omega
  obtain ⟨c1, c2⟩ := count_two (f := fun x => (ends (barsP σ k L)).count x) K hf
  have hz : ∀ i, i ≠ 1 → i ≠ 2 → K.countP (fun x => decide ((ends (barsP σ k L)).count x = i)) = 0 := fun i h1 h2 => by
    rw [List.countP_eq_zero]
    intro x hx h
    have h' : (ends (barsP σ k L)).count x = i := by simpa using h
    rcases hf x hx with e | e <;> omega
  simp only [legN, ← hK]
  refine ⟨hz 0 (by decide) (by decide), by omega, by omega, hz 3 (by decide) (by decide), hz 4 (by decide) (by decide)⟩
end Go.Proofs.YtdeplhihcifmeaaGreatDoor

/- Legs of netting: how many knots have each number of legs. -/
namespace Go.Proofs.YtdeplhihcifmeaaGreatDoor
open Go.RowKit Go.ChangeMaps Go.MapKept Go.Shelf
attribute [local go_sem] Oper.semAt_some

theorem mget_of_mem {m : List (Ck.Knot × Int)} (hn : (m.map (·.1)).Nodup) {k : Ck.Knot} {v : Int} (h : (k, v) ∈ m) : mget m k = v := by
  induction m with
  | nil => simp at h
  | cons p r ih =>
    obtain ⟨h1, h2⟩ := List.nodup_cons.1 hn
    rw [mget]
    rcases List.mem_cons.1 h with rfl | h
    · rw [if_pos rfl]
    · rw [if_neg, ih h2 h]
      rintro rfl
      exact h1 (List.mem_map.2 ⟨_, h, rfl⟩)
/-- Of the keys that have come, how many have the value i. -/
def cntV (m : List (Ck.Knot × Int)) (ss : List Ck.Knot) (i : Nat) : Nat := ss.countP fun k => decide (mget m k = (i : Int))
def cvs (m : List (Ck.Knot × Int)) (ss : List Ck.Knot) : Array Value := #[.int .i64 (cntV m ss 0), .int .i64 (cntV m ss 1), .int .i64 (cntV m ss 2), .int .i64 (cntV m ss 3), .int .i64 (cntV m ss 4)]
theorem cntV_snoc (m : List (Ck.Knot × Int)) (ss : List Ck.Knot) (k : Ck.Knot) (j i : Nat) (h : mget m k = (j : Int)) : cntV m (ss ++ [k]) i = cntV m ss i + if i = j then 1 else 0 := by
  rw [cntV, List.countP_append, ← cntV, List.countP_singleton, h]
  by_cases e : i = j
  · subst e; simp
  · have e' : ¬ j = i := fun h => e h.symm
    have : ¬ (j : Int) = (i : Int) := by omega
    simp [e, this]
theorem cntV_le (m : List (Ck.Knot × Int)) (ss : List Ck.Knot) (i : Nat) : cntV m ss i ≤ ss.length := List.countP_le_length
theorem cntV_all {l : List Ck.Bar} {ss : List Ck.Knot} (hn : ss.Nodup) (hk : ((degsL (Ck.ends l)).map (·.1)).Nodup) (h : ∀ k, k ∈ ss ↔ KeyOf (degsL (Ck.ends l)) k) (i : Nat) : cntV (degsL (Ck.ends l)) ss i = legN l i := by
  have hp : ss.Perm ((degsL (Ck.ends l)).map (·.1)) := (List.perm_ext_iff_of_nodup hn hk).2 h
  rw [cntV, hp.countP_eq, legN]
  refine List.countP_congr fun k _ => ?_
  simp [degs_count]
  omega
theorem box5H (w : World) (a b c d e : Value) (t : TypeId) : ∃ w1, w1 = w.alloc (.cells #[a, b, c, d, e] t) ∧ w1.heap[w.heap.size]? = some (.cells #[a, b, c, d, e] t (0, 0)) ∧ Below w.heap.size w w1 ∧ w1.heap.size = w.heap.size + 1 :=
  ⟨_, rfl, heap_alloc_new _ _, (Below.refl _ _).alloc (Nat.le_refl _) _, by simp⟩
theorem fiveF {W : World} {g : Nat} {cs : Array Value} {t : TypeId} (h : W.heap[g]? = some (.cells cs t (0, 0))) (i : Nat) : W.frozen? ⟨g, i, none⟩ = false := by simp [World.frozen?, h]
theorem setBlockAt {W : World} {g : Nat} {cs : Array Value} {t : TypeId} (h : W.heap[g]? = some (.cells cs t (0, 0))) (i : Nat) (v : Value) : (W.setCell ⟨g, i, none⟩ v).heap[g]? = some (.cells (cs.setIfInBounds i v) t (0, 0)) ∧ W.grownBy (W.setCell ⟨g, i, none⟩ v) (some g) := by
  refine ⟨?_, ⟨rfl, rfl, rfl, by simp [World.setCell], fun j _ hj => Below.heap_setCell _ _ _ j (fun e => hj (by rw [e]))⟩⟩
  simp only [World.setCell, Array.getElem?_modify, if_true, h, Option.map_some]
  rfl

theorem keepsSet {W : World} {g : Nat} {cs : Array Value} {t : TypeId} (h : W.heap[g]? = some (.cells cs t (0, 0))) (i : Nat) (v : Value) : KeepsWalks W (W.setCell ⟨g, i, none⟩ v) :=
  ⟨by simp [World.setCell], fun b o ho hw => (Below.heap_setCell _ _ _ b (fun e => by
    have e' : b = g := e
    subst e'
    rw [h] at ho
    cases ho
    cases hw)).trans ho⟩
set_option maxHeartbeats 4000000 in
set_option maxRecDepth 100000 in
theorem netLegs (A : Option Addr) (c : Nat) (l : List Ck.Bar) (w : World) (hl : l.length ≤ 4096) (hcap : l.length ≤ c) (hcm : c ≤ maxLen) (hN : Ck.Net l) (hd : ∀ k, mget (degsL (Ck.ends l)) k ≤ 4) (h : RB w w.heap.size A l) :
    Calls Tryz.prog 43 #[.slice A l.length c] w fun e w' => (e = .returned (.tuple #[.agg #[.int .i64 (legN l 0), .int .i64 (legN l 1), .int .i64 (legN l 2), .int .i64 (legN l 3), .int .i64 (legN l 4)], .int .i64 0]) ∧ ∃ K, K = (degsL (Ck.ends l)).map (·.1) ∧ K.Nodup ∧ ∀ x, x ∈ K ↔ x ∈ Ck.ends l) ∧ Below w.heap.size w w' := by
  obtain ⟨m, hm⟩ : ∃ m, degsL (Ck.ends l) = m := ⟨_, rfl⟩
  have hm0 : ∀ k, 0 ≤ mget m k := fun k => by rw [← hm]; exact (degs_bound _ k).1
  have hm4 : ∀ k, mget m k ≤ 4 := fun k => by rw [← hm]; exact hd k
  obtain ⟨w0, hw0, h0, hb0, hz0⟩ := box5H w (.int .i64 0) (.int .i64 0) (.int .i64 0) (.int .i64 0) (.int .i64 0) 67
  have HR0 := Lib.hid ((h.below hb0).more hb0.size)
  have HE := Lib.hid ((netE_zero l).2 ⟨hl, hN⟩)
  have HN := Lib.hid hN
  have HM := Lib.hid hm
  have HM0 := Lib.hid hm0
  have HM4 := Lib.hid hm4
  have HKE := Lib.hid (show ∀ x, x ∈ m.map (·.1) ↔ x ∈ Ck.ends l from fun x => by rw [← hm, degsL, degs_keys]; simp)
  have hw0' := hw0.symm
  have HW0 := Lib.hid hw0
  have HH0 := Lib.hid h0
  have HZ0 := Lib.hid hz0
  have HML := Lib.hid (show (m.map (·.1)).Nodup → m.length ≤ 8192 from fun hn => by
    have h1 := hn.length_le_of_subset (l₂ := Ck.ends l) (fun x hx => (HKE.out x).1 hx)
    have h2 := ends_length l
    simp only [List.length_map] at h1
    omega)
  clear hN hm hm0 hm4 h hd hw0 h0 hz0
  refine (callsIn_wide (n := 4)).1 ?_
  refine callsIn_of_wp Tryz.func43 rfl trivial ?_ rfl
  simp only [Tryz.ntmps43, List.size_toArray, List.length_cons, List.length_nil, Nat.reduceAdd, Nat.reduceSub, Array.replicate_succ, Array.replicate_zero, List.push_toArray, List.append_toArray, List.nil_append, List.cons_append]
  have hfc : Fence.wide.fn 20 := trivial
  have hfd : Fence.wide.fn 101 := trivial
  gi_wp2_with (first
    | (gi_at_call 20; refine (callsIn_wide.2 (netCheckNet A c l _ hl hcap hcm HR0.out)).mono ?_; rintro e w1 ⟨rfl, hb1⟩; rw [HE.out]; have hz1 := hb1.size; have HR1 := Lib.hid ((HR0.out.below hb1).more hb1.size); obtain ⟨w2, hw2, h2, hb2, hz2⟩ := box5H w1 (.int .i64 0) (.int .i64 0) (.int .i64 0) (.int .i64 0) (.int .i64 0) 67; have hw2' := hw2.symm; clear hw2; have HR2 := Lib.hid ((HR1.out.below hb2).more hb2.size))
    | (gi_at_call 101; refine (callsIn_wide.2 (netDegrees A c l _ hl HN.out.1 HR2.out)).mono ?_; rintro e w3 ⟨b, rfl, hbB, hmis, hb3⟩; rw [HM.out] at hmis; have hz3 := hb3.size)
    | (gi_at_range; refine wpListIn_range_knots _ rfl _ rfl b m rfl hmis ?_; intro w4 hrg4 hg4 hs4)
    | gi_in)
  have hz0 := HZ0.out
  have hh0 : w4.heap[w.heap.size]? = some (.cells #[.int .i64 0, .int .i64 0, .int .i64 0, .int .i64 0, .int .i64 0] 67 (0, 0)) :=
    (hg4.block _ (by omega) (by simp)).trans ((hb3.block _ (by omega)).trans ((hb2.block _ (by omega)).trans ((hb1.block _ (by omega)).trans HH0.out)))
  have hh2 : w4.heap[w1.heap.size]? = some (.cells #[.int .i64 0, .int .i64 0, .int .i64 0, .int .i64 0, .int .i64 0] 67 (0, 0)) :=
    (hg4.block _ (by omega) (by simp)).trans ((hb3.block _ (by omega)).trans h2)
  have hbw3 : Below w.heap.size w w3 := (hb0.trans (hb1.mono hb0.size)).trans ((hb2.trans (hb3.mono hb2.size)).mono (by omega))
  have hbw4 : Below w.heap.size w w4 := hbw3.grown hg4 (by omega) (fun j e => by cases e)
  have HNOD := Lib.hid hmis.keys_nodup
  have HSZ := Lib.hid (show w.heap.size < w1.heap.size ∧ w1.heap.size < w3.heap.size ∧ b ≠ w1.heap.size ∧ b ≠ w.heap.size by omega)
  clear hw0' hw2' h2 hb0 hb1 hb2 hb3 hg4 hz0 hz1 hz2 hz3 hmis hbw3 hs4 hbB
  go_frame
  gi_loopw [7] (fun _ wr => ∃ ss, KRange wr b w3.heap.size m ss ∧ wr.heap[w.heap.size]? = some (.cells #[.int .i64 0, .int .i64 0, .int .i64 0, .int .i64 0, .int .i64 0] 67 (0, 0)) ∧ wr.heap[w1.heap.size]? = some (.cells (cvs m ss) 67 (0, 0)) ∧ Below w.heap.size w wr) (fun _ wr => wr.rangeLeft b w3.heap.size)
  case atStart => exact ⟨[], hrg4, hh0, hh2, hbw4⟩
  case round =>
    obtain ⟨ss, hrg, h0, h2, hb⟩ := hrel
    clear hrg4 hh0 hh2 hbw4
    gi_wp2_with (first
      | (gi_at_next; refine wpListIn_next_pairs _ rfl _ rfl b w3.heap.size m ss rfl hrg ?_ ?_)
      | gi_in)
    · intro hl0
      have HCV := Lib.hid (show cvs m ss = #[.int .i64 (legN l 0), .int .i64 (legN l 1), .int .i64 (legN l 2), .int .i64 (legN l 3), .int .i64 (legN l 4)] by
        have hn := HNOD.out
        have e := HM.out
        subst e
        have ha := cntV_all (l := l) hrg.nodup hn hl0
        rw [cvs, ha 0, ha 1, ha 2, ha 3, ha 4])
      rw [HCV.out] at h2
      obtain ⟨n0, e0⟩ : ∃ n0, (legN l 0 : Int) = n0 := ⟨_, rfl⟩
      obtain ⟨n1, e1⟩ : ∃ n1, (legN l 1 : Int) = n1 := ⟨_, rfl⟩
      obtain ⟨n2, e2⟩ : ∃ n2, (legN l 2 : Int) = n2 := ⟨_, rfl⟩
      obtain ⟨n3, e3⟩ : ∃ n3, (legN l 3 : Int) = n3 := ⟨_, rfl⟩
      obtain ⟨n4, e4⟩ : ∃ n4, (legN l 4 : Int) = n4 := ⟨_, rfl⟩
      rw [e0, e1, e2, e3, e4] at h2
      have HN5 := Lib.hid (show (#[.int .i64 (legN l 0), .int .i64 (legN l 1), .int .i64 (legN l 2), .int .i64 (legN l 3), .int .i64 (legN l 4)] : Array Value) = #[.int .i64 n0, .int .i64 n1, .int .i64 n2, .int .i64 n3, .int .i64 n4] by rw [e0, e1, e2, e3, e4])
      obtain ⟨c0, c1, c2, c3, c4, -⟩ := five_of_block h2
      obtain ⟨d0, d1, d2, d3, d4, -⟩ := five_of_block h0
      have f0 := fiveF h0 0
      have f1 := fiveF h0 1
      have f2 := fiveF h0 2
      have f3 := fiveF h0 3
      have f4 := fiveF h0 4
      obtain ⟨s0, g0⟩ := setBlockAt h0 0 (.int .i64 n0)
      obtain ⟨s1, g1⟩ := setBlockAt s0 1 (.int .i64 n1)
      obtain ⟨s2, g2⟩ := setBlockAt s1 2 (.int .i64 n2)
      obtain ⟨s3, g3⟩ := setBlockAt s2 3 (.int .i64 n3)
      obtain ⟨s4, g4⟩ := setBlockAt s3 4 (.int .i64 n4)
      have bz := hb.size
      have t0 := hb.grown g0 bz (fun j e => by cases e; exact Nat.le_refl _)
      have t1 := t0.grown g1 t0.size (fun j e => by cases e; exact Nat.le_refl _)
      have t2 := t1.grown g2 t1.size (fun j e => by cases e; exact Nat.le_refl _)
      have t3 := t2.grown g3 t2.size (fun j e => by cases e; exact Nat.le_refl _)
      have HT := Lib.hid (t3.grown g4 t3.size (fun j e => by cases e; exact Nat.le_refl _))
      have HS4 := Lib.hid (show _ = some (Obj.cells #[.int .i64 n0, .int .i64 n1, .int .i64 n2, .int .i64 n3, .int .i64 n4] 67 (0, 0)) from s4)
      clear HCV s0 s1 s2 s3 s4 g0 g1 g2 g3 g4 t0 t1 t2 t3 bz h0 h2 hb e0 e1 e2 e3 e4
      gi_wp2
      obtain ⟨r0, r1, r2, r3, r4, -⟩ := five_of_block HS4.out
      refine bodyPost_ret (v := .tuple #[.agg #[.int .i64 n0, .int .i64 n1, .int .i64 n2, .int .i64 n3, .int .i64 n4], .int .i64 0]) (by simp [results, Tryz.results43, go_sem, r0, r1, r2, r3, r4]) rfl ⟨⟨by rw [HN5.out], m.map (·.1), by rw [HM.out], HNOD.out, HKE.out⟩, HT.out⟩
    · intro k v w5 hkv hnk hrg2 hlt hg2 hs2 hen
      have hmv : mget m k = v := mget_of_mem HNOD.out hkv
      have hv0 := HM0.out k
      have hv4 := HM4.out k
      rw [hmv] at hv0 hv4
      have hsz := HSZ.out
      have h0' := (hg2.block _ (Array.getElem?_eq_some_iff.1 h0).1 (fun e => by injection e; omega)).trans h0
      have h2' := (hg2.block _ (Array.getElem?_eq_some_iff.1 h2).1 (fun e => by injection e; omega)).trans h2
      have hb' := hb.grown hg2 hb.size (fun j e => by cases e; omega)
      have HL := Lib.hid hlt
      have HR2 := Lib.hid hrg2
      have HLS := Lib.hid (show ss.length ≤ m.length by
        have h := hrg.lt_of_new (List.mem_map.2 ⟨_, hkv, rfl⟩) hnk
        exact Nat.le_of_lt h)
      have hml := HML.out HNOD.out
      have hls := HLS.out
      clear hlt hrg2 hg2 hs2 hrg h0 h2 hb
      obtain ⟨c0, c1, c2, c3, c4, -⟩ := five_of_block h2'
      have step : ∀ j : Nat, j < 5 → v = (j : Int) → ∀ x : Int, x = (cntV m ss j : Int) + 1 → (cvs m ss).setIfInBounds j (.int .i64 x) = cvs m (ss ++ [k]) := by
        intro j hj hvj x hx
        subst hx
        have e := fun i => cntV_snoc m ss k j i (hmv.trans hvj)
        unfold cvs
        rw [e 0, e 1, e 2, e 3, e 4]
        have : j = 0 ∨ j = 1 ∨ j = 2 ∨ j = 3 ∨ j = 4 := by omega
        rcases this with rfl | rfl | rfl | rfl | rfl <;> simp
      have fin : ∀ (j : Nat), j < 5 → v = (j : Int) → ∀ x : Int, x = (cntV m ss j : Int) + 1 → KRange (w5.setCell ⟨w1.heap.size, j, none⟩ (.int .i64 x)) b w3.heap.size m (ss ++ [k]) ∧ (w5.setCell ⟨w1.heap.size, j, none⟩ (.int .i64 x)).heap[w.heap.size]? = some (.cells #[.int .i64 0, .int .i64 0, .int .i64 0, .int .i64 0, .int .i64 0] 67 (0, 0)) ∧
          (w5.setCell ⟨w1.heap.size, j, none⟩ (.int .i64 x)).heap[w1.heap.size]? = some (.cells (cvs m (ss ++ [k])) 67 (0, 0)) ∧ Below w.heap.size w (w5.setCell ⟨w1.heap.size, j, none⟩ (.int .i64 x)) ∧ (w5.setCell ⟨w1.heap.size, j, none⟩ (.int .i64 x)).rangeLeft b w3.heap.size < wr.rangeLeft b w3.heap.size := by
        intro j hj hvj x hx
        obtain ⟨s1, g1⟩ := setBlockAt h2' j (.int .i64 x)
        rw [step j hj hvj x hx] at s1
        have kw : KeepsWalks w5 (w5.setCell ⟨w1.heap.size, j, none⟩ (.int .i64 x)) := keepsSet h2' j _
        exact ⟨HR2.out.of_walks kw, (g1.block _ (Array.getElem?_eq_some_iff.1 h0').1 (fun e => by injection e; omega)).trans h0', s1, hb'.grown g1 hb'.size (fun j e => by cases e; omega), by rw [HR2.out.left_eq kw]; exact HL.out⟩
      have FIN := Lib.hid fin
      have F0 := fiveF h2' 0
      have F1 := fiveF h2' 1
      have F2 := fiveF h2' 2
      have F3 := fiveF h2' 3
      have F4 := fiveF h2' 4
      have b0 := cntV_le m ss 0
      have b1 := cntV_le m ss 1
      have b2 := cntV_le m ss 2
      have b3 := cntV_le m ss 3
      have b4 := cntV_le m ss 4
      have hvs : v = 0 ∨ v = 1 ∨ v = 2 ∨ v = 3 ∨ v = 4 := by omega
      clear fin step h0' h2' hb' hmv hv0 hv4 hsz
      generalize hC0 : cntV m ss 0 = C0 at *
      generalize hC1 : cntV m ss 1 = C1 at *
      generalize hC2 : cntV m ss 2 = C2 at *
      generalize hC3 : cntV m ss 3 = C3 at *
      generalize hC4 : cntV m ss 4 = C4 at *
      rcases hvs with rfl | rfl | rfl | rfl | rfl
      · have H := Lib.hid (FIN.out 0 (by decide) rfl ((C0 : Int) + 1) (by rw [hC0]))
        clear FIN hC0 hC1 hC2 hC3 hC4
        gi_wp2
        go_roundw
        case rel => exact ⟨ss ++ [k], H.out.1, H.out.2.1, H.out.2.2.1, H.out.2.2.2.1⟩
        case measure => exact H.out.2.2.2.2
      · have H := Lib.hid (FIN.out 1 (by decide) rfl ((C1 : Int) + 1) (by rw [hC1]))
        clear FIN hC0 hC1 hC2 hC3 hC4
        gi_wp2
        go_roundw
        case rel => exact ⟨ss ++ [k], H.out.1, H.out.2.1, H.out.2.2.1, H.out.2.2.2.1⟩
        case measure => exact H.out.2.2.2.2
      · have H := Lib.hid (FIN.out 2 (by decide) rfl ((C2 : Int) + 1) (by rw [hC2]))
        clear FIN hC0 hC1 hC2 hC3 hC4
        gi_wp2
        go_roundw
        case rel => exact ⟨ss ++ [k], H.out.1, H.out.2.1, H.out.2.2.1, H.out.2.2.2.1⟩
        case measure => exact H.out.2.2.2.2
      · have H := Lib.hid (FIN.out 3 (by decide) rfl ((C3 : Int) + 1) (by rw [hC3]))
        clear FIN hC0 hC1 hC2 hC3 hC4
        gi_wp2
        go_roundw
        case rel => exact ⟨ss ++ [k], H.out.1, H.out.2.1, H.out.2.2.1, H.out.2.2.2.1⟩
        case measure => exact H.out.2.2.2.2
      · have H := Lib.hid (FIN.out 4 (by decide) rfl ((C4 : Int) + 1) (by rw [hC4]))
        clear FIN hC0 hC1 hC2 hC3 hC4
        gi_wp2
        go_roundw
        case rel => exact ⟨ss ++ [k], H.out.1, H.out.2.1, H.out.2.2.1, H.out.2.2.2.1⟩
        case measure => exact H.out.2.2.2.2
end Go.Proofs.YtdeplhihcifmeaaGreatDoor

/- strings.Repeat of the library laid at this program. -/
namespace Go.Proofs.YtdeplhihcifmeaaGreatDoor
open Go.Shelf
end Go.Proofs.YtdeplhihcifmeaaGreatDoor

/- The errors of a sheet, and the program's first at three errors. -/
namespace Go.Proofs.YtdeplhihcifmeaaGreatDoor
open Go.RowKit

theorem three_err {w : World} {g : Nat} {a b c : Int} {t : TypeId} (h : w.heap[g]? = some (.cells #[.int .i64 a, .int .i64 b, .int .i64 c] t (0, 0))) : ∀ i (hi : i < [a, b, c].length), w.cell? ⟨g, i, none⟩ = some (.int .i64 [a, b, c][i]) := by
  intro i hi
  have hi' : i = 0 ∨ i = 1 ∨ i = 2 := by simp at hi; omega
  rcases hi' with rfl | rfl | rfl <;> simp [World.cell?, h]
theorem netFirst3 (g d : Nat) (a b c : Int) (t : TypeId) (w : World) (h : w.heap[g]? = some (.cells #[.int .i64 a, .int .i64 b, .int .i64 c] t (0, 0))) :
    Calls Tryz.prog 84 #[.slice (some ⟨g, 0, none⟩) 3 d] w fun e w' => e = .returned (.int .i64 (firstE [a, b, c])) ∧ w = w' :=
  netFirst g d [a, b, c] w (by simp) (three_err h)
def sideR (n : Int) : Int := if n < 1 ∨ 256 < n then 3 else 0
def sheet1 (x y c r : Int) : Int := firstE [knotE x y, sideR c, sideR r]
def sheetE (x y c r : Int) : Int := if sheet1 x y c r = 0 then (if 4096 < 2 * c * r then 5 else if farB (x + 2 * c) || farB (y + r) then 3 else 0) else sheet1 x y c r
theorem sheet1_zero {x y c r : Int} (h : sheet1 x y c r = 0) : knotE x y = 0 ∧ 1 ≤ c ∧ c ≤ 256 ∧ 1 ≤ r ∧ r ≤ 256 := by
  unfold sheet1 firstE firstE firstE firstE at h
  split at h
  · rename_i h1
    split at h
    · rename_i h2
      split at h
      · rename_i h3
        unfold sideR at h2 h3
        split at h2
        · omega
        · split at h3 <;> omega
      · omega
    · omega
  · omega
theorem sheetE_zero {x y c r : Int} (h : sheetE x y c r = 0) : sheet1 x y c r = 0 ∧ 2 * c * r ≤ 4096 ∧ farB (x + 2 * c) = false ∧ farB (y + r) = false := by
  unfold sheetE at h
  split at h
  · rename_i h1
    split at h
    · omega
    · rename_i h2
      split at h
      · omega
      · rename_i h3
        simp at h3
        exact ⟨h1, by omega, h3.1, h3.2⟩
  · rename_i h1; exact absurd h h1
end Go.Proofs.YtdeplhihcifmeaaGreatDoor

/- Contracts of the small functions of taper, and of the reference's. -/
namespace Go.Proofs.YtdeplhihcifmeaaGreatDoor
open Go.RowKit

/-! ### letters -/
def okC (c : UInt8) : Bool := c = 78 || c = 66 || c = 84
theorem okC_iff (c : UInt8) : okC c = true ↔ isL c := by simp [okC, isL, or_assoc]
/-! ### further -/
/-! ### the reference's CheckWord -/
def wordE (l : List UInt8) : Int := if l = [] then 12 else if 64 < l.length then 26 else if l.all okC then 0 else 1
theorem byte_at (s : ByteArray) (k : Nat) (_ : k < s.size) (h' : k < s.data.toList.length) : s.data.toList[k] = s[k] := by
  rw [Array.getElem_toList]
  rfl
end Go.Proofs.YtdeplhihcifmeaaGreatDoor

/- Words without an error: checkLetters and CheckWord of taper. -/
namespace Go.Proofs.YtdeplhihcifmeaaGreatDoor
open Go.RowKit

theorem isL_small {c : UInt8} (h : isL c) : c.toNat < 128 := by rcases h with rfl | rfl | rfl <;> decide
/-- A word without an error. -/
def Word (s : ByteArray) : Prop := (∀ c ∈ s.data.toList, isL c) ∧ 1 ≤ s.size ∧ s.size ≤ 64
theorem wordE_zero {s : ByteArray} (h : wordE s.data.toList = 0) : Word s := by
  have hz := Lib.size_eq s
  unfold wordE at h
  split at h
  · cases h
  · rename_i h1
    split at h
    · cases h
    · rename_i h2
      split at h
      · rename_i h3
        rw [List.all_eq_true] at h3
        refine ⟨fun c hc => (okC_iff c).1 (h3 c hc), ?_, by omega⟩
        cases hl : s.data.toList with
        | nil => exact absurd hl h1
        | cons a r => rw [hz, hl]; simp
      · cases h
end Go.Proofs.YtdeplhihcifmeaaGreatDoor

/- The map of the letters' vectors. -/
namespace Go.Proofs.YtdeplhihcifmeaaGreatDoor
open Go.RowKit Go.ChangeMaps Go.MapKept

def ve (c a b : Int) (n : Nat) : MapEntry := { key := .int .i32 c, val := .agg #[.int .i64 a, .int .i64 b], born := n }
/-- Block b is the map of the three vectors. -/
def VecAt (w : World) (b : Nat) : Prop := w.heap[b]? = some (.map #[ve 78 0 2 0, ve 66 1 1 1, ve 84 2 0 2] 3)
theorem VecAt.lt {w : World} {b : Nat} (h : VecAt w b) : b < w.heap.size := (Array.getElem?_eq_some_iff.1 h).1
theorem VecAt.of_block {w w' : World} {b : Nat} (h : VecAt w b) (hb : w'.heap[b]? = w.heap[b]?) : VecAt w' b := hb.trans h
end Go.Proofs.YtdeplhihcifmeaaGreatDoor

/- A word several times; the closure of legs. -/
namespace Go.Proofs.YtdeplhihcifmeaaGreatDoor
open Go.RowKit Go.Shelf

end Go.Proofs.YtdeplhihcifmeaaGreatDoor

/- The letters of an edge, one after another: what legs visits. -/
namespace Go.Proofs.YtdeplhihcifmeaaGreatDoor
open Go.RowKit Go.Shelf Ck

def sg (o : Bool) : Int := if o then 1 else -1
theorem sg_or (o : Bool) : sg o = 1 ∨ sg o = -1 := by cases o <;> simp [sg]
def legsL (σ : Int) : Knot → List UInt8 → List (UInt8 × Knot × Knot)
  | _, [] => []
  | k, c :: r => (c, k, stepK σ k c) :: legsL σ (stepK σ k c) r
def posK (σ : Int) (k : Knot) (l : List UInt8) : Knot := l.foldl (stepK σ) k
theorem posK_snoc (σ : Int) (k : Knot) (l : List UInt8) (c : UInt8) : posK σ k (l ++ [c]) = stepK σ (posK σ k l) c := by simp [posK]
theorem legsL_snoc (σ : Int) : ∀ (l : List UInt8) (k : Knot) (c : UInt8), legsL σ k (l ++ [c]) = legsL σ k l ++ [(c, posK σ k l, stepK σ (posK σ k l) c)]
  | [], _, _ => rfl
  | a :: r, k, c => by
    rw [List.cons_append, legsL, legsL_snoc σ r]
    rfl
theorem legsL_append (σ : Int) : ∀ (l : List UInt8) (k : Knot) (r : List UInt8), legsL σ k (l ++ r) = legsL σ k l ++ legsL σ (posK σ k l) r
  | [], _, _ => rfl
  | a :: l, k, r => by
    rw [List.cons_append, legsL, legsL_append σ l]
    rfl
theorem legsL_length (σ : Int) : ∀ (l : List UInt8) (k : Knot), (legsL σ k l).length = l.length
  | [], _ => rfl
  | _ :: r, k => by rw [legsL, List.length_cons, legsL_length σ r, List.length_cons]
theorem step_near (o : Bool) {k : Knot} {c : UInt8} (hc : isL c) : (stepK (sg o) k c).x ≤ k.x + 2 ∧ k.x - 2 ≤ (stepK (sg o) k c).x ∧ (stepK (sg o) k c).y ≤ k.y + 2 ∧ k.y ≤ (stepK (sg o) k c).y := by
  rcases hc with rfl | rfl | rfl <;> cases o <;> simp [stepK, sg, dxL, dyL] <;> omega
def legArr (x : UInt8 × Knot × Knot) : Array Value := #[.agg #[.int .i32 (x.1.toNat : Int), .int .i64 x.2.1.x, .int .i64 x.2.1.y, .int .i64 x.2.2.x, .int .i64 x.2.2.y]]
/-- From block B1 on: maps, iterators, boxes of a knot, and cells of other types than e lie as they lay. -/
def KT (B1 : Nat) (e : TypeId) (W W' : World) : Prop := W.heap.size ≤ W'.heap.size ∧ ∀ b o, B1 ≤ b → W.heap[b]? = some o → (o.isWalk = true ∨ ∃ cs t f, o = .cells cs t f ∧ (t ≠ e ∨ t = 26 ∧ cs.size = 2)) → W'.heap[b]? = some o
theorem KT.trans {B1 : Nat} {e : TypeId} {A B C : World} (h : KT B1 e A B) (k : KT B1 e B C) : KT B1 e A C := ⟨Nat.le_trans h.1 k.1, fun b o hb ho hk => k.2 b o hb (h.2 b o hb ho hk) hk⟩
theorem KT.put {B1 : Nat} {e : TypeId} {w : World} (W : World) (l : Nat) (o o' : Obj) (_ : w.heap.size ≤ l) (hl : W.heap[l]? = some o) (h1 : o.isCells = false) (h2 : o.isWalk = false) : KT B1 e W (W.putObj l o') :=
  ⟨by simp, fun b ob _ hob hk => by
    have : b ≠ l := by
      rintro rfl
      rw [hl] at hob
      cases hob
      rcases hk with hk | ⟨cs, t, f, rfl, _⟩
      · rw [h2] at hk; cases hk
      · cases h1
    exact (World.putObj_heap_other this).trans hob⟩
theorem KT.of_below {B1 : Nat} {e : TypeId} {W W' : World} (h : Below W.heap.size W W') : KT B1 e W W' := ⟨h.size, fun b _ _ ho _ => (h.block b (Array.getElem?_eq_some_iff.1 ho).1).trans ho⟩

theorem two_cell {W : World} {b : Nat} {u v : Value} {t : TypeId} (h : W.heap[b]? = some (.cells #[u, v] t (0, 0))) : W.cell? ⟨b, 0, none⟩ = some u ∧ W.cell? ⟨b, 1, none⟩ = some v ∧ W.frozen? ⟨b, 0, none⟩ = false ∧ W.frozen? ⟨b, 1, none⟩ = false := by
  refine ⟨?_, ?_, ?_, ?_⟩ <;> simp [World.cell?, World.frozen?, h]
theorem two_set {W : World} {b : Nat} {u v : Value} {t : TypeId} (h : W.heap[b]? = some (.cells #[u, v] t (0, 0))) (p q : Value) :
    ((W.setCell ⟨b, 0, none⟩ p).setCell ⟨b, 1, none⟩ q).heap[b]? = some (.cells #[p, q] t (0, 0)) ∧ W.grownBy ((W.setCell ⟨b, 0, none⟩ p).setCell ⟨b, 1, none⟩ q) (some b) := by
  have e0 : (W.setCell ⟨b, 0, none⟩ p).heap[b]? = some (.cells #[p, v] t (0, 0)) := by
    simp only [World.setCell, Array.getElem?_modify, if_true, h, Option.map_some]
    rfl
  have e1 : ((W.setCell ⟨b, 0, none⟩ p).setCell ⟨b, 1, none⟩ q).heap[b]? = some (.cells #[p, q] t (0, 0)) := by
    generalize W.setCell ⟨b, 0, none⟩ p = X at *
    simp only [World.setCell, Array.getElem?_modify, if_true, e0, Option.map_some]
    rfl
  refine ⟨e1, ⟨rfl, rfl, rfl, by simp [World.setCell], fun i _ hne => ?_⟩⟩
  have : i ≠ b := fun e => hne (by rw [e])
  exact (Below.heap_setCell _ _ _ i this).trans (Below.heap_setCell _ _ _ i this)
theorem one_cell {W : World} {b : Nat} {u : Value} {t : TypeId} (h : W.heap[b]? = some (.cells #[u] t (0, 0))) : W.cell? ⟨b, 0, none⟩ = some u := by
  simp [World.cell?, h]

end Go.Proofs.YtdeplhihcifmeaaGreatDoor

/- An edge without an error: checkEdge of taper. -/
namespace Go.Proofs.YtdeplhihcifmeaaGreatDoor
open Go.RowKit Go.Shelf Ck
attribute [local go_sem] Oper.semAt_some

theorem legs_ok (o : Bool) : ∀ (L : List UInt8) (k : Knot), (∀ c ∈ L, isL c) → okKnot k → k.x + 2 * (L.length : Int) ≤ 100000 → -100000 ≤ k.x - 2 * (L.length : Int) → k.y + 2 * (L.length : Int) ≤ 100000 →
    ∀ q ∈ legsL (sg o) k L, isL q.1 ∧ q.2.2 = stepK (sg o) q.2.1 q.1 ∧ okKnot q.2.1 ∧ okKnot q.2.2
  | [], _, _, _, _, _, _, q, hq => by simp [legsL] at hq
  | c :: r, k, hL, hk, h1, h2, h3, q, hq => by
    have hc := hL c (by simp)
    obtain ⟨n1, n2, n3, n4⟩ := step_near o (k := k) hc
    simp only [List.length_cons, Int.natCast_add, Int.natCast_one] at h1 h2 h3
    have hk' : okKnot (stepK (sg o) k c) := by
      obtain ⟨⟨a1, a2⟩, ⟨a3, a4⟩, a5⟩ := hk
      refine ⟨⟨by omega, by omega⟩, ⟨by omega, by omega⟩, ?_⟩
      rcases hc with rfl | rfl | rfl <;> cases o <;> simp [stepK, sg, dxL, dyL] <;> omega
    rw [legsL] at hq
    rcases List.mem_cons.1 hq with rfl | hq
    · exact ⟨hc, rfl, hk, hk'⟩
    · exact legs_ok o r _ (fun c' h' => hL c' (by simp [h'])) hk' (by omega) (by omega) (by omega) q hq

theorem one_cell' {W : World} {b : Nat} {u : Value} {t : TypeId} (h : W.heap[b]? = some (.cells #[u] t (0, 0))) : W.cell? ⟨b, 0, none⟩ = some u ∧ W.frozen? ⟨b, 0, none⟩ = false := by
  refine ⟨?_, ?_⟩ <;> simp [World.cell?, World.frozen?, h]
theorem one_set {W : World} {b : Nat} {u : Value} {t : TypeId} (h : W.heap[b]? = some (.cells #[u] t (0, 0))) (p : Value) : (W.setCell ⟨b, 0, none⟩ p).heap[b]? = some (.cells #[p] t (0, 0)) := by
  simp only [World.setCell, Array.getElem?_modify, if_true, h, Option.map_some]
  rfl
theorem bides_below {β : Type} {B n : Nat} {e : TypeId} {w : World} (hB : n ≤ B) (hn : n ≤ w.heap.size) : Bides B e (fun (_ : β) W => Below n w W) := fun _ _ _ _ hs hg hr =>
  hs.grown hg (by have := hs.size; omega) (fun k ek => Nat.le_trans hB (hr k ek).1)
theorem bides_block {β : Type} {B b : Nat} {e : TypeId} {o : Obj} (hb : b < B) : Bides B e (fun (_ : β) W => W.heap[b]? = some o) := fun _ _ _ _ hs hg hr =>
  (hg.block b (Array.getElem?_eq_some_iff.1 hs).1 (fun e' => by have := (hr b e'.symm).1; omega)).trans hs
theorem bides_size {β : Type} {B n : Nat} {e : TypeId} : Bides B e (fun (_ : β) W => n ≤ W.heap.size) := fun _ _ _ _ hs hg _ => Nat.le_trans hs hg.size

theorem legs_boxes (W0 : World) (x y n : Int) (s : ByteArray) (o : Bool) : ∃ W9, W9 = (((W0.alloc (.cells #[.int .i64 x, .int .i64 y] 26)).alloc (.cells #[.string s] 9)).alloc (.cells #[.int .i64 n] 3)).alloc (.cells #[.bool o] 4) ∧ Below W0.heap.size W0 W9 ∧ W9.heap.size = W0.heap.size + 4 ∧
    W9.heap[W0.heap.size]? = some (.cells #[.int .i64 x, .int .i64 y] 26 (0, 0)) ∧ W9.heap[W0.heap.size + 1]? = some (.cells #[.string s] 9 (0, 0)) ∧ W9.heap[W0.heap.size + 2]? = some (.cells #[.int .i64 n] 3 (0, 0)) ∧ W9.heap[W0.heap.size + 3]? = some (.cells #[.bool o] 4 (0, 0)) := by
  refine ⟨_, rfl, (((((Below.refl _ _).alloc (Nat.le_refl _) _).alloc (by simp) _).alloc (by simp; omega) _).alloc (by simp; omega) _), by simp, ?_, ?_, ?_, ?_⟩
  · rw [Below.heap_alloc _ _ _ (by simp; omega), Below.heap_alloc _ _ _ (by simp; omega), Below.heap_alloc _ _ _ (by simp)]
    exact heap_alloc_new _ _
  · rw [Below.heap_alloc _ _ _ (by simp), Below.heap_alloc _ _ _ (by simp)]
    have := heap_alloc_new (W0.alloc (.cells #[.int .i64 x, .int .i64 y] 26)) (.cells #[.string s] 9)
    rwa [World.size_alloc] at this
  · rw [Below.heap_alloc _ _ _ (by simp)]
    have := heap_alloc_new ((W0.alloc (.cells #[.int .i64 x, .int .i64 y] 26)).alloc (.cells #[.string s] 9)) (.cells #[.int .i64 n] 3)
    rwa [World.size_alloc, World.size_alloc] at this
  · have := heap_alloc_new (((W0.alloc (.cells #[.int .i64 x, .int .i64 y] 26)).alloc (.cells #[.string s] 9)).alloc (.cells #[.int .i64 n] 3)) (.cells #[.bool o] 4)
    rwa [World.size_alloc, World.size_alloc, World.size_alloc] at this

/-- An edge that is short and lies near the middle. -/
def EdgeOk (x y : Int) (s : ByteArray) (c : Nat) : Prop := Word s ∧ 1 ≤ c ∧ c * s.size ≤ 256 ∧ -90000 ≤ x ∧ x ≤ 90000 ∧ -90000 ≤ y ∧ y ≤ 90000 ∧ (x + y) % 2 = 0
theorem rep_len {s : ByteArray} {c : Nat} : (Lib.repeatL s.data.toList c).length = c * s.size := by rw [Lib.repeatL_length, ← Lib.size_eq]
theorem rep_letters {s : ByteArray} (hs : Word s) : ∀ (c : Nat), ∀ q ∈ Lib.repeatL s.data.toList c, isL q
  | 0, q, hq => by simp [Lib.repeatL] at hq
  | c + 1, q, hq => by rw [Lib.repeatL, List.mem_append] at hq; exact hq.elim (hs.1 q) (rep_letters hs c q)
theorem EdgeOk.legs {x y : Int} {s : ByteArray} {c : Nat} (h : EdgeOk x y s c) (o : Bool) : ∀ q ∈ legsL (sg o) ⟨x, y⟩ (Lib.repeatL s.data.toList c), isL q.1 ∧ q.2.2 = stepK (sg o) q.2.1 q.1 ∧ okKnot q.2.1 ∧ okKnot q.2.2 := by
  obtain ⟨hs, _, h2, x1, x2, y1, y2, hp⟩ := h
  have hl : (Lib.repeatL s.data.toList c).length ≤ 256 := by rw [rep_len]; exact h2
  exact legs_ok o _ _ (rep_letters hs c) ⟨⟨by simp; omega, by simp; omega⟩, ⟨by simp; omega, by simp; omega⟩, hp⟩ (by simp; omega) (by simp; omega) (by simp; omega)

end Go.Proofs.YtdeplhihcifmeaaGreatDoor

/- Sheet of the program, at a sheet without an error. -/
namespace Go.Proofs.YtdeplhihcifmeaaGreatDoor
open Go.RowKit Go.Shelf Ck
attribute [local go_sem] Oper.semAt_some

theorem sheet_stops (n : Nat) (hn : 2 ≤ n) (x y : Int) (cols rows Br Bc Ba B1 B2 : Nat) (hc1 : cols ≤ 256) (hr1 : rows ≤ 256) (hx1 : -100000 ≤ x) (hx2 : x ≤ 100000) (hy1 : -100000 ≤ y) (hy2 : y ≤ 100000) (w : World) (hB : B2 ≤ w.heap.size) (hBr : B1 ≤ Br) (hBr' : Br < B2) (hBc : B1 ≤ Bc) (hBc' : Bc < B2) (hBa : B1 ≤ Ba) (hBa' : Ba < B2)
    (mr : w.cell? ⟨Br, 0, none⟩ = some (.int .i64 rows)) (mc : w.cell? ⟨Bc, 0, none⟩ = some (.int .i64 cols)) (mx : w.cell? ⟨Ba, 0, none⟩ = some (.int .i64 x)) (my : w.cell? ⟨Ba, 1, none⟩ = some (.int .i64 y)) :
    SeqStopsK Fence.wide n Tryz.prog 133 #[.pointer (some ⟨Br, 0, none⟩), .pointer (some ⟨Bc, 0, none⟩), .pointer (some ⟨Ba, 0, none⟩)] barArr (KR B1 B2) (fun ss => ss = sheetP x y cols rows) (fun _ => True) 200000 w := fun l J Jx W hW hJ _ hY h0 =>
  sheet1_in l Br Bc Ba B1 B2 n hn x y cols rows hc1 hr1 hx1 hx2 hy1 hy2 J Jx hY W hJ (Nat.le_trans hB hW.size) hBr hBr' hBc hBc' hBa hBa' ((hW.cell (p := ⟨Br, 0, none⟩) (by show Br < _; omega)).trans mr) ((hW.cell (p := ⟨Bc, 0, none⟩) (by show Bc < _; omega)).trans mc) ((hW.cell (p := ⟨Ba, 0, none⟩) (by show Ba < _; omega)).trans mx) ((hW.cell (p := ⟨Ba, 1, none⟩) (by show Ba < _; omega)).trans my) h0

theorem netSheetBars (x y c r : Int) (w : World) :
    Calls Tryz.prog 98 #[.agg #[.int .i64 x, .int .i64 y], .int .i64 c, .int .i64 r] w fun e w' => e = .returned (.func (.func 133) #[] #[.pointer (some ⟨w.heap.size + 2, 0, none⟩), .pointer (some ⟨w.heap.size + 1, 0, none⟩), .pointer (some ⟨w.heap.size, 0, none⟩)]) ∧
      w' = ((w.alloc (.cells #[.int .i64 x, .int .i64 y] 26)).alloc (.cells #[.int .i64 c] 3)).alloc (.cells #[.int .i64 r] 3) := by
  go_enter Tryz.func98, Tryz.ntmps98
  go_wp2
  go_ret
  exact ⟨by simp, rfl⟩

theorem KR.appended {W w1 : World} {Bo B1 B2 : Nat} {e : TypeId} {size k : Nat} {v : Value} {xs : List Value} {tmp : Obj} (hB : Bo < B1) (hz : B2 ≤ W.heap.size) (hrow : W.ownsRow B2 e size v k xs) (hgrow : (W.alloc tmp).grownBy w1 v.ownBlock) (v' : Value) : KR B1 B2 W (w1.setCell ⟨Bo, 0, none⟩ v') := by
  refine ⟨?_, fun b h1 h2 => ?_⟩
  · have := hgrow.size; simp at this ⊢; omega
  · have e1 : (w1.setCell ⟨Bo, 0, none⟩ v').heap[b]? = w1.heap[b]? := (grownBy_setCell' w1 Bo v').block b (by have := hgrow.size; simp at this; omega) (fun e => by cases e; omega)
    rw [e1, hgrow.block b (by simp; omega) (fun e => by have := ownsRow_base hrow b e.symm; omega)]
    exact Below.heap_alloc _ _ _ (by omega)

theorem sheet_boxes (W0 : World) (x y c r : Int) : ∃ W9, W9 = ((W0.alloc (.cells #[.int .i64 x, .int .i64 y] 26)).alloc (.cells #[.int .i64 c] 3)).alloc (.cells #[.int .i64 r] 3) ∧ Below W0.heap.size W0 W9 ∧ W9.heap.size = W0.heap.size + 3 ∧
    W9.cell? ⟨W0.heap.size, 0, none⟩ = some (.int .i64 x) ∧ W9.cell? ⟨W0.heap.size, 1, none⟩ = some (.int .i64 y) ∧ W9.cell? ⟨W0.heap.size + 1, 0, none⟩ = some (.int .i64 c) ∧ W9.cell? ⟨W0.heap.size + 2, 0, none⟩ = some (.int .i64 r) := by
  obtain ⟨w1, hw1, h0, h1, hb1, hz1⟩ := box2 W0 (.int .i64 x) (.int .i64 y) 26
  have hs1 : w1.heap.size = W0.heap.size + 1 := by rw [hw1]; simp
  have bc := (Boxed.new w1 3 (.int .i64 c)).cell
  have hs2 : (w1.alloc (.cells #[.int .i64 c] 3)).heap.size = W0.heap.size + 2 := by simp; omega
  have br := (Boxed.new (w1.alloc (.cells #[.int .i64 c] 3)) 3 (.int .i64 r)).cell
  have b2 : Below w1.heap.size w1 (w1.alloc (.cells #[.int .i64 c] 3)) := (Below.refl _ _).alloc (Nat.le_refl _) _
  have b3 : Below (w1.alloc (.cells #[.int .i64 c] 3)).heap.size (w1.alloc (.cells #[.int .i64 c] 3)) ((w1.alloc (.cells #[.int .i64 c] 3)).alloc (.cells #[.int .i64 r] 3)) := (Below.refl _ _).alloc (Nat.le_refl _) _
  rw [← hw1]
  rw [hs1] at bc
  rw [hs2] at br
  refine ⟨_, rfl, hb1.trans ((b2.trans (b3.mono b2.size)).mono hb1.size), by simp; omega, ?_, ?_, ?_, br⟩
  · exact ((b3.cell (p := ⟨W0.heap.size, 0, none⟩) (by show W0.heap.size < _; omega)).trans (b2.cell (p := ⟨W0.heap.size, 0, none⟩) (by show W0.heap.size < _; omega))).trans h0
  · exact ((b3.cell (p := ⟨W0.heap.size, 1, none⟩) (by show W0.heap.size < _; omega)).trans (b2.cell (p := ⟨W0.heap.size, 1, none⟩) (by show W0.heap.size < _; omega))).trans h1
  · exact (b3.cell (p := ⟨W0.heap.size + 1, 0, none⟩) (by show W0.heap.size + 1 < _; omega)).trans bc
/-- A box of three cells. -/
def Box3 (W : World) (B : Nat) (t : TypeId) (a b c : Value) : Prop := W.heap[B]? = some (.cells #[a, b, c] t (0, 0))
theorem Box3.cells {W : World} {B : Nat} {t : TypeId} {a b c : Value} (h : Box3 W B t a b c) : W.cell? ⟨B, 0, none⟩ = some a ∧ W.cell? ⟨B, 1, none⟩ = some b ∧ W.cell? ⟨B, 2, none⟩ = some c ∧ B < W.heap.size := by
  refine ⟨?_, ?_, ?_, (Array.getElem?_eq_some_iff.1 h).1⟩ <;> simp [World.cell?, show W.heap[B]? = _ from h]
theorem Box3.new (W : World) (t : TypeId) (a b c : Value) : Box3 (W.alloc (.cells #[a, b, c] t)) W.heap.size t a b c := World.alloc_heap_new W _
theorem box3_own (B : Nat) (t : TypeId) (a b c : Value) : Own (fun (_ : Unit) W => Box3 W B t a b c) := fun s X Y row hs hg hrow =>
  (hg.block B (Array.getElem?_eq_some_iff.1 hs).1 (fun e' => by obtain ⟨o, ho, hc⟩ := hrow B e'.symm; rw [show X.heap[B]? = _ from hs] at ho; cases ho; cases hc)).trans hs
theorem sheet_step {W w1 : World} {Bo B1 B2 : Nat} {t e : TypeId} {size k m : Nat} {v v' : Value} {xs ys : List Value} {tmp : Obj} (hte : t ≠ e) (hB : Bo < B1) (hB2 : B1 ≤ B2) (hz : B2 ≤ W.heap.size) (hv : Boxed W Bo t v) (hrow : W.ownsRow B2 e size v k xs) (hown' : w1.ownsRow B2 e size v' m ys) (hgrow : (W.alloc tmp).grownBy w1 v.ownBlock) :
    Boxed w1 Bo t v ∧ Boxed (w1.setCell ⟨Bo, 0, none⟩ v') Bo t v' ∧ KeepsOthers W (w1.setCell ⟨Bo, 0, none⟩ v') ∧ Below Bo W (w1.setCell ⟨Bo, 0, none⟩ v') ∧ (w1.setCell ⟨Bo, 0, none⟩ v').ownsRow B2 e size v' m ys ∧ KR B1 B2 W (w1.setCell ⟨Bo, 0, none⟩ v') := by
  obtain ⟨h1, h2, h3, h4, h5⟩ := hv.appended hte (ownsRow_mono hrow (by omega : Bo ≤ B2)) (by omega) (Nat.le_refl _) (ownsRow_mono hown' (by omega)) hgrow
  exact ⟨h1, h2, h4, h5, hown'.kept (grownBy_setCell' w1 Bo v') (.inr (h1.not_row hte hown').symm), KR.appended hB hz hrow hgrow v'⟩
def SheetPost (l : List Ck.Bar) (w : World) (e : Ending) (w' : World) : Prop :=
  ∃ v, e = .returned (.tuple #[v, .int .i64 0]) ∧ w'.ownsRow w.heap.size 24 3 v l.length (bcellsL l) ∧ Below w.heap.size w w'
theorem netSide (n : Int) (w : World) : Calls Tryz.prog 94 #[.int .i64 n, .int .i64 1, .int .i64 256] w fun e w' => e = .returned (.int .i64 (sideR n)) ∧ w = w' := netCheckRange n 1 256 w

set_option maxHeartbeats 2000000 in
set_option maxRecDepth 100000 in
theorem netSheet (x y : Int) (c r : Nat) (w : World) (hE : sheetE x y c r = 0) :
    Calls Tryz.prog 39 #[.agg #[.int .i64 x, .int .i64 y], .int .i64 c, .int .i64 r] w (SheetPost (sheetP x y c r) w) := by
  obtain ⟨hs, hm, hf1, hf2⟩ := sheetE_zero hE
  obtain ⟨hk, c1, c2, r1, r2⟩ := sheet1_zero hs
  obtain ⟨x1, x2, y1, y2⟩ := knotE_zero hk
  have HS := Lib.hid (show firstE [knotE x y, sideR c, sideR r] = 0 from hs)
  have HP := Lib.hid (show firstE [placeE (x + 2 * (c : Int)), placeE (y + (r : Int))] = 0 by simp [firstE, placeE, hf1, hf2])
  have hm1 : -200000 ≤ 2 * (c : Int) * (r : Int) := by
    have := Int.mul_nonneg (a := 2 * (c : Int)) (b := (r : Int)) (by omega) (by omega)
    omega
  obtain ⟨w1, hw1, h0, h1, hb1, hz1⟩ := box2 w (.int .i64 x) (.int .i64 y) 26
  have HW1 := Lib.hid hw1
  clear hw1 hE hs hk hf1 hf2
  refine (callsIn_wide (n := 3)).1 (callsIn_of_wp_marks Tryz.func39 rfl trivial (wpIn_wide.2 ?_) rfl)
  simp only [Tryz.ntmps39, List.size_toArray, List.length_cons, List.length_nil, Nat.reduceAdd, Nat.reduceSub, Array.replicate_succ, Array.replicate_zero, List.push_toArray, List.append_toArray, List.nil_append, List.cons_append]
  go_wp2_with fail
  rw [← HW1.out]
  refine (netCheckKnot x y _).mono ?_
  rintro e w2 ⟨rfl, hb2⟩
  go_wp2_with fail
  refine (netSide c _).mono ?_
  rintro e w3 ⟨rfl, rfl⟩
  go_wp2_with fail
  refine (netSide r _).mono ?_
  rintro e w4 ⟨rfl, rfl⟩
  go_wp2_with fail
  refine (netFirst3 _ _ (knotE x y) (sideR c) (sideR r) 32 _ (by exact heap_alloc_new _ _)).mono ?_
  rintro e w5 ⟨rfl, rfl⟩
  rw [HS.out]
  have hb3 : Below w.heap.size w (w2.alloc (.cells #[.int .i64 (knotE x y), .int .i64 (sideR c), .int .i64 (sideR r)] 32)) := (hb1.trans (hb2.mono (by omega))).alloc (by have := hb2.size; omega) _
  have hb4 : Below w1.heap.size w1 (w2.alloc (.cells #[.int .i64 (knotE x y), .int .i64 (sideR c), .int .i64 (sideR r)] 32)) := hb2.alloc hb2.size _
  generalize w2.alloc (.cells #[.int .i64 (knotE x y), .int .i64 (sideR c), .int .i64 (sideR r)] 32) = w6 at *
  have e0 := (hb4.cell (p := ⟨w.heap.size, 0, none⟩) hz1).trans h0
  have e1 := (hb4.cell (p := ⟨w.heap.size, 1, none⟩) hz1).trans h1
  clear h0 h1
  go_wp2_with fail
  refine wp_region_still_tail 11 (by kernel_rfl) (by kernel_rfl) ?_
  simp only [List.take_succ_cons, List.take_zero, List.drop_succ_cons, List.drop_zero]
  still_step
  still_step
  still_step
  still_step
  still_step
  still_call (Calls.mono (netCheckPlace _ _) fun _ _ h => ⟨h.1, h.2.symm⟩)
  still_step
  still_step
  still_step
  still_step
  still_call (Calls.mono (netCheckPlace _ _) fun _ _ h => ⟨h.1, h.2.symm⟩)
  refine wpStill_nil ?_
  change wpList _ _ _ _ _ w6.drew
  go_wp2_with fail
  refine (netFirst2 _ _ (placeE (x + 2 * (c : Int))) (placeE (y + (r : Int))) 32 _ (by exact heap_alloc_new _ _)).mono ?_
  rintro e w7 ⟨rfl, rfl⟩
  rw [HP.out]
  have hz6 := hb4.size
  have hb5 : Below w.heap.size w (w6.alloc (.cells #[.int .i64 (placeE (x + 2 * (c : Int))), .int .i64 (placeE (y + (r : Int)))] 32)).drew := below_drew (hb3.alloc (by omega) _)
  have hb6 : Below w1.heap.size w1 (w6.alloc (.cells #[.int .i64 (placeE (x + 2 * (c : Int))), .int .i64 (placeE (y + (r : Int)))] 32)).drew := below_drew (hb4.alloc (by omega) _)
  generalize (w6.alloc (.cells #[.int .i64 (placeE (x + 2 * (c : Int))), .int .i64 (placeE (y + (r : Int)))] 32)).drew = w8 at *
  have g0 := (hb6.cell (p := ⟨w.heap.size, 0, none⟩) hz1).trans ((hb4.cell (p := ⟨w.heap.size, 0, none⟩) hz1).symm.trans e0)
  have g1 := (hb6.cell (p := ⟨w.heap.size, 1, none⟩) hz1).trans ((hb4.cell (p := ⟨w.heap.size, 1, none⟩) hz1).symm.trans e1)
  clear e0 e1
  have hz8 := hb6.size
  have bO := Boxed.new w8 22 (.slice none 0 0)
  have hb7 : Below w8.heap.size w8 (w8.alloc (.cells #[.slice none 0 0] 22)) := (Below.refl _ _).alloc (Nat.le_refl _) _
  have hsz : (w8.alloc (.cells #[.slice none 0 0] 22)).heap.size = w8.heap.size + 1 := by simp
  have k0 := (hb7.cell (p := ⟨w.heap.size, 0, none⟩) (by show w.heap.size < _; omega)).trans g0
  have k1 := (hb7.cell (p := ⟨w.heap.size, 1, none⟩) (by show w.heap.size < _; omega)).trans g1
  obtain ⟨W0, hW0⟩ : ∃ W0, w8.alloc (.cells #[.slice none 0 0] 22) = W0 := ⟨_, rfl⟩
  rw [hW0] at bO hb7 hsz
  have HW0 := Lib.hid hW0
  clear hW0
  have HSZ := Lib.hid hsz
  clear hsz
  go_wp2_with fail
  rw [HW0.out]
  refine (netSheetBars x y c r _).mono ?_
  rintro e w9 ⟨rfl, hw9⟩
  obtain ⟨W9, hW9, hb9, hz9, m0, m1, m2, m3⟩ := sheet_boxes W0 x y c r
  rw [← hW9] at hw9
  have hw9' := hw9.symm
  subst hw9'
  have HW9 := Lib.hid hW9
  clear hW9
  have hz0 := HSZ.out
  have hbW : Below w.heap.size w W0 := by
    have := hb5.trans (hb7.mono hb5.size)
    exact this
  have bO9 : Boxed W9 w8.heap.size 22 (.slice none 0 0) := (hb9.block _ (by omega)).trans bO
  have hbw9 : Below w.heap.size w W9 := hbW.trans (hb9.mono hbW.size)
  have HZ9 := Lib.hid hz9
  have HZ0 := Lib.hid hz0
  clear hz9 hz0
  go_wp2_with fail
  have hseq := sheet_stops 2 (by omega) x y c r (W0.heap.size + 2) (W0.heap.size + 1) W0.heap.size W0.heap.size (W0.heap.size + 3) (by omega) (by omega) x1 x2 y1 y2 W9 (by rw [HZ9.out]; omega) (by omega) (by omega) (by omega) (by omega) (by omega) (by omega) m3 m2 m0 m1
  refine (wpIn_wide (n := 3)).1 ?_
  have q1 : IntKind.i64.wrap (2 * (c : Int)) = 2 * (c : Int) := by rw [IntKind.wrap_i64]; omega
  have q2 : IntKind.i64.wrap (x + 2 * (c : Int)) = x + 2 * (c : Int) := by rw [IntKind.wrap_i64]; omega
  have q3 : IntKind.i64.wrap (y + (r : Int)) = y + (r : Int) := by rw [IntKind.wrap_i64]; omega
  simp only [q1, q2, q3]
  clear q1 q2 q3
  obtain ⟨ib, hib, hb0, hb01, hb02⟩ := info_parts Tryz.info24
  have HB := Lib.hid hib
  have HB0 := Lib.hid hb0
  have HB1 := Lib.hid hb01
  have HB2 := Lib.hid hb02
  clear hib hb0 hb01 hb02
  generalize hA0 : (Act.mk _ _) = A0
  refine wpIn_rangeFunc_ownH rfl (by omega) (gf := 133) (lb := #[.pointer (some ⟨W0.heap.size + 2, 0, none⟩), .pointer (some ⟨W0.heap.size + 1, 0, none⟩), .pointer (some ⟨W0.heap.size, 0, none⟩)]) (by rw [← hA0]; rfl) trivial ?eg hseq KR.trans (KR.put (w := W9) (by rw [HZ9.out]; omega)) (Below.refl _ _) (fun _ => rfl)
    (fun pre W => (∃ v, Boxed W w8.heap.size 22 v ∧ W.ownsRow (W0.heap.size + 3) 24 3 v pre.length (bcellsL pre) ∧ True) ∧ Below w.heap.size w W ∧ Below W9.heap.size W9 W9 ∧ W9.heap.size ≤ W.heap.size)
    (fun _ _ _ => False)
    (OwnFrom.and (Own.from (holdsRow_own (W0.heap.size + 3) w8.heap.size 22 24 3 (fun pre : List Ck.Bar => pre.length) (fun pre => bcellsL pre) (fun _ _ => True)) _) (OwnFrom.and (ownFrom_below (Nat.le_refl _) (by rw [HZ9.out, HZ0.out]; omega)) ?sz))
    (fun _ _ _ _ _ hs _ _ => hs)
    ⟨⟨_, bO9, World.ownsRow_nil _ _ _ _, trivial⟩, hbw9, Below.refl _ _, Nat.le_refl _⟩
    (fun b a' W => ∃ Bx, w8.heap.size < Bx ∧ Box3 W Bx 24 (.int .i64 b.x) (.int .i64 b.y) (.int .i64 b.s) ∧ a' = { tmps := (A0.tmps.setIfInBounds 48 (.agg #[.int .i64 b.x, .int .i64 b.y, .int .i64 b.s])).setIfInBounds 11 (.pointer (some ⟨Bx, 0, none⟩)), defers := [] })
    (fun x a' _ X Y row hs hg hr => by obtain ⟨Bx, h1, h2, h3⟩ := hs; exact ⟨Bx, h1, box3_own Bx _ _ _ _ () X Y row h2 hg (fun r e => (hr r e).2), h3⟩)
    ?assign ?body ?done ?stop
  case eg => exact fun _ _ => by kernel_rfl
  case sz => exact fun s X Y row hs hg hr => ⟨hs.1, Nat.le_trans hs.2 hg.size⟩
  case assign =>
    rintro l pre b W K ⟨⟨v, hv, hrow, -⟩, hB1, hB2, hB3⟩ hK
    subst hA0
    have hz8 := HZ9.out
    have hz7 := HZ0.out
    dsimp only [barArr]
    gi_wp2
    exact hK _ _ ((KeepsOthers.alloc _ _).from _) (KR.of_below ((Below.refl _ _).alloc (Nat.le_refl _) _) (by omega)) ⟨⟨v, hv.alloc _, hrow.alloc _, trivial⟩, hB1.alloc hB1.size _, hB2, by simp; omega⟩ ⟨W.heap.size, by omega, Box3.new W _ _ _ _, by simp⟩
  case body =>
    rintro l pre b a' W hl ⟨r, hr⟩ ⟨⟨v, hv, hrow, -⟩, hB, hB2, hB3⟩ ⟨Bx, hBx, bX, rfl⟩ hlt
    subst hA0
    have hz8 := HZ9.out
    have hz7 := HZ0.out
    have hc := hv.cell
    obtain ⟨x0, x1', x2', xl⟩ := bX.cells
    gi_wp2_with (gi_at_builtin; refine wpListIn_append_own _ rfl _ _ 22 rfl (W0.heap.size + 3) 24 ib (.agg #[.int .i64 0, .int .i64 0, .int .i64 0]) 3 24 Tryz.underlying22 HB.out HB0.out HB1.out HB2.out rfl (by decide) _ _ _ rfl (hrow.alloc _) ⟨W.heap.size, 0, none⟩ 1 1 [.int .i64 b.x, .int .i64 b.y, .int .i64 b.s] rfl rfl (three_new _ _ _ _ _) (by intro u hu; simp at hu; rcases hu with rfl | rfl | rfl <;> rfl) (by unfold maxLen; omega) (by omega) (by simp; omega) ?_; intro v' w1 hown' hgrow _; obtain ⟨g', cap', rfl⟩ := ownsRow_succ hown'; obtain ⟨hv1, hv2, hk2, hb2, hr2⟩ := sheet_step (B1 := W0.heap.size) (by decide) (by omega) (by omega) (by omega) hv hrow hown' hgrow; have hc1 := hv1.cell; have hf1 := hv1.frozen)
    exact ⟨hk2.from _, hr2.2, ⟨_, hv2, by rw [bcellsL_snoc]; simpa using hr2.1, trivial⟩, hB.trans (hb2.mono (by omega)), hB2, Nat.le_trans hB3 hb2.size⟩
  case done =>
    rintro D ys W hD hS ⟨⟨v, hv, hrow, -⟩, hB, -, hB3⟩ hK
    subst hA0
    subst hS
    have hc := hv.cell
    go_wp2
    have hz8 := HZ9.out
    have hz7 := HZ0.out
    refine ⟨by simp, .inl ⟨_, _, rfl, run_takeDeferred hK, ?_⟩⟩
    refine ⟨_, results_tmp2 rfl _ _ _, v, rfl, ownsRow_mono (ownsRow_putObj hrow _ hK rfl) ?_, hB.trans (belowK_b (w := W9) (n₀ := w.heap.size) hbw9.size W D _ _ hD hK rfl rfl)⟩
    have := hbW.size
    omega
  case stop =>
    rintro D c pre W _ _ h _
    exact h.elim
end Go.Proofs.YtdeplhihcifmeaaGreatDoor

/- The bars along an edge: Bars of taper. -/
namespace Go.Proofs.YtdeplhihcifmeaaGreatDoor
open Go.RowKit Go.Shelf Ck
attribute [local go_sem] Oper.semAt_some

def barsOf (l : List (UInt8 × Knot × Knot)) : List Bar := l.flatMap fun q => if q.1 = 66 then [⟨q.2.1.x, q.2.1.y, q.2.2.x - q.2.1.x⟩] else []
theorem barsOf_snoc (l : List (UInt8 × Knot × Knot)) (q : UInt8 × Knot × Knot) : barsOf (l ++ [q]) = barsOf l ++ (if q.1 = 66 then [⟨q.2.1.x, q.2.1.y, q.2.2.x - q.2.1.x⟩] else []) := by simp [barsOf]
theorem barsOf_legs (σ : Int) : ∀ (L : List UInt8) (k : Knot), barsOf (legsL σ k L) = barsP σ k L
  | [], _ => rfl
  | c :: r, k => by
    have ih := barsOf_legs σ r (stepK σ k c)
    have e : barsOf (legsL σ k (c :: r)) = (if c = 66 then [⟨k.x, k.y, (stepK σ k c).x - k.x⟩] else []) ++ barsOf (legsL σ (stepK σ k c) r) := by simp [barsOf, legsL]
    rw [e, ih, barsP_cons]
    by_cases h : c = 66
    · subst h
      simp [step_B]
      omega
    · simp [h]
theorem bides_row {β : Type} {B Bo n₀ : Nat} {e te t : TypeId} {size : Nat} (k : β → Nat) (f : β → List Value) (hB : Bo < B) (hne : te ≠ e) : Bides B e (fun (s : β) W => ∃ v, Boxed W Bo t v ∧ W.ownsRow n₀ te size v (k s) (f s)) := by
  rintro s W W' r ⟨v, hv, hr⟩ hg hrow
  refine ⟨v, (hg.block Bo (Array.getElem?_eq_some_iff.1 hv).1 (fun e' => by have := (hrow Bo e'.symm).1; omega)).trans hv, hr.kept hg ?_⟩
  rcases hr.2 with ⟨rfl, _⟩ | ⟨g, cap, cur, rfl, _, hgb, _⟩
  · exact .inl rfl
  · refine .inr fun e' => ?_
    obtain ⟨_, o, ho, hk⟩ := hrow g (by simpa [Value.ownBlock] using e'.symm)
    rw [hgb] at ho
    cases ho
    rcases hk with hk | ⟨cs, f', hk, _⟩
    · cases hk
    · injection hk with _ h2
      exact hne h2
theorem KT.appended {W w1 : World} {Bo B1 n₀ : Nat} {e : TypeId} {size k : Nat} {v : Value} {xs : List Value} {tmp : Obj} (hB : Bo < B1) (hne : e ≠ 26) (hrow : W.ownsRow n₀ e size v k xs) (hgrow : (W.alloc tmp).grownBy w1 v.ownBlock) (v' : Value) : KT B1 e W (w1.setCell ⟨Bo, 0, none⟩ v') := by
  refine ⟨?_, fun b o hb ho hk => ?_⟩
  · have := hgrow.size; simp at this ⊢; omega
  · have hlt := (Array.getElem?_eq_some_iff.1 ho).1
    have hnb : some b ≠ v.ownBlock := by
      intro e'
      rcases hrow.2 with ⟨rfl, _⟩ | ⟨g, cap, cur, rfl, _, hgb, _⟩
      · simp [Value.ownBlock] at e'
      · obtain rfl : b = g := by simpa [Value.ownBlock] using e'
        rw [hgb] at ho
        cases ho
        rcases hk with hk | ⟨cs, t, f, hk, hk2⟩
        · cases hk
        · injection hk with _ h2
          rcases hk2 with hk2 | ⟨hk2, _⟩
          · exact hk2 h2.symm
          · exact hne (h2.trans hk2)
    rw [Below.heap_setCell _ _ _ b (by show b ≠ Bo; omega), hgrow.block b (by simp; omega) hnb, Below.heap_alloc _ _ _ hlt]
    exact ho

end Go.Proofs.YtdeplhihcifmeaaGreatDoor

/- The meshes along an edge: Meshes of taper. -/
namespace Go.Proofs.YtdeplhihcifmeaaGreatDoor
open Go.RowKit Go.Shelf Ck
attribute [local go_sem] Oper.semAt_some

/-- The centre of the mesh that a letter other than B goes through. -/
def midK (σ : Int) (k : Knot) (c : UInt8) : Knot := if c = 84 then ⟨k.x + σ, k.y⟩ else ⟨k.x, k.y + 1⟩
def midsOf (σ : Int) (l : List (UInt8 × Knot × Knot)) : List Knot := l.flatMap fun q => if q.1 = 66 then [] else [midK σ q.2.1 q.1]
theorem midsOf_snoc (σ : Int) (l : List (UInt8 × Knot × Knot)) (q : UInt8 × Knot × Knot) : midsOf σ (l ++ [q]) = midsOf σ l ++ (if q.1 = 66 then [] else [midK σ q.2.1 q.1]) := by simp [midsOf]
def midsP (σ : Int) : Knot → List UInt8 → List Knot
  | _, [] => []
  | k, c :: r => if c = 66 then midsP σ (stepK σ k c) r else midK σ k c :: midsP σ (stepK σ k c) r
theorem midsOf_legs (σ : Int) : ∀ (L : List UInt8) (k : Knot), midsOf σ (legsL σ k L) = midsP σ k L
  | [], _ => rfl
  | c :: r, k => by
    have ih := midsOf_legs σ r (stepK σ k c)
    have e : midsOf σ (legsL σ k (c :: r)) = (if c = 66 then [] else [midK σ k c]) ++ midsOf σ (legsL σ (stepK σ k c) r) := by simp [midsOf, legsL]
    rw [e, ih, midsP]
    by_cases h : c = 66 <;> simp [h]
theorem mids_half (o : Bool) {k : Knot} {c : UInt8} (hc : isL c) (h : c ≠ 66) : (k.x + (stepK (sg o) k c).x).tdiv 2 = (midK (sg o) k c).x ∧ (k.y + (stepK (sg o) k c).y).tdiv 2 = (midK (sg o) k c).y := by
  have hd : ∀ z : Int, (z + z).tdiv 2 = z := fun z => by rw [← Int.two_mul, Int.mul_comm, Int.mul_tdiv_cancel _ (by decide)]
  rcases hc with rfl | rfl | rfl
  · refine ⟨?_, ?_⟩
    · have : (stepK (sg o) k 78).x = k.x := by simp [stepK, dxL]
      rw [this, hd]; rfl
    · have : k.y + (stepK (sg o) k 78).y = (k.y + 1) + (k.y + 1) := by simp [stepK, dyL]; omega
      rw [this, hd]; rfl
  · exact absurd rfl h
  · refine ⟨?_, ?_⟩
    · have : k.x + (stepK (sg o) k 84).x = (k.x + sg o) + (k.x + sg o) := by simp [stepK, dxL]; omega
      rw [this, hd]; rfl
    · have : (stepK (sg o) k 84).y = k.y := by simp [stepK, dyL]
      rw [this, hd]; rfl
theorem mid_near (o : Bool) (k : Knot) (c : UInt8) : k.x - 1 ≤ (midK (sg o) k c).x ∧ (midK (sg o) k c).x ≤ k.x + 1 ∧ k.y - 1 ≤ (midK (sg o) k c).y ∧ (midK (sg o) k c).y ≤ k.y + 1 := by
  unfold midK sg
  cases o <;> split <;> simp <;> omega
theorem infoP : (Tryz.prog.info? 213).map (fun i => (i.zero, i.size, i.bytes)) = some (some (.agg #[.int .i64 0, .int .i64 0]), 2, 16) := by kernel_rfl
def MidPost (l : List Knot) (w : World) (e : Ending) (w' : World) : Prop :=
  ∃ v, e = .returned (.tuple #[v, .int .i64 0]) ∧ w'.ownsRow w.heap.size 213 2 v l.length (kcellsL l) ∧ Below w.heap.size w w'

end Go.Proofs.YtdeplhihcifmeaaGreatDoor

/- Meshes and Has of the program at valid nets. -/
namespace Go.Proofs.YtdeplhihcifmeaaGreatDoor
open Go.RowKit Go.Shelf Ck

def MeshesPost (l : List Bar) (w : World) (e : Ending) (w' : World) : Prop :=
  ∃ v, e = .returned (.tuple #[v, .int .i64 0]) ∧ w'.ownsRow w.heap.size 118 2 v (meshL l l).length (meshCells (meshL l l)) ∧ Below w.heap.size w w'
set_option maxHeartbeats 1000000 in
set_option maxRecDepth 100000 in
theorem netMeshesAll (A : Option Addr) (c : Nat) (l : List Bar) (w : World) (hl : l.length ≤ 4096) (hc : l.length ≤ c) (hcm : c ≤ maxLen) (hN : Net l) (h : RB w w.heap.size A l) :
    Calls Tryz.prog 44 #[.slice A l.length c] w (MeshesPost l w) := by
  have HR := Lib.hid h
  have HE := Lib.hid ((netE_zero l).2 ⟨hl, hN⟩)
  have HN := Lib.hid hN
  clear h hN
  go_enter Tryz.func44, Tryz.ntmps44
  go_wp2_with fail
  refine (netCheckNet A c l _ hl hc hcm HR.out).mono ?_
  rintro e w1 ⟨rfl, hb1⟩
  rw [HE.out]
  go_wp2_with fail
  refine (netMeshesOf A c l _ hl HN.out.2 HN.out.1 ((HR.out.below hb1).more hb1.size)).mono ?_
  rintro e w2 ⟨v, rfl, hown, hb2⟩
  have HO := Lib.hid (ownsRow_mono hown hb1.size)
  clear hown
  go_wp2
  go_ret2
  exact ⟨v, rfl, HO.out, hb1.trans (hb2.mono hb1.size)⟩

end Go.Proofs.YtdeplhihcifmeaaGreatDoor

/- Plain mathematics of the union: its members, its order, its length. -/
namespace Go.Proofs.YtdeplhihcifmeaaGreatDoor
open Ck

theorem mergeU_mem (x : Bar) : ∀ (l l' : List Bar), x ∈ mergeU l l' ↔ x ∈ l ∨ x ∈ l'
  | [], l' => by simp [mergeU]
  | a :: r, [] => by simp [mergeU]
  | a :: r, b :: r' => by
    rw [mergeU]
    split
    · rw [List.mem_cons, mergeU_mem x r (b :: r'), List.mem_cons, List.mem_cons, or_assoc]
    · split
      · rw [List.mem_cons, mergeU_mem x (a :: r) r', List.mem_cons, List.mem_cons]
        constructor
        · rintro (h | h | h)
          · exact .inr (.inl h)
          · exact .inl h
          · exact .inr (.inr h)
        · rintro (h | h | h)
          · exact .inr (.inl h)
          · exact .inl h
          · exact .inr (.inr h)
      · have e : a = b := (cmpB_zero a b).1 (by omega)
        subst e
        rw [List.mem_cons, mergeU_mem x r r', List.mem_cons, List.mem_cons]
        constructor
        · rintro (h | h | h)
          · exact .inl (.inl h)
          · exact .inl (.inr h)
          · exact .inr (.inr h)
        · rintro ((h | h) | (h | h))
          · exact .inl h
          · exact .inr (.inl h)
          · exact .inl h
          · exact .inr (.inr h)
termination_by l l' => l.length + l'.length
theorem mergeU_sorted : ∀ (l l' : List Bar), l.Pairwise Blt → l'.Pairwise Blt → (mergeU l l').Pairwise Blt
  | [], l', _, h' => by simpa [mergeU] using h'
  | a :: r, [], h, _ => by simpa [mergeU] using h
  | a :: r, b :: r', h, h' => by
    obtain ⟨h1, h2⟩ := List.pairwise_cons.1 h
    obtain ⟨k1, k2⟩ := List.pairwise_cons.1 h'
    rw [mergeU]
    split
    · rename_i hc
      have hab := (cmpB_lt_iff a b).1 hc
      refine List.pairwise_cons.2 ⟨fun x hx => ?_, mergeU_sorted r (b :: r') h2 h'⟩
      rcases (mergeU_mem x r (b :: r')).1 hx with hx | hx
      · exact h1 x hx
      · rcases List.mem_cons.1 hx with rfl | hx
        · exact hab
        · exact hab.trans (k1 x hx)
    · rename_i hc
      split
      · rename_i hd
        have hba : Blt b a := by
          rcases Blt.tri a b with h | h | h
          · exact absurd ((cmpB_lt_iff a b).2 h) hc
          · rw [(cmpB_zero a b).2 h] at hd; omega
          · exact h
        refine List.pairwise_cons.2 ⟨fun x hx => ?_, mergeU_sorted (a :: r) r' h k2⟩
        rcases (mergeU_mem x (a :: r) r').1 hx with hx | hx
        · rcases List.mem_cons.1 hx with rfl | hx
          · exact hba
          · exact hba.trans (h1 x hx)
        · exact k1 x hx
      · have e : a = b := (cmpB_zero a b).1 (by omega)
        subst e
        refine List.pairwise_cons.2 ⟨fun x hx => ?_, mergeU_sorted r r' h2 k2⟩
        rcases (mergeU_mem x r r').1 hx with hx | hx
        · exact h1 x hx
        · exact k1 x hx
termination_by l l' => l.length + l'.length
theorem mergeU_length : ∀ (l l' : List Bar), (mergeU l l').length ≤ l.length + l'.length
  | [], l' => by simp [mergeU]
  | a :: r, [] => by simp [mergeU]
  | a :: r, b :: r' => by
    rw [mergeU]
    split
    · have := mergeU_length r (b :: r'); simp only [List.length_cons] at this ⊢; omega
    · split
      · have := mergeU_length (a :: r) r'; simp only [List.length_cons] at this ⊢; omega
      · have := mergeU_length r r'; simp only [List.length_cons] at this ⊢; omega
termination_by l l' => l.length + l'.length
theorem mergeU_net {l l' : List Bar} (h : Net l) (h' : Net l') : Net (mergeU l l') :=
  ⟨fun b hb => ((mergeU_mem b l l').1 hb).elim (h.1 b) (h'.1 b), mergeU_sorted l l' h.2 h'.2⟩
/-- All bars of the first list come before all of the second one. -/
theorem mergeU_append : ∀ (l l' : List Bar), (∀ a ∈ l, ∀ b ∈ l', Blt a b) → mergeU l l' = l ++ l'
  | [], l', _ => by simp [mergeU]
  | a :: r, [], _ => by simp [mergeU]
  | a :: r, b :: r', h => by
    rw [mergeU, if_pos ((cmpB_lt_iff a b).2 (h a (by simp) b (by simp))), mergeU_append r (b :: r') (fun x hx => h x (by simp [hx]))]
    rfl
end Go.Proofs.YtdeplhihcifmeaaGreatDoor
