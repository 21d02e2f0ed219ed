/- TopCorkWorn returns true for every knot, every two numbers of a size and every key. Conditions: none. -/
import Derived.Test.YtkplpmhdmlkjhaaB4
/- The contract of moved, by a shift's closure. -/
namespace Go.Proofs.Ytkplpmhdmlkjhaa
open Go.RowKit

theorem made_row (w : World) (base n : Nat) (hb : base ≤ w.heap.size) (hn : n ≤ 4096) (cs : Array Value) (hcs : cs.size = n * 3) (t : TypeId) : (w.alloc (.cells cs t)).ownsRow base t 3 (.slice (some ⟨w.heap.size, 0, none⟩) 0 n) 0 [] :=
  ⟨by simp, .inr ⟨_, _, _, rfl, hb, heap_alloc_new _ _, Nat.zero_le _, by unfold maxLen; omega, hcs, by simp⟩⟩
def zeros3 (n : Nat) : Array Value := madeCells (Value.agg #[.int .i64 0, .int .i64 0, .int .i64 0]).cells (n * 3)

def K5 (W : World) (g g0 : Nat) (a b c d e : Value) (w0 : World) : Prop := w0.cell? ⟨g, 0, none⟩ = some a ∧ w0.cell? ⟨g, 1, none⟩ = some b ∧ w0.cell? ⟨g, 2, none⟩ = some c ∧ w0.cell? ⟨g0, 0, none⟩ = some d ∧ w0.cell? ⟨g0, 1, none⟩ = some e ∧ g < w0.heap.size ∧ g0 < w0.heap.size ∧ Below g W w0
theorem carry5 {W w0 w1 : World} {g g0 : Nat} {a b c d e : Value} (hb : Below w0.heap.size w0 w1) (h : K5 W g g0 a b c d e w0) : K5 W g g0 a b c d e w1 :=
  ⟨(hb.cell (p := ⟨g, _, none⟩) h.2.2.2.2.2.1).trans h.1, (hb.cell (p := ⟨g, _, none⟩) h.2.2.2.2.2.1).trans h.2.1, (hb.cell (p := ⟨g, _, none⟩) h.2.2.2.2.2.1).trans h.2.2.1, (hb.cell (p := ⟨g0, _, none⟩) h.2.2.2.2.2.2.1).trans h.2.2.2.1, (hb.cell (p := ⟨g0, _, none⟩) h.2.2.2.2.2.2.1).trans h.2.2.2.2.1, Nat.lt_of_lt_of_le h.2.2.2.2.2.1 hb.size, Nat.lt_of_lt_of_le h.2.2.2.2.2.2.1 hb.size, h.2.2.2.2.2.2.2.trans (hb.mono (Nat.le_of_lt h.2.2.2.2.2.1))⟩
theorem K5.below {W w0 : World} {g g0 : Nat} {a b c d e : Value} (h : K5 W g g0 a b c d e w0) : Below g W w0 := h.2.2.2.2.2.2.2

theorem mov_row {w10 : World} {base : Nat} {v : Value} {l : List Ck.Bar} {k : Nat} {dx dy : Int} (hlt : k < l.length) (h : w10.ownsRow base 50 3 v (k + 1) (bcellsL ((l.take k).map (Ck.Bar.shift dx dy)) ++ [.int .i64 (l[k].x + dx), .int .i64 (l[k].y + dy), .int .i64 l[k].s])) :
    Hid (w10.ownsRow base 50 3 v (k + 1) (bcellsL ((l.take (k + 1)).map (Ck.Bar.shift dx dy)))) := by
  rw [List.take_succ_eq_append_getElem hlt, List.map_append, bcellsL, List.flatMap_append, ← bcellsL]
  exact h
theorem mov_below {wr w9 w10 : World} {o : Obj} {base : Nat} {row : Option Nat} (hb : Below wr.heap.size wr w9) (hg : (w9.alloc o).grownBy w10 row) (hrow : ∀ k, row = some k → base ≤ k) (hbz : base ≤ wr.heap.size) : Below base wr w10 :=
  (((hb.mono hbz).alloc (Nat.le_trans hbz hb.size) _)).grown hg (by have := hb.size; simp; omega) hrow

def MovPost (l : List Ck.Bar) (dx dy : Int) (w : World) (e : Ending) (w' : World) : Prop :=
  ∃ v, e = .returned v ∧ w'.ownsRow w.heap.size 50 3 v l.length (bcellsL (sortBars (l.map (Ck.Bar.shift dx dy)))) ∧ Below w.heap.size w w'

set_option maxHeartbeats 4000000 in
set_option maxRecDepth 100000 in
theorem netMoved (A : Option Addr) (c g0 : Nat) (l : List Ck.Bar) (dx dy : Int) (w : World) (hl : l.length ≤ 4096) (hok : ∀ x ∈ l, Ck.okBar x) (h : RB w w.heap.size A l) (k1 : -500000 ≤ dx) (k2 : dx ≤ 500000) (k3 : -500000 ≤ dy) (k4 : dy ≤ 500000)
    (hg : g0 < w.heap.size) (c0 : w.cell? ⟨g0, 0, none⟩ = some (.int .i64 dx)) (c1 : w.cell? ⟨g0, 1, none⟩ = some (.int .i64 dy)) :
    Calls Try.prog 47 #[.slice A l.length c, .func (.func 48) #[] #[.pointer (some ⟨g0, 0, none⟩)]] w (MovPost l dx dy w) := by
  obtain ⟨ib, hib, hb0, hb01, hb02⟩ := info_parts Try.info50
  have hmk : ∀ W : World, (Instr.makeSlice 22 (.int .i64 0) (.int .i64 (l.length : Int))).run Try.prog W = .ok (.slice (some ⟨W.heap.size, 0, none⟩) 0 l.length) (W.alloc (.cells (zeros3 l.length) 50)) := fun W => by
    have := run_make (P := Try.prog) W 22 50 ib _ Try.underlying22 hib hb0 .i64 .i64 0 (l.length : Int) (by omega) (by omega) (by rw [hb02]; omega) (by omega)
    rw [hb01, Int.toNat_natCast] at this
    exact this
  have HIB := Lib.hid hib
  have HB0 := Lib.hid hb0
  have HB1 := Lib.hid hb01
  have HB2 := Lib.hid hb02
  have HR := Lib.hid h
  have hl' : (l.length : Int) ≤ 4096 := by omega
  clear hib hb0 hb01 hb02 h
  go_enter Try.func47, Try.ntmps47
  go_wp2_with fail
  go_loopw [5, 7, 13] (fun v _ i wi => ∃ k : Nat, k ≤ l.length ∧ i = .int .i64 k ∧ Hid (wi.ownsRow w.heap.size 50 3 v k (bcellsL ((l.take k).map (Ck.Bar.shift dx dy)))) ∧ Below w.heap.size w wi) (fun _ _ i _ => l.length - (intOf i).toNat)
  case atStart => exact ⟨0, Nat.zero_le _, rfl, made_row _ _ _ (Nat.le_refl _) hl _ (by rw [zeros3, size_madeCells]) _, (Below.refl _ _).alloc (Nat.le_refl _) _⟩
  case round =>
    obtain ⟨k, hk, rfl, hown, hb⟩ := hrel
    by_cases hlt : k < l.length
    · obtain ⟨b, off, rfl, hB, hc⟩ := HR.out.below hb (by omega)
      obtain ⟨d0, d1, d2⟩ := hc k hlt
      have hbz := hb.size
      obtain ⟨⟨⟨hx1, hx2⟩, ⟨hy1, hy2⟩, _⟩, hs, _⟩ := hok _ (List.getElem_mem hlt)
      replace hx1 : -100000 ≤ l[k].x := hx1
      replace hx2 : l[k].x ≤ 100000 := hx2
      replace hy1 : -100000 ≤ l[k].y := hy1
      replace hy2 : l[k].y ≤ 100000 := hy2
      have hs1 : -1 ≤ l[k].s := by omega
      have hs2 : l[k].s ≤ 1 := by omega
      have q0 := (hb.cell (p := ⟨g0, 0, none⟩) hg).trans c0
      have q1 := (hb.cell (p := ⟨g0, 1, none⟩) hg).trans c1
      clear hc hs
      go_wp2_with fail
      obtain ⟨w1, hw1, e0, e1, e2, hb1, hz1⟩ := box3 wr (.int .i64 l[k].x) (.int .i64 l[k].y) (.int .i64 l[k].s) 50
      rw [← hw1]
      clear hw1 d0 d1 d2
      replace q0 := (hb1.cell (p := ⟨g0, 0, none⟩) (by show g0 < _; omega)).trans q0
      replace q1 := (hb1.cell (p := ⟨g0, 1, none⟩) (by show g0 < _; omega)).trans q1
      have hk0 : K5 wr wr.heap.size g0 (.int .i64 l[k].x) (.int .i64 l[k].y) (.int .i64 l[k].s) (.int .i64 dx) (.int .i64 dy) w1.drew := ⟨e0, e1, e2, q0, q1, hz1, by show g0 < w1.heap.size; omega, below_drew hb1⟩
      go_region_law (first
        | (go_simp; go_at_call 64; refine (netLower _ _ _ _).mono ?_; rintro e w9 ⟨rfl, hb9⟩; have hk9 := carry5 hb9 (by assumption); obtain ⟨_, _, _, _, _, _, _, _⟩ := id hk9)
        | (go_simp; go_at_call 67; refine (netUpper _ _ _ _ hx1 hx2 hy1 hy2 hs1 hs2).mono ?_; rintro e w9 ⟨rfl, hb9⟩; have hk9 := carry5 hb9 (by assumption); obtain ⟨_, _, _, _, _, _, _, _⟩ := id hk9)
        | (go_simp; go_at_call 48; refine (shiftClosure _ _ dx dy g0 _ (by omega) (by omega) (by omega) (by omega) (by omega) (by omega) (by omega) (by omega) (by assumption) (by assumption) (by assumption)).mono ?_; rintro e w9 ⟨rfl, hb9⟩; have hk9 := carry5 hb9 (by assumption); obtain ⟨_, _, _, _, _, _, _, _⟩ := id hk9)
        | (go_simp; go_at_call 68; refine (netBetweenUp _ _ _ _ _ (by omega) (by omega) (by omega) (by omega) (by omega)).mono ?_; rintro e w9 ⟨rfl, hb9⟩; have hk9 := carry5 hb9 (by assumption); obtain ⟨_, _, _, _, _, _, _, _⟩ := id hk9; rw [show l[k].x + l[k].s + dx - (l[k].x + dx) = l[k].s from by omega])
        | (refine step_append_lies _ rfl (.tmp 17) (.tmp 27) 22 rfl w.heap.size 50 ib (.agg #[.int .i64 0, .int .i64 0, .int .i64 0]) 3 24 Try.underlying22 HIB.out HB0.out HB1.out HB2.out rfl (by decide) u5 k (bcellsL ((l.take k).map (Ck.Bar.shift dx dy))) (by simp [Act.eval]) (by exact (ownsRow_below hown.out (K5.below (by assumption))).alloc _) _ 1 1 [.int .i64 (l[k].x + dx), .int .i64 (l[k].y + dy), .int .i64 l[k].s] (by first | (simp [Act.eval]; done) | (simp [Act.eval]; rfl)) rfl (by exact three_new _ _ _ _ _) (by intro u hu; simp at hu; rcases hu with rfl | rfl | rfl <;> rfl) (by decide) (by unfold maxLen; omega) (by omega) (by simp; omega) _ rfl ?_; intro gx cap w10 hown10 hgrow10 _ _))
      all_goals
        have hrow := mov_row (dx := dx) (dy := dy) hlt hown10
        have hbel := hb.trans (mov_below (K5.below (by assumption)) hgrow10 (ownsRow_base hown.out) hbz)
        clear hgrow10 hown10
        go_wp2
        go_roundw
        case rel => exact ⟨k + 1, by omega, by go_num, hrow, hbel⟩
        case measure => simp [intOf]; omega
    · obtain rfl : k = l.length := by omega
      have hrow := hown.out
      rw [List.take_length] at hrow
      have hlm : (l.map (Ck.Bar.shift dx dy)).length = l.length := List.length_map ..
      rw [← hlm] at hrow
      have hbz := hb.size
      go_wp2_with fail
      refine (netSortBars w.heap.size _ (l.map (Ck.Bar.shift dx dy)) _ (by omega) hbz hrow).mono ?_
      rintro e w2 ⟨rfl, hrow2, hb2⟩
      rw [hlm] at hrow2
      have HO := Lib.hid hrow2
      clear hrow hrow2
      go_wp2
      go_ret
      exact ⟨_, rfl, HO.out, hb.trans hb2⟩
end Go.Proofs.Ytkplpmhdmlkjhaa

/- Contracts of shiftedBy and Shift at near nets. -/
namespace Go.Proofs.Ytkplpmhdmlkjhaa
open Go.RowKit

set_option maxHeartbeats 1000000 in
theorem netShiftedBy (A : Option Addr) (c : Nat) (l : List Ck.Bar) (dx dy : Int) (w : World) (hl : l.length ≤ 4096) (hok : ∀ x ∈ l, Ck.okBar x) (h : RB w w.heap.size A l) (k1 : -500000 ≤ dx) (k2 : dx ≤ 500000) (k3 : -500000 ≤ dy) (k4 : dy ≤ 500000) :
    Calls Try.prog 26 #[.slice A l.length c, .agg #[.int .i64 dx, .int .i64 dy]] w (MovPost l dx dy w) := by
  obtain ⟨w1, hw1, e0, e1, hb1, hz1⟩ := box2 w (.int .i64 dx) (.int .i64 dy) 61
  have HR := Lib.hid h
  have HO := Lib.hid hok
  have HW := Lib.hid hw1
  clear h hok hw1
  go_enter Try.func26, Try.ntmps26
  go_wp2_with fail
  rw [← HW.out]
  refine (netMoved A c w.heap.size l dx dy w1 hl HO.out ((HR.out.below hb1).more hb1.size) k1 k2 k3 k4 hz1 e0 e1).mono ?_
  rintro e w2 ⟨v, rfl, hrow, hb2⟩
  have HV := Lib.hid (ownsRow_mono hrow hb1.size)
  clear hrow
  go_wp2
  go_ret
  exact ⟨v, rfl, HV.out, hb1.trans (hb2.mono hb1.size)⟩

theorem keepS {W w1 w2 : World} {g : Nat} {x y : Value} (h : w1.cell? ⟨g, 0, none⟩ = some x ∧ w1.cell? ⟨g, 1, none⟩ = some y ∧ Below g W w1 ∧ g < w1.heap.size) (hb : Below w1.heap.size w1 w2) :
    w2.cell? ⟨g, 0, none⟩ = some x ∧ w2.cell? ⟨g, 1, none⟩ = some y ∧ Below g W w2 ∧ g < w2.heap.size := by
  obtain ⟨h0, h1, h3, h4⟩ := h
  exact ⟨(hb.cell (p := ⟨g, 0, none⟩) h4).trans h0, (hb.cell (p := ⟨g, 1, none⟩) h4).trans h1, h3.trans (hb.mono (by omega)), by have := hb.size; omega⟩
theorem sId {W w : World} {g : Nat} {x y : Value} (h : w.cell? ⟨g, 0, none⟩ = some x ∧ w.cell? ⟨g, 1, none⟩ = some y ∧ Below g W w ∧ g < w.heap.size) : w.cell? ⟨g, 0, none⟩ = some x ∧ w.cell? ⟨g, 1, none⟩ = some y ∧ Below g W w ∧ g < w.heap.size := h
theorem checkS {W w : World} {g : Nat} {x y : Value} (A : Option Addr) (c : Nat) (l : List Ck.Bar) (hl : l.length ≤ 4096) (hcap : l.length ≤ c) (hcm : c ≤ maxLen) (HR : Hid (RB W W.heap.size A l)) (hg : W.heap.size ≤ g) (HE : Hid (netE l = 0))
    (h : w.cell? ⟨g, 0, none⟩ = some x ∧ w.cell? ⟨g, 1, none⟩ = some y ∧ Below g W w ∧ g < w.heap.size) : Calls Try.prog 23 #[.slice A l.length c] w fun e w' => e = .returned (.int .i64 0) ∧ Below w.heap.size w w' :=
  (netCheckNet A c l w hl hcap hcm ((HR.out.below (h.2.2.1.mono hg)).more (by have := h.2.2.1.size; have := h.2.2.2; omega))).mono fun e w' ⟨he, hb⟩ => ⟨by rw [he, HE.out], hb⟩

set_option maxHeartbeats 2000000 in
set_option maxRecDepth 100000 in
theorem netShift (A : Option Addr) (c : Nat) (l : List Ck.Bar) (w : World) (hl : l.length ≤ 4096) (hcap : l.length ≤ c) (hcm : c ≤ maxLen) (hN : Ck.Net l) (hn : Near l) (h : RB w w.heap.size A l) :
    Calls Try.prog 7 #[.slice A l.length c, .agg #[.int .i64 1000, .int .i64 1000]] w fun e w' => ∃ v, e = .returned (.tuple #[v, .int .i64 0]) ∧ w'.ownsRow w.heap.size 50 3 v (farL l).length (bcellsL (farL l)) ∧ Below w.heap.size w w' := by
  obtain ⟨w1, hw1, e0, e1, hb1, hz1⟩ := box2 w (.int .i64 1000) (.int .i64 1000) 30
  have HR := Lib.hid h
  have HN := Lib.hid hN
  have HF := Lib.hid (farL_net hN hn)
  have HE := Lib.hid ((netE_zero l).2 ⟨hl, hN⟩)
  have HK := Lib.hid (show knotE 1000 1000 = 0 by decide)
  have HS := Lib.hid (sortBars_net (farL_net hN hn).2)
  have HL := Lib.hid (show (farL l).length = l.length by rw [farL, List.length_map])
  have HW := Lib.hid hw1
  clear h hN hn hw1
  go_enter Try.func7, Try.ntmps7
  go_wp2_with fail
  rw [← HW.out]
  go_region_held3 (fun w' => w'.cell? ⟨w.heap.size, 0, none⟩ = some (.int .i64 1000) ∧ w'.cell? ⟨w.heap.size, 1, none⟩ = some (.int .i64 1000) ∧ Below w.heap.size w w' ∧ w.heap.size < w'.heap.size)
    (first | exact ⟨e0, e1, below_drew hb1, hz1⟩ | exact keepS (by assumption) (by assumption) | exact keepS (by assumption) ((Below.refl _ _).alloc (Nat.le_refl _) _) | assumption | go_keep)
    (first
      | (go_at_call 23; refine (checkS A c l hl hcap hcm HR (Nat.le_refl _) HE (by assumption)).mono ?_; rintro e w' ⟨rfl, hbq⟩)
      | (go_at_call 24; refine (netCheckKnot _ _ _).mono ?_; rintro e w' ⟨rfl, hbq⟩; rw [HK.out])
      | (go_at_call 22; refine (netFirst2 _ _ 0 0 25 _ (by exact heap_alloc_new _ _)).mono ?_; rintro e w' ⟨rfl, rfl⟩; rw [show firstE [0, 0] = 0 from rfl]))
  obtain ⟨c0, c1, hbW, hzW⟩ := sId (by assumption)
  go_wp2_with fail
  refine (netShiftedBy A c l 1000 1000 _ hl HN.out.1 ((HR.out.below hbW).more hbW.size) (by omega) (by omega) (by omega) (by omega)).mono ?_
  rintro e w3 ⟨v, rfl, hrow, hb3⟩
  have hrow' := ownsRow_mono hrow hbW.size
  have hbT := hbW.trans (hb3.mono hbW.size)
  rw [show l.map (Ck.Bar.shift 1000 1000) = farL l from rfl, HS.out] at hrow'
  obtain ⟨a, cv, rfl, hcv, hcm2⟩ := own_slice hrow'
  have hrow2 := hrow'
  rw [← HL.out] at hrow2 hcv
  have HO := Lib.hid hrow2
  have hRB := RB.of_own hrow2
  have HRB := Lib.hid hRB
  have hlen : (farL l).length ≤ 4096 := by rw [HL.out]; exact hl
  have HLen := Lib.hid hlen
  clear hrow hrow' hrow2 hRB hlen
  go_wp2_with fail
  rw [← HL.out]
  refine (netWithin a cv (farL l) _ HLen.out hcv hcm2 HF.out HRB.out).mono ?_
  rintro e w4 ⟨rfl, hb4⟩
  go_wp2
  go_ret2
  exact ⟨_, rfl, ownsRow_below HO.out (hb4.mono (Nat.le_refl _)), hbT.trans (hb4.mono hbT.size)⟩
end Go.Proofs.Ytkplpmhdmlkjhaa

/- Contracts of the reference's Bars; equality of counts. -/
namespace Go.Proofs.Ytkplpmhdmlkjhaa
open Go.RowKit

def meshL4 (x y : Int) : List Ck.Bar := [⟨x, y - 1, -1⟩, ⟨x, y - 1, 1⟩, ⟨x - 1, y, 1⟩, ⟨x + 1, y, -1⟩]
theorem four_row (w : World) (base : Nat) (hb : base ≤ w.heap.size) (t : TypeId) (l : List Ck.Bar) (hl : l.length = 4) : (w.alloc (.cells (bcellsL l).toArray t)).ownsRow base t 3 (.slice (some ⟨w.heap.size, 0, none⟩) 4 4) l.length (bcellsL l) :=
  ⟨by rw [bcellsL_length], .inr ⟨w.heap.size, 4, _, by rw [hl], hb, heap_alloc_new _ _, by omega, by unfold maxLen; omega, by simp [bcellsL_length, hl], by rw [List.take_of_length_le (by simp [bcellsL_length])]⟩⟩

theorem four_row2 (w : World) (o : Obj) (base : Nat) (hb : base ≤ w.heap.size) (t : TypeId) (l : List Ck.Bar) (hl : l.length = 4) : ((w.alloc o).alloc (.cells (bcellsL l).toArray t)).ownsRow base t 3 (.slice (some ⟨w.heap.size + 1, 0, none⟩) 4 4) l.length (bcellsL l) := by
  have := four_row (w.alloc o) base (by simp; omega) t l hl
  rwa [World.size_alloc] at this

set_option maxHeartbeats 1000000 in
set_option maxRecDepth 100000 in
theorem refBars (x y : Int) (w : World) (h1 : -1000 ≤ x) (h2 : x ≤ 1000) (h3 : -1000 ≤ y) (h4 : y ≤ 1000) :
    Calls Try.prog 20 #[.agg #[.int .i64 x, .int .i64 y]] w (OwnPost (meshL4 x y) w) := by
  go_enter Try.func20, Try.ntmps20
  go_wp2_with fail
  go_ret
  exact ⟨_, rfl, four_row2 w _ w.heap.size (Nat.le_refl _) _ (meshL4 x y) rfl, ((Below.refl _ _).alloc (Nat.le_refl _) _).alloc (by simp) _⟩

theorem eqCounts (a b c d e a' b' c' d' e' : Int) (r : Bool) (hr : decide (a = a' ∧ b = b' ∧ c = c' ∧ d = d' ∧ e = e') = r) (w : World) :
    (Op.equalIn 10000 33 (.agg #[.int .i64 a, .int .i64 b, .int .i64 c, .int .i64 d, .int .i64 e]) (.agg #[.int .i64 a', .int .i64 b', .int .i64 c', .int .i64 d', .int .i64 e'])).run Try.prog w = .ok r w := by
  have u3 := Try.underlying3
  have a3 := Try.isAgg3
  have z3 := Try.sizeOf3
  have hS : Try.prog.underlying 33 = some (.struct (Try.prog.fieldsOf 33)) := by kernel_rfl
  have hp : Try.prog.stoodInHeld 33 = false := by kernel_rfl
  subst hr
  rw [show (10000 : Nat) = 9999 + 1 from rfl, run_equalIn_struct w 9999 33 _ _ hS hp]
  simp only [Program.fieldsOf, Try.underlying33]
  go_simp
  by_cases h1 : a = a' <;> by_cases h2 : b = b' <;> by_cases h3 : c = c' <;> by_cases h4 : d = d' <;> by_cases h5 : e = e' <;> simp [h1, h2, h3, h4, h5]
theorem guardCounts : Try.prog.eqGuardType Try.prog.depth 33 = false := by kernel_rfl
end Go.Proofs.Ytkplpmhdmlkjhaa

/- The walk of TopCorkWorn. -/
namespace Go.Proofs.Ytkplpmhdmlkjhaa
open Go.RowKit Ck

def MeshYes : Prop := ∀ w : World, Calls Try.prog 6 #[] w fun e w' => e = .returned (.bool true) ∧ Below w.heap.size w w'
def YesW (w : World) (e : Ending) (w' : World) : Prop := e = .returned (.bool true) ∧ Below w.heap.size w w'

theorem boxKS (w : World) (a b c d : Value) (t t' : TypeId) : ∃ w1, w1 = (w.alloc (.cells #[a, b] t)).alloc (.cells #[c, d] t') ∧ w1.cell? ⟨w.heap.size, 0, none⟩ = some a ∧ w1.cell? ⟨w.heap.size, 1, none⟩ = some b ∧
    w1.cell? ⟨w.heap.size + 1, 0, none⟩ = some c ∧ w1.cell? ⟨w.heap.size + 1, 1, none⟩ = some d ∧ Below w.heap.size w w1 ∧ w1.heap.size = w.heap.size + 2 := by
  obtain ⟨w0, rfl, h0, h1, hb0, hz⟩ := box2 w a b t
  have hs : (w.alloc (.cells #[a, b] t)).heap.size = w.heap.size + 1 := by simp
  obtain ⟨w1, rfl, k0, k1, hb1, hz1⟩ := box2 (w.alloc (.cells #[a, b] t)) c d t'
  rw [hs] at k0 k1
  exact ⟨_, rfl, (hb1.cell (p := ⟨_, _, none⟩) hz).trans h0, (hb1.cell (p := ⟨_, _, none⟩) hz).trans h1, k0, k1, hb0.trans (hb1.mono hb0.size), by simp⟩

set_option maxHeartbeats 4000000 in
set_option maxRecDepth 100000 in
theorem wornNo (hM : MeshYes) (x y s0 s1 k : Int) (w : World) (a0 : 0 ≤ s0) (a1 : s0 < 256) (b0 : 0 ≤ s1) (b1 : s1 < 256) (h : sheetE x y (1 + s0 % 3) (1 + s1 % 4) ≠ 0) :
    Calls Try.prog 4 #[.agg #[.int .i64 x, .int .i64 y], .agg #[.int .u8 s0, .int .u8 s1], .int .u16 k] w (YesW w) := by
  have HE := Lib.hid h
  clear h
  obtain ⟨w2, hw2, e0, e1, f0, f1, hb2, hz2⟩ := boxKS w (.int .i64 x) (.int .i64 y) (.int .u8 s0) (.int .u8 s1) 30 41
  have HW2 := Lib.hid hw2
  have HZ2 := Lib.hid hz2
  clear hw2 hz2
  have hc1 : IntKind.i64.wrap s0 = s0 := by rw [IntKind.wrap_i64]; omega
  have hc2 : IntKind.i64.wrap s1 = s1 := by rw [IntKind.wrap_i64]; omega
  go_enter Try.func4, Try.ntmps4
  go_wp2_with fail
  rw [← HW2.out]
  go_quiet (fail)
  have hb3 := below_drewN hb2 nq
  have q0 : (World.drewN w2 nq).cell? ⟨w.heap.size, 0, none⟩ = some (.int .i64 x) := by simpa using e0
  have q1 : (World.drewN w2 nq).cell? ⟨w.heap.size, 1, none⟩ = some (.int .i64 y) := by simpa using e1
  generalize World.drewN w2 nq = w3 at *
  go_wp2_with fail
  refine (refCheckSheet x y (1 + s0 % 3) (1 + s1 % 4) _).mono ?_
  rintro e w4 ⟨rfl, hb4⟩
  have HNE : (sheetE x y (1 + s0 % 3) (1 + s1 % 4) == 0) = false := by
    rw [beq_eq_false_iff_ne]; exact HE.out
  generalize sheetE x y (1 + s0 % 3) (1 + s1 % 4) = er at *
  go_wp2_with fail
  refine (hM _).mono ?_
  rintro e w5 ⟨rfl, hb5⟩
  go_wp2
  go_ret
  have hb6 := hb3.trans (hb4.mono hb3.size)
  exact ⟨rfl, hb6.trans (hb5.mono hb6.size)⟩

theorem infoC : (Try.prog.info? 33).map (fun i => (i.zero, i.size, i.bytes)) = some (some (.agg #[.int .i64 0, .int .i64 0, .int .i64 0, .int .i64 0, .int .i64 0]), 5, 40) := by kernel_rfl
/-- The numbers seen lie in block g. -/
def SeenAt (w : World) (g : Nat) (S q : List Bar) (n : Nat) : Prop := g < w.heap.size ∧ ∀ i, i < n → w.cell? ⟨g, i * 5, none⟩ = some (.int .i64 (ct0 (D S q i))) ∧ w.cell? ⟨g, i * 5 + 1, none⟩ = some (.int .i64 (ct1 (D S q i))) ∧ w.cell? ⟨g, i * 5 + 2, none⟩ = some (.int .i64 (ct2 (D S q i))) ∧
  w.cell? ⟨g, i * 5 + 3, none⟩ = some (.int .i64 (ct3 (D S q i))) ∧ w.cell? ⟨g, i * 5 + 4, none⟩ = some (.int .i64 (ct4 (D S q i)))
theorem SeenAt.below {w w' : World} {g : Nat} {S q : List Bar} {n : Nat} (h : SeenAt w g S q n) (hb : Below w.heap.size w w') : SeenAt w' g S q n :=
  ⟨Nat.lt_of_lt_of_le h.1 hb.size, fun i hi => by
    obtain ⟨h0, h1, h2, h3, h4⟩ := h.2 i hi
    exact ⟨(hb.cell (p := ⟨g, _, none⟩) h.1).trans h0, (hb.cell (p := ⟨g, _, none⟩) h.1).trans h1, (hb.cell (p := ⟨g, _, none⟩) h.1).trans h2, (hb.cell (p := ⟨g, _, none⟩) h.1).trans h3, (hb.cell (p := ⟨g, _, none⟩) h.1).trans h4⟩⟩
theorem own_seen {w : World} {base : Nat} {v : Value} {n : Nat} {S q : List Bar} (h : w.ownsRow base 33 5 v n (ccells S q n)) (hn : 0 < n) : ∃ g c, v = .slice (some ⟨g, 0, none⟩) n c ∧ SeenAt w g S q n ∧ n ≤ c ∧ c ≤ maxLen := by
  rcases h.2 with ⟨rfl, hz⟩ | ⟨g, cap, cur, rfl, _, hgb, h1, h2, _⟩
  · omega
  · refine ⟨g, cap, rfl, ⟨(Array.getElem?_eq_some_iff.1 hgb).1, fun i hi => ?_⟩, h1, h2⟩
    have hc := h.cells (g := g) rfl
    obtain ⟨k0, k1, k2, k3, k4⟩ := ccells_at S q hi
    have q0 := hc _ _ k0
    have q1 := hc _ _ k1
    have q2 := hc _ _ k2
    have q3 := hc _ _ k3
    have q4 := hc _ _ k4
    rw [add0] at q0 q1 q2 q3 q4
    try simp only [Nat.zero_add] at q0 q1 q2 q3 q4
    exact ⟨q0, q1, q2, q3, q4⟩
theorem keepO {W w1 w2 : World} {b o g m : Nat} {x y s i : Value} (h : w1.cell? ⟨g, m, none⟩ = some i ∧ w1.cell? ⟨b, o, none⟩ = some x ∧ w1.cell? ⟨b, o + 1, none⟩ = some y ∧ w1.cell? ⟨b, o + 2, none⟩ = some s ∧ Below W.heap.size W w1 ∧ b < W.heap.size ∧ g < W.heap.size) (hb : Below W.heap.size w1 w2) :
    w2.cell? ⟨g, m, none⟩ = some i ∧ w2.cell? ⟨b, o, none⟩ = some x ∧ w2.cell? ⟨b, o + 1, none⟩ = some y ∧ w2.cell? ⟨b, o + 2, none⟩ = some s ∧ Below W.heap.size W w2 ∧ b < W.heap.size ∧ g < W.heap.size := by
  obtain ⟨h9, h0, h1, h2, h3, h4, h5⟩ := h
  exact ⟨(hb.cell (p := ⟨g, _, none⟩) h5).trans h9, (hb.cell (p := ⟨b, _, none⟩) h4).trans h0, (hb.cell (p := ⟨b, _, none⟩) h4).trans h1, (hb.cell (p := ⟨b, _, none⟩) h4).trans h2, h3.trans hb, h4, h5⟩
theorem belO {W w1 : World} {b o g m : Nat} {x y s i : Value} (h : w1.cell? ⟨g, m, none⟩ = some i ∧ w1.cell? ⟨b, o, none⟩ = some x ∧ w1.cell? ⟨b, o + 1, none⟩ = some y ∧ w1.cell? ⟨b, o + 2, none⟩ = some s ∧ Below W.heap.size W w1 ∧ b < W.heap.size ∧ g < W.heap.size) : Below W.heap.size W w1 := h.2.2.2.2.1
/-- The bars l lie at the place. -/
def BarsAt (w : World) (b off : Nat) (l : List Bar) : Prop := b < w.heap.size ∧ ∀ i (h : i < l.length), w.cell? ⟨b, off + i * 3, none⟩ = some (.int .i64 l[i].x) ∧ w.cell? ⟨b, off + i * 3 + 1, none⟩ = some (.int .i64 l[i].y) ∧ w.cell? ⟨b, off + i * 3 + 2, none⟩ = some (.int .i64 l[i].s)
theorem BarsAt.below {w w' : World} {b off : Nat} {l : List Bar} (h : BarsAt w b off l) (hb : Below w.heap.size w w') : BarsAt w' b off l :=
  ⟨Nat.lt_of_lt_of_le h.1 hb.size, fun i hi => by
    obtain ⟨h0, h1, h2⟩ := h.2 i hi
    exact ⟨(hb.cell (p := ⟨b, _, none⟩) h.1).trans h0, (hb.cell (p := ⟨b, _, none⟩) h.1).trans h1, (hb.cell (p := ⟨b, _, none⟩) h.1).trans h2⟩⟩
theorem boxW (w : World) (a b c d e : Value) (t : TypeId) : ∃ w1, w1 = w.alloc (.cells #[a, b, c, d, e] t) ∧ w1.heap[w.heap.size]? = some (.cells #[a, b, c, d, e] t (0, 0)) ∧ Below w.heap.size w w1 ∧ w.heap.size < w1.heap.size :=
  ⟨_, rfl, heap_alloc_new _ _, (Below.refl _ _).alloc (Nat.le_refl _) _, by simp⟩
theorem five_new (w : World) (a b c d e : Value) (t : TypeId) : ∀ (j : Nat) (u : Value), [a, b, c, d, e][j]? = some u → (w.alloc (.cells #[a, b, c, d, e] t)).cell? ((⟨w.heap.size, 0, none⟩ : Addr).add j) = some u :=
  World.news_of_block (heap_alloc_new _ _)

def OwnB (w : World) (v : Value) (l : List Bar) : Prop := w.ownsRow 0 50 3 v l.length (bcellsL l)
theorem OwnB.below {w w' : World} {v : Value} {l : List Bar} (h : OwnB w v l) (hb : Below w.heap.size w w') : OwnB w' v l := ownsRow_below h hb
theorem OwnB.grown {w w' : World} {v v2 : Value} {l : List Bar} {base e size n : Nat} {xs : List Value} {tmp : Obj} (h : OwnB w v l) (hrow : w.ownsRow base e size v2 n xs) (he : 50 ≠ e) (hg : (w.alloc tmp).grownBy w' v2.ownBlock) : OwnB w' v l := by
  have h1 : (w.alloc tmp).ownsRow 0 50 3 v l.length (bcellsL l) := World.ownsRow.alloc h tmp
  refine World.ownsRow.kept h1 hg ?_
  rcases h.2 with ⟨rfl, _⟩ | ⟨g, cap, cur, rfl, _, hgb, _⟩
  · exact .inl rfl
  · refine .inr fun e' => ?_
    rcases hrow.2 with ⟨rfl, _⟩ | ⟨g2, cap2, cur2, rfl, _, hgb2, _⟩
    · simp [Value.ownBlock] at e'
    · have : g = g2 := by simpa [Value.ownBlock] using e'
      subst this
      rw [hgb] at hgb2
      injection hgb2 with h3
      injection h3 with _ h4
      exact he h4
def PairOwn (l : List Bar) (w : World) (e : Ending) (w' : World) : Prop := ∃ a c, e = .returned (.tuple #[.slice a l.length c, .int .i64 0]) ∧ OwnB w' (.slice a l.length c) l ∧ OKS w' a c l ∧ Below w.heap.size w w'
theorem sheetO (x y : Int) (c r : Nat) (w : World) (hE : sheetE x y c r = 0) :
    Calls Try.prog 14 #[.agg #[.int .i64 x, .int .i64 y], .int .i64 c, .int .i64 r] w (PairOwn (sheetP x y c r) w) :=
  (netSheet x y c r w hE).mono fun e w' ⟨v, he, hrow, hb⟩ => by
    obtain ⟨a, c', rfl, hok⟩ := own_oks hrow
    exact ⟨a, c', he, ownsRow_mono hrow (Nat.zero_le _), hok, hb⟩
theorem minusO (A A' : Option Addr) (c c' : Nat) (l l' u : List Bar) (w : World) (hu : mergeM l l' = u) (hl : l.length ≤ 2000) (hl' : l'.length ≤ 2000) (hN : Net l) (hN' : Net l') (h : OKS w A c l) (h' : OKS w A' c' l') :
    Calls Try.prog 17 #[.slice A l.length c, .slice A' l'.length c'] w (PairOwn u w) :=
  (netMinus A A' c c' l l' w (by omega) (by omega) h.1 h.2.1 h'.1 h'.2.1 hN hN' h.2.2.2 h'.2.2.2).mono fun e w' ⟨v, he, hrow, hb⟩ => by
    subst hu
    obtain ⟨a, c', rfl, hok⟩ := own_oks hrow
    exact ⟨a, c', he, ownsRow_mono hrow (Nat.zero_le _), hok, hb⟩
theorem OKS.drew {w : World} {a : Option Addr} {c : Nat} {l : List Bar} (h : OKS w a c l) : OKS w.drew a c l := h.below (below_drew (Below.refl _ _))
theorem OKS.alloc {w : World} {a : Option Addr} {c : Nat} {l : List Bar} (h : OKS w a c l) (o : Obj) : OKS (w.alloc o) a c l := h.below ((Below.refl _ _).alloc (Nat.le_refl _) _)
theorem OwnB.oks {w : World} {l : List Bar} {a : Option Addr} {c : Nat} (h : OwnB w (.slice a l.length c) l) : OKS w a c l := by
  obtain ⟨a', c', h1, h2⟩ := own_oks h
  injection h1 with e1 _ e3
  rw [e1, e3]
  exact h2
theorem OwnB.form {w : World} {v : Value} {l : List Bar} (h : OwnB w v l) : ∃ A c, v = .slice A l.length c ∧ OKS w A c l := own_oks h

set_option maxHeartbeats 8000000 in
set_option maxRecDepth 100000 in
theorem wornYes (hM : MeshYes) (x y s0 s1 k : Int) (c r : Nat) (w : World) (a0 : 0 ≤ s0) (a1 : s0 < 256) (b0 : 0 ≤ s1) (b1 : s1 < 256) (k0 : 0 ≤ k) (k1 : k < 65536) (hc : 1 + s0 % 3 = (c : Int)) (hr : 1 + s1 % 4 = (r : Int)) (h : sheetE x y c r = 0) :
    Calls Try.prog 4 #[.agg #[.int .i64 x, .int .i64 y], .agg #[.int .u8 s0, .int .u8 s1], .int .u16 k] w (YesW w) := by
  obtain ⟨S, hS, hN, hN1, hN2⟩ : ∃ (S : List Bar), S = sheetP x y c r ∧ Net S ∧ S.length = 2 * (c * r) ∧ S.length ≤ 24 := by
    obtain ⟨hs, hm, hf1, hf2⟩ := sheetE_zero h
    obtain ⟨hk, c1, c2, r1, r2⟩ := sheet1_zero hs
    have hk' := knotE_zero hk
    refine ⟨_, rfl, ?_, sheetP_length x y c r, ?_⟩
    · have hf1' : inPlace (x + 2 * (c : Int)) := by
        unfold farB at hf1
        unfold inPlace
        simp at hf1
        omega
      have hf2' : inPlace (y + (r : Int)) := by
        unfold farB at hf2
        unfold inPlace
        simp at hf2
        omega
      exact sheet_net ((knotE_ok x y).1 hk) hf1' hf2'
    · rw [sheetP_length]
      have h1 : c ≤ 3 := by omega
      have h2 : r ≤ 4 := by omega
      have := Nat.mul_le_mul h1 h2
      omega
  have hc3 : c ≤ 3 := by omega
  have hr3 : r ≤ 4 := by omega
  have hcp : 1 ≤ c := by omega
  have hrp : 1 ≤ r := by omega
  have hNp : 2 ≤ S.length := by have := Nat.mul_le_mul hcp hrp; omega
  have hm0 : (S.length : Int) = 2 * (c : Int) * (r : Int) := by rw [hN1]; push_cast; rw [Int.mul_assoc]
  have HE := Lib.hid h
  have HC := Lib.hid hc
  have HR := Lib.hid hr
  have HS := Lib.hid hS
  have HN := Lib.hid hN
  have HNE := Lib.hid ((netE_zero S).2 ⟨by omega, hN⟩)
  have hlt24 : 2 * (c : Int) * (r : Int) ≤ 24 := by omega
  have hge24 : 0 ≤ 2 * (c : Int) * (r : Int) := by omega
  have hc64 : (c : Int) ≤ 3 := by omega
  have hr64 : (r : Int) ≤ 4 := by omega
  obtain ⟨w2, hw2, e0, e1, f0, f1, hb2, hz2⟩ := boxKS w (.int .i64 x) (.int .i64 y) (.int .u8 s0) (.int .u8 s1) 30 41
  have HW2 := Lib.hid hw2
  have HZ2 := Lib.hid hz2
  clear hw2 hz2 h hc hr hS hN hN1
  have hc1 : IntKind.i64.wrap s0 = s0 := by rw [IntKind.wrap_i64]; omega
  have hc2 : IntKind.i64.wrap s1 = s1 := by rw [IntKind.wrap_i64]; omega
  go_enter Try.func4, Try.ntmps4
  go_wp2_with fail
  rw [← HW2.out]
  go_quiet (fail)
  rw [HC.out, HR.out]
  have hb3 := below_drewN hb2 nq
  have q0 : (World.drewN w2 nq).cell? ⟨w.heap.size, 0, none⟩ = some (.int .i64 x) := by simpa using e0
  have q1 : (World.drewN w2 nq).cell? ⟨w.heap.size, 1, none⟩ = some (.int .i64 y) := by simpa using e1
  have HZ3 := Lib.hid (show (World.drewN w2 nq).heap.size = w.heap.size + 2 by simpa using HZ2.out)
  generalize World.drewN w2 nq = w3 at *
  clear e0 e1 f0 f1 a0 a1 b0 b1 hc1 hc2 hb2 HW2 HZ2 nq
  go_wp2_with fail
  refine (refCheckSheet x y c r _).mono ?_
  rintro e w4 ⟨rfl, hb4⟩
  rw [HE.out]
  have q0' := (hb4.cell (p := ⟨w.heap.size, 0, none⟩) (by show w.heap.size < _; rw [HZ3.out]; omega)).trans q0
  have q1' := (hb4.cell (p := ⟨w.heap.size, 1, none⟩) (by show w.heap.size < _; rw [HZ3.out]; omega)).trans q1
  have p4 := hb3.trans (hb4.mono hb3.size)
  clear q0 q1
  go_wp2_with fail
  refine (sheetO x y c r _ HE.out).mono ?_
  rw [← HS.out]
  rintro e w5 ⟨A5, c5, rfl, hw5, hk5, hb5⟩
  have N5 := Lib.hid hw5
  clear hw5
  have p5 := p4.trans (hb5.mono p4.size)
  have K5 := Lib.hid hk5
  clear hk5 q0' q1'
  go_wp2_with fail
  refine (refCheckNet A5 c5 S _ (by omega) K5.out.2.2.2).mono ?_
  rintro e w6 ⟨rfl, hb6⟩
  rw [HNE.out]
  clear hm0 hlt24 hge24 hc64 hr64 hc3 hr3 hcp hrp
  have p6 := p5.trans (hb6.mono p5.size)
  have K6 := Lib.hid (K5.out.below hb6)
  have N6 := Lib.hid (N5.out.below hb6)
  go_wp2_with fail
  refine (copyS A5 c5 S _ (by omega) K6.out.2.2.1 K6.out.2.2.2).mono ?_
  rintro e w7 ⟨A7, c7, rfl, hk7, hb7⟩
  have p7 := p6.trans (hb7.mono p6.size)
  have K7 := Lib.hid hk7
  have L7 := Lib.hid (N6.out.below hb7)
  clear hk7
  have hk1 : IntKind.i64.wrap k = k := by rw [IntKind.wrap_i64]; omega
  go_wp2_with fail
  refine (drawS (1 + k) S.length _ (by omega) (by omega) (by omega) (by omega)).mono ?_
  rintro e w8 ⟨g8, c8, p, rfl, hp8, ho8, hcl8, hcm8, hb8⟩
  have p8 := p7.trans (hb8.mono p7.size)
  have W8 := Lib.hid (K7.out.below hb8)
  have L8 := Lib.hid (L7.out.below hb8)
  have O8 := Lib.hid ho8
  have P8 := Lib.hid hp8
  obtain ⟨q, hq⟩ : ∃ q, q = qL S p := ⟨_, rfl⟩
  obtain ⟨hqn, hqs, hsq, hql, hpl⟩ := qL_facts HN.out hp8
  rw [← hq] at hqn hqs hsq hql
  have QN := Lib.hid hqn
  have QS := Lib.hid hqs
  have SQ := Lib.hid hsq
  have QL := Lib.hid hql
  have PL := Lib.hid hpl
  clear hqn hqs hsq hql hpl
  have HQ := Lib.hid hq
  clear ho8 hp8 hq
  obtain ⟨bW, oW, hA7, hbW, hcW⟩ := W8.out.2.2.2 (by omega)
  subst hA7
  have B8 := Lib.hid (show BarsAt w8 bW oW S from ⟨hbW, hcW⟩)
  clear hbW hcW
  obtain ⟨ic, hic, hz0, hz1, hz2⟩ := info_parts infoC
  have HI := Lib.hid hic
  have HI0 := Lib.hid hz0
  have HI1 := Lib.hid hz1
  have HI2 := Lib.hid hz2
  clear hic hz0 hz1 hz2
  go_wp2_with fail
  go_loopw [9, 13, 74] (fun lv sv i wi => ∃ (j : Nat), j ≤ S.length ∧ i = .int .i64 j ∧ OwnB wi lv (D S q j) ∧ wi.ownsRow w8.heap.size 33 5 sv j (ccells S q j) ∧ Below w8.heap.size w8 wi) (fun _ _ i _ => S.length - (intOf i).toNat)
  case atStart => exact ⟨0, Nat.zero_le _, rfl, by rw [D_zero SQ.out]; exact L8.out, World.ownsRow_nil _ _ _ _, Below.refl _ _⟩
  case round =>
    obtain ⟨j, hj, rfl, hob, hrow, hb⟩ := hrel
    have hDl := D_len HN.out QS.out QN.out SQ.out QL.out (j := j) (by rw [← QL.out]; exact hj)
    by_cases hlt : j < S.length
    · have hjp : j < p.length := by rw [PL.out]; exact hlt
      have hjq : j < q.length := by rw [← QL.out]; exact hlt
      have hDl1 := D_len HN.out QS.out QN.out SQ.out QL.out (j := j + 1) hjq
      rw [← QL.out] at hDl hDl1
      have d0 := (O8.out.below hb).2 j hjp
      obtain ⟨i, hi⟩ : ∃ i, p[j] = i := ⟨_, rfl⟩
      rw [hi] at d0
      have hil : i < S.length := hi ▸ order_lt P8.out hjp
      obtain ⟨bb, hbb⟩ : ∃ bb, bb = S[i] := ⟨_, rfl⟩
      have hqb : q[j] = bb := by
        have := qL_at hjp hil hi (by rw [← HQ.out]; exact hjq)
        rw [hbb, ← this]
        congr 1
      obtain ⟨m0, m1, m2⟩ := (B8.out.below hb).2 i hil
      rw [← hbb] at m0 m1 m2
      have hbW := (B8.out.below hb).1
      have HBB := Lib.hid hbb
      have BS := Lib.hid (hbb ▸ List.getElem_mem hil : bb ∈ S)
      have HM := Lib.hid (hqb ▸ D_minus HN.out QN.out hjq : mergeM (D S q j) [bb] = D S q (j + 1))
      have HCN := Lib.hid (D_net HN.out q j)
      have HCC := Lib.hid (ccells_succ S q j)
      obtain ⟨C, hC⟩ : ∃ C, D S q j = C := ⟨_, rfl⟩
      obtain ⟨C', hC'⟩ : ∃ C', D S q (j + 1) = C' := ⟨_, rfl⟩
      rw [hC] at hob hDl HM HCN HCC
      obtain ⟨A, cA, rfl, hok⟩ := hob.form
      rw [hC'] at hDl1 HM
      have HC' := Lib.hid hC'
      have hf := ct_facts HCN.out
      have hi0 : (0 : Int) ≤ (i : Int) := by omega
      have hi1 : (i : Int) < (S.length : Int) := by omega
      have hj0 : (0 : Int) ≤ (j : Int) := by omega
      have hj1 : (j : Int) < (S.length : Int) := by omega
      have OK := Lib.hid hok
      have OB := Lib.hid hob
      have RW := Lib.hid hrow
      clear hC hC' hbb hqb hi hok hob hrow
      go_wp2_with fail
      refine (countD A cA C _ (by omega) HCN.out OK.out).mono ?_
      rintro e w12 ⟨rfl, ⟨⟨t0, t1⟩, ⟨t2, t3⟩, ⟨t4, t5⟩, ⟨t6, t7⟩, ⟨t8, t9⟩⟩, hb12⟩
      generalize ct0 C = x0 at *
      generalize ct1 C = x1 at *
      generalize ct2 C = x2 at *
      generalize ct3 C = x3 at *
      generalize ct4 C = x4 at *
      obtain ⟨hsum, hx2, hx4⟩ := hf
      obtain ⟨wx, hwx, kx, bx, zx⟩ := boxW w12 (.int .i64 x0) (.int .i64 x1) (.int .i64 x2) (.int .i64 x3) (.int .i64 x4) 33
      have b13 := hb12.trans (bx.mono hb12.size)
      have OB13 := Lib.hid (OB.out.below b13)
      have RW13 := Lib.hid (ownsRow_below RW.out b13)
      have bt := hb.trans (b13.mono hb.size)
      obtain ⟨r0, r1, r2, r3, r4, rf⟩ := five_of_block kx
      have HWX := Lib.hid hwx
      have hwx' := hwx.symm
      have hs5 : (x2 + x4 - x3 + x0 == x1) = true := by rw [beq_iff_eq]; exact hsum
      have HCC13 := Lib.hid HCC.out
      have hzx := bt.size
      clear kx rf hwx d0
      go_wp2_with (at_builtin; refine wpList_append_own _ rfl _ _ 48 rfl w8.heap.size 33 ic (.agg #[.int .i64 0, .int .i64 0, .int .i64 0, .int .i64 0, .int .i64 0]) 5 40 Try.underlying48 HI.out HI0.out HI1.out HI2.out rfl (by decide) _ _ _ rfl (RW13.out.alloc _) ⟨wx.heap.size, 0, none⟩ 1 1 [.int .i64 x0, .int .i64 x1, .int .i64 x2, .int .i64 x3, .int .i64 x4] rfl rfl ?c1 ?c2 ?c3 ?c4 ?c5 ?_)
      case c1 => exact five_new _ _ _ _ _ _ _
      case c2 => intro u hu; simp at hu; rcases hu with rfl | rfl | rfl | rfl | rfl <;> rfl
      case c3 => unfold maxLen; omega
      case c4 => omega
      case c5 => simp; omega
      intro v' w14 hown14 hgrow14 _
      have OB14 := Lib.hid (OB13.out.grown RW13.out (by decide) hgrow14)
      have bt14 := (bt.alloc bt.size (.cells #[.int .i64 x0, .int .i64 x1, .int .i64 x2, .int .i64 x3, .int .i64 x4] 33)).grown hgrow14 (by simp; omega) (ownsRow_base RW13.out)
      have RW14 := Lib.hid (show w14.ownsRow w8.heap.size 33 5 v' (j + 1) (ccells S q (j + 1)) by rw [HCC13.out]; exact hown14)
      have OK14 := Lib.hid OB14.out.oks
      obtain ⟨m0, m1, m2⟩ := (B8.out.below bt14).2 i hil
      rw [← HBB.out] at m0 m1 m2
      have hbw14 := (B8.out.below bt14).1
      have BN := Lib.hid (wbar_net HN.out BS.out)
      have hC25 : C.length ≤ 24 := by omega
      clear r0 r1 r2 r3 r4 hs5 hsum hx2 hx4 t0 t1 t2 t3 t4 t5 t6 t7 t8 t9 HCC13 HCC bx zx b13 hgrow14 hown14 hwx' hb12 bt hb hbW
      go_wp2_with fail
      go_region_held3 (fun w' => w'.cell? ⟨bW, oW + i * 3, none⟩ = some (.int .i64 bb.x) ∧ w'.cell? ⟨bW, oW + i * 3 + 1, none⟩ = some (.int .i64 bb.y) ∧ w'.cell? ⟨bW, oW + i * 3 + 2, none⟩ = some (.int .i64 bb.s) ∧ Below w14.heap.size w14 w' ∧ bW < w14.heap.size)
        (first
          | exact ⟨m0, m1, m2, below_drew (Below.refl _ _), hbw14⟩
          | assumption
          | exact keepQ (by assumption) ((Below.refl _ _).alloc (belQ (by assumption)).size _)
          | exact keepQ (by assumption) (Below.mono (by assumption) (belQ (by assumption)).size)
          | exact keepQ (by assumption) (by assumption))
        (first
          | (go_at_call 8; refine (copyS A cA C _ (by omega) OK14.out.2.2.1 (OK14.out.below (belQ (by assumption))).2.2.2).mono ?_; rintro e w15 ⟨A15, c15, rfl, hk15, hb15⟩)
          | (go_at_call 17; refine (minusO A15 (some ⟨_, 0, none⟩) c15 1 C [bb] C' _ HM.out (by omega) (by simp) HCN.out BN.out ?_ ?_).mono ?_; (· first | exact hk15 | exact hk15.drew | exact hk15.alloc _ | exact (hk15.alloc _).drew | exact hk15.drew.alloc _ | exact (hk15.drew.alloc _).drew); (· first | exact one_oks _ bb _ | exact (one_oks _ bb _).drew | exact (one_oks _ bb _).below hb15 | exact (one_oks _ bb _).drew.below hb15 | exact ((one_oks _ bb _).drew.below hb15).drew); rintro e w16 ⟨A16, c16, rfl, hw16, hk16, hb16⟩)
          | fail)
      all_goals
        have hQ := belQ (by assumption : _ ∧ _ ∧ _ ∧ Below w14.heap.size w14 w16 ∧ _)
        have RW16 := Lib.hid (ownsRow_below RW14.out hQ)
        have bt16 := bt14.trans (hQ.mono bt14.size)
        have OB16 := Lib.hid (show OwnB w16 (.slice A16 C'.length c16) (D S q (j + 1)) by rw [HC'.out]; exact hw16)
        have hle : ((C'.length : Int) == (C.length : Int) - 1) = true := by rw [beq_iff_eq]; omega
        clear hw16 hk16 m0 m1 m2 hQ
        go_wp2
        go_roundw
        case rel => exact ⟨j + 1, hlt, by go_num, OB16.out, RW16.out, bt16⟩
        case measure => simp [intOf]; omega
    · obtain rfl : j = S.length := by omega
      have hnil : D S q S.length = [] := by have := D_end S q; rwa [← QL.out] at this
      have HNIL := Lib.hid hnil
      rw [hnil] at hob
      obtain ⟨A, cA, rfl, hok⟩ := hob.form
      obtain ⟨gs, cs, rfl, hsn, hcs1, hcs2⟩ := own_seen hrow (by omega)
      have OK := Lib.hid hok
      have SN := Lib.hid hsn
      have OB := Lib.hid (O8.out.below hb)
      have BB := Lib.hid (B8.out.below hb)
      have WB := Lib.hid (W8.out.below hb)
      have pb := p8.trans (hb.mono p8.size)
      clear hok hsn hob hrow hnil hDl hj hlt hb
      generalize wr = wb at *
      simp only [List.length_nil]
      go_wp2_with fail
      go_loopw [9, 20] (fun lv nv wi => ∃ (j : Nat) (k' : Int) (A : Option Addr) (cA : Nat), j ≤ S.length ∧ k' = (j : Int) - 1 ∧ nv = .int .i64 k' ∧ lv = .slice A (D S q j).length cA ∧ OKS wi A cA (D S q j) ∧ Below wb.heap.size wb wi) (fun _ nv _ => (intOf nv + 1).toNat)
      case atStart => exact ⟨S.length, _, A, cA, Nat.le_refl _, rfl, rfl, by rw [HNIL.out, List.length_nil], by rw [HNIL.out]; exact OK.out, Below.refl _ _⟩
      case round =>
        obtain ⟨j, k', A, cA, hj, hk', rfl, rfl, hok, hb⟩ := hrel
        by_cases hj0 : 0 < j
        · obtain ⟨m, rfl⟩ : ∃ m, j = m + 1 := ⟨j - 1, by omega⟩
          obtain rfl : k' = (m : Int) := by omega
          have hlt : m < S.length := by omega
          have hjp : m < p.length := by rw [PL.out]; exact hlt
          have hjq : m < q.length := by rw [← QL.out]; exact hlt
          have hDl := D_len HN.out QS.out QN.out SQ.out QL.out (j := m) (Nat.le_of_lt hjq)
          have hDl1 := D_len HN.out QS.out QN.out SQ.out QL.out (j := m + 1) hjq
          rw [← QL.out] at hDl hDl1
          have d0 := (OB.out.below hb).2 m hjp
          obtain ⟨i, hi⟩ : ∃ i, p[m] = i := ⟨_, rfl⟩
          rw [hi] at d0
          have hil : i < S.length := hi ▸ order_lt P8.out hjp
          obtain ⟨bb, hbb⟩ : ∃ bb, bb = S[i] := ⟨_, rfl⟩
          have hqb : q[m] = bb := by
            have := qL_at hjp hil hi (by rw [← HQ.out]; exact hjq)
            rw [hbb, ← this]
            congr 1
          obtain ⟨m0, m1, m2⟩ := (BB.out.below hb).2 i hil
          rw [← hbb] at m0 m1 m2
          have hbW := (BB.out.below hb).1
          have hgO := (OB.out.below hb).1
          have BS := Lib.hid (hbb ▸ List.getElem_mem hil : bb ∈ S)
          have BN := Lib.hid (wbar_net HN.out BS.out)
          have HM := Lib.hid (hqb ▸ D_union HN.out QS.out QN.out hjq : mergeU (D S q (m + 1)) [bb] = D S q m)
          have HCN := Lib.hid (D_net HN.out q (m + 1))
          have HCN' := Lib.hid (D_net HN.out q m)
          obtain ⟨s0', s1', s2', s3', s4'⟩ := (SN.out.below hb).2 m hlt
          have hgS := (SN.out.below hb).1
          obtain ⟨C, hC⟩ : ∃ C, D S q (m + 1) = C := ⟨_, rfl⟩
          obtain ⟨C', hC'⟩ : ∃ C', D S q m = C' := ⟨_, rfl⟩
          rw [hC] at hok hDl1 HM HCN ⊢
          rw [hC'] at hDl HM HCN' s0' s1' s2' s3' s4'
          have HC' := Lib.hid hC'
          have OKc := Lib.hid hok
          have hi0 : (0 : Int) ≤ (i : Int) := by omega
          have hi1 : (i : Int) < (S.length : Int) := by omega
          have hj0' : (0 : Int) ≤ (m : Int) := by omega
          have hj1 : (m : Int) < (S.length : Int) := by omega
          have hC25 : C.length ≤ 24 := by omega
          have hC25' : C'.length ≤ 24 := by omega
          clear hC hC' hbb hqb hi hok hk'
          go_wp2_with fail
          go_region_held3 (fun w' => w'.cell? ⟨g8, m, none⟩ = some (.int .i64 i) ∧ w'.cell? ⟨bW, oW + i * 3, none⟩ = some (.int .i64 bb.x) ∧ w'.cell? ⟨bW, oW + i * 3 + 1, none⟩ = some (.int .i64 bb.y) ∧ w'.cell? ⟨bW, oW + i * 3 + 2, none⟩ = some (.int .i64 bb.s) ∧ Below wr.heap.size wr w' ∧ bW < wr.heap.size ∧ g8 < wr.heap.size)
            (first
              | exact ⟨d0, m0, m1, m2, below_drew (Below.refl _ _), hbW, hgO⟩
              | assumption
              | exact keepO (by assumption) ((Below.refl _ _).alloc (belO (by assumption)).size _)
              | exact keepO (by assumption) (Below.mono (by assumption) (belO (by assumption)).size)
              | exact keepO (by assumption) (by assumption))
            (first
              | (go_at_call 8; refine (copyS A cA C _ (by omega) OKc.out.2.2.1 (OKc.out.below (belO (by assumption))).2.2.2).mono ?_; rintro e w15 ⟨A15, c15, rfl, hk15, hb15⟩)
              | (go_at_call 9; refine (unionS A15 (some ⟨_, 0, none⟩) c15 1 C [bb] C' _ HM.out (by omega) (by simp) HCN.out BN.out ?_ ?_).mono ?_; (· first | exact hk15 | exact hk15.drew | exact hk15.alloc _ | exact (hk15.alloc _).drew | exact hk15.drew.alloc _ | exact (hk15.drew.alloc _).drew); (· first | exact one_oks _ bb _ | exact (one_oks _ bb _).drew | exact (one_oks _ bb _).below hb15 | exact (one_oks _ bb _).drew.below hb15 | exact ((one_oks _ bb _).drew.below hb15).drew); rintro e w16 ⟨A16, c16, rfl, hk16, hb16⟩)
              | fail)
          all_goals
            have hQ := belO (by assumption : _ ∧ _ ∧ _ ∧ _ ∧ Below wr.heap.size wr w16 ∧ _ ∧ _)
            have bt16 := hb.trans (hQ.mono hb.size)
            have OK16 := Lib.hid hk16
            clear hk16 m0 m1 m2 d0 hQ s0' s1' s2' s3' s4'
            go_wp2_with fail
            refine (countD A16 c16 C' _ (by omega) HCN'.out OK16.out).mono ?_
            rintro e w17 ⟨rfl, -, hb17⟩
            have bt17 := bt16.trans (hb17.mono bt16.size)
            obtain ⟨wx, hwx, kx, bx, zx⟩ := boxW w17 (.int .i64 (ct0 C')) (.int .i64 (ct1 C')) (.int .i64 (ct2 C')) (.int .i64 (ct3 C')) (.int .i64 (ct4 C')) 33
            have b18 := hb17.trans (bx.mono hb17.size)
            have bt18 := bt16.trans (b18.mono bt16.size)
            obtain ⟨u0, u1, u2, u3, u4⟩ := (SN.out.below bt18).2 m hlt
            rw [HC'.out] at u0 u1 u2 u3 u4
            have hgs := (SN.out.below bt18).1
            have OK18 := Lib.hid (OK16.out.below b18)
            obtain ⟨r0, r1, r2, r3, r4, rf⟩ := five_of_block kx
            have hqz := eqCounts (ct0 C') (ct1 C') (ct2 C') (ct3 C') (ct4 C') (ct0 C') (ct1 C') (ct2 C') (ct3 C') (ct4 C') true (by simp)
            have hgd := guardCounts
            have HWX := Lib.hid hwx
            clear hwx kx rf b18
            generalize ct0 C' = x0 at *
            generalize ct1 C' = x1 at *
            generalize ct2 C' = x2 at *
            generalize ct3 C' = x3 at *
            generalize ct4 C' = x4 at *
            go_wp2_with fail
            rw [← HWX.out]
            go_quiet (fail)
            have hb20 := below_drewN bt18 nq
            have OK20 := Lib.hid (OK18.out.below (below_drewN (Below.refl wx.heap.size wx) nq))
            generalize World.drewN wx nq = w20 at *
            clear hqz hgd r0 r1 r2 r3 r4 u0 u1 u2 u3 u4
            go_wp2
            go_roundw
            case rel => exact ⟨m, (m : Int) - 1, A16, c16, by omega, rfl, by go_num, by rw [HC'.out], by rw [HC'.out]; exact OK20.out, hb20⟩
            case measure => simp [intOf]
        · obtain rfl : j = 0 := by omega
          obtain rfl : k' = -1 := by omega
          have hD0 := D_zero SQ.out
          rw [hD0] at hok ⊢
          have OKc := Lib.hid hok
          have BBw := Lib.hid (BB.out.below hb)
          have WBw := Lib.hid (WB.out.below hb)
          clear hok hD0 hk' hj0
          go_wp2_with fail
          refine (refSameNet A (some ⟨bW, oW, none⟩) cA c7 S _ (by omega) OKc.out.2.2.2 WBw.out.2.2.2).mono ?_
          rintro e w30 ⟨rfl, hb30⟩
          go_wp2_with fail
          refine (hM _).mono ?_
          rintro e w31 ⟨rfl, hb31⟩
          go_wp2
          go_ret
          have p30 := (pb.trans (hb.mono pb.size)).trans (hb30.mono (pb.trans (hb.mono pb.size)).size)
          exact ⟨rfl, p30.trans (hb31.mono p30.size)⟩
end Go.Proofs.Ytkplpmhdmlkjhaa

/- The contract of corkMesh: the fixed example holds. -/
namespace Go.Proofs.Ytkplpmhdmlkjhaa
open Go.RowKit Ck

def oneL : List Bar := meshL4 1 2
def twoL : List Bar := meshL4 3 2
def bothL : List Bar := [⟨1, 1, -1⟩, ⟨1, 1, 1⟩, ⟨3, 1, -1⟩, ⟨3, 1, 1⟩, ⟨0, 2, 1⟩, ⟨2, 2, -1⟩, ⟨2, 2, 1⟩, ⟨4, 2, -1⟩]
theorem oneL_eq : oneL = [⟨1, 1, -1⟩, ⟨1, 1, 1⟩, ⟨0, 2, 1⟩, ⟨2, 2, -1⟩] := by decide
theorem twoL_eq : twoL = [⟨3, 1, -1⟩, ⟨3, 1, 1⟩, ⟨2, 2, 1⟩, ⟨4, 2, -1⟩] := by decide
theorem one_net : Net oneL := ((netE_zero _).1 (by decide)).2
theorem two_net : Net twoL := ((netE_zero _).1 (by decide)).2
theorem both_merge : mergeU oneL twoL = bothL := by
  rw [oneL_eq, twoL_eq]
  simp [mergeU, cmpB, firstE, cmpE, bothL]
theorem one_nK : nK oneL = 4 := by decide
theorem one_nM : nM oneL = 1 := by decide
theorem both_nK : nK bothL = 7 := by decide
theorem both_nM : nM bothL = 2 := by decide
theorem lohi {l : List Bar} {b : Bar} (h : b ∈ l) {k m : Knot} (hk : k = b.lo) (hm : m = b.hi) : Conn l k m := Conn.one h (.inl ⟨hk, hm⟩)
theorem hilo {l : List Bar} {b : Bar} (h : b ∈ l) {k m : Knot} (hk : k = b.hi) (hm : m = b.lo) : Conn l k m := Conn.one h (.inr ⟨hk, hm⟩)
theorem one_parts : PartsIs oneL 1 := by
  have c1 : Conn oneL ⟨1, 1⟩ ⟨0, 2⟩ := lohi (b := ⟨1, 1, -1⟩) (by decide) (by decide) (by decide)
  have c2 : Conn oneL ⟨1, 1⟩ ⟨2, 2⟩ := lohi (b := ⟨1, 1, 1⟩) (by decide) (by decide) (by decide)
  unfold PartsIs
  refine CntIs.fresh (n := 0) (by simp) ?_
  refine CntIs.old ⟨⟨1, 1⟩, by decide, .refl _⟩ ?_
  refine CntIs.old ⟨⟨1, 1⟩, by decide, c1⟩ ?_
  refine CntIs.old ⟨⟨1, 1⟩, by decide, c2⟩ ?_
  exact .nil _
theorem both_parts : PartsIs bothL 1 := by
  have c1 : Conn bothL ⟨1, 1⟩ ⟨0, 2⟩ := lohi (b := ⟨1, 1, -1⟩) (by decide) (by decide) (by decide)
  have c2 : Conn bothL ⟨1, 1⟩ ⟨2, 2⟩ := lohi (b := ⟨1, 1, 1⟩) (by decide) (by decide) (by decide)
  have c3 : Conn bothL ⟨2, 2⟩ ⟨3, 1⟩ := hilo (b := ⟨3, 1, -1⟩) (by decide) (by decide) (by decide)
  have c4 : Conn bothL ⟨3, 1⟩ ⟨4, 2⟩ := lohi (b := ⟨3, 1, 1⟩) (by decide) (by decide) (by decide)
  unfold PartsIs
  refine CntIs.fresh (n := 0) (by simp) ?_
  refine CntIs.old ⟨⟨1, 1⟩, by decide, .refl _⟩ ?_
  refine CntIs.old ⟨⟨1, 1⟩, by decide, c2.trans c3⟩ ?_
  refine CntIs.old ⟨⟨1, 1⟩, by decide, c2.trans c3⟩ ?_
  refine CntIs.old ⟨⟨1, 1⟩, by decide, c1⟩ ?_
  refine CntIs.old ⟨⟨1, 1⟩, by decide, c2⟩ ?_
  refine CntIs.old ⟨⟨1, 1⟩, by decide, c2⟩ ?_
  refine CntIs.old ⟨⟨1, 1⟩, by decide, (c2.trans c3).trans c4⟩ ?_
  exact .nil _
theorem countOne (A : Option Addr) (c : Nat) (w : World) (hc : 4 ≤ c) (hcm : c ≤ maxLen) (h : RB w w.heap.size A oneL) :
    Calls Try.prog 21 #[.slice A 4 c] w fun e w' => e = .returned (.tuple #[.agg #[.int .i64 4, .int .i64 4, .int .i64 1, .int .i64 1, .int .i64 0], .int .i64 0]) ∧ Below w.heap.size w w' :=
  (netCount A c oneL w (by decide) hc hcm one_net h).mono fun e w' ⟨p, hp, he, hb⟩ => by
    obtain rfl : p = 1 := CntIs.det hp one_parts
    rw [one_nK, one_nM] at he
    exact ⟨he, hb⟩
theorem countBoth (A : Option Addr) (c : Nat) (w : World) (hc : 8 ≤ c) (hcm : c ≤ maxLen) (h : RB w w.heap.size A bothL) :
    Calls Try.prog 21 #[.slice A 8 c] w fun e w' => e = .returned (.tuple #[.agg #[.int .i64 7, .int .i64 8, .int .i64 2, .int .i64 1, .int .i64 0], .int .i64 0]) ∧ Below w.heap.size w w' :=
  (netCount A c bothL w (by decide) hc hcm (by
    have := mergeU_net one_net two_net
    rwa [both_merge] at this) h).mono fun e w' ⟨p, hp, he, hb⟩ => by
    obtain rfl : p = 1 := CntIs.det hp both_parts
    rw [both_nK, both_nM] at he
    exact ⟨he, hb⟩
theorem ownMesh {w w1 : World} {l : List Bar} {v : Value} (hl : l.length = 4) (h : w1.ownsRow w.heap.size 50 3 v l.length (bcellsL l)) : ∃ a c, v = .slice a 4 c ∧ 4 ≤ c ∧ c ≤ maxLen ∧ RB w1 w1.heap.size a l := by
  obtain ⟨a, c, rfl, h1, h2⟩ := own_slice h
  exact ⟨a, c, by rw [hl], by omega, h2, RB.of_own h⟩

set_option maxHeartbeats 4000000 in
set_option maxRecDepth 100000 in
theorem corkMesh (w : World) : Calls Try.prog 6 #[] w fun e w' => e = .returned (.bool true) ∧ Below w.heap.size w w' := by
  have ex0 : ∀ (a b : Value) (w : World), (Instr.extract (.tuple #[a, b]) 0).run Try.prog w = .ok a w := fun _ _ _ => by kernel_rfl
  have ex1 : ∀ (a b : Value) (w : World), (Instr.extract (.tuple #[a, b]) 1).run Try.prog w = .ok b w := fun _ _ _ => by kernel_rfl
  go_enter Try.func6, Try.ntmps6
  go_wp2_with fail
  refine (refBars 1 2 _ (by omega) (by omega) (by omega) (by omega)).mono ?_
  rintro e w1 ⟨v, rfl, hrow, hb1⟩
  obtain ⟨a1, c1, rfl, _, _, hR1⟩ := ownMesh rfl hrow
  clear hrow
  go_wp2_with fail
  refine (refSortedUp a1 c1 oneL _ (by decide) one_net.2 hR1).mono ?_
  rintro e w2 ⟨v, rfl, hrow, hb2⟩
  obtain ⟨a2, c2, rfl, hc2, hm2, hR2⟩ := ownMesh rfl hrow
  have hq2 := hb1.trans (hb2.mono hb1.size)
  have H2 := Lib.hid hR2
  clear hrow hR1 hR2
  go_wp2_with fail
  refine (refBars 3 2 _ (by omega) (by omega) (by omega) (by omega)).mono ?_
  rintro e w3 ⟨v, rfl, hrow, hb3⟩
  obtain ⟨a3, c3, rfl, _, _, hR3⟩ := ownMesh rfl hrow
  have hq3 := hq2.trans (hb3.mono hq2.size)
  clear hrow
  go_wp2_with fail
  refine (refSortedUp a3 c3 twoL _ (by decide) two_net.2 hR3).mono ?_
  rintro e w4 ⟨v, rfl, hrow, hb4⟩
  obtain ⟨a4, c4, rfl, hc4, hm4, hR4⟩ := ownMesh rfl hrow
  have hq4 := hq3.trans (hb4.mono hq3.size)
  have hb24 := hb3.trans (hb4.mono hb3.size)
  have H4 := Lib.hid hR4
  clear hrow hR3 hR4
  go_wp2_with fail
  refine (countOne a2 c2 _ hc2 hm2 ((H2.out.below hb24).more hb24.size)).mono ?_
  rintro e w5 ⟨rfl, hb5⟩
  have hq5 := hq4.trans (hb5.mono hq4.size)
  obtain ⟨w6, hw6⟩ : ∃ w6, w6 = w5.alloc (.cells #[.int .i64 4, .int .i64 4, .int .i64 1, .int .i64 1, .int .i64 0] 33) := ⟨_, rfl⟩
  have hk6 : w6.heap[w5.heap.size]? = some (.cells #[.int .i64 4, .int .i64 4, .int .i64 1, .int .i64 1, .int .i64 0] 33 (0, 0)) := by rw [hw6]; exact heap_alloc_new _ _
  have hb6 : Below w5.heap.size w5 w6 := by rw [hw6]; exact (Below.refl _ _).alloc (Nat.le_refl _) _
  have hz6 : w5.heap.size < w6.heap.size := by rw [hw6]; simp
  have hq6 := hq5.trans (hb6.mono hq5.size)
  have hb46 := hb5.trans (hb6.mono hb5.size)
  have hb26 := hb24.trans (hb46.mono hb24.size)
  have HW6 := Lib.hid hw6
  have HK6 := Lib.hid hk6
  clear hw6 hk6
  go_wp2_with fail
  rw [← HW6.out]
  refine (netUnion a2 a4 c2 c4 oneL twoL _ (by decide) (by decide) hc2 hm2 hc4 hm4 one_net two_net ((H2.out.below hb26).more hb26.size) ((H4.out.below hb46).more hb46.size) (by rw [both_merge]; decide)).mono ?_
  rintro e w7 ⟨v, rfl, hrow, hb7⟩
  rw [both_merge] at hrow
  obtain ⟨a7, c7, rfl, hc7, hm7⟩ := own_slice hrow
  have H7 := Lib.hid (RB.of_own hrow)
  have hq7 := hq6.trans (hb7.mono hq6.size)
  clear hrow
  go_wp2_with fail
  refine (countBoth a7 c7 _ hc7 hm7 H7.out).mono ?_
  rintro e w8 ⟨rfl, hb8⟩
  have hq8 := hq7.trans (hb8.mono hq7.size)
  have hb68 := hb7.trans (hb8.mono hb7.size)
  obtain ⟨r0, r1, r2, r3, r4, rf⟩ := five_of_block ((hb68.block _ hz6).trans HK6.out)
  have hz8 : w5.heap.size < w8.heap.size := by have := hb68.size; omega
  have hq1 := eqCounts 4 4 1 1 0 4 4 1 1 0 true (by decide)
  have hq2' := eqCounts 7 8 2 1 0 7 8 2 1 0 true (by decide)
  have hgd := guardCounts
  go_wp2
  go_ret
  exact ⟨rfl, hq8.alloc hq8.size _⟩
end Go.Proofs.Ytkplpmhdmlkjhaa

namespace Go.Proofs.Ytkplpmhdmlkjhaa
open Go.ChangeShapes Go.WideShapes Go.ChangeAt Go.RowKit

theorem meshYes : MeshYes := fun w => (corkMesh w).mono fun _ _ h => h
set_option maxRecDepth 100000 in
theorem cell_int {w : World} {r : Reach} {b0 : Nat} {k : IntKind} {t : TypeId} {v : Value} (ht : Try.prog.underlying t = some (.int k)) (h : Cell.okWide Try.prog w r b0 t v) : ∃ n, v = .int k n ∧ k.has n := by
  simp only [Cell.okWide, ht] at h
  cases v <;> simp_all [Cell.ok]
set_option maxRecDepth 100000 in
theorem row_two {w : World} {r : Reach} {b0 : Nat} {t u : TypeId} {k : IntKind} {cs : Array Value} (ht : Try.prog.cellTypes Try.prog.depth t = some [u, u]) (hu : Try.prog.underlying u = some (.int k)) (hs : cs.size = 2) (h : Row.okWide Try.prog w r b0 t cs) : ∃ a b, cs = #[.int k a, .int k b] ∧ k.has a ∧ k.has b := by
  obtain ⟨ts, hts, -, hrow⟩ := h
  rw [ht] at hts
  cases hts
  obtain ⟨l⟩ := cs
  match l, hs with
  | [c0, c1], _ =>
    obtain ⟨u0, hu0, h0⟩ := hrow 0 c0 rfl
    obtain ⟨u1, hu1, h1⟩ := hrow 1 c1 rfl
    simp at hu0 hu1
    subst hu0 hu1
    obtain ⟨a, rfl, ha⟩ := cell_int hu h0
    obtain ⟨b, rfl, hb⟩ := cell_int hu h1
    exact ⟨a, b, rfl, ha, hb⟩
set_option maxRecDepth 100000 in
theorem open_knot {w : World} {r : Reach} {b0 : Nat} {v : Value} (h : Value.okWide Try.prog w r b0 30 v) : ∃ x y, v = .agg #[.int .i64 x, .int .i64 y] := by
  have hS : Try.prog.underlying 30 = some (.struct (Try.prog.fieldsOf 30)) := by kernel_rfl
  have hC : Try.prog.cellsOf 30 = 2 := by kernel_rfl
  simp only [Value.okWide, hS] at h
  obtain ⟨cs, rfl, hsz, hr⟩ := h
  rw [hC] at hsz
  obtain ⟨a, b, rfl, _, _⟩ := row_two (u := 3) (by kernel_rfl) Try.underlying3 hsz hr
  exact ⟨a, b, rfl⟩
set_option maxRecDepth 100000 in
theorem open_size {w : World} {r : Reach} {b0 : Nat} {v : Value} (h : Value.okWide Try.prog w r b0 41 v) : ∃ x y, v = .agg #[.int .u8 x, .int .u8 y] ∧ 0 ≤ x ∧ x < 256 ∧ 0 ≤ y ∧ y < 256 := by
  have hS : Try.prog.underlying 41 = some (.array 2 5) := by kernel_rfl
  have hC : Try.prog.cellsOf 41 = 2 := by kernel_rfl
  simp only [Value.okWide, hS] at h
  obtain ⟨cs, rfl, hsz, hr⟩ := h
  rw [hC] at hsz
  obtain ⟨a, b, rfl, ha, hb⟩ := row_two (u := 5) (k := .u8) (by kernel_rfl) (by kernel_rfl) hsz hr
  simp only [IntKind.has, IntKind.min, IntKind.max, IntKind.signed, IntKind.bits] at ha hb
  refine ⟨a, b, rfl, ?_, ?_, ?_, ?_⟩ <;> simp at ha hb <;> omega
set_option maxRecDepth 100000 in
theorem open_key {w : World} {r : Reach} {b0 : Nat} {v : Value} (h : Value.okWide Try.prog w r b0 42 v) : ∃ x, v = .int .u16 x ∧ 0 ≤ x ∧ x < 65536 := by
  have hS : Try.prog.underlying 42 = some (.int .u16) := by kernel_rfl
  simp only [Value.okWide, hS] at h
  obtain ⟨n, rfl, hn⟩ := cell_int hS h
  simp only [IntKind.has, IntKind.min, IntKind.max, IntKind.signed, IntKind.bits] at hn
  refine ⟨n, rfl, ?_, ?_⟩ <;> simp at hn <;> omega

theorem topWorn (x y s0 s1 k : Int) (w : World) (a0 : 0 ≤ s0) (a1 : s0 < 256) (b0 : 0 ≤ s1) (b1 : s1 < 256) (k0 : 0 ≤ k) (k1 : k < 65536) :
    Calls Try.prog 4 #[.agg #[.int .i64 x, .int .i64 y], .agg #[.int .u8 s0, .int .u8 s1], .int .u16 k] w (YesW w) := by
  obtain ⟨c, hc⟩ : ∃ c : Nat, 1 + s0 % 3 = (c : Int) := ⟨(1 + s0 % 3).toNat, by omega⟩
  obtain ⟨r, hr⟩ : ∃ r : Nat, 1 + s1 % 4 = (r : Int) := ⟨(1 + s1 % 4).toNat, by omega⟩
  by_cases h : sheetE x y c r = 0
  · exact wornYes meshYes x y s0 s1 k c r w a0 a1 b0 b1 k0 k1 hc hr h
  · exact wornNo meshYes x y s0 s1 k w a0 a1 b0 b1 (by rw [hc, hr]; exact h)

theorem Try.ownW : ownKnob Try.prog.godebug = none := by kernel_rfl
theorem Try.laidOutW : laidOutB Try.prog = true := by kernel_rfl

set_option maxRecDepth 100000 in
theorem worn_lifted (os : Os) (started : os.Started) (H : Type) (enc : TypeId × Value → H) :
    ReturnsInHanded {} Try.checked os 4 .any (Rows.topCorkWornSpec.pre6 enc Try.prog Try.f4 Rows.topCorkWornRow.domain false) (Rows.topCorkWornSpec.post enc Try.prog Try.f4 false true false false) := by
  refine returnsInHanded_of_change (C := Try.checked) Try.ownW started (by kernel_rfl) Try.func4
    (ChangeSpec.witness6 (enc := enc) (C := Try.checked) false ⟨#[], #[.agg #[.int .i64 0, .int .i64 0], .agg #[.int .u8 0, .int .u8 0], .int .u16 0], []⟩ 8 (by kernel_rfl) (by kernel_rfl) (by kernel_rfl) (by kernel_rfl)) ?_
  intro W base args ds gs before hval0 hW _ _
  have hval : ∀ (j : Nat) t v, Try.f4.params[j]? = some t → args[j]? = some v → Value.okWide Try.prog W .any base t v := hval0
  have hW' := hW
  obtain ⟨p, q, hA0, hV, rfl, _, _⟩ := hW
  have hA : DataW.TrodAll enc Try.prog W 0 (fun _ => true) true Try.f4.params.toList args.toList ds p := hA0
  rw [Try.params4] at hA hval
  obtain ⟨v0, v1, v2, d0, d1, d2, p0, p1, p2, rfl, rfl, rfl, h0, h1, h2⟩ := trodAll_three hA
  obtain ⟨rfl, rfl⟩ := trodVars_none hV
  clear hA0 hval0
  simp only [List.append_nil] at hW'
  have hlt : ∀ x ∈ p0 ++ p1 ++ p2, x.block < W.heap.size := fun x hx => by simpa using hW'.lt x hx
  obtain ⟨x, y, rfl⟩ := open_knot (hval 0 30 v0 rfl rfl)
  obtain ⟨s0, s1, rfl, a0, a1, b0, b1⟩ := open_size (hval 1 41 v1 rfl rfl)
  obtain ⟨k, rfl, k0, k1⟩ := open_key (hval 2 42 v2 rfl rfl)
  have harg0 : ∀ (W' : World), Below W.heap.size W W' → DataW.Trod enc Try.prog W' 0 (fun b => decide (b < W.heap.size)) true 30 (.agg #[.int .i64 x, .int .i64 y]) d0 p0 :=
    fun W' hn => Below.trod Try.laidOutW (by kernel_rfl) (of_decide_eq_true (by kernel_rfl)) h0 hn (fun x hx => hlt x (List.mem_append_left _ (List.mem_append_left _ hx)))
  have harg1 : ∀ (W' : World), Below W.heap.size W W' → DataW.Trod enc Try.prog W' 0 (fun b => decide (b < W.heap.size)) true 41 (.agg #[.int .u8 s0, .int .u8 s1]) d1 p1 :=
    fun W' hn => Below.trod Try.laidOutW (by kernel_rfl) (of_decide_eq_true (by kernel_rfl)) h1 hn (fun x hx => hlt x (List.mem_append_left _ (List.mem_append_right _ hx)))
  have harg2 : ∀ (W' : World), Below W.heap.size W W' → DataW.Trod enc Try.prog W' 0 (fun b => decide (b < W.heap.size)) true 42 (.int .u16 k) d2 p2 :=
    fun W' hn => Below.trod Try.laidOutW (by kernel_rfl) (of_decide_eq_true (by kernel_rfl)) h2 hn (fun x hx => hlt x (List.mem_append_right _ hx))
  refine (topWorn x y s0 s1 k W a0 a1 b0 b1 k0 k1).mono fun e W' ⟨he, hb⟩ => ?_
  subst he
  refine ⟨_, rfl, _, _, _, [], p0 ++ p1 ++ p2, [], hW', ?_, by rw [List.append_assoc]; exact trodAll_mk3 (harg0 W' hb) (harg1 W' hb) (harg2 W' hb), rfl, hb.frame _, fun h => by cases h⟩
  exact trodAll_mk1 (shut_bool Try.underlying4 true)

theorem worn_holds : Rows.TopCorkWornSaid :=
  OpenClaim.holds_of_wide 4 Try.f4 rfl rfl rfl rfl rfl rfl rfl ⟨rfl, rfl, rfl, rfl, rfl⟩ rfl rfl rfl rfl rfl (by kernel_rfl) Try.func4 (by kernel_rfl)
    (of_decide_eq_true (by kernel_rfl)) (by unfold Func.isWrapper; first | (rw [if_pos (by decide +kernel)]; kernel_rfl) | (rw [if_neg (by decide +kernel)]; exact ⟨rfl, rfl⟩))
    (fun os started H enc _ => worn_lifted os started H enc)
#print axioms worn_holds
end Go.Proofs.Ytkplpmhdmlkjhaa
