/- Helpers, part 4. -/
import Derived.Test.YtkplpmhdmlkjhaaB3
import Derived.Laws.OwnMore
import Derived.Test.YtkplpmhdmlkjhaaRows
import Derived.Shelf.SlGeneric
import Derived.Shelf.SlLaysF0
import Derived.Sort.OwnSorted
import Derived.Shelf.SlSortCmp.InsertionK
import Derived.Shelf.SlSortCmp.NoneTotal
/- The contract of the reference's Sorted, at a list that ascends already. -/
namespace Go.Proofs.Ytkplpmhdmlkjhaa
open Go.RowKit

def OwnPost (l : List Ck.Bar) (w : World) (e : Ending) (w' : World) : Prop :=
  ∃ v, e = .returned v ∧ w'.ownsRow w.heap.size 50 3 v l.length (bcellsL l) ∧ Below w.heap.size w w'

theorem keepQ {W w1 w2 : World} {b o : Nat} {x y s : Value} (h : w1.cell? ⟨b, o, none⟩ = some x ∧ w1.cell? ⟨b, o + 1, none⟩ = some y ∧ w1.cell? ⟨b, o + 2, none⟩ = some s ∧ Below W.heap.size W w1 ∧ b < W.heap.size) (hb : Below W.heap.size w1 w2) :
    w2.cell? ⟨b, o, none⟩ = some x ∧ w2.cell? ⟨b, o + 1, none⟩ = some y ∧ w2.cell? ⟨b, o + 2, none⟩ = some s ∧ Below W.heap.size W w2 ∧ b < W.heap.size := by
  obtain ⟨h0, h1, h2, h3, h4⟩ := h
  exact ⟨(hb.cell (p := ⟨b, _, none⟩) h4).trans h0, (hb.cell (p := ⟨b, _, none⟩) h4).trans h1, (hb.cell (p := ⟨b, _, none⟩) h4).trans h2, h3.trans hb, h4⟩
theorem belQ {W w1 : World} {b o : Nat} {x y s : Value} (h : w1.cell? ⟨b, o, none⟩ = some x ∧ w1.cell? ⟨b, o + 1, none⟩ = some y ∧ w1.cell? ⟨b, o + 2, none⟩ = some s ∧ Below W.heap.size W w1 ∧ b < W.heap.size) : Below W.heap.size W w1 := h.2.2.2.1
theorem three_far {w w' : World} {H : Nat} {a b c : Value} {t : TypeId} {row : Option Nat} (hH : w.heap[H]? = some (.cells #[a, b, c] t (0, 0))) (hg : w.grownBy w' row) (hne : some H ≠ row) : ∀ (j : Nat) (u : Value), [a, b, c][j]? = some u → w'.cell? ((⟨H, 0, none⟩ : Addr).add j) = some u :=
  World.news_of_block ((hg.block H (Array.getElem?_eq_some_iff.1 hH).1 hne).trans hH)
theorem new2 (w : World) (o : Obj) (a b c : Value) (t : TypeId) : ((w.alloc o).alloc (.cells #[a, b, c] t)).heap[w.heap.size + 1]? = some (.cells #[a, b, c] t (0, 0)) := by
  have := heap_alloc_new (w.alloc o) (.cells #[a, b, c] t)
  rwa [World.size_alloc] at this
theorem new1 (w : World) (o : Obj) (a b c : Value) (t : TypeId) : ((w.alloc (.cells #[a, b, c] t)).alloc o).heap[w.heap.size]? = some (.cells #[a, b, c] t (0, 0)) :=
  (Below.heap_alloc _ _ _ (by simp)).trans (heap_alloc_new _ _)
theorem empty_row2 (w : World) (o : Obj) (base : Nat) (hb : base ≤ w.heap.size) (t : TypeId) (size : Nat) : ((w.alloc o).alloc (.cells #[] t)).ownsRow base t size (.slice (some ⟨w.heap.size + 1, 0, none⟩) 0 0) 0 [] := by
  have := empty_row (w.alloc o) base (by simp; omega) t size
  rwa [World.size_alloc] at this
theorem srt_row {w6 : World} {base B g cap p : Nat} {l : List Ck.Bar} (hlt : p < l.length) (hB : B ≤ base) (h : w6.ownsRow base 50 3 (.slice (some ⟨g, 0, none⟩) (0 + p + 1) cap) (0 + p + 1) ([] ++ bcellsL (l.take p) ++ [.int .i64 l[p].x, .int .i64 l[p].y, .int .i64 l[p].s])) :
    Hid (w6.ownsRow B 50 3 (.slice (some ⟨g, 0, none⟩) (p + 1) cap) (p + 1) (bcellsL (l.take (p + 1)))) := by
  rw [List.take_succ_eq_append_getElem hlt, bcellsL, List.flatMap_append, ← bcellsL]
  rw [Nat.zero_add, List.nil_append] at h
  exact ownsRow_mono h hB
theorem srt_row0 {w6 : World} {base B g cap : Nat} {l : List Ck.Bar} (hlt : 0 < l.length) (hB : B ≤ base) (h : w6.ownsRow base 50 3 (.slice (some ⟨g, 0, none⟩) (0 + 1) cap) (0 + 1) ([] ++ [.int .i64 l[0].x, .int .i64 l[0].y, .int .i64 l[0].s])) :
    Hid (w6.ownsRow B 50 3 (.slice (some ⟨g, 0, none⟩) 1 cap) 1 (bcellsL (l.take 1))) := by
  rw [List.take_succ_eq_append_getElem hlt, bcellsL, List.flatMap_append]
  exact ownsRow_mono h hB
theorem grewQ {B : Nat} {w1 w2 : World} {base : Nat} {e : TypeId} {size n : Nat} {v : Value} {xs : List Value} (h : w1.ownsRow base e size v n xs) (hB : B ≤ base) (hz : B ≤ w1.heap.size) (hg : w1.grownBy w2 v.ownBlock) : Below B w1 w2 :=
  (Below.refl _ _).grown hg hz (fun k e => Nat.le_trans hB (ownsRow_base h k e))

set_option maxHeartbeats 4000000 in
set_option maxRecDepth 100000 in
theorem refSortedUp (A : Option Addr) (c : Nat) (l : List Ck.Bar) (w : World) (hl : l.length ≤ 4096) (hs : l.Pairwise Ck.Blt) (h : RB w w.heap.size A l) :
    Calls Try.prog 19 #[.slice A l.length c] w (OwnPost l w) := by
  obtain ⟨ib, hib, hb0, hb01, hb02⟩ := info_parts Try.info50
  have HIB := Lib.hid hib
  have HB0 := Lib.hid hb0
  have HB1 := Lib.hid hb01
  have HB2 := Lib.hid hb02
  have HR := Lib.hid h
  have HS := Lib.hid hs
  have hl' : (l.length : Int) ≤ 4096 := by omega
  clear hib hb0 hb01 hb02 h hs
  go_enter Try.func19, Try.ntmps19
  go_wp2_with fail
  go_loopw [3, 4, 5] (fun v i _ wr => ∃ k : Nat, k ≤ l.length ∧ i = .int .i64 k ∧ Hid (wr.ownsRow w.heap.size 50 3 v k (bcellsL (l.take k))) ∧ Hid (k = 0 → v = .slice none 0 0) ∧ Below w.heap.size w wr) (fun _ i _ _ => l.length - (intOf i).toNat)
  case atStart => exact ⟨0, Nat.zero_le _, rfl, ⟨rfl, .inl ⟨rfl, rfl⟩⟩, fun _ => rfl, Below.refl _ _⟩
  case round =>
    obtain ⟨k, hk, rfl, hown, hnil, hb⟩ := hrel
    have hbz := hb.size
    by_cases hlt : k < l.length
    · have HRw := Lib.hid (HR.out.below hb)
      obtain ⟨b, off, rfl, hB, hc⟩ := HRw.out (by omega)
      obtain ⟨d0, d1, d2⟩ := hc k hlt
      have HC := Lib.hid hc
      have hki : (k : Int) < (l.length : Int) := by omega
      have hk0 : (0 : Int) ≤ (k : Int) := by omega
      have hbw : b < wr.heap.size := by omega
      clear hc
      by_cases hz : k = 0
      · subst hz
        have HV := Lib.hid (hnil.out rfl)
        rw [HV.out]
        generalize wr = wo at *
        go_wp2_with fail
        go_loopw [5] (fun at' wi => at' = .int .i64 0 ∧ Below wo.heap.size wo wi) (fun _ _ => 0)
        case atStart => exact ⟨rfl, Below.refl _ _⟩
        case round =>
          obtain ⟨rfl, hbi⟩ := hrel
          go_wp2_with fail
          go_quiet (fail)
          have hb8 := below_drewN hbi nq
          generalize World.drewN wr nq = W8 at *
          clear nq
          go_wp2_with fail
          go_quiet (fail)
          have hb9 := below_drewN hb8 nq
          generalize World.drewN W8 nq = W9 at *
          go_wp2_with fail
          have hs9 := hb9.size
          have e0 := (hb9.cell (p := ⟨b, off + 0 * 3, none⟩) hbw).trans d0
          have e1 := (hb9.cell (p := ⟨b, off + 0 * 3 + 1, none⟩) hbw).trans d1
          have e2 := (hb9.cell (p := ⟨b, off + 0 * 3 + 2, none⟩) hbw).trans d2
          rw [Nat.zero_mul, Nat.add_zero] at e0 e1 e2
          clear d0 d1 d2
          go_region_held3 (fun w' => w'.cell? ⟨b, off, none⟩ = some (.int .i64 l[0].x) ∧ w'.cell? ⟨b, off + 1, none⟩ = some (.int .i64 l[0].y) ∧ w'.cell? ⟨b, off + 2, none⟩ = some (.int .i64 l[0].s) ∧ Below wo.heap.size wo w' ∧ b < wo.heap.size)
              (first
                | exact ⟨e0, e1, e2, below_drew hb9, hbw⟩
                | assumption
                | exact keepQ (by assumption) ((Below.refl _ _).alloc (belQ (by assumption)).size _)
                | exact keepQ (by assumption) (by assumption))
              (first
                | (refine step_append_none rfl (.tmp 44) (.tmp 47) 22 rfl wo.heap.size 50 ib 3 Try.underlying22 HIB.out (.slice (some ⟨W9.heap.size, 0, none⟩) 0 0) 0 [] ?_ (by first | exact empty_row _ _ (by first | omega | (simp; omega)) _ _ | exact (empty_row _ _ (by first | omega | (simp; omega)) _ _).alloc _) ?_ ?_; (· rfl); (· rfl))
                | (refine step_append_none rfl (.tmp 44) (.tmp 47) 22 rfl wo.heap.size 50 ib 3 Try.underlying22 HIB.out (.slice (some ⟨W9.heap.size + 1, 0, none⟩) 0 0) 0 [] ?_ (by exact empty_row2 _ _ _ (by first | omega | (simp; omega)) _ _) ?_ ?_; (· rfl); (· rfl))
                | (refine step_append_lies _ rfl (.tmp 48) (.tmp 53) 22 rfl wo.heap.size 50 ib (.agg #[.int .i64 0, .int .i64 0, .int .i64 0]) 3 24 Try.underlying22 HIB.out HB0.out HB1.out HB2.out rfl (by decide) (.slice (some ⟨W9.heap.size, 0, none⟩) 0 0) 0 [] ?_ (by first | exact empty_row _ _ (by first | omega | (simp; omega)) _ _ | exact (empty_row _ _ (by first | omega | (simp; omega)) _ _).alloc _) ⟨W9.heap.size + 1, 0, none⟩ 1 1 [.int .i64 l[0].x, .int .i64 l[0].y, .int .i64 l[0].s] ?_ rfl (by exact World.news_of_block (new2 _ _ _ _ _ _)) (by intro u hu; simp at hu; rcases hu with rfl | rfl | rfl <;> rfl) (by decide) (by unfold maxLen; omega) (by omega) (by first | omega | (simp; omega)) _ rfl ?_; (· (simp [Act.eval]; done)); (· (simp [Act.eval]; done)); intro g2 cap2 w6 hown6 hgrow6 hat6 hlt6; have hQ6 := grewQ (B := wo.heap.size) (base := wo.heap.size) (e := 50) (size := 3) (n := 0) (xs := []) (by first | exact empty_row _ _ (by first | omega | (simp; omega)) _ _ | exact (empty_row _ _ (by first | omega | (simp; omega)) _ _).alloc _) (Nat.le_refl _) (by first | omega | (simp; omega)) hgrow6)
                | (refine step_append_lies _ rfl (.tmp 48) (.tmp 53) 22 rfl wo.heap.size 50 ib (.agg #[.int .i64 0, .int .i64 0, .int .i64 0]) 3 24 Try.underlying22 HIB.out HB0.out HB1.out HB2.out rfl (by decide) (.slice (some ⟨W9.heap.size + 1, 0, none⟩) 0 0) 0 [] ?_ (by exact empty_row2 _ _ _ (by first | omega | (simp; omega)) _ _) ⟨W9.heap.size, 0, none⟩ 1 1 [.int .i64 l[0].x, .int .i64 l[0].y, .int .i64 l[0].s] ?_ rfl (by exact World.news_of_block (new1 _ _ _ _ _ _)) (by intro u hu; simp at hu; rcases hu with rfl | rfl | rfl <;> rfl) (by decide) (by unfold maxLen; omega) (by omega) (by first | omega | (simp; omega)) _ rfl ?_; (· (simp [Act.eval]; done)); (· (simp [Act.eval]; done)); intro g2 cap2 w6 hown6 hgrow6 hat6 hlt6; have hQ6 := grewQ (B := wo.heap.size) (base := wo.heap.size) (e := 50) (size := 3) (n := 0) (xs := []) (by exact empty_row2 _ _ _ (by first | omega | (simp; omega)) _ _) (Nat.le_refl _) (by first | omega | (simp; omega)) hgrow6)
                | (refine step_append_none rfl (.tmp 54) (.tmp 57) 22 rfl wo.heap.size 50 ib 3 Try.underlying22 HIB.out (.slice (some ⟨g2, 0, none⟩) (0 + 1) cap2) (0 + 1) ([] ++ [.int .i64 l[0].x, .int .i64 l[0].y, .int .i64 l[0].s]) ?_ hown6 ?_ ?_; (· (first | rfl | (simp [Act.eval, Act.put]; done))); (· rfl))
                | fail)
          all_goals
            have hrow6 := srt_row0 hlt hbz hown6
            have hbel6 := hb.trans ((belQ (by assumption)).mono hbz)
            clear hown6 hgrow6 hat6
            go_wp2
            go_roundw
            case rel => exact ⟨1, by omega, by go_num, by first | exact hrow6 | (simp only [Nat.zero_add]; exact hrow6), fun h => by omega, hbel6⟩
            case measure => simp [intOf]; omega
      · obtain ⟨g, cap, rfl, hg, hkc, hcm, hgz⟩ := own_form hown.out (by omega)
        have hkt : (l.take k).length = k := by rw [List.length_take]; omega
        have HO := Lib.hid (RB.of_own (l := l.take k) (n := k) (by
          have h9 := hown.out
          rw [hkt]
          exact h9))
        have HKT := Lib.hid hkt
        clear hkt
        generalize wr = wo at *
        go_wp2_with fail
        go_loopw [5] (fun at' wi => ∃ p : Nat, p ≤ k ∧ at' = .int .i64 p ∧ Below wo.heap.size wo wi) (fun at' _ => k - (intOf at').toNat)
        case atStart => exact ⟨0, Nat.zero_le _, rfl, Below.refl _ _⟩
        case round =>
          obtain ⟨p, hp, rfl, hbi⟩ := hrel
          by_cases hpk : p < k
          · obtain ⟨_, _, hcell⟩ : ∃ b' off', _ := HO.out.below hbi (by rw [HKT.out]; omega)
            obtain ⟨hA', _, hcell⟩ := hcell
            cases hA'
            obtain ⟨f0, f1, f2⟩ := hcell p (by rw [HKT.out]; exact hpk)
            rw [List.getElem_take] at f0 f1 f2
            simp only [Nat.zero_add] at f0 f1 f2
            replace d0 := (hbi.cell (p := ⟨b, off + k * 3, none⟩) hbw).trans d0
            replace d1 := (hbi.cell (p := ⟨b, off + k * 3 + 1, none⟩) hbw).trans d1
            replace d2 := (hbi.cell (p := ⟨b, off + k * 3 + 2, none⟩) hbw).trans d2
            have hpl : p < l.length := by omega
            have HL := Lib.hid (show lessB l[p].x l[p].y l[p].s l[k].x l[k].y l[k].s = true from (lessB_iff l[p] l[k]).2 (List.pairwise_iff_getElem.1 HS.out p k hpl hlt hpk))
            have hg1 : decide (p < k) = true := by simpa using hpk
            have hg2 : decide ((p : Int) < (k : Int)) = true := by simpa using hpk
            have hp0 : (0 : Int) ≤ (p : Int) := by omega
            have hpi : (p : Int) < (k : Int) := by omega
            clear hcell
            go_wp2_with fail
            have hw1 : IntKind.i64.wrap (p : Int) = (p : Int) := by rw [IntKind.wrap_i64]; omega
            have hw2 : IntKind.i64.wrap (k : Int) = (k : Int) := by rw [IntKind.wrap_i64]; omega
            refine wp_region_still_tail 13 (by kernel_rfl) (by kernel_rfl) ?_
            simp only [List.take_succ_cons, List.take_zero, List.drop_succ_cons, List.drop_zero]
            repeat still_step
            refine wpStill_nil ?_
            change wpList _ _ _ _ _ wr.drew
            clear hw1 hw2
            go_wp2_with fail
            refine (refLess _ _ _ _ _ _ _).mono ?_
            rintro e w2 ⟨rfl, hb3⟩
            rw [HL.out]
            go_wp2
            go_roundw
            case rel => exact ⟨p + 1, by omega, by go_num, (below_drew hbi).trans (hb3.mono hbi.size)⟩
            case measure => simp [intOf]; omega
          · obtain rfl : p = k := by omega
            have hg1 : decide (p < p) = false := by simp
            have hg2 : decide ((p : Int) < (p : Int)) = false := by simp
            go_wp2_with fail
            go_quiet (fail)
            have hb8 := below_drewN hbi nq
            generalize World.drewN wr nq = W8 at *
            clear nq
            go_wp2_with fail
            go_quiet (fail)
            have hb9 := below_drewN hb8 nq
            generalize World.drewN W8 nq = W9 at *
            go_wp2_with fail
            have hs9 := hb9.size
            have e0 := (hb9.cell (p := ⟨b, off + p * 3, none⟩) hbw).trans d0
            have e1 := (hb9.cell (p := ⟨b, off + p * 3 + 1, none⟩) hbw).trans d1
            have e2 := (hb9.cell (p := ⟨b, off + p * 3 + 2, none⟩) hbw).trans d2
            clear hg1 hg2 d0 d1 d2
            go_region_held3 (fun w' => w'.cell? ⟨b, off + p * 3, none⟩ = some (.int .i64 l[p].x) ∧ w'.cell? ⟨b, off + p * 3 + 1, none⟩ = some (.int .i64 l[p].y) ∧ w'.cell? ⟨b, off + p * 3 + 2, none⟩ = some (.int .i64 l[p].s) ∧ Below wo.heap.size wo w' ∧ b < wo.heap.size)
              (first
                | exact ⟨e0, e1, e2, below_drew hb9, hbw⟩
                | assumption
                | exact keepQ (by assumption) ((Below.refl _ _).alloc (belQ (by assumption)).size _)
                | exact keepQ (by assumption) (by assumption))
              (first
                | (refine step_append_lies _ rfl (.tmp 44) (.tmp 47) 22 rfl wo.heap.size 50 ib (.agg #[.int .i64 0, .int .i64 0, .int .i64 0]) 3 24 Try.underlying22 HIB.out HB0.out HB1.out HB2.out rfl (by decide) (.slice (some ⟨W9.heap.size, 0, none⟩) 0 0) 0 [] ?_ (by first | exact empty_row _ _ (by first | omega | (simp; omega)) _ _ | exact (empty_row _ _ (by first | omega | (simp; omega)) _ _).alloc _) ⟨g, 0, none⟩ p cap (bcellsL (l.take p)) ?_ (by rw [bcellsL_length, HKT.out]) (by exact (HO.out.below (belQ (by assumption))).news (by rw [HKT.out]; omega)) (bcellsL_one _) (by omega) (by unfold maxLen; omega) (by omega) (by first | omega | (simp; omega)) _ rfl ?_; (· rfl); (· rfl); intro g1 cap1 w5 hown5 hgrow5 hat5 hlt5; have hQ5 := grewQ (B := wo.heap.size) (base := wo.heap.size) (e := 50) (size := 3) (n := 0) (xs := []) (by first | exact empty_row _ _ (by first | omega | (simp; omega)) _ _ | exact (empty_row _ _ (by first | omega | (simp; omega)) _ _).alloc _) (Nat.le_refl _) (by first | omega | (simp; omega)) hgrow5)
                | (refine step_append_lies _ rfl (.tmp 44) (.tmp 47) 22 rfl wo.heap.size 50 ib (.agg #[.int .i64 0, .int .i64 0, .int .i64 0]) 3 24 Try.underlying22 HIB.out HB0.out HB1.out HB2.out rfl (by decide) (.slice (some ⟨W9.heap.size + 1, 0, none⟩) 0 0) 0 [] ?_ (by exact empty_row2 _ _ _ (by first | omega | (simp; omega)) _ _) ⟨g, 0, none⟩ p cap (bcellsL (l.take p)) ?_ (by rw [bcellsL_length, HKT.out]) (by exact (HO.out.below (belQ (by assumption))).news (by rw [HKT.out]; omega)) (bcellsL_one _) (by omega) (by unfold maxLen; omega) (by omega) (by first | omega | (simp; omega)) _ rfl ?_; (· rfl); (· rfl); intro g1 cap1 w5 hown5 hgrow5 hat5 hlt5; have hQ5 := grewQ (B := wo.heap.size) (base := wo.heap.size) (e := 50) (size := 3) (n := 0) (xs := []) (by exact empty_row2 _ _ _ (by first | omega | (simp; omega)) _ _) (Nat.le_refl _) (by first | omega | (simp; omega)) hgrow5)
                | (refine step_append_lies _ rfl (.tmp 48) (.tmp 53) 22 rfl wo.heap.size 50 ib (.agg #[.int .i64 0, .int .i64 0, .int .i64 0]) 3 24 Try.underlying22 HIB.out HB0.out HB1.out HB2.out rfl (by decide) (.slice (some ⟨g1, 0, none⟩) (0 + p) cap1) (0 + p) ([] ++ bcellsL (l.take p)) ?_ (by first | exact hown5 | exact hown5.alloc _) ⟨w5.heap.size, 0, none⟩ 1 1 [.int .i64 l[p].x, .int .i64 l[p].y, .int .i64 l[p].s] ?_ rfl (by exact three_new _ _ _ _ _) (by intro u hu; simp at hu; rcases hu with rfl | rfl | rfl <;> rfl) (by decide) (by unfold maxLen; omega) (by omega) (by have := (belQ (by assumption)).size; first | omega | (simp; omega)) _ rfl ?_; (· (simp [Act.eval]; done)); (· (simp [Act.eval]; done)); intro g2 cap2 w6 hown6 hgrow6 hat6 hlt6; have hQ6 := grewQ (B := wo.heap.size) (base := wo.heap.size) (e := 50) (size := 3) (n := 0 + p) (xs := [] ++ bcellsL (l.take p)) (by first | exact hown5 | exact hown5.alloc _) (Nat.le_refl _) (by have := (belQ (by assumption)).size; first | omega | (simp; omega)) hgrow6)
                | (refine step_append_lies _ rfl (.tmp 48) (.tmp 53) 22 rfl wo.heap.size 50 ib (.agg #[.int .i64 0, .int .i64 0, .int .i64 0]) 3 24 Try.underlying22 HIB.out HB0.out HB1.out HB2.out rfl (by decide) (.slice (some ⟨g1, 0, none⟩) (0 + p) cap1) (0 + p) ([] ++ bcellsL (l.take p)) ?_ (by first | exact hown5 | exact hown5.alloc _) ⟨W9.heap.size + 1, 0, none⟩ 1 1 [.int .i64 l[p].x, .int .i64 l[p].y, .int .i64 l[p].s] ?_ rfl (by exact three_far (by first | exact new2 _ _ _ _ _ _ | exact new1 _ _ _ _ _ _) hgrow5 (by simp [Value.ownBlock])) (by intro u hu; simp at hu; rcases hu with rfl | rfl | rfl <;> rfl) (by decide) (by unfold maxLen; omega) (by omega) (by have := (belQ (by assumption)).size; first | omega | (simp; omega)) _ rfl ?_; (· (simp [Act.eval]; done)); (· (simp [Act.eval]; done)); intro g2 cap2 w6 hown6 hgrow6 hat6 hlt6; have hQ6 := grewQ (B := wo.heap.size) (base := wo.heap.size) (e := 50) (size := 3) (n := 0 + p) (xs := [] ++ bcellsL (l.take p)) (by first | exact hown5 | exact hown5.alloc _) (Nat.le_refl _) (by have := (belQ (by assumption)).size; first | omega | (simp; omega)) hgrow6)
                | (refine step_append_lies _ rfl (.tmp 48) (.tmp 53) 22 rfl wo.heap.size 50 ib (.agg #[.int .i64 0, .int .i64 0, .int .i64 0]) 3 24 Try.underlying22 HIB.out HB0.out HB1.out HB2.out rfl (by decide) (.slice (some ⟨g1, 0, none⟩) (0 + p) cap1) (0 + p) ([] ++ bcellsL (l.take p)) ?_ (by first | exact hown5 | exact hown5.alloc _) ⟨W9.heap.size, 0, none⟩ 1 1 [.int .i64 l[p].x, .int .i64 l[p].y, .int .i64 l[p].s] ?_ rfl (by exact three_far (by first | exact new2 _ _ _ _ _ _ | exact new1 _ _ _ _ _ _) hgrow5 (by simp [Value.ownBlock])) (by intro u hu; simp at hu; rcases hu with rfl | rfl | rfl <;> rfl) (by decide) (by unfold maxLen; omega) (by omega) (by have := (belQ (by assumption)).size; first | omega | (simp; omega)) _ rfl ?_; (· (simp [Act.eval]; done)); (· (simp [Act.eval]; done)); intro g2 cap2 w6 hown6 hgrow6 hat6 hlt6; have hQ6 := grewQ (B := wo.heap.size) (base := wo.heap.size) (e := 50) (size := 3) (n := 0 + p) (xs := [] ++ bcellsL (l.take p)) (by first | exact hown5 | exact hown5.alloc _) (Nat.le_refl _) (by have := (belQ (by assumption)).size; first | omega | (simp; omega)) hgrow6)
                | (refine step_append_zeroA rfl (.tmp 54) (.tmp 57) 22 rfl wo.heap.size 50 ib 3 Try.underlying22 HIB.out (.slice (some ⟨g2, 0, none⟩) (0 + p + 1) cap2) (0 + p + 1) ([] ++ bcellsL (l.take p) ++ [.int .i64 l[p].x, .int .i64 l[p].y, .int .i64 l[p].s]) ?_ hown6 (if cap = p then some ⟨g, 0, none⟩ else some ⟨g, p * 3, none⟩) (cap - p) ?_ (by split <;> exact ⟨_, rfl⟩) ?_; (· rfl); (· rfl))
                | fail)
            all_goals
              have hrow6 := srt_row hlt hbz hown6
              have hbel6 := hb.trans ((belQ (by assumption)).mono hbz)
              clear hown5 hown6 hgrow5 hgrow6 hat5 hat6
              go_wp2
              go_roundw
              case rel => exact ⟨p + 1, by omega, by go_num, by first | exact hrow6 | (simp only [Nat.zero_add]; exact hrow6), fun h => by omega, hbel6⟩
              case measure => simp [intOf]; omega
    · obtain rfl : k = l.length := by omega
      have hrow := hown.out
      rw [List.take_length] at hrow
      have HO := Lib.hid hrow
      clear hrow
      go_wp2
      go_ret
      exact ⟨_, rfl, HO.out, hb⟩
end Go.Proofs.Ytkplpmhdmlkjhaa

/- The contract of the reference's Draw: a permutation of the numbers below n. -/
namespace Go.Proofs.Ytkplpmhdmlkjhaa
open Go.RowKit

def icells (p : List Nat) : List Value := p.map fun (i : Nat) => Value.int .i64 (i : Int)
def DrawPost (n : Nat) (w : World) (e : Ending) (w' : World) : Prop :=
  ∃ v p, e = .returned v ∧ p.Perm (List.range n) ∧ w'.ownsRow w.heap.size 3 1 v n (icells p) ∧ Below w.heap.size w w'
def drawE (n : Nat) (wb : Nat) (v : Value) (w : World) : Prop := ∃ p : List Nat, p.Perm (List.range n) ∧ w.ownsRow wb 3 1 v n (icells p)
theorem infoI : (Try.prog.info? 3).map (fun i => (i.zero, i.size, i.bytes)) = some (some (.int .i64 0), 1, 8) := by kernel_rfl
theorem one_new (w : World) (a : Value) (t : TypeId) : ∀ (j : Nat) (u : Value), [a][j]? = some u → (w.alloc (.cells #[a] t)).cell? ((⟨w.heap.size, 0, none⟩ : Addr).add j) = some u :=
  World.news_of_block (heap_alloc_new _ _)
theorem icells_range_succ (k : Nat) : icells (List.range (k + 1)) = icells (List.range k) ++ [.int .i64 (k : Int)] := by simp [icells, List.range_succ]

theorem icells_set (p : List Nat) (i a : Nat) : icells (p.set i a) = (icells p).set i (.int .i64 (a : Int)) := by simp [icells, List.map_set]
theorem drawE_swap {w : World} {B g cap k i q pi pq : Nat} {p : List Nat} (hpl : p.length = k) (hi : i < k) (hq : q < k) (hp : p.Perm (List.range k)) (h : w.ownsRow B 3 1 (.slice (some ⟨g, 0, none⟩) k cap) k (icells p)) (hip : i < p.length) (hqp : q < p.length) (e1 : p[i] = pi) (e2 : p[q] = pq) :
    drawE k B (.slice (some ⟨g, 0, none⟩) k cap) ((w.setCell ⟨g, i, none⟩ (.int .i64 pq)).setCell ⟨g, q, none⟩ (.int .i64 pi)).drew := by
  refine ⟨(p.set i pq).set q pi, ?_, ?_⟩
  · subst e1; subst e2
    exact (List.set_set_perm hip hqp).trans hp
  · rw [icells_set, icells_set]
    exact (((h.stored i (.int .i64 (pq : Nat))).1.stored q (.int .i64 (pi : Nat))).1).drew

set_option maxHeartbeats 4000000 in
set_option maxRecDepth 100000 in
theorem refDraw (key : Int) (n : Nat) (w : World) (hk0 : 0 ≤ key) (hk1 : key < 2147483647) (hn : n ≤ 4096) :
    Calls Try.prog 16 #[.int .i64 key, .int .i64 n] w (DrawPost n w) := by
  obtain ⟨i0, hi, hz0, hz1, hz2⟩ := info_parts infoI
  have HI := Lib.hid hi
  have HZ0 := Lib.hid hz0
  have HZ1 := Lib.hid hz1
  have HZ2 := Lib.hid hz2
  clear hi hz0 hz1 hz2
  go_enter Try.func16, Try.ntmps16
  go_wp2_with fail
  go_loopw [5, 6] (fun v i wr => ∃ k : Nat, k ≤ n ∧ i = .int .i64 k ∧ Hid (wr.ownsRow w.heap.size 3 1 v k (icells (List.range k))) ∧ Below w.heap.size w wr) (fun _ i _ => n - (intOf i).toNat)
  case atStart => exact ⟨0, Nat.zero_le _, rfl, World.ownsRow_nil _ _ _ _, Below.refl _ _⟩
  case round =>
    obtain ⟨k, hk, rfl, hown, hb⟩ := hrel
    by_cases hlt : k < n
    · have hki : (k : Int) < (n : Int) := by omega
      have hbz := hb.size
      go_wp2_with (at_builtin; refine wpList_append_own _ rfl _ _ 46 rfl w.heap.size 3 i0 (.int .i64 0) 1 8 Try.underlying46 HI.out HZ0.out HZ1.out HZ2.out rfl (by decide) _ _ _ rfl (hown.out.alloc _) ⟨wr.heap.size, 0, none⟩ 1 1 [.int .i64 k] rfl rfl (one_new _ _ _) ?c2 ?c3 ?c4 ?c5 ?_)
      case c2 => intro u hu; simp at hu; subst hu; rfl
      case c3 => unfold maxLen; omega
      case c4 => omega
      case c5 => simp; omega
      intro v' w4 hown4 hgrow4 _
      have hq4 : Below w.heap.size w w4 := (hb.alloc hbz (.cells #[.int .i64 (k : Int)] 3)).grown hgrow4 (by simp; omega) (ownsRow_base hown.out)
      have HO4 := Lib.hid hown4
      clear hown4 hgrow4
      go_wp2
      go_roundw
      case rel => exact ⟨k + 1, by omega, by go_num, by rw [icells_range_succ]; exact HO4.out, hq4⟩
      case measure => simp [intOf]; omega
    · have e : k = n := by omega
      subst e
      have HD : Hid (drawE k w.heap.size u5 wr) := ⟨List.range k, List.Perm.refl _, hown.out⟩
      clear hown hlt hk
      generalize wr = wo at *
      go_wp2_with fail
      go_loopw [0, 7, 8] (fun kv iv _ wr => ∃ (K j : Int), kv = .int .i64 K ∧ iv = .int .i64 j ∧ 0 ≤ K ∧ K < 2147483647 ∧ -1 ≤ j ∧ j < k ∧ Hid (drawE k w.heap.size u5 wr) ∧ Below w.heap.size w wr) (fun _ iv _ _ => (intOf iv).toNat)
      case atStart => exact ⟨key, (k : Int) - 1, rfl, rfl, hk0, hk1, by omega, by omega, HD, hb⟩
      case round =>
        obtain ⟨K, j, rfl, rfl, hK0, hK1, hj0, hj1, hd, hbr⟩ := hrel
        by_cases hj : 0 < j
        · obtain ⟨i, rfl⟩ : ∃ i : Nat, j = (i : Int) := ⟨j.toNat, by omega⟩
          obtain ⟨p, hp, hown⟩ := hd.out
          obtain ⟨g, cap, hv, hc1, hc2, hgb, hgz⟩ := own_form hown (by omega)
          subst hv
          have hi1 : (0 : Int) < (i : Int) + 1 := by omega
          have hi2 : ¬ ((i : Int) + 1 = 0) := by omega
          go_wp2_with fail
          have hpl : p.length = k := by rw [hp.length_eq, List.length_range]
          obtain ⟨K', hK'⟩ : ∃ K', K' = 39373 * K % 2147483647 := ⟨_, rfl⟩
          have hK0' : 0 ≤ K' := by omega
          have hK1' : K' < 2147483647 := by omega
          rw [← hK']
          clear hK'
          obtain ⟨q, hq⟩ : ∃ q : Nat, (q : Int) = K' % ((i : Int) + 1) := ⟨(K' % ((i : Int) + 1)).toNat, by have := Int.emod_nonneg K' hi2; omega⟩
          have hqi : q ≤ i := by have := Int.emod_lt_of_pos K' hi1; omega
          rw [← hq]
          clear hq
          have hik : i < k := by omega
          have hqk : q < k := by omega
          have hipl : i < p.length := by omega
          have hqpl : q < p.length := by omega
          have gi : wr.cell? ⟨g, i, none⟩ = some (.int .i64 (p[i]'hipl : Nat)) := by
            rw [hown.cellAt i (by omega)]; simp [icells, List.getElem?_eq_getElem hipl]
          have gq : wr.cell? ⟨g, q, none⟩ = some (.int .i64 (p[q]'hqpl : Nat)) := by
            rw [hown.cellAt q (by omega)]; simp [icells, List.getElem?_eq_getElem hqpl]
          have fi := hown.frozenAt i
          have fq := hown.frozenAt q
          have hlx : (icells p).length = p.length := by simp [icells]
          obtain ⟨z, gz⟩ : ∃ z, (wr.setCell ⟨g, i, none⟩ (.int .i64 (p[q]'hqpl : Nat))).cell? ⟨g, q, none⟩ = some z := by
            rw [(hown.stored i (.int .i64 (p[q]'hqpl : Nat))).1.cellAt q (by omega)]
            exact ⟨_, List.getElem?_eq_getElem (by rw [List.length_set]; omega)⟩
          have fz := (hown.stored i (.int .i64 (p[q]'hqpl : Nat))).1.frozenAt q
          have b1 : (0 : Int) ≤ (i : Int) := by omega
          have b2 : (i : Int) < (k : Int) := by omega
          have b3 : (0 : Int) ≤ (q : Int) := by omega
          have b4 : (q : Int) < (k : Int) := by omega
          have HP := Lib.hid hp
          have HOW := Lib.hid hown
          clear hp hown hd hj1 hj0 hi1 hi2 HD
          generalize hpi : p[i]'hipl = pi at gi
          generalize hpq : p[q]'hqpl = pq at gq gz fz
          have HPI := Lib.hid hpi
          have HPQ := Lib.hid hpq
          clear hpi hpq
          go_region
          go_wp2_with fail
          go_roundw
          case rel => exact ⟨K', (i : Int) - 1, rfl, rfl, hK0', hK1', by omega, by omega, drawE_swap hpl hik hqk HP.out HOW.out hipl hqpl HPI.out HPQ.out, below_drew ((hbr.setCell (p := ⟨g, i, none⟩) hc1 _).setCell (p := ⟨g, q, none⟩) hc1 _)⟩
          case measure => simp [intOf]; omega
        · go_wp2_with fail
          go_ret
          obtain ⟨p, hp, hown⟩ := hd.out
          exact ⟨_, p, rfl, hp, hown, hbr⟩
end Go.Proofs.Ytkplpmhdmlkjhaa

/- The contract of the reference's SameNet at two slices with the same bars, and of CheckSheet. -/
namespace Go.Proofs.Ytkplpmhdmlkjhaa
open Go.RowKit

set_option maxHeartbeats 1000000 in
set_option maxRecDepth 100000 in
theorem refSameNet (A A' : Option Addr) (c c' : Nat) (l : List Ck.Bar) (w : World) (hl : l.length ≤ 4096) (h : RB w w.heap.size A l) (h' : RB w w.heap.size A' l) :
    Calls Try.prog 18 #[.slice A l.length c, .slice A' l.length c'] w fun e w' => e = .returned (.bool true) ∧ Below w.heap.size w w' := by
  have HR := Lib.hid h
  have HR' := Lib.hid h'
  clear h h'
  have hne : ((l.length : Int) != (l.length : Int)) = false := by simp
  go_enter Try.func18, Try.ntmps18
  go_wp2_with fail
  go_loopw [5] (fun i wr => ∃ k : Nat, k ≤ l.length ∧ i = .int .i64 k ∧ Below w.heap.size w wr) (fun i _ => l.length - (intOf i).toNat)
  case atStart => exact ⟨0, Nat.zero_le _, rfl, Below.refl _ _⟩
  case round =>
    obtain ⟨k, hk, rfl, hb⟩ := hrel
    by_cases hlt : k < l.length
    · have h := HR.out.below hb
      have h' := HR'.out.below hb
      obtain ⟨b, off, rfl, hB, hc⟩ := h (by omega)
      obtain ⟨b', off', rfl, hB', hc'⟩ := h' (by omega)
      obtain ⟨c0, c1, c2⟩ := hc k hlt
      obtain ⟨d0, d1, d2⟩ := hc' k hlt
      clear hc hc' h h'
      have b1 : (0 : Int) ≤ (k : Int) := by omega
      have b2 : (k : Int) < (l.length : Int) := by omega
      generalize l[k] = x at c0 c1 c2 d0 d1 d2
      go_wp2_with fail
      go_region
      go_wp2_with fail
      go_roundw
      case rel => exact ⟨k + 1, by omega, by go_num, below_drew hb⟩
      case measure => simp [intOf]; omega
    · have e : k = l.length := by omega
      subst e
      go_wp2_with fail
      go_ret
      exact ⟨rfl, hb⟩
end Go.Proofs.Ytkplpmhdmlkjhaa

/- A sheet's bars: plain mathematics, the bars of a cell, the iterator. -/
namespace Go.Proofs.Ytkplpmhdmlkjhaa
open Go.RowKit Go.Shelf Ck

def cel0 (x y : Int) (o : Bool) : Bar := if o then ⟨x + 1, y, -1⟩ else ⟨x, y, 1⟩
def cel1 (x y : Int) (o : Bool) : Bar := if o then ⟨x + 1, y, 1⟩ else ⟨x + 2, y, -1⟩
def oddB (r : Nat) : Bool := decide (r % 2 = 1)
def cellL (x y : Int) (r c : Nat) : List Bar := [cel0 (x + 2 * (c : Int)) (y + (r : Int)) (oddB r), cel1 (x + 2 * (c : Int)) (y + (r : Int)) (oddB r)]
/-- The first k cells of the row r. -/
def rowL (x y : Int) (r k : Nat) : List Bar := (List.range k).flatMap (cellL x y r)
/-- The first r rows. -/
def sheetP (x y : Int) (cols r : Nat) : List Bar := (List.range r).flatMap fun q => rowL x y q cols
theorem rowL_succ (x y : Int) (r k : Nat) : rowL x y r (k + 1) = rowL x y r k ++ cellL x y r k := by simp [rowL, List.range_succ]
theorem sheetP_succ (x y : Int) (cols r : Nat) : sheetP x y cols (r + 1) = sheetP x y cols r ++ rowL x y r cols := by simp [sheetP, List.range_succ]
theorem rowL_length (x y : Int) (r : Nat) : ∀ k, (rowL x y r k).length = 2 * k
  | 0 => rfl
  | k + 1 => by rw [rowL_succ, List.length_append, rowL_length x y r k]; simp [cellL]; omega
theorem sheetP_length (x y : Int) (cols : Nat) : ∀ r, (sheetP x y cols r).length = 2 * (cols * r)
  | 0 => by simp [sheetP]
  | r + 1 => by rw [sheetP_succ, List.length_append, sheetP_length x y cols r, rowL_length, Nat.mul_succ]; omega
theorem pre_short (x y : Int) {cols rows r c i : Nat} (hc : cols ≤ 256) (hr : rows ≤ 256) (h1 : r < rows) (h2 : c < cols) (h3 : i ≤ 2) : (sheetP x y cols r ++ rowL x y r c ++ (cellL x y r c).take i).length < 200000 := by
  rw [List.length_append, List.length_append, sheetP_length, rowL_length, List.length_take]
  have : cols * r ≤ 256 * 256 := Nat.mul_le_mul hc (by omega)
  omega

set_option maxHeartbeats 1000000 in
set_option maxRecDepth 100000 in
theorem netCellBars (x y : Int) (o : Bool) (w : World) (hx1 : -200000 ≤ x) (hx2 : x ≤ 200000) (hy1 : -200000 ≤ y) (hy2 : y ≤ 200000) :
    Calls Try.prog 60 #[.int .i64 x, .int .i64 y, .bool o] w fun e w' => e = .returned (.agg #[.int .i64 (cel0 x y o).x, .int .i64 (cel0 x y o).y, .int .i64 (cel0 x y o).s, .int .i64 (cel1 x y o).x, .int .i64 (cel1 x y o).y, .int .i64 (cel1 x y o).s]) ∧ Below w.heap.size w w' := by
  cases o
  · go_enter Try.func60, Try.ntmps60
    go_wp2
    exact bodyPost_ret (v := .agg #[.int .i64 x, .int .i64 y, .int .i64 1, .int .i64 (x + 2), .int .i64 y, .int .i64 (-1)]) (by simp [results, Try.results60, go_sem]) rfl ⟨rfl, by
      first
      | exact ((Below.refl _ _).alloc (Nat.le_refl _) _)
      | exact ((((((((Below.refl _ _).alloc (Nat.le_refl _) _).setCell (by simp) _).setCell (by simp) _).setCell (by simp) _).setCell (by simp) _).setCell (by simp) _).setCell (by simp) _)⟩
  · go_enter Try.func60, Try.ntmps60
    go_wp2
    exact bodyPost_ret (v := .agg #[.int .i64 (x + 1), .int .i64 y, .int .i64 (-1), .int .i64 (x + 1), .int .i64 y, .int .i64 1]) (by simp [results, Try.results60, go_sem]) rfl ⟨rfl, by
      first
      | exact ((Below.refl _ _).alloc (Nat.le_refl _) _)
      | exact ((((((((Below.refl _ _).alloc (Nat.le_refl _) _).setCell (by simp) _).setCell (by simp) _).setCell (by simp) _).setCell (by simp) _).setCell (by simp) _).setCell (by simp) _)⟩
theorem idxB0 (a b c d e f : Value) (w : World) : (Instr.index 102 (.agg #[a, b, c, d, e, f]) (.int .i64 0)).run Try.prog w = .ok (.agg #[a, b, c]) w := by kernel_rfl
theorem idxB1 (a b c d e f : Value) (w : World) : (Instr.index 102 (.agg #[a, b, c, d, e, f]) (.int .i64 1)).run Try.prog w = .ok (.agg #[d, e, f]) w := by kernel_rfl

/-- The blocks from B1 to below B2 are as they were. -/
def KR (B1 B2 : Nat) (W W' : World) : Prop := W.heap.size ≤ W'.heap.size ∧ ∀ b, B1 ≤ b → b < B2 → W'.heap[b]? = W.heap[b]?
theorem KR.refl (B1 B2 : Nat) (W : World) : KR B1 B2 W W := ⟨Nat.le_refl _, fun _ _ _ => rfl⟩
theorem KR.trans {B1 B2 : Nat} {A B C : World} (h : KR B1 B2 A B) (k : KR B1 B2 B C) : KR B1 B2 A C := ⟨Nat.le_trans h.1 k.1, fun b h1 h2 => (k.2 b h1 h2).trans (h.2 b h1 h2)⟩
theorem KR.of_below {B1 B2 : Nat} {W W' : World} (h : Below W.heap.size W W') (hB : B2 ≤ W.heap.size) : KR B1 B2 W W' := ⟨h.size, fun b _ h2 => h.block b (by omega)⟩
theorem KR.cell {B1 B2 : Nat} {W W' : World} (h : KR B1 B2 W W') {b o : Nat} (h1 : B1 ≤ b) (h2 : b < B2) : W'.cell? ⟨b, o, none⟩ = W.cell? ⟨b, o, none⟩ := World.cell?_of_block (h.2 b h1 h2)
theorem KR.put {B1 B2 : Nat} {w : World} (hB : B2 ≤ w.heap.size) (W : World) (l : Nat) (o o' : Obj) (hl : w.heap.size ≤ l) (_ : W.heap[l]? = some o) (_ : o.isCells = false) (_ : o.isWalk = false) : KR B1 B2 W (W.putObj l o') :=
  ⟨by simp, fun b _ h2 => World.putObj_heap_other (by omega)⟩
def barArr (b : Bar) : Array Value := #[.agg #[.int .i64 b.x, .int .i64 b.y, .int .i64 b.s]]
theorem grown_below {W W' : World} (hb : Below W.heap.size W W') : W.grownBy W' none := ⟨hb.os, hb.tape, hb.output, hb.size, fun i hi _ => hb.block i hi⟩

set_option maxRecDepth 100000 in
set_option maxHeartbeats 4000000 in
theorem sheet1_in (l Br Bc Ba B1 B2 n : Nat) (hn : 2 ≤ n) (x y : Int) (cols rows : Nat) (hc1 : cols ≤ 256) (hr1 : rows ≤ 256) (hx1 : -100000 ≤ x) (hx2 : x ≤ 100000) (hy1 : -100000 ≤ y) (hy2 : y ≤ 100000) (J Jx : List Bar → World → Prop)
    (hY : ∀ pre b W, J pre W → pre.length < 200000 → YieldAt Fence.wide (n - 1) Try.prog l (barArr b) W fun e W' =>
      (e = .returned (.bool true) ∧ J (pre ++ [b]) W' ∧ KR B1 B2 W W') ∨ (e = .returned (.bool false) ∧ Jx (pre ++ [b]) W'))
    (W : World) (hJ : AbidesFrom W.heap.size J) (hB : B2 ≤ W.heap.size) (hBr : B1 ≤ Br) (hBr' : Br < B2) (hBc : B1 ≤ Bc) (hBc' : Bc < B2) (hBa : B1 ≤ Ba) (hBa' : Ba < B2)
    (mr : W.cell? ⟨Br, 0, none⟩ = some (.int .i64 rows)) (mc : W.cell? ⟨Bc, 0, none⟩ = some (.int .i64 cols)) (mx : W.cell? ⟨Ba, 0, none⟩ = some (.int .i64 x)) (my : W.cell? ⟨Ba, 1, none⟩ = some (.int .i64 y)) (h0 : J [] W) :
    CallsIn Fence.wide n Try.prog 59 #[.func (.yield l) #[] #[], .pointer (some ⟨Br, 0, none⟩), .pointer (some ⟨Bc, 0, none⟩), .pointer (some ⟨Ba, 0, none⟩)] W fun e W' => (∃ v, e = .returned v) ∧
      ((∃ ss : List Bar, ss = sheetP x y cols rows ∧ J ss W') ∨ (∃ pre : List Bar, True ∧ Jx pre W')) := by
  have hJn : ∀ {s : List Bar} {A B : World}, J s A → Below A.heap.size A B → J s B := fun hs hb => hJ _ _ _ none hs (grown_below hb) (fun r e => by cases e)
  have hf60 : Fence.wide.fn 60 := trivial
  have h1n : 1 ≤ n := by omega
  refine callsIn_of_wp Try.func59 rfl trivial ?_ rfl
  simp only [Try.ntmps59, List.size_toArray, List.length_cons, List.length_nil, Nat.reduceAdd, Nat.reduceSub, Array.replicate_succ, Array.replicate_zero, List.push_toArray, List.append_toArray, List.nil_append, List.cons_append]
  gi_wp2
  gi_loopw [10] (fun v wr => ∃ r : Nat, r ≤ rows ∧ v = .int .i64 r ∧ J (sheetP x y cols r) wr ∧ KR B1 B2 W wr) (fun v _ => rows - (intOf v).toNat)
  case atStart => exact ⟨0, Nat.zero_le _, rfl, h0, KR.refl _ _ _⟩
  case round =>
    obtain ⟨r, hr, rfl, hJr, hK⟩ := hrel
    by_cases hlt : r < rows
    · have nc := (hK.cell (o := 0) hBc hBc').trans mc
      gi_wp2
      gi_loopw [14] (fun v wr => ∃ c : Nat, c ≤ cols ∧ v = .int .i64 c ∧ J (sheetP x y cols r ++ rowL x y r c) wr ∧ KR B1 B2 W wr) (fun v _ => cols - (intOf v).toNat)
      case atStart => exact ⟨0, Nat.zero_le _, rfl, by simpa [rowL] using hJr, hK⟩
      case round =>
        obtain ⟨c, hc, rfl, hJc, hK2⟩ := hrel
        by_cases hltc : c < cols
        · have nx := (hK2.cell (o := 0) hBa hBa').trans mx
          have ny := (hK2.cell (o := 1) hBa hBa').trans my
          obtain ⟨o, ho⟩ : ∃ o, oddB r = o := ⟨_, rfl⟩
          have hoq : ((r : Int) % 2 == 1) = o := by
            rw [← ho, oddB, Bool.eq_iff_iff, beq_iff_eq, decide_eq_true_eq]; omega
          have HO := Lib.hid ho
          clear ho
          gi_wp2_with (gi_at_call 60; refine (callsIn_wide.2 (netCellBars (x + 2 * (c : Int)) (y + (r : Int)) o _ (by omega) (by omega) (by omega) (by omega))).mono ?_; rintro e w2 ⟨rfl, hb2⟩)
          have hBr2 : B2 ≤ wr.heap.size := Nat.le_trans hB hK2.1
          have hJ2 := hJn hJc hb2
          have hK3 := hK2.trans (KR.of_below hb2 hBr2)
          have HC0 := Lib.hid (show cellL x y r c = [cel0 (x + 2 * (c : Int)) (y + (r : Int)) o, cel1 (x + 2 * (c : Int)) (y + (r : Int)) o] by rw [cellL, HO.out])
          generalize cel0 (x + 2 * (c : Int)) (y + (r : Int)) o = p0 at *
          generalize cel1 (x + 2 * (c : Int)) (y + (r : Int)) o = p1 at *
          have hp0 := pre_short x y hc1 hr1 (i := 0) hlt hltc (by omega)
          have hp1 := pre_short x y hc1 hr1 (i := 1) hlt hltc (by omega)
          rw [HC0.out] at hp0 hp1
          have hlt' := Lib.hid hlt
          have hltc' := Lib.hid hltc
          clear nx ny hJc
          gi_loopw [30] (fun v wi => ∃ i : Nat, i ≤ 2 ∧ v = .int .i64 i ∧ J (sheetP x y cols r ++ rowL x y r c ++ [p0, p1].take i) wi ∧ KR B1 B2 W wi) (fun v _ => 2 - (intOf v).toNat)
          case atStart => exact ⟨0, Nat.zero_le _, rfl, by simpa using hJ2, hK3⟩
          case round =>
            obtain ⟨i, hi, rfl, hJi, hKi⟩ := hrel
            have hi3 : i = 0 ∨ i = 1 ∨ i = 2 := by omega
            rcases hi3 with rfl | rfl | rfl
            · have ix := idxB0 (.int .i64 p0.x) (.int .i64 p0.y) (.int .i64 p0.s) (.int .i64 p1.x) (.int .i64 p1.y) (.int .i64 p1.s)
              have hJ3 : J (sheetP x y cols r ++ rowL x y r c ++ [p0, p1].take 0) (wr.alloc (.cells #[.int .i64 p0.x, .int .i64 p0.y, .int .i64 p0.s] 50)) := hJn hJi ((Below.refl _ _).alloc (Nat.le_refl _) _)
              have hK4 : KR B1 B2 W (wr.alloc (.cells #[.int .i64 p0.x, .int .i64 p0.y, .int .i64 p0.s] 50)) := hKi.trans (KR.of_below ((Below.refl _ _).alloc (Nat.le_refl _) _) (Nat.le_trans hB hKi.1))
              obtain ⟨fn, tmps, assign, body, hy, hR⟩ := hY _ p0 _ hJ3 hp0
              dsimp only [barArr] at hy
              gi_wp2
              refine hR.mono ?_
              rintro e W3 (⟨rfl, hJ4, hk3⟩ | ⟨rfl, hJx3⟩)
              · gi_wp2
                go_roundw
                case rel => exact ⟨1, by omega, rfl, by simpa using hJ4, hK4.trans hk3⟩
                case measure => simp [intOf]
              · gi_wp2
                refine bodyPost_ret (results_none rfl _ _ _) rfl ?_
                exact ⟨⟨_, rfl⟩, .inr ⟨_, trivial, hJx3⟩⟩
            · have ix := idxB1 (.int .i64 p0.x) (.int .i64 p0.y) (.int .i64 p0.s) (.int .i64 p1.x) (.int .i64 p1.y) (.int .i64 p1.s)
              have hJ3 : J (sheetP x y cols r ++ rowL x y r c ++ [p0, p1].take 1) (wr.alloc (.cells #[.int .i64 p1.x, .int .i64 p1.y, .int .i64 p1.s] 50)) := hJn hJi ((Below.refl _ _).alloc (Nat.le_refl _) _)
              have hK4 : KR B1 B2 W (wr.alloc (.cells #[.int .i64 p1.x, .int .i64 p1.y, .int .i64 p1.s] 50)) := hKi.trans (KR.of_below ((Below.refl _ _).alloc (Nat.le_refl _) _) (Nat.le_trans hB hKi.1))
              obtain ⟨fn, tmps, assign, body, hy, hR⟩ := hY _ p1 _ hJ3 hp1
              dsimp only [barArr] at hy
              gi_wp2
              refine hR.mono ?_
              rintro e W3 (⟨rfl, hJ4, hk3⟩ | ⟨rfl, hJx3⟩)
              · gi_wp2
                go_roundw
                case rel => exact ⟨2, by omega, rfl, by simpa using hJ4, hK4.trans hk3⟩
                case measure => simp [intOf]
              · gi_wp2
                refine bodyPost_ret (results_none rfl _ _ _) rfl ?_
                exact ⟨⟨_, rfl⟩, .inr ⟨_, trivial, hJx3⟩⟩
            · gi_wp2
              go_roundw
              case rel => exact ⟨c + 1, by have := hltc'.out; omega, by go_num, by rw [rowL_succ, HC0.out, ← List.append_assoc]; simpa using hJi, hKi⟩
              case measure => have := hltc'.out; simp [intOf]; omega
        · have e : c = cols := by omega
          subst e
          gi_wp2
          go_roundw
          case rel => exact ⟨r + 1, by omega, by go_num, by rw [sheetP_succ]; exact hJc, hK2⟩
          case measure => simp [intOf]; omega
    · have e : r = rows := by omega
      subst e
      gi_wp2
      go_end0
      exact ⟨⟨_, rfl⟩, .inl ⟨_, rfl, hJr⟩⟩
end Go.Proofs.Ytkplpmhdmlkjhaa

/- Contracts of the reference's First at three errors, and of CheckSheet. -/
namespace Go.Proofs.Ytkplpmhdmlkjhaa
open Go.RowKit

set_option maxHeartbeats 400000 in
theorem refFirst (b c : Nat) (es : List Int) (w : World) (hn : es.length ≤ 100) (hc : ∀ i (h : i < es.length), w.cell? ⟨b, i, none⟩ = some (.int .i64 es[i])) :
    Calls Try.prog 33 #[.slice (some ⟨b, 0, none⟩) es.length c] w fun e w' => e = .returned (.int .i64 (firstE es)) ∧ w = w' := by
  have HC := Lib.hid hc
  have hn' : (es.length : Int) ≤ 100 := by omega
  clear hc
  go_enter Try.func33, Try.ntmps33
  go_wp2_with fail
  go_loop [2, 3] (fun _ i => ∃ k : Nat, k ≤ es.length ∧ i = .int .i64 k ∧ firstE es = firstE (es.drop k)) (fun _ i => es.length - (intOf i).toNat)
  case atStart => exact ⟨0, Nat.zero_le _, rfl, rfl⟩
  case round =>
    obtain ⟨k, hk, rfl, he⟩ := hrel
    have HE := Lib.hid he
    clear he
    by_cases hlt : k < es.length
    · have hcell := HC.out k hlt
      by_cases hz : es[k] = 0
      · have HF := Lib.hid (show firstE (es.drop k) = firstE (es.drop (k + 1)) by
          rw [List.drop_eq_getElem_cons hlt]
          simp only [firstE, hz, if_true])
        rw [hz] at hcell
        clear hz
        go_wp2
        go_round
        case rel => exact ⟨k + 1, by omega, by go_num, HE.out.trans HF.out⟩
        case measure => simp [intOf]; omega
      · have HF := Lib.hid (show firstE (es.drop k) = es[k] by
          rw [List.drop_eq_getElem_cons hlt]
          simp only [firstE, if_neg hz])
        have hz1 : (es[k] != 0) = true := by rw [bne_iff_ne]; exact hz
        clear hz
        go_wp2
        go_ret
        exact ⟨ret_i (HE.out.trans HF.out).symm, rfl⟩
    · obtain rfl : k = es.length := by omega
      have HF := Lib.hid (show firstE (es.drop es.length) = 0 by rw [List.drop_length]; rfl)
      go_wp2
      go_ret
      exact ⟨ret_i (HE.out.trans HF.out).symm, rfl⟩

theorem three_err {w : World} {g : Nat} {a b c : Int} {t : TypeId} (h : w.heap[g]? = some (.cells #[.int .i64 a, .int .i64 b, .int .i64 c] t (0, 0))) : ∀ i (hi : i < [a, b, c].length), w.cell? ⟨g, i, none⟩ = some (.int .i64 [a, b, c][i]) := by
  intro i hi
  have hi' : i = 0 ∨ i = 1 ∨ i = 2 := by simp at hi; omega
  rcases hi' with rfl | rfl | rfl <;> simp [World.cell?, h]
theorem refFirst3 (g d : Nat) (a b c : Int) (t : TypeId) (w : World) (h : w.heap[g]? = some (.cells #[.int .i64 a, .int .i64 b, .int .i64 c] t (0, 0))) :
    Calls Try.prog 33 #[.slice (some ⟨g, 0, none⟩) 3 d] w fun e w' => e = .returned (.int .i64 (firstE [a, b, c])) ∧ w = w' :=
  refFirst g d [a, b, c] w (by simp) (three_err h)
theorem netFirst3 (g d : Nat) (a b c : Int) (t : TypeId) (w : World) (h : w.heap[g]? = some (.cells #[.int .i64 a, .int .i64 b, .int .i64 c] t (0, 0))) :
    Calls Try.prog 22 #[.slice (some ⟨g, 0, none⟩) 3 d] w fun e w' => e = .returned (.int .i64 (firstE [a, b, c])) ∧ w = w' :=
  netFirst g d [a, b, c] w (by simp) (three_err h)
def sideR (n : Int) : Int := if n < 1 ∨ 256 < n then 3 else 0
theorem refSide (n : Int) (w : World) : Calls Try.prog 35 #[.int .i64 n, .int .i64 1, .int .i64 256] w fun e w' => e = .returned (.int .i64 (sideR n)) ∧ w = w' := refCheckRange n 1 256 w
def sheet1 (x y c r : Int) : Int := firstE [knotE x y, sideR c, sideR r]
def sheetE (x y c r : Int) : Int := if sheet1 x y c r = 0 then (if 4096 < 2 * c * r then 5 else if farB (x + 2 * c) || farB (y + r) then 3 else 0) else sheet1 x y c r
theorem sheet1_zero {x y c r : Int} (h : sheet1 x y c r = 0) : knotE x y = 0 ∧ 1 ≤ c ∧ c ≤ 256 ∧ 1 ≤ r ∧ r ≤ 256 := by
  unfold sheet1 firstE firstE firstE firstE at h
  split at h
  · rename_i h1
    split at h
    · rename_i h2
      split at h
      · rename_i h3
        unfold sideR at h2 h3
        split at h2
        · omega
        · split at h3 <;> omega
      · omega
    · omega
  · omega
theorem sheetE_zero {x y c r : Int} (h : sheetE x y c r = 0) : sheet1 x y c r = 0 ∧ 2 * c * r ≤ 4096 ∧ farB (x + 2 * c) = false ∧ farB (y + r) = false := by
  unfold sheetE at h
  split at h
  · rename_i h1
    split at h
    · omega
    · rename_i h2
      split at h
      · omega
      · rename_i h3
        simp at h3
        exact ⟨h1, by omega, h3.1, h3.2⟩
  · rename_i h1; exact absurd h h1

set_option maxHeartbeats 1000000 in
set_option maxRecDepth 100000 in
theorem refCheckSheet (x y c r : Int) (w : World) :
    Calls Try.prog 13 #[.agg #[.int .i64 x, .int .i64 y], .int .i64 c, .int .i64 r] w fun e w' => e = .returned (.int .i64 (sheetE x y c r)) ∧ Below w.heap.size w w' := by
  obtain ⟨w1, hw1, h0, h1, hb1, hz1⟩ := box2 w (.int .i64 x) (.int .i64 y) 30
  have HW1 := Lib.hid hw1
  clear hw1
  by_cases hs : sheet1 x y c r = 0
  · obtain ⟨hk, c1, c2, r1, r2⟩ := sheet1_zero hs
    obtain ⟨x1, x2, y1, y2⟩ := knotE_zero hk
    have HS2 : firstE [knotE x y, sideR c, sideR r] = 0 := hs
    have HSF := Lib.hid HS2
    have hm1 : -200000 ≤ 2 * c * r := by
      have := Int.mul_le_mul (a := 2 * c) (c := 512) (b := r) (d := 256) (by omega) (by omega) (by omega) (by omega)
      have := Int.mul_nonneg (a := 2 * c) (b := r) (by omega) (by omega)
      omega
    have hm2 : 2 * c * r ≤ 200000 := by
      have := Int.mul_le_mul (a := 2 * c) (c := 512) (b := r) (d := 256) (by omega) (by omega) (by omega) (by omega)
      omega
    have HSH := Lib.hid (show sheetE x y c r = (if 4096 < 2 * c * r then 5 else if farB (x + 2 * c) || farB (y + r) then 3 else 0) by simp only [sheetE, hs, if_true])
    clear HS2 hs hk
    go_enter Try.func13, Try.ntmps13
    go_wp2_with fail
    rw [← HW1.out]
    refine (refCheckKnot x y _).mono ?_
    rintro e w2 ⟨rfl, hb2⟩
    go_wp2_with fail
    refine (refSide c _).mono ?_
    rintro e w3 ⟨rfl, rfl⟩
    go_wp2_with fail
    refine (refSide r _).mono ?_
    rintro e w4 ⟨rfl, rfl⟩
    go_wp2_with fail
    refine (refFirst3 _ _ (knotE x y) (sideR c) (sideR r) 3 _ (by exact heap_alloc_new _ _)).mono ?_
    rintro e w5 ⟨rfl, rfl⟩
    rw [HSF.out]
    have hb3 : Below w.heap.size w (w2.alloc (.cells #[.int .i64 (knotE x y), .int .i64 (sideR c), .int .i64 (sideR r)] 3)) := (hb1.trans (hb2.mono (by omega))).alloc (by have := hb2.size; omega) _
    have hb4 : Below w1.heap.size w1 (w2.alloc (.cells #[.int .i64 (knotE x y), .int .i64 (sideR c), .int .i64 (sideR r)] 3)) := hb2.alloc hb2.size _
    generalize w2.alloc (.cells #[.int .i64 (knotE x y), .int .i64 (sideR c), .int .i64 (sideR r)] 3) = w6 at *
    have e0 := (hb4.cell (p := ⟨w.heap.size, 0, none⟩) hz1).trans h0
    have e1 := (hb4.cell (p := ⟨w.heap.size, 1, none⟩) hz1).trans h1
    by_cases hbig : 4096 < 2 * c * r
    · have HE := Lib.hid (HSH.out.trans (if_pos hbig))
      clear HSH
      go_wp2_with fail
      go_ret
      exact ⟨ret_i HE.out.symm, hb3⟩
    · have HE := Lib.hid (HSH.out.trans (if_neg hbig))
      clear HSH
      cases hf1 : farB (x + 2 * c)
      · cases hf2 : farB (y + r)
        all_goals
          have HF1 := Lib.hid hf1
          have HF2 := Lib.hid hf2
          rw [hf1, hf2] at HE
          clear hf1 hf2
          go_wp2_with fail
          refine (refFar _ _).mono ?_
          rintro e w7 ⟨rfl, rfl⟩
          rw [HF1.out]
          go_wp2_with fail
          refine (refFar _ _).mono ?_
          rintro e w7 ⟨rfl, rfl⟩
          rw [HF2.out]
          go_wp2_with fail
          go_ret
          exact ⟨ret_i HE.out.symm, hb3⟩
      · have HF1 := Lib.hid hf1
        rw [hf1] at HE
        clear hf1
        go_wp2_with fail
        refine (refFar _ _).mono ?_
        rintro e w7 ⟨rfl, rfl⟩
        rw [HF1.out]
        go_wp2_with fail
        go_ret
        exact ⟨ret_i HE.out.symm, hb3⟩
  · have hs1 : (sheet1 x y c r == 0) = false := by simpa using hs
    have HE := Lib.hid (show sheetE x y c r = sheet1 x y c r by simp [sheetE, hs])
    have HS1 := Lib.hid hs1
    clear hs hs1
    go_enter Try.func13, Try.ntmps13
    go_wp2_with fail
    rw [← HW1.out]
    refine (refCheckKnot x y _).mono ?_
    rintro e w2 ⟨rfl, hb2⟩
    go_wp2_with fail
    refine (refSide c _).mono ?_
    rintro e w3 ⟨rfl, rfl⟩
    go_wp2_with fail
    refine (refSide r _).mono ?_
    rintro e w4 ⟨rfl, rfl⟩
    go_wp2_with fail
    refine (refFirst3 _ _ (knotE x y) (sideR c) (sideR r) 3 _ (by exact heap_alloc_new _ _)).mono ?_
    rintro e w5 ⟨rfl, rfl⟩
    have HS2 : firstE [knotE x y, sideR c, sideR r] = sheet1 x y c r := rfl
    rw [HS2]
    generalize sheet1 x y c r = e1 at *
    have hs1 := HS1.out
    go_wp2_with fail
    go_ret
    exact ⟨ret_i HE.out.symm, (hb1.trans (hb2.mono (by omega))).alloc (by have := hb2.size; omega) _⟩
end Go.Proofs.Ytkplpmhdmlkjhaa

/- Sheet of the program, at a sheet without an error. -/
namespace Go.Proofs.Ytkplpmhdmlkjhaa
open Go.RowKit Go.Shelf Ck
attribute [local go_sem] Oper.semAt_some

theorem sheet_stops (n : Nat) (hn : 2 ≤ n) (x y : Int) (cols rows Br Bc Ba B1 B2 : Nat) (hc1 : cols ≤ 256) (hr1 : rows ≤ 256) (hx1 : -100000 ≤ x) (hx2 : x ≤ 100000) (hy1 : -100000 ≤ y) (hy2 : y ≤ 100000) (w : World) (hB : B2 ≤ w.heap.size) (hBr : B1 ≤ Br) (hBr' : Br < B2) (hBc : B1 ≤ Bc) (hBc' : Bc < B2) (hBa : B1 ≤ Ba) (hBa' : Ba < B2)
    (mr : w.cell? ⟨Br, 0, none⟩ = some (.int .i64 rows)) (mc : w.cell? ⟨Bc, 0, none⟩ = some (.int .i64 cols)) (mx : w.cell? ⟨Ba, 0, none⟩ = some (.int .i64 x)) (my : w.cell? ⟨Ba, 1, none⟩ = some (.int .i64 y)) :
    SeqStopsK Fence.wide n Try.prog 59 #[.pointer (some ⟨Br, 0, none⟩), .pointer (some ⟨Bc, 0, none⟩), .pointer (some ⟨Ba, 0, none⟩)] barArr (KR B1 B2) (fun ss => ss = sheetP x y cols rows) (fun _ => True) 200000 w := fun l J Jx W hW hJ _ hY h0 =>
  sheet1_in l Br Bc Ba B1 B2 n hn x y cols rows hc1 hr1 hx1 hx2 hy1 hy2 J Jx hY W hJ (Nat.le_trans hB hW.size) hBr hBr' hBc hBc' hBa hBa' ((hW.cell (p := ⟨Br, 0, none⟩) (by show Br < _; omega)).trans mr) ((hW.cell (p := ⟨Bc, 0, none⟩) (by show Bc < _; omega)).trans mc) ((hW.cell (p := ⟨Ba, 0, none⟩) (by show Ba < _; omega)).trans mx) ((hW.cell (p := ⟨Ba, 1, none⟩) (by show Ba < _; omega)).trans my) h0

theorem netSheetBars (x y c r : Int) (w : World) :
    Calls Try.prog 39 #[.agg #[.int .i64 x, .int .i64 y], .int .i64 c, .int .i64 r] w fun e w' => e = .returned (.func (.func 59) #[] #[.pointer (some ⟨w.heap.size + 2, 0, none⟩), .pointer (some ⟨w.heap.size + 1, 0, none⟩), .pointer (some ⟨w.heap.size, 0, none⟩)]) ∧
      w' = ((w.alloc (.cells #[.int .i64 x, .int .i64 y] 30)).alloc (.cells #[.int .i64 c] 3)).alloc (.cells #[.int .i64 r] 3) := by
  go_enter Try.func39, Try.ntmps39
  go_wp2
  go_ret
  exact ⟨by simp, rfl⟩

theorem KR.appended {W w1 : World} {Bo B1 B2 : Nat} {e : TypeId} {size k : Nat} {v : Value} {xs : List Value} {tmp : Obj} (hB : Bo < B1) (hz : B2 ≤ W.heap.size) (hrow : W.ownsRow B2 e size v k xs) (hgrow : (W.alloc tmp).grownBy w1 v.ownBlock) (v' : Value) : KR B1 B2 W (w1.setCell ⟨Bo, 0, none⟩ v') := by
  refine ⟨?_, fun b h1 h2 => ?_⟩
  · have := hgrow.size; simp at this ⊢; omega
  · have e1 : (w1.setCell ⟨Bo, 0, none⟩ v').heap[b]? = w1.heap[b]? := (grownBy_setCell' w1 Bo v').block b (by have := hgrow.size; simp at this; omega) (fun e => by cases e; omega)
    rw [e1, hgrow.block b (by simp; omega) (fun e => by have := ownsRow_base hrow b e.symm; omega)]
    exact Below.heap_alloc _ _ _ (by omega)

theorem sheet_boxes (W0 : World) (x y c r : Int) : ∃ W9, W9 = ((W0.alloc (.cells #[.int .i64 x, .int .i64 y] 30)).alloc (.cells #[.int .i64 c] 3)).alloc (.cells #[.int .i64 r] 3) ∧ Below W0.heap.size W0 W9 ∧ W9.heap.size = W0.heap.size + 3 ∧
    W9.cell? ⟨W0.heap.size, 0, none⟩ = some (.int .i64 x) ∧ W9.cell? ⟨W0.heap.size, 1, none⟩ = some (.int .i64 y) ∧ W9.cell? ⟨W0.heap.size + 1, 0, none⟩ = some (.int .i64 c) ∧ W9.cell? ⟨W0.heap.size + 2, 0, none⟩ = some (.int .i64 r) := by
  obtain ⟨w1, hw1, h0, h1, hb1, hz1⟩ := box2 W0 (.int .i64 x) (.int .i64 y) 30
  have hs1 : w1.heap.size = W0.heap.size + 1 := by rw [hw1]; simp
  have bc := (Boxed.new w1 3 (.int .i64 c)).cell
  have hs2 : (w1.alloc (.cells #[.int .i64 c] 3)).heap.size = W0.heap.size + 2 := by simp; omega
  have br := (Boxed.new (w1.alloc (.cells #[.int .i64 c] 3)) 3 (.int .i64 r)).cell
  have b2 : Below w1.heap.size w1 (w1.alloc (.cells #[.int .i64 c] 3)) := (Below.refl _ _).alloc (Nat.le_refl _) _
  have b3 : Below (w1.alloc (.cells #[.int .i64 c] 3)).heap.size (w1.alloc (.cells #[.int .i64 c] 3)) ((w1.alloc (.cells #[.int .i64 c] 3)).alloc (.cells #[.int .i64 r] 3)) := (Below.refl _ _).alloc (Nat.le_refl _) _
  rw [← hw1]
  rw [hs1] at bc
  rw [hs2] at br
  refine ⟨_, rfl, hb1.trans ((b2.trans (b3.mono b2.size)).mono hb1.size), by simp; omega, ?_, ?_, ?_, br⟩
  · exact ((b3.cell (p := ⟨W0.heap.size, 0, none⟩) (by show W0.heap.size < _; omega)).trans (b2.cell (p := ⟨W0.heap.size, 0, none⟩) (by show W0.heap.size < _; omega))).trans h0
  · exact ((b3.cell (p := ⟨W0.heap.size, 1, none⟩) (by show W0.heap.size < _; omega)).trans (b2.cell (p := ⟨W0.heap.size, 1, none⟩) (by show W0.heap.size < _; omega))).trans h1
  · exact (b3.cell (p := ⟨W0.heap.size + 1, 0, none⟩) (by show W0.heap.size + 1 < _; omega)).trans bc
/-- A box of three cells. -/
def Box3 (W : World) (B : Nat) (t : TypeId) (a b c : Value) : Prop := W.heap[B]? = some (.cells #[a, b, c] t (0, 0))
theorem Box3.cells {W : World} {B : Nat} {t : TypeId} {a b c : Value} (h : Box3 W B t a b c) : W.cell? ⟨B, 0, none⟩ = some a ∧ W.cell? ⟨B, 1, none⟩ = some b ∧ W.cell? ⟨B, 2, none⟩ = some c ∧ B < W.heap.size := by
  refine ⟨?_, ?_, ?_, (Array.getElem?_eq_some_iff.1 h).1⟩ <;> simp [World.cell?, show W.heap[B]? = _ from h]
theorem Box3.new (W : World) (t : TypeId) (a b c : Value) : Box3 (W.alloc (.cells #[a, b, c] t)) W.heap.size t a b c := World.alloc_heap_new W _
theorem box3_own (B : Nat) (t : TypeId) (a b c : Value) : Own (fun (_ : Unit) W => Box3 W B t a b c) := fun s X Y row hs hg hrow =>
  (hg.block B (Array.getElem?_eq_some_iff.1 hs).1 (fun e' => by obtain ⟨o, ho, hc⟩ := hrow B e'.symm; rw [show X.heap[B]? = _ from hs] at ho; cases ho; cases hc)).trans hs
theorem sheet_step {W w1 : World} {Bo B1 B2 : Nat} {t e : TypeId} {size k m : Nat} {v v' : Value} {xs ys : List Value} {tmp : Obj} (hte : t ≠ e) (hB : Bo < B1) (hB2 : B1 ≤ B2) (hz : B2 ≤ W.heap.size) (hv : Boxed W Bo t v) (hrow : W.ownsRow B2 e size v k xs) (hown' : w1.ownsRow B2 e size v' m ys) (hgrow : (W.alloc tmp).grownBy w1 v.ownBlock) :
    Boxed w1 Bo t v ∧ Boxed (w1.setCell ⟨Bo, 0, none⟩ v') Bo t v' ∧ KeepsOthers W (w1.setCell ⟨Bo, 0, none⟩ v') ∧ Below Bo W (w1.setCell ⟨Bo, 0, none⟩ v') ∧ (w1.setCell ⟨Bo, 0, none⟩ v').ownsRow B2 e size v' m ys ∧ KR B1 B2 W (w1.setCell ⟨Bo, 0, none⟩ v') := by
  obtain ⟨h1, h2, h3, h4, h5⟩ := hv.appended hte (ownsRow_mono hrow (by omega : Bo ≤ B2)) (by omega) (Nat.le_refl _) (ownsRow_mono hown' (by omega)) hgrow
  exact ⟨h1, h2, h4, h5, hown'.kept (grownBy_setCell' w1 Bo v') (.inr (h1.not_row hte hown').symm), KR.appended hB hz hrow hgrow v'⟩
def SheetPost (l : List Ck.Bar) (w : World) (e : Ending) (w' : World) : Prop :=
  ∃ v, e = .returned (.tuple #[v, .int .i64 0]) ∧ w'.ownsRow w.heap.size 50 3 v l.length (bcellsL l) ∧ Below w.heap.size w w'
theorem netSide (n : Int) (w : World) : Calls Try.prog 37 #[.int .i64 n, .int .i64 1, .int .i64 256] w fun e w' => e = .returned (.int .i64 (sideR n)) ∧ w = w' := netCheckRange n 1 256 w

set_option maxHeartbeats 2000000 in
set_option maxRecDepth 100000 in
theorem netSheet (x y : Int) (c r : Nat) (w : World) (hE : sheetE x y c r = 0) :
    Calls Try.prog 14 #[.agg #[.int .i64 x, .int .i64 y], .int .i64 c, .int .i64 r] w (SheetPost (sheetP x y c r) w) := by
  obtain ⟨hs, hm, hf1, hf2⟩ := sheetE_zero hE
  obtain ⟨hk, c1, c2, r1, r2⟩ := sheet1_zero hs
  obtain ⟨x1, x2, y1, y2⟩ := knotE_zero hk
  have HS := Lib.hid (show firstE [knotE x y, sideR c, sideR r] = 0 from hs)
  have HP := Lib.hid (show firstE [placeE (x + 2 * (c : Int)), placeE (y + (r : Int))] = 0 by simp [firstE, placeE, hf1, hf2])
  have hm1 : -200000 ≤ 2 * (c : Int) * (r : Int) := by
    have := Int.mul_nonneg (a := 2 * (c : Int)) (b := (r : Int)) (by omega) (by omega)
    omega
  obtain ⟨w1, hw1, h0, h1, hb1, hz1⟩ := box2 w (.int .i64 x) (.int .i64 y) 30
  have HW1 := Lib.hid hw1
  clear hw1 hE hs hk hf1 hf2
  refine (callsIn_wide (n := 3)).1 (callsIn_of_wp_marks Try.func14 rfl trivial (wpIn_wide.2 ?_) rfl)
  simp only [Try.ntmps14, List.size_toArray, List.length_cons, List.length_nil, Nat.reduceAdd, Nat.reduceSub, Array.replicate_succ, Array.replicate_zero, List.push_toArray, List.append_toArray, List.nil_append, List.cons_append]
  go_wp2_with fail
  rw [← HW1.out]
  refine (netCheckKnot x y _).mono ?_
  rintro e w2 ⟨rfl, hb2⟩
  go_wp2_with fail
  refine (netSide c _).mono ?_
  rintro e w3 ⟨rfl, rfl⟩
  go_wp2_with fail
  refine (netSide r _).mono ?_
  rintro e w4 ⟨rfl, rfl⟩
  go_wp2_with fail
  refine (netFirst3 _ _ (knotE x y) (sideR c) (sideR r) 25 _ (by exact heap_alloc_new _ _)).mono ?_
  rintro e w5 ⟨rfl, rfl⟩
  rw [HS.out]
  have hb3 : Below w.heap.size w (w2.alloc (.cells #[.int .i64 (knotE x y), .int .i64 (sideR c), .int .i64 (sideR r)] 25)) := (hb1.trans (hb2.mono (by omega))).alloc (by have := hb2.size; omega) _
  have hb4 : Below w1.heap.size w1 (w2.alloc (.cells #[.int .i64 (knotE x y), .int .i64 (sideR c), .int .i64 (sideR r)] 25)) := hb2.alloc hb2.size _
  generalize w2.alloc (.cells #[.int .i64 (knotE x y), .int .i64 (sideR c), .int .i64 (sideR r)] 25) = w6 at *
  have e0 := (hb4.cell (p := ⟨w.heap.size, 0, none⟩) hz1).trans h0
  have e1 := (hb4.cell (p := ⟨w.heap.size, 1, none⟩) hz1).trans h1
  clear h0 h1
  go_wp2_with fail
  refine wp_region_still_tail 11 (by kernel_rfl) (by kernel_rfl) ?_
  simp only [List.take_succ_cons, List.take_zero, List.drop_succ_cons, List.drop_zero]
  still_step
  still_step
  still_step
  still_step
  still_step
  still_call (Calls.mono (netCheckPlace _ _) fun _ _ h => ⟨h.1, h.2.symm⟩)
  still_step
  still_step
  still_step
  still_step
  still_call (Calls.mono (netCheckPlace _ _) fun _ _ h => ⟨h.1, h.2.symm⟩)
  refine wpStill_nil ?_
  change wpList _ _ _ _ _ w6.drew
  go_wp2_with fail
  refine (netFirst2 _ _ (placeE (x + 2 * (c : Int))) (placeE (y + (r : Int))) 25 _ (by exact heap_alloc_new _ _)).mono ?_
  rintro e w7 ⟨rfl, rfl⟩
  rw [HP.out]
  have hz6 := hb4.size
  have hb5 : Below w.heap.size w (w6.alloc (.cells #[.int .i64 (placeE (x + 2 * (c : Int))), .int .i64 (placeE (y + (r : Int)))] 25)).drew := below_drew (hb3.alloc (by omega) _)
  have hb6 : Below w1.heap.size w1 (w6.alloc (.cells #[.int .i64 (placeE (x + 2 * (c : Int))), .int .i64 (placeE (y + (r : Int)))] 25)).drew := below_drew (hb4.alloc (by omega) _)
  generalize (w6.alloc (.cells #[.int .i64 (placeE (x + 2 * (c : Int))), .int .i64 (placeE (y + (r : Int)))] 25)).drew = w8 at *
  have g0 := (hb6.cell (p := ⟨w.heap.size, 0, none⟩) hz1).trans ((hb4.cell (p := ⟨w.heap.size, 0, none⟩) hz1).symm.trans e0)
  have g1 := (hb6.cell (p := ⟨w.heap.size, 1, none⟩) hz1).trans ((hb4.cell (p := ⟨w.heap.size, 1, none⟩) hz1).symm.trans e1)
  clear e0 e1
  have hz8 := hb6.size
  have bO := Boxed.new w8 22 (.slice none 0 0)
  have hb7 : Below w8.heap.size w8 (w8.alloc (.cells #[.slice none 0 0] 22)) := (Below.refl _ _).alloc (Nat.le_refl _) _
  have hsz : (w8.alloc (.cells #[.slice none 0 0] 22)).heap.size = w8.heap.size + 1 := by simp
  have k0 := (hb7.cell (p := ⟨w.heap.size, 0, none⟩) (by show w.heap.size < _; omega)).trans g0
  have k1 := (hb7.cell (p := ⟨w.heap.size, 1, none⟩) (by show w.heap.size < _; omega)).trans g1
  obtain ⟨W0, hW0⟩ : ∃ W0, w8.alloc (.cells #[.slice none 0 0] 22) = W0 := ⟨_, rfl⟩
  rw [hW0] at bO hb7 hsz
  have HW0 := Lib.hid hW0
  clear hW0
  have HSZ := Lib.hid hsz
  clear hsz
  go_wp2_with fail
  rw [HW0.out]
  refine (netSheetBars x y c r _).mono ?_
  rintro e w9 ⟨rfl, hw9⟩
  obtain ⟨W9, hW9, hb9, hz9, m0, m1, m2, m3⟩ := sheet_boxes W0 x y c r
  rw [← hW9] at hw9
  have hw9' := hw9.symm
  subst hw9'
  have HW9 := Lib.hid hW9
  clear hW9
  have hz0 := HSZ.out
  have hbW : Below w.heap.size w W0 := by
    have := hb5.trans (hb7.mono hb5.size)
    exact this
  have bO9 : Boxed W9 w8.heap.size 22 (.slice none 0 0) := (hb9.block _ (by omega)).trans bO
  have hbw9 : Below w.heap.size w W9 := hbW.trans (hb9.mono hbW.size)
  have HZ9 := Lib.hid hz9
  have HZ0 := Lib.hid hz0
  clear hz9 hz0
  go_wp2_with fail
  have hseq := sheet_stops 2 (by omega) x y c r (W0.heap.size + 2) (W0.heap.size + 1) W0.heap.size W0.heap.size (W0.heap.size + 3) (by omega) (by omega) x1 x2 y1 y2 W9 (by rw [HZ9.out]; omega) (by omega) (by omega) (by omega) (by omega) (by omega) (by omega) m3 m2 m0 m1
  refine (wpIn_wide (n := 3)).1 ?_
  have q1 : IntKind.i64.wrap (2 * (c : Int)) = 2 * (c : Int) := by rw [IntKind.wrap_i64]; omega
  have q2 : IntKind.i64.wrap (x + 2 * (c : Int)) = x + 2 * (c : Int) := by rw [IntKind.wrap_i64]; omega
  have q3 : IntKind.i64.wrap (y + (r : Int)) = y + (r : Int) := by rw [IntKind.wrap_i64]; omega
  simp only [q1, q2, q3]
  clear q1 q2 q3
  obtain ⟨ib, hib, hb0, hb01, hb02⟩ := info_parts Try.info50
  have HB := Lib.hid hib
  have HB0 := Lib.hid hb0
  have HB1 := Lib.hid hb01
  have HB2 := Lib.hid hb02
  clear hib hb0 hb01 hb02
  generalize hA0 : (Act.mk _ _) = A0
  refine wpIn_rangeFunc_ownH rfl (by omega) (gf := 59) (lb := #[.pointer (some ⟨W0.heap.size + 2, 0, none⟩), .pointer (some ⟨W0.heap.size + 1, 0, none⟩), .pointer (some ⟨W0.heap.size, 0, none⟩)]) (by rw [← hA0]; rfl) trivial ?eg hseq KR.trans (KR.put (w := W9) (by rw [HZ9.out]; omega)) (Below.refl _ _) (fun _ => rfl)
    (fun pre W => (∃ v, Boxed W w8.heap.size 22 v ∧ W.ownsRow (W0.heap.size + 3) 50 3 v pre.length (bcellsL pre) ∧ True) ∧ Below w.heap.size w W ∧ Below W9.heap.size W9 W9 ∧ W9.heap.size ≤ W.heap.size)
    (fun _ _ _ => False)
    (OwnFrom.and (Own.from (holdsRow_own (W0.heap.size + 3) w8.heap.size 22 50 3 (fun pre : List Ck.Bar => pre.length) (fun pre => bcellsL pre) (fun _ _ => True)) _) (OwnFrom.and (ownFrom_below (Nat.le_refl _) (by rw [HZ9.out, HZ0.out]; omega)) ?sz))
    (fun _ _ _ _ _ hs _ _ => hs)
    ⟨⟨_, bO9, World.ownsRow_nil _ _ _ _, trivial⟩, hbw9, Below.refl _ _, Nat.le_refl _⟩
    (fun b a' W => ∃ Bx, w8.heap.size < Bx ∧ Box3 W Bx 50 (.int .i64 b.x) (.int .i64 b.y) (.int .i64 b.s) ∧ a' = { tmps := (A0.tmps.setIfInBounds 48 (.agg #[.int .i64 b.x, .int .i64 b.y, .int .i64 b.s])).setIfInBounds 11 (.pointer (some ⟨Bx, 0, none⟩)), defers := [] })
    (fun x a' _ X Y row hs hg hr => by obtain ⟨Bx, h1, h2, h3⟩ := hs; exact ⟨Bx, h1, box3_own Bx _ _ _ _ () X Y row h2 hg (fun r e => (hr r e).2), h3⟩)
    ?assign ?body ?done ?stop
  case eg => exact fun _ _ => by kernel_rfl
  case sz => exact fun s X Y row hs hg hr => ⟨hs.1, Nat.le_trans hs.2 hg.size⟩
  case assign =>
    rintro l pre b W K ⟨⟨v, hv, hrow, -⟩, hB1, hB2, hB3⟩ hK
    subst hA0
    have hz8 := HZ9.out
    have hz7 := HZ0.out
    dsimp only [barArr]
    gi_wp2
    exact hK _ _ ((KeepsOthers.alloc _ _).from _) (KR.of_below ((Below.refl _ _).alloc (Nat.le_refl _) _) (by omega)) ⟨⟨v, hv.alloc _, hrow.alloc _, trivial⟩, hB1.alloc hB1.size _, hB2, by simp; omega⟩ ⟨W.heap.size, by omega, Box3.new W _ _ _ _, by simp⟩
  case body =>
    rintro l pre b a' W hl ⟨r, hr⟩ ⟨⟨v, hv, hrow, -⟩, hB, hB2, hB3⟩ ⟨Bx, hBx, bX, rfl⟩ hlt
    subst hA0
    have hz8 := HZ9.out
    have hz7 := HZ0.out
    have hc := hv.cell
    obtain ⟨x0, x1', x2', xl⟩ := bX.cells
    gi_wp2_with (gi_at_builtin; refine wpListIn_append_own _ rfl _ _ 22 rfl (W0.heap.size + 3) 50 ib (.agg #[.int .i64 0, .int .i64 0, .int .i64 0]) 3 24 Try.underlying22 HB.out HB0.out HB1.out HB2.out rfl (by decide) _ _ _ rfl (hrow.alloc _) ⟨W.heap.size, 0, none⟩ 1 1 [.int .i64 b.x, .int .i64 b.y, .int .i64 b.s] rfl rfl (three_new _ _ _ _ _) (by intro u hu; simp at hu; rcases hu with rfl | rfl | rfl <;> rfl) (by unfold maxLen; omega) (by omega) (by simp; omega) ?_; intro v' w1 hown' hgrow _; obtain ⟨g', cap', rfl⟩ := ownsRow_succ hown'; obtain ⟨hv1, hv2, hk2, hb2, hr2⟩ := sheet_step (B1 := W0.heap.size) (by decide) (by omega) (by omega) (by omega) hv hrow hown' hgrow; have hc1 := hv1.cell; have hf1 := hv1.frozen)
    exact ⟨hk2.from _, hr2.2, ⟨_, hv2, by rw [bcellsL_snoc]; simpa using hr2.1, trivial⟩, hB.trans (hb2.mono (by omega)), hB2, Nat.le_trans hB3 hb2.size⟩
  case done =>
    rintro D ys W hD hS ⟨⟨v, hv, hrow, -⟩, hB, -, hB3⟩ hK
    subst hA0
    subst hS
    have hc := hv.cell
    go_wp2
    have hz8 := HZ9.out
    have hz7 := HZ0.out
    refine ⟨by simp, .inl ⟨_, _, rfl, run_takeDeferred hK, ?_⟩⟩
    refine ⟨_, results_tmp2 rfl _ _ _, v, rfl, ownsRow_mono (ownsRow_putObj hrow _ hK rfl) ?_, hB.trans (belowK_b (w := W9) (n₀ := w.heap.size) hbw9.size W D _ _ hD hK rfl rfl)⟩
    have := hbW.size
    omega
  case stop =>
    rintro D c pre W _ _ h _
    exact h.elim
end Go.Proofs.Ytkplpmhdmlkjhaa

/- A sheet is a net: plain mathematics. -/
namespace Go.Proofs.Ytkplpmhdmlkjhaa
open Ck

theorem cell_mem {x y : Int} {r c : Nat} {b : Bar} (h : b ∈ cellL x y r c) :
    (b.y = y + (r : Int)) ∧ ((r % 2 = 1 ∧ b.x = x + 2 * (c : Int) + 1 ∧ (b.s = -1 ∨ b.s = 1)) ∨ (r % 2 = 0 ∧ (b.x = x + 2 * (c : Int) ∧ b.s = 1 ∨ b.x = x + 2 * (c : Int) + 2 ∧ b.s = -1))) := by
  unfold cellL cel0 cel1 oddB at h
  by_cases ho : r % 2 = 1
  · simp [ho] at h
    rcases h with rfl | rfl
    · exact ⟨rfl, .inl ⟨ho, rfl, .inl rfl⟩⟩
    · exact ⟨rfl, .inl ⟨ho, rfl, .inr rfl⟩⟩
  · have h0 : r % 2 = 0 := by omega
    simp [h0] at h
    rcases h with rfl | rfl
    · exact ⟨rfl, .inr ⟨h0, .inl ⟨rfl, rfl⟩⟩⟩
    · exact ⟨rfl, .inr ⟨h0, .inr ⟨rfl, rfl⟩⟩⟩
theorem cell_pair (x y : Int) (r c : Nat) : (cellL x y r c).Pairwise Blt := by
  unfold cellL cel0 cel1
  cases oddB r <;> simp [Blt] <;> omega
theorem row_mem {x y : Int} {r k : Nat} {b : Bar} (h : b ∈ rowL x y r k) : ∃ c, c < k ∧ b ∈ cellL x y r c := by
  obtain ⟨c, hc, hb⟩ := List.mem_flatMap.1 h
  exact ⟨c, List.mem_range.1 hc, hb⟩
theorem row_pair (x y : Int) (r : Nat) : ∀ k, (rowL x y r k).Pairwise Blt
  | 0 => by simp [rowL]
  | k + 1 => by
    rw [rowL_succ]
    refine List.pairwise_append.2 ⟨row_pair x y r k, cell_pair x y r k, fun a ha b hb => ?_⟩
    obtain ⟨c, hc, ha⟩ := row_mem ha
    obtain ⟨h1, h2⟩ := cell_mem ha
    obtain ⟨k1, k2⟩ := cell_mem hb
    unfold Blt
    omega
theorem sheet_mem {x y : Int} {cols r : Nat} {b : Bar} (h : b ∈ sheetP x y cols r) : ∃ q, q < r ∧ ∃ c, c < cols ∧ b ∈ cellL x y q c := by
  obtain ⟨q, hq, hb⟩ := List.mem_flatMap.1 h
  exact ⟨q, List.mem_range.1 hq, row_mem hb⟩
theorem sheet_pair (x y : Int) (cols : Nat) : ∀ r, (sheetP x y cols r).Pairwise Blt
  | 0 => by simp [sheetP]
  | r + 1 => by
    rw [sheetP_succ]
    refine List.pairwise_append.2 ⟨sheet_pair x y cols r, row_pair x y r cols, fun a ha b hb => ?_⟩
    obtain ⟨q, hq, c, hc, ha⟩ := sheet_mem ha
    obtain ⟨c', hc', hb⟩ := row_mem hb
    have h1 := (cell_mem ha).1
    have h2 := (cell_mem hb).1
    unfold Blt
    omega
theorem sheet_net {x y : Int} {cols rows : Nat} (hk : okKnot ⟨x, y⟩) (hx : inPlace (x + 2 * (cols : Int))) (hy : inPlace (y + (rows : Int))) : Net (sheetP x y cols rows) := by
  refine ⟨fun b hb => ?_, sheet_pair x y cols rows⟩
  obtain ⟨q, hq, c, hc, hb⟩ := sheet_mem hb
  obtain ⟨h1, h2⟩ := cell_mem hb
  obtain ⟨⟨k1, k2⟩, ⟨k3, k4⟩, k5⟩ := hk
  unfold inPlace at hx hy
  simp only [okBar, okKnot, Bar.lo, Bar.hi, inPlace]
  simp only at k1 k2 k3 k4 k5
  omega
end Go.Proofs.Ytkplpmhdmlkjhaa

/- Plain mathematics: what a bar more makes of the knots, the parts and the meshes of a list of bars; no net has fewer than 0 holes. -/
namespace Go.Proofs.Ytkplpmhdmlkjhaa.Ck

/-! ### one bar more, and what is connected -/
theorem conn_add {l l' : List Bar} {b : Bar} (hm : ∀ x, x ∈ l' ↔ x = b ∨ x ∈ l) {k m : Knot} (h : Conn l' k m) : Conn l k m ∨ (Conn l k b.lo ∧ Conn l b.hi m) ∨ (Conn l k b.hi ∧ Conn l b.lo m) := by
  induction h with
  | refl => exact .inl (.refl _)
  | step x hx ha _ ih =>
    rcases (hm x).1 hx with rfl | hx
    · rcases ha with ⟨rfl, rfl⟩ | ⟨rfl, rfl⟩
      · rcases ih with h | ⟨_, h⟩ | ⟨_, h⟩
        · exact .inr (.inl ⟨.refl _, h⟩)
        · exact .inr (.inl ⟨.refl _, h⟩)
        · exact .inl h
      · rcases ih with h | ⟨_, h⟩ | ⟨_, h⟩
        · exact .inr (.inr ⟨.refl _, h⟩)
        · exact .inl h
        · exact .inr (.inr ⟨.refl _, h⟩)
    · have c := Conn.one hx ha
      rcases ih with h | ⟨h, h'⟩ | ⟨h, h'⟩
      · exact .inl (c.trans h)
      · exact .inr (.inl ⟨c.trans h, h'⟩)
      · exact .inr (.inr ⟨c.trans h, h'⟩)
theorem Conn.eq_of_out {l : List Bar} {k m : Knot} (h : Conn l k m) (hk : k ∉ ends l) : k = m := by
  cases h with
  | refl => rfl
  | step b hb ha _ => exact absurd (ha.ends hb).1 hk

/-- R has one knot of each part. -/
def Rep (l : List Bar) (R : List Knot) : Prop := (∀ r ∈ R, r ∈ ends l) ∧ R.Pairwise (fun a b => ¬ Conn l a b) ∧ ∀ k ∈ ends l, ∃ r ∈ R, Conn l r k
theorem Rep.nodup {l : List Bar} {R : List Knot} (h : Rep l R) : R.Nodup := h.2.1.imp fun {a b} (hn : ¬ Conn l a b) (e : a = b) => hn (by rw [e]; exact .refl _)
theorem Rep.one {l : List Bar} {R : List Knot} (h : Rep l R) {a b : Knot} (ha : a ∈ R) (hb : b ∈ R) (hc : Conn l a b) : a = b := by
  by_cases e : a = b
  · exact e
  · exact absurd hc (List.Pairwise.forall_of_forall_of_flip (R := fun a b => a ≠ b → ¬ Conn l a b) (fun x _ hne => absurd rfl hne) (h.2.1.imp fun {a b} (hn : ¬ Conn l a b) (_ : a ≠ b) => hn) (h.2.1.imp fun {a b} (hn : ¬ Conn l a b) (_ : b ≠ a) (hc : Conn l b a) => hn hc.symm) ha hb e)
theorem Rep.le {l : List Bar} {R R' : List Knot} (h : Rep l R) (h' : Rep l R') : R.length ≤ R'.length := by
  have each : ∀ r, ∃ r', r ∈ R → r' ∈ R' ∧ Conn l r' r := fun r => by
    by_cases hr : r ∈ R
    · obtain ⟨r', h1, h2⟩ := h'.2.2 r (h.1 r hr)
      exact ⟨r', fun _ => ⟨h1, h2⟩⟩
    · exact ⟨r, fun h => absurd h hr⟩
  obtain ⟨f, hf⟩ := Classical.axiomOfChoice each
  have hn : (R.map f).Nodup := by
    rw [List.Nodup, List.pairwise_map]
    refine List.Pairwise.imp_of_mem ?_ h.2.1
    intro a b ha hb hnc e
    exact hnc (((hf a ha).2.symm).trans (e ▸ (hf b hb).2))
  have := hn.length_le_of_subset (l₂ := R') (fun x hx => by
    obtain ⟨r, hr, rfl⟩ := List.mem_map.1 hx
    exact (hf r hr).1)
  rwa [List.length_map] at this
theorem Rep.length {l : List Bar} {R R' : List Knot} (h : Rep l R) (h' : Rep l R') : R.length = R'.length := Nat.le_antisymm (h.le h') (h'.le h)
theorem CntIs.reps {l : List Bar} : ∀ {r : List Bar} {seen : List Knot} {n : Nat}, CntIs l seen r n →
    ∃ R : List Knot, R.length = n ∧ (∀ x ∈ R, ∃ c ∈ r, x = c.lo) ∧ R.Pairwise (fun a b => ¬ Conn l a b) ∧ (∀ x ∈ R, ∀ s ∈ seen, ¬ Conn l s x) ∧ ∀ c ∈ r, (∃ s ∈ seen, Conn l s c.lo) ∨ ∃ x ∈ R, Conn l x c.lo
  | [], _, _, .nil _ => ⟨[], rfl, by simp, .nil, by simp, by simp⟩
  | b :: r, seen, _, .old e h => by
    obtain ⟨R, h1, h2, h3, h4, h5⟩ := h.reps
    refine ⟨R, h1, fun x hx => ?_, h3, fun x hx s hs => h4 x hx s (by simp [hs]), fun c hc => ?_⟩
    · obtain ⟨c, hc, e⟩ := h2 x hx
      exact ⟨c, by simp [hc], e⟩
    · rcases List.mem_cons.1 hc with rfl | hc
      · exact .inl e
      · rcases h5 c hc with ⟨s, hs, hsc⟩ | h
        · rcases List.mem_cons.1 hs with rfl | hs
          · obtain ⟨s0, hs0, h0⟩ := e
            exact .inl ⟨s0, hs0, h0.trans hsc⟩
          · exact .inl ⟨s, hs, hsc⟩
        · exact .inr h
  | b :: r, seen, _, .fresh e h => by
    obtain ⟨R, h1, h2, h3, h4, h5⟩ := h.reps
    refine ⟨b.lo :: R, by simp [h1], fun x hx => ?_, List.pairwise_cons.2 ⟨fun x hx => h4 x hx b.lo (by simp), h3⟩, fun x hx s hs => ?_, fun c hc => ?_⟩
    · rcases List.mem_cons.1 hx with rfl | hx
      · exact ⟨b, by simp, rfl⟩
      · obtain ⟨c, hc, e⟩ := h2 x hx
        exact ⟨c, by simp [hc], e⟩
    · rcases List.mem_cons.1 hx with rfl | hx
      · exact fun hc => e ⟨s, hs, hc⟩
      · exact h4 x hx s (by simp [hs])
    · rcases List.mem_cons.1 hc with rfl | hc
      · exact .inr ⟨_, by simp, .refl _⟩
      · rcases h5 c hc with ⟨s, hs, hsc⟩ | ⟨x, hx, h⟩
        · rcases List.mem_cons.1 hs with rfl | hs
          · exact .inr ⟨_, by simp, hsc⟩
          · exact .inl ⟨s, hs, hsc⟩
        · exact .inr ⟨x, by simp [hx], h⟩
theorem PartsIs.rep {l : List Bar} {p : Nat} (h : PartsIs l p) : ∃ R, Rep l R ∧ R.length = p := by
  obtain ⟨R, h1, h2, h3, _, h5⟩ := CntIs.reps h
  refine ⟨R, ⟨fun r hr => ?_, h3, fun k hk => ?_⟩, h1⟩
  · obtain ⟨c, hc, rfl⟩ := h2 r hr
    exact lo_ends hc
  · obtain ⟨c, hc, e⟩ := mem_ends.1 hk
    rcases h5 c hc with ⟨s, hs, _⟩ | ⟨x, hx, hxc⟩
    · simp at hs
    · rcases e with rfl | rfl
      · exact ⟨x, hx, hxc⟩
      · exact ⟨x, hx, hxc.trans (.one hc (.inl ⟨rfl, rfl⟩))⟩
theorem PartsIs.eq_rep {l : List Bar} {p : Nat} (h : PartsIs l p) {R : List Knot} (hR : Rep l R) : p = R.length := by
  obtain ⟨R', h1, h2⟩ := h.rep
  rw [← h2, h1.length hR]

/-! ### the parts of a list with one bar more -/
theorem ends_add {l l' : List Bar} {b : Bar} (hm : ∀ x, x ∈ l' ↔ x = b ∨ x ∈ l) (k : Knot) : k ∈ ends l' ↔ k = b.lo ∨ k = b.hi ∨ k ∈ ends l := by
  rw [mem_ends, mem_ends]
  constructor
  · rintro ⟨x, hx, h⟩
    rcases (hm x).1 hx with rfl | hx
    · rcases h with h | h
      · exact .inl h
      · exact .inr (.inl h)
    · exact .inr (.inr ⟨x, hx, h⟩)
  · rintro (h | h | ⟨x, hx, h⟩)
    · exact ⟨b, (hm b).2 (.inl rfl), .inl h⟩
    · exact ⟨b, (hm b).2 (.inl rfl), .inr h⟩
    · exact ⟨x, (hm x).2 (.inr hx), h⟩
theorem conn_more {l l' : List Bar} {b : Bar} (hm : ∀ x, x ∈ l' ↔ x = b ∨ x ∈ l) {k m : Knot} (h : Conn l k m) : Conn l' k m := h.mono fun x hx => (hm x).2 (.inr hx)
theorem conn_bar {l l' : List Bar} {b : Bar} (hm : ∀ x, x ∈ l' ↔ x = b ∨ x ∈ l) : Conn l' b.lo b.hi := .one ((hm b).2 (.inl rfl)) (.inl ⟨rfl, rfl⟩)
/-- Both ends were connected: the parts stay. -/
theorem rep_same {l l' : List Bar} {b : Bar} (hm : ∀ x, x ∈ l' ↔ x = b ∨ x ∈ l) (hlo : b.lo ∈ ends l) (hhi : b.hi ∈ ends l) (hc : Conn l b.lo b.hi) {R : List Knot} (h : Rep l R) : Rep l' R := by
  have back : ∀ {k m : Knot}, Conn l' k m → Conn l k m := fun hk => by
    rcases conn_add hm hk with h | ⟨h, h'⟩ | ⟨h, h'⟩
    · exact h
    · exact (h.trans hc).trans h'
    · exact (h.trans hc.symm).trans h'
  refine ⟨fun r hr => (ends_add hm r).2 (.inr (.inr (h.1 r hr))), h.2.1.imp fun hn hc' => hn (back hc'), fun k hk => ?_⟩
  have hk' : k ∈ ends l := by
    rcases (ends_add hm k).1 hk with rfl | rfl | h
    · exact hlo
    · exact hhi
    · exact h
  obtain ⟨r, hr, hrk⟩ := h.2.2 k hk'
  exact ⟨r, hr, conn_more hm hrk⟩
/-- Both ends were knots of different parts: these are one part now. -/
theorem rep_less {l l' : List Bar} {b : Bar} (hm : ∀ x, x ∈ l' ↔ x = b ∨ x ∈ l) (hlo : b.lo ∈ ends l) (hhi : b.hi ∈ ends l) (hc : ¬ Conn l b.lo b.hi) {R : List Knot} (h : Rep l R) : ∃ R', Rep l' R' ∧ R'.length + 1 = R.length := by
  obtain ⟨r1, h1, c1⟩ := h.2.2 _ hlo
  obtain ⟨r2, h2, c2⟩ := h.2.2 _ hhi
  have hne : r1 ≠ r2 := by
    rintro rfl
    exact hc (c1.symm.trans c2)
  have hnd := h.nodup
  have mem : ∀ x, x ∈ R.erase r2 ↔ x ≠ r2 ∧ x ∈ R := fun x => hnd.mem_erase_iff
  refine ⟨R.erase r2, ⟨fun r hr => (ends_add hm r).2 (.inr (.inr (h.1 r ((mem r).1 hr).2))), ?_, fun k hk => ?_⟩, ?_⟩
  · refine List.Pairwise.imp_of_mem ?_ (h.2.1.sublist (List.erase_sublist ..))
    intro a c ha hc' hn hac
    obtain ⟨ha1, ha2⟩ := (mem a).1 ha
    obtain ⟨hc1, hc2⟩ := (mem c).1 hc'
    rcases conn_add hm hac with h' | ⟨_, h'⟩ | ⟨h', _⟩
    · exact hn h'
    · exact hc1 (h.one h2 hc2 (c2.trans h')).symm
    · exact ha1 (h.one ha2 h2 (h'.trans c2.symm))
  · have go : ∀ k ∈ ends l, ∃ r ∈ R.erase r2, Conn l' r k := fun k hk => by
      obtain ⟨r, hr, hrk⟩ := h.2.2 k hk
      by_cases e : r = r2
      · subst e
        exact ⟨r1, (mem r1).2 ⟨hne, h1⟩, ((conn_more hm c1).trans (conn_bar hm)).trans ((conn_more hm c2.symm).trans (conn_more hm hrk))⟩
      · exact ⟨r, (mem r).2 ⟨e, hr⟩, conn_more hm hrk⟩
    rcases (ends_add hm k).1 hk with rfl | rfl | hk
    · exact go _ hlo
    · exact go _ hhi
    · exact go _ hk
  · rw [List.length_erase_of_mem h2]
    have : 0 < R.length := List.length_pos_of_mem h2
    omega
/-- One end was a knot, the other one was none: the parts stay. -/
theorem rep_hang {l l' : List Bar} {b : Bar} (hm : ∀ x, x ∈ l' ↔ x = b ∨ x ∈ l) (hx : b.lo ∈ ends l ∧ b.hi ∉ ends l ∨ b.lo ∉ ends l ∧ b.hi ∈ ends l) {R : List Knot} (h : Rep l R) : Rep l' R := by
  have back : ∀ {k m : Knot}, k ∈ ends l → m ∈ ends l → Conn l' k m → Conn l k m := fun hk hm' hc => by
    rcases conn_add hm hc with h' | ⟨h1, h2⟩ | ⟨h1, h2⟩
    · exact h'
    · rcases hx with ⟨_, hn⟩ | ⟨hn, _⟩
      · exact absurd (h2.eq_of_out hn ▸ hm') hn
      · exact absurd (h1.symm.eq_of_out hn ▸ hk) hn
    · rcases hx with ⟨_, hn⟩ | ⟨hn, _⟩
      · exact absurd (h1.symm.eq_of_out hn ▸ hk) hn
      · exact absurd (h2.eq_of_out hn ▸ hm') hn
  refine ⟨fun r hr => (ends_add hm r).2 (.inr (.inr (h.1 r hr))), List.Pairwise.imp_of_mem (fun {a c} ha hc hn hac => hn (back (h.1 a ha) (h.1 c hc) hac)) h.2.1, fun k hk => ?_⟩
  have go : ∀ k ∈ ends l, ∃ r ∈ R, Conn l' r k := fun k hk => by
    obtain ⟨r, hr, hrk⟩ := h.2.2 k hk
    exact ⟨r, hr, conn_more hm hrk⟩
  rcases (ends_add hm k).1 hk with rfl | rfl | hk
  · rcases hx with ⟨hl, _⟩ | ⟨_, hh⟩
    · exact go _ hl
    · obtain ⟨r, hr, hrk⟩ := go _ hh
      exact ⟨r, hr, hrk.trans (conn_bar hm).symm⟩
  · rcases hx with ⟨hl, _⟩ | ⟨_, hh⟩
    · obtain ⟨r, hr, hrk⟩ := go _ hl
      exact ⟨r, hr, hrk.trans (conn_bar hm)⟩
    · exact go _ hh
  · exact go _ hk
/-- No end was a knot: one part more. -/
theorem rep_more {l l' : List Bar} {b : Bar} (hm : ∀ x, x ∈ l' ↔ x = b ∨ x ∈ l) (hlo : b.lo ∉ ends l) (hhi : b.hi ∉ ends l) {R : List Knot} (h : Rep l R) : Rep l' (b.lo :: R) := by
  have back : ∀ {k m : Knot}, k ∈ ends l → m ∈ ends l → Conn l' k m → Conn l k m := fun hk hm' hc => by
    rcases conn_add hm hc with h' | ⟨h1, h2⟩ | ⟨h1, h2⟩
    · exact h'
    · exact absurd (h2.eq_of_out hhi ▸ hm') hhi
    · exact absurd (h2.eq_of_out hlo ▸ hm') hlo
  refine ⟨fun r hr => ?_, List.pairwise_cons.2 ⟨fun r hr hc => ?_, List.Pairwise.imp_of_mem (fun {a c} ha hc hn hac => hn (back (h.1 a ha) (h.1 c hc) hac)) h.2.1⟩, fun k hk => ?_⟩
  · rcases List.mem_cons.1 hr with rfl | hr
    · exact (ends_add hm _).2 (.inl rfl)
    · exact (ends_add hm r).2 (.inr (.inr (h.1 r hr)))
  · have hr' := h.1 r hr
    rcases conn_add hm hc with h' | ⟨_, h2⟩ | ⟨h1, _⟩
    · exact hlo (h'.eq_of_out hlo ▸ hr')
    · exact hhi (h2.eq_of_out hhi ▸ hr')
    · have e := h1.eq_of_out hlo
      have := congrArg Knot.y e
      simp only [Bar.lo, Bar.hi] at this
      omega
  · rcases (ends_add hm k).1 hk with rfl | rfl | hk
    · exact ⟨_, by simp, .refl _⟩
    · exact ⟨_, by simp, conn_bar hm⟩
    · obtain ⟨r, hr, hrk⟩ := h.2.2 k hk
      exact ⟨r, by simp [hr], conn_more hm hrk⟩

/-! ### the knots of a list with one bar more -/
theorem lo_ne_hi (b : Bar) : b.lo ≠ b.hi := fun e => by
  have := congrArg Knot.y e
  simp only [Bar.lo, Bar.hi] at this
  omega
theorem nK_cons {ks : List Knot} (h : ks.Nodup) {l : List Bar} (hm : ∀ k, k ∈ ks ↔ k ∈ ends l) : nK l = ks.length := (nK_eq h hm).symm
theorem nK_more {l l' : List Bar} {b : Bar} (hm : ∀ x, x ∈ l' ↔ x = b ∨ x ∈ l) : nK l' = nK l + (if b.lo ∈ ends l then 0 else 1) + (if b.hi ∈ ends l then 0 else 1) := by
  have hn := nub_nodup (ends l)
  have hne := lo_ne_hi b
  by_cases h1 : b.lo ∈ ends l <;> by_cases h2 : b.hi ∈ ends l
  · rw [if_pos h1, if_pos h2]
    exact nK_cons hn fun k => by
      rw [mem_nub, ends_add hm]
      constructor
      · exact fun h => .inr (.inr h)
      · rintro (rfl | rfl | h)
        · exact h1
        · exact h2
        · exact h
  · rw [if_pos h1, if_neg h2]
    refine (nK_cons (ks := b.hi :: nub (ends l)) (List.nodup_cons.2 ⟨fun h => h2 (mem_nub.1 h), hn⟩) fun k => ?_).trans (by simp [nK])
    rw [List.mem_cons, mem_nub, ends_add hm]
    constructor
    · rintro (h | h)
      · exact .inr (.inl h)
      · exact .inr (.inr h)
    · rintro (rfl | h | h)
      · exact .inr h1
      · exact .inl h
      · exact .inr h
  · rw [if_neg h1, if_pos h2]
    refine (nK_cons (ks := b.lo :: nub (ends l)) (List.nodup_cons.2 ⟨fun h => h1 (mem_nub.1 h), hn⟩) fun k => ?_).trans (by simp [nK])
    rw [List.mem_cons, mem_nub, ends_add hm]
    constructor
    · rintro (h | h)
      · exact .inl h
      · exact .inr (.inr h)
    · rintro (h | rfl | h)
      · exact .inl h
      · exact .inr h2
      · exact .inr h
  · rw [if_neg h1, if_neg h2]
    refine (nK_cons (ks := b.lo :: b.hi :: nub (ends l)) (List.nodup_cons.2 ⟨fun h => ?_, List.nodup_cons.2 ⟨fun h => h2 (mem_nub.1 h), hn⟩⟩) fun k => ?_).trans (by simp [nK])
    · rcases List.mem_cons.1 h with h | h
      · exact hne h
      · exact h1 (mem_nub.1 h)
    · rw [List.mem_cons, List.mem_cons, mem_nub, ends_add hm]

/-- Bars and parts, less the knots: a bar more between connected knots makes it one more, any other one leaves it. -/
theorem rank_more {l l' : List Bar} {b : Bar} (hm : ∀ x, x ∈ l' ↔ x = b ∨ x ∈ l) {p p' : Nat} (hp : PartsIs l p) (hp' : PartsIs l' p') :
    (b.lo ∈ ends l ∧ b.hi ∈ ends l ∧ Conn l b.lo b.hi ∧ p' = p ∧ nK l' = nK l) ∨ (¬ (b.lo ∈ ends l ∧ b.hi ∈ ends l ∧ Conn l b.lo b.hi) ∧ 1 + p' + nK l = p + nK l') := by
  obtain ⟨R, hR, rfl⟩ := hp.rep
  have hk := nK_more hm
  by_cases h1 : b.lo ∈ ends l <;> by_cases h2 : b.hi ∈ ends l
  · by_cases hc : Conn l b.lo b.hi
    · exact .inl ⟨h1, h2, hc, hp'.eq_rep (rep_same hm h1 h2 hc hR), by rw [hk, if_pos h1, if_pos h2, Nat.add_zero]⟩
    · obtain ⟨R', hR', hl⟩ := rep_less hm h1 h2 hc hR
      have := hp'.eq_rep hR'
      rw [if_pos h1, if_pos h2] at hk
      exact .inr ⟨fun h => hc h.2.2, by omega⟩
  · have := hp'.eq_rep (rep_hang hm (.inl ⟨h1, h2⟩) hR)
    rw [if_pos h1, if_neg h2] at hk
    exact .inr ⟨fun h => h2 h.2.1, by omega⟩
  · have := hp'.eq_rep (rep_hang hm (.inr ⟨h1, h2⟩) hR)
    rw [if_neg h1, if_pos h2] at hk
    exact .inr ⟨fun h => h1 h.1, by omega⟩
  · have := hp'.eq_rep (rep_more hm h1 h2 hR)
    rw [List.length_cons] at this
    rw [if_neg h1, if_neg h2] at hk
    exact .inr ⟨fun h => h1 h.1, by omega⟩

/-! ### no net has fewer than 0 holes -/
theorem countP_one {l : List Bar} (hn : l.Nodup) (P P' : Bar → Bool) (x0 : Bar) (h : ∀ x ∈ l, P' x = true → P x = true ∨ x = x0) : l.countP P' ≤ l.countP P + 1 := by
  induction l with
  | nil => simp
  | cons a r ih =>
    obtain ⟨h1, h2⟩ := List.nodup_cons.1 hn
    by_cases ha : a = x0
    · have : r.countP P' ≤ r.countP P := List.countP_mono_left fun x hx hp => by
        rcases h x (by simp [hx]) hp with h' | h'
        · exact h'
        · subst h'; exact absurd (ha ▸ hx) h1
      rw [List.countP_cons, List.countP_cons]
      split <;> split <;> omega
    · have := ih h2 fun x hx => h x (by simp [hx])
      have hh := h a (by simp)
      rw [List.countP_cons, List.countP_cons]
      by_cases hp : P' a = true
      · rcases hh hp with h' | h'
        · simp [hp, h']; omega
        · exact absurd h' ha
      · simp [hp]
        split <;> omega
theorem euler_snoc {l : List Bar} {b : Bar} (hN : Net (l ++ [b])) : nM (l ++ [b]) ≤ nM l ∨ (nM (l ++ [b]) ≤ nM l + 1 ∧ b.lo ∈ ends l ∧ b.hi ∈ ends l ∧ Conn l b.lo b.hi) := by
  have hlt : ∀ x ∈ l, Blt x b := fun x hx => (List.pairwise_append.1 hN.2).2.2 x hx b (by simp)
  have hnd : l.Nodup := (List.nodup_append.1 hN.nodup).1
  have hin : ∀ x, x ∈ l ++ [b] ↔ x ∈ l ∨ x = b := fun x => by simp
  have hb : isMesh (l ++ [b]) b = false := by
    have hno : (⟨b.x - 1, b.y + 1, 1⟩ : Bar) ∉ l ++ [b] := fun h => by
      rcases (hin _).1 h with h | h
      · have := hlt _ h
        unfold Blt at this
        simp only at this
        omega
      · have := congrArg Bar.y h
        simp only at this
        omega
    simp [isMesh, hno]
  have hcount : nM (l ++ [b]) = l.countP (isMesh (l ++ [b])) := by
    rw [nM, List.countP_append]
    simp [hb]
  have hlast : ∀ x ∈ l, isMesh (l ++ [b]) x = true → isMesh l x = true ∨ (b = ⟨x.x + 1, x.y + 1, -1⟩ ∧ x.s = -1 ∧ (⟨x.x, x.y, 1⟩ : Bar) ∈ l ∧ (⟨x.x - 1, x.y + 1, 1⟩ : Bar) ∈ l) := fun x hx hm => by
    simp only [isMesh, Bool.and_eq_true, decide_eq_true_eq] at hm ⊢
    obtain ⟨m1, m2, m3, m4⟩ := hm
    rcases (hin _).1 m4 with h4 | h4
    · have g4 := hlt _ h4
      have h2 : (⟨x.x, x.y, 1⟩ : Bar) ∈ l := by
        rcases (hin _).1 m2 with h | h
        · exact h
        · rw [← h] at g4; unfold Blt at g4; simp only at g4; omega
      have h3 : (⟨x.x - 1, x.y + 1, 1⟩ : Bar) ∈ l := by
        rcases (hin _).1 m3 with h | h
        · exact h
        · rw [← h] at g4; unfold Blt at g4; simp only at g4; omega
      exact .inl ⟨m1, h2, h3, h4⟩
    · have h2 : (⟨x.x, x.y, 1⟩ : Bar) ∈ l := by
        rcases (hin _).1 m2 with h | h
        · exact h
        · rw [← h] at h4
          have := congrArg Bar.y h4
          simp only at this
          omega
      have h3 : (⟨x.x - 1, x.y + 1, 1⟩ : Bar) ∈ l := by
        rcases (hin _).1 m3 with h | h
        · exact h
        · rw [← h] at h4
          have := congrArg Bar.x h4
          simp only at this
          omega
      exact .inr ⟨h4.symm, m1, h2, h3⟩
  by_cases hnew : ∃ x ∈ l, b = ⟨x.x + 1, x.y + 1, -1⟩ ∧ x.s = -1 ∧ (⟨x.x, x.y, 1⟩ : Bar) ∈ l ∧ (⟨x.x - 1, x.y + 1, 1⟩ : Bar) ∈ l
  · obtain ⟨x, hx, hbx, hs, h2, h3⟩ := hnew
    refine .inr ⟨?_, ?_⟩
    · rw [hcount, nM]
      refine countP_one hnd _ _ x fun z hz hm => ?_
      rcases hlast z hz hm with h | ⟨h, hzs, _, _⟩
      · exact .inl h
      · right
        rw [hbx] at h
        obtain ⟨e1, e2, _⟩ := (Bar.mk.injEq ..).mp h
        exact Bar.ext' (by omega) (by omega) (by omega)
    · have c1 : Conn l ⟨x.x + 1, x.y + 1⟩ ⟨x.x, x.y⟩ := .one h2 (.inr ⟨rfl, rfl⟩)
      have c2 : Conn l ⟨x.x, x.y⟩ ⟨x.x - 1, x.y + 1⟩ := .one hx (.inl ⟨rfl, by simp [Bar.hi, hs]; omega⟩)
      have c3 : Conn l ⟨x.x - 1, x.y + 1⟩ ⟨x.x, x.y + 2⟩ := .one h3 (.inl ⟨rfl, by simp [Bar.hi]; omega⟩)
      have e1 : b.lo = ⟨x.x + 1, x.y + 1⟩ := by rw [hbx]; rfl
      have e2 : b.hi = ⟨x.x, x.y + 2⟩ := by rw [hbx]; simp [Bar.hi]; omega
      rw [e1, e2]
      refine ⟨mem_ends.2 ⟨_, h2, .inr rfl⟩, mem_ends.2 ⟨_, h3, .inr (by simp [Bar.hi]; omega)⟩, (c1.trans c2).trans c3⟩
  · left
    rw [hcount, nM]
    refine List.countP_mono_left fun z hz hm => ?_
    rcases hlast z hz hm with h | h
    · exact h
    · exact absurd ⟨z, hz, h⟩ hnew
theorem euler : ∀ (n : Nat) {l : List Bar}, l.length = n → Net l → ∀ {p : Nat}, PartsIs l p → nM l + nK l ≤ l.length + p
  | 0, l, hl, _, _, _ => by
    have : l = [] := List.eq_nil_of_length_eq_zero hl
    subst this
    simp [nM, nK, ends, nub]
  | n + 1, l, hl, hN, p, hp => by
    have hne : l ≠ [] := fun e => by subst e; simp at hl
    obtain ⟨r, b, rfl⟩ : ∃ r b, l = r ++ [b] := ⟨l.dropLast, l.getLast hne, (List.dropLast_concat_getLast hne).symm⟩
    have hN' : Net r := ⟨fun x hx => hN.1 x (by simp [hx]), (List.pairwise_append.1 hN.2).1⟩
    obtain ⟨q, hq⟩ := CntIs.total (l := r) r []
    have ih := euler n (by simpa using hl) hN' hq
    have hm : ∀ x, x ∈ r ++ [b] ↔ x = b ∨ x ∈ r := fun x => by simp [or_comm]
    have hr := rank_more hm hq hp
    have hs := euler_snoc hN
    rw [List.length_append, List.length_singleton]
    rcases hr with ⟨_, _, _, e1, e2⟩ | ⟨hn, e⟩
    · rcases hs with h | ⟨h, _⟩ <;> omega
    · rcases hs with h | ⟨_, h1, h2, h3⟩
      · omega
      · exact absurd ⟨h1, h2, h3⟩ hn
end Go.Proofs.Ytkplpmhdmlkjhaa.Ck

/- Bars taken from a net one by one: plain mathematics, and wrappers of the contracts for TopCorkWorn. -/
namespace Go.Proofs.Ytkplpmhdmlkjhaa
open Go.RowKit Ck

/-! ### the numbers of a net -/
noncomputable def pN (l : List Bar) : Nat := Classical.choose (CntIs.total (l := l) l [])
theorem pN_is (l : List Bar) : PartsIs l (pN l) := Classical.choose_spec (CntIs.total (l := l) l [])
noncomputable def ct0 (l : List Bar) : Int := (nK l : Nat)
noncomputable def ct1 (l : List Bar) : Int := (l.length : Nat)
noncomputable def ct2 (l : List Bar) : Int := (nM l : Nat)
noncomputable def ct3 (l : List Bar) : Int := (pN l : Nat)
noncomputable def ct4 (l : List Bar) : Int := (l.length : Int) - (nK l : Nat) + (pN l : Nat) - (nM l : Nat)
theorem CF.eq {l : List Bar} {x0 x1 x2 x3 x4 : Int} (h : CF l x0 x1 x2 x3 x4) : x0 = ct0 l ∧ x1 = ct1 l ∧ x2 = ct2 l ∧ x3 = ct3 l ∧ x4 = ct4 l := by
  obtain ⟨p, hp, rfl, rfl, rfl, rfl, rfl⟩ := h
  obtain rfl : p = pN l := hp.det (pN_is l)
  exact ⟨rfl, rfl, rfl, rfl, rfl⟩
theorem ct_facts {l : List Bar} (hN : Net l) : ct2 l + ct4 l - ct3 l + ct0 l = ct1 l ∧ 0 ≤ ct2 l ∧ 0 ≤ ct4 l := by
  have h := euler l.length rfl hN (pN_is l)
  unfold ct0 ct1 ct2 ct3 ct4
  omega
def CtPost (l : List Bar) (w : World) (e : Ending) (w' : World) : Prop :=
  e = .returned (.tuple #[.agg #[.int .i64 (ct0 l), .int .i64 (ct1 l), .int .i64 (ct2 l), .int .i64 (ct3 l), .int .i64 (ct4 l)], .bool true]) ∧ (bd (ct0 l) ∧ bd (ct1 l) ∧ bd (ct2 l) ∧ bd (ct3 l) ∧ bd (ct4 l)) ∧ Below w.heap.size w w'
theorem countD (A : Option Addr) (c : Nat) (l : List Bar) (w : World) (hl : l.length ≤ 200) (hN : Net l) (h : OKS w A c l) : Calls Try.prog 10 #[.slice A l.length c] w (CtPost l w) :=
  (countC A c l w hl h.2.2.1 hN h.2.2.2).mono fun e w' ⟨x0, x1, x2, x3, x4, he, hc, hbd, hb⟩ => by
    obtain ⟨rfl, rfl, rfl, rfl, rfl⟩ := hc.eq
    exact ⟨he, hbd, hb⟩

/-! ### bars taken away one by one -/
def D (S q : List Bar) (j : Nat) : List Bar := S.filter fun b => decide (b ∈ q.drop j)
theorem D_sub (S q : List Bar) (j : Nat) : ∀ b, b ∈ D S q j ↔ b ∈ S ∧ b ∈ q.drop j := fun b => by simp [D]
theorem D_zero {S q : List Bar} (h : ∀ b ∈ S, b ∈ q) : D S q 0 = S := List.filter_eq_self.2 fun b hb => by simpa using h b hb
theorem D_end (S q : List Bar) : D S q q.length = [] := by simp [D]
theorem D_net {S : List Bar} (h : Net S) (q : List Bar) (j : Nat) : Net (D S q j) := ⟨fun b hb => h.1 b ((D_sub S q j b).1 hb).1, h.2.filter _⟩
theorem D_succ {S q : List Bar} (hq : q.Nodup) {j : Nat} (hj : j < q.length) : (D S q j).filter (fun b => decide (b ≠ q[j])) = D S q (j + 1) := by
  rw [D, List.filter_filter, D]
  refine List.filter_congr fun b _ => ?_
  have e : q.drop j = q[j] :: q.drop (j + 1) := List.drop_eq_getElem_cons hj
  have hn : q[j] ∉ q.drop (j + 1) := by
    have := hq.sublist (List.drop_sublist j q)
    rw [e] at this
    exact (List.nodup_cons.1 this).1
  rw [e]
  by_cases h : b = q[j]
  · subst h; simp [hn]
  · have h2 : (b ∈ q[j] :: q.drop (j + 1)) ↔ b ∈ q.drop (j + 1) := by
      rw [List.mem_cons]
      exact ⟨fun o => o.resolve_left h, .inr⟩
    rw [show decide (b ∈ q[j] :: q.drop (j + 1)) = decide (b ∈ q.drop (j + 1)) from decide_eq_decide.2 h2]
    simp [h]
theorem D_mem {S q : List Bar} (h : ∀ b ∈ q, b ∈ S) {j : Nat} (hj : j < q.length) : q[j] ∈ D S q j := by
  rw [D_sub]
  refine ⟨h _ (List.getElem_mem hj), ?_⟩
  rw [List.drop_eq_getElem_cons hj]
  exact List.mem_cons_self
theorem D_minus {S q : List Bar} (hS : Net S) (hq : q.Nodup) {j : Nat} (hj : j < q.length) : mergeM (D S q j) [q[j]] = D S q (j + 1) := by
  rw [mergeM_one (D_net hS q j).2, D_succ hq hj]
theorem D_union {S q : List Bar} (hS : Net S) (h : ∀ b ∈ q, b ∈ S) (hq : q.Nodup) {j : Nat} (hj : j < q.length) : mergeU (D S q (j + 1)) [q[j]] = D S q j := by
  rw [← D_succ hq hj]
  exact mergeU_one (D_net hS q j).2 (D_mem h hj)
theorem D_len {S q : List Bar} (hS : Net S) (h : ∀ b ∈ q, b ∈ S) (hq : q.Nodup) (h0 : ∀ b ∈ S, b ∈ q) (hl : S.length = q.length) : ∀ {j : Nat}, j ≤ q.length → (D S q j).length + j = q.length
  | 0, _ => by rw [D_zero h0]; exact hl
  | j + 1, hj => by
    have ih := D_len hS h hq h0 hl (j := j) (by omega)
    have := filter_length (D_net hS q j).2 (D_mem h (show j < q.length by omega))
    rw [D_succ hq (show j < q.length by omega)] at this
    omega

/-! ### the order of the bars -/
def barAt (S : List Bar) (i : Nat) : Bar := S.getD i ⟨0, 0, 0⟩
def qL (S : List Bar) (p : List Nat) : List Bar := p.map (barAt S)
theorem qL_perm {S : List Bar} {p : List Nat} (h : p.Perm (List.range S.length)) : (qL S p).Perm S := by
  refine (h.map (barAt S)).trans (List.Perm.of_eq ?_)
  refine List.ext_getElem (by simp) fun i h1 h2 => ?_
  simp [barAt, List.getD_eq_getElem?_getD, h2]
theorem qL_facts {S : List Bar} {p : List Nat} (hS : Net S) (h : p.Perm (List.range S.length)) : (qL S p).Nodup ∧ (∀ b ∈ qL S p, b ∈ S) ∧ (∀ b ∈ S, b ∈ qL S p) ∧ S.length = (qL S p).length ∧ p.length = S.length := by
  have hp := qL_perm h
  exact ⟨hp.nodup_iff.2 hS.nodup, fun b hb => hp.mem_iff.1 hb, fun b hb => hp.mem_iff.2 hb, hp.length_eq.symm, by rw [h.length_eq, List.length_range]⟩
theorem order_lt {S : List Bar} {p : List Nat} (h : p.Perm (List.range S.length)) {j : Nat} (hj : j < p.length) : p[j] < S.length := List.mem_range.1 (h.mem_iff.1 (List.getElem_mem hj))
theorem qL_at {S : List Bar} {p : List Nat} {j i : Nat} (hj : j < p.length) (hi : i < S.length) (e : p[j] = i) (hq : j < (qL S p).length) : (qL S p)[j] = S[i] := by
  subst e
  simp [qL, barAt, List.getD_eq_getElem?_getD, hi]

/-! ### memory -/
def OrdAt (w : World) (g : Nat) (p : List Nat) : Prop := g < w.heap.size ∧ ∀ j (h : j < p.length), w.cell? ⟨g, j, none⟩ = some (.int .i64 (p[j] : Int))
theorem OrdAt.below {w w' : World} {g : Nat} {p : List Nat} (h : OrdAt w g p) (hb : Below w.heap.size w w') : OrdAt w' g p :=
  ⟨Nat.lt_of_lt_of_le h.1 hb.size, fun j hj => (hb.cell (p := ⟨g, j, none⟩) h.1).trans (h.2 j hj)⟩
theorem icells_at (p : List Nat) (j : Nat) (h : j < p.length) : (icells p)[j]? = some (.int .i64 (p[j] : Int)) := by
  simp [icells, h]
theorem own_ord {w : World} {base : Nat} {v : Value} {n : Nat} {p : List Nat} (h : w.ownsRow base 3 1 v n (icells p)) (hn : 0 < n) (hp : p.length = n) : ∃ g c, v = .slice (some ⟨g, 0, none⟩) n c ∧ OrdAt w g p ∧ n ≤ c ∧ c ≤ maxLen := by
  rcases h.2 with ⟨rfl, hz⟩ | ⟨g, cap, cur, rfl, _, hgb, h1, h2, _⟩
  · omega
  · refine ⟨g, cap, rfl, ⟨(Array.getElem?_eq_some_iff.1 hgb).1, fun j hj => ?_⟩, h1, h2⟩
    have hc := h.cells (g := g) rfl
    have := hc _ _ (icells_at p j hj)
    rw [add0] at this
    simpa using this
def DrawPost' (n : Nat) (w : World) (e : Ending) (w' : World) : Prop :=
  ∃ g c p, e = .returned (.slice (some ⟨g, 0, none⟩) n c) ∧ List.Perm p (List.range n) ∧ OrdAt w' g p ∧ n ≤ c ∧ c ≤ maxLen ∧ Below w.heap.size w w'
theorem drawS (key : Int) (n : Nat) (w : World) (hk0 : 0 ≤ key) (hk1 : key < 2147483647) (hn : n ≤ 4096) (h1 : 0 < n) :
    Calls Try.prog 16 #[.int .i64 key, .int .i64 n] w (DrawPost' n w) :=
  (refDraw key n w hk0 hk1 hn).mono fun e w' ⟨v, p, he, hp, hrow, hb⟩ => by
    obtain ⟨g, c, rfl, ho, h3, h4⟩ := own_ord hrow h1 (by rw [hp.length_eq, List.length_range])
    exact ⟨g, c, p, he, hp, ho, h3, h4, hb⟩
theorem sheetS (x y : Int) (c r : Nat) (w : World) (hE : sheetE x y c r = 0) :
    Calls Try.prog 14 #[.agg #[.int .i64 x, .int .i64 y], .int .i64 c, .int .i64 r] w (PairPost (sheetP x y c r) w) :=
  (netSheet x y c r w hE).mono fun e w' ⟨v, he, hrow, hb⟩ => by
    obtain ⟨a, c', rfl, hok⟩ := own_oks hrow
    exact ⟨a, c', he, hok, hb⟩
theorem minusS (A A' : Option Addr) (c c' : Nat) (l l' u : List Bar) (w : World) (hu : mergeM l l' = u) (hl : l.length ≤ 2000) (hl' : l'.length ≤ 2000) (hN : Net l) (hN' : Net l') (h : OKS w A c l) (h' : OKS w A' c' l') :
    Calls Try.prog 17 #[.slice A l.length c, .slice A' l'.length c'] w (PairPost u w) :=
  (netMinus A A' c c' l l' w (by omega) (by omega) h.1 h.2.1 h'.1 h'.2.1 hN hN' h.2.2.2 h'.2.2.2).mono fun e w' ⟨v, he, hrow, hb⟩ => by
    subst hu
    obtain ⟨a, c', rfl, hok⟩ := own_oks hrow
    exact ⟨a, c', he, hok, hb⟩
theorem one_oks (w : World) (b : Bar) (t : TypeId) : OKS (w.alloc (.cells #[.int .i64 b.x, .int .i64 b.y, .int .i64 b.s] t)) (some ⟨w.heap.size, 0, none⟩) 1 [b] := by
  obtain ⟨w1, hw1, h0, h1, h2, hb, hz⟩ := box3 w (.int .i64 b.x) (.int .i64 b.y) (.int .i64 b.s) t
  rw [← hw1]
  refine ⟨by simp, by unfold maxLen; omega, (fun e => by cases e), fun _ => ⟨w.heap.size, 0, rfl, hz, fun i hi => ?_⟩⟩
  have : i = 0 := by simpa using hi
  subst this
  simpa using ⟨h0, h1, h2⟩
theorem wbar_net {S : List Bar} (hS : Net S) {b : Bar} (hb : b ∈ S) : Net [b] := ⟨fun x hx => by simp at hx; subst hx; exact hS.1 _ hb, by simp⟩

/-- The cells of the numbers seen. -/
noncomputable def ccells (S q : List Bar) (j : Nat) : List Value := (List.range j).flatMap fun i => [.int .i64 (ct0 (D S q i)), .int .i64 (ct1 (D S q i)), .int .i64 (ct2 (D S q i)), .int .i64 (ct3 (D S q i)), .int .i64 (ct4 (D S q i))]
theorem ccells_succ (S q : List Bar) (j : Nat) : ccells S q (j + 1) = ccells S q j ++ [.int .i64 (ct0 (D S q j)), .int .i64 (ct1 (D S q j)), .int .i64 (ct2 (D S q j)), .int .i64 (ct3 (D S q j)), .int .i64 (ct4 (D S q j))] := by
  simp [ccells, List.range_succ]
theorem ccells_length (S q : List Bar) : ∀ j, (ccells S q j).length = j * 5
  | 0 => by simp [ccells]
  | j + 1 => by rw [ccells_succ, List.length_append, ccells_length S q j]; simp; omega
theorem ccells_at (S q : List Bar) : ∀ {n j : Nat}, j < n → (ccells S q n)[j * 5]? = some (.int .i64 (ct0 (D S q j))) ∧ (ccells S q n)[j * 5 + 1]? = some (.int .i64 (ct1 (D S q j))) ∧ (ccells S q n)[j * 5 + 2]? = some (.int .i64 (ct2 (D S q j))) ∧
    (ccells S q n)[j * 5 + 3]? = some (.int .i64 (ct3 (D S q j))) ∧ (ccells S q n)[j * 5 + 4]? = some (.int .i64 (ct4 (D S q j)))
  | n + 1, j, h => by
    rw [ccells_succ]
    by_cases hj : j < n
    · obtain ⟨h0, h1, h2, h3, h4⟩ := ccells_at S q hj
      have hl := ccells_length S q n
      refine ⟨?_, ?_, ?_, ?_, ?_⟩ <;> rw [List.getElem?_append_left (by omega)] <;> assumption
    · obtain rfl : j = n := by omega
      have hl := ccells_length S q j
      refine ⟨?_, ?_, ?_, ?_, ?_⟩ <;> rw [List.getElem?_append_right (by omega)] <;> simp [hl]
end Go.Proofs.Ytkplpmhdmlkjhaa

/- Contracts of plus, the shift's closure, barBetween. -/
namespace Go.Proofs.Ytkplpmhdmlkjhaa
open Go.RowKit

set_option maxHeartbeats 1000000 in
set_option maxRecDepth 100000 in
theorem netPlus (x y a b : Int) (w : World) (h1 : -1000000 ≤ x) (h2 : x ≤ 1000000) (h3 : -1000000 ≤ y) (h4 : y ≤ 1000000) (k1 : -1000000 ≤ a) (k2 : a ≤ 1000000) (k3 : -1000000 ≤ b) (k4 : b ≤ 1000000) :
    Calls Try.prog 49 #[.agg #[.int .i64 x, .int .i64 y], .agg #[.int .i64 a, .int .i64 b]] w fun e w' => e = .returned (.agg #[.int .i64 (x + a), .int .i64 (y + b)]) ∧ Below w.heap.size w w' := by
  go_enter Try.func49, Try.ntmps49
  go_wp2
  exact bodyPost_ret (v := .agg #[.int .i64 (x + a), .int .i64 (y + b)]) (by simp [results, Try.results49, go_sem]) rfl ⟨rfl, (((Below.refl _ _).alloc (Nat.le_refl _) _).alloc (by simp) _).alloc (by simp; omega) _⟩

set_option maxHeartbeats 1000000 in
set_option maxRecDepth 100000 in
theorem netBetweenUp (x y a b : Int) (w : World) (h1 : -1000000 ≤ x) (h2 : x ≤ 1000000) (k1 : -1000000 ≤ a) (k2 : a ≤ 1000000) (hle : y ≤ b) :
    Calls Try.prog 68 #[.agg #[.int .i64 x, .int .i64 y], .agg #[.int .i64 a, .int .i64 b]] w fun e w' => e = .returned (.agg #[.int .i64 x, .int .i64 y, .int .i64 (a - x)]) ∧ Below w.heap.size w w' := by
  have hn : ¬ b < y := by omega
  go_enter Try.func68, Try.ntmps68
  go_wp2
  exact bodyPost_ret (v := .agg #[.int .i64 x, .int .i64 y, .int .i64 (a - x)]) (by simp [results, Try.results68, go_sem]) rfl ⟨rfl, (((Below.refl _ _).alloc (Nat.le_refl _) _).alloc (by simp) _).alloc (by simp; omega) _⟩

set_option maxHeartbeats 1000000 in
set_option maxRecDepth 100000 in
theorem netWithin (A : Option Addr) (c : Nat) (l : List Ck.Bar) (w : World) (hl : l.length ≤ 4096) (hc : l.length ≤ c) (hcm : c ≤ maxLen) (hN : Ck.Net l) (h : RB w w.heap.size A l) :
    Calls Try.prog 25 #[.slice A l.length c] w fun e w' => e = .returned (.tuple #[.slice A l.length c, .int .i64 0]) ∧ Below w.heap.size w w' := by
  have HE := Lib.hid ((netE_zero l).2 ⟨hl, hN⟩)
  have HR := Lib.hid h
  clear h hN
  go_enter Try.func25, Try.ntmps25
  go_wp2_with fail
  refine (netCheckNet A c l _ hl hc hcm HR.out).mono ?_
  rintro e w1 ⟨rfl, hb1⟩
  rw [HE.out]
  go_wp2
  go_ret2
  exact ⟨rfl, hb1⟩
end Go.Proofs.Ytkplpmhdmlkjhaa

/- The contract of the shift's closure. -/
namespace Go.Proofs.Ytkplpmhdmlkjhaa
open Go.RowKit

theorem box22 (w : World) (a b c d : Value) (t t' : TypeId) : ∃ w1, w1 = (w.alloc (.cells #[a, b] t)).alloc (.cells #[c, d] t') ∧ w1.cell? ⟨w.heap.size, 0, none⟩ = some a ∧ w1.cell? ⟨w.heap.size, 1, none⟩ = some b ∧
    w1.heap[w.heap.size + 1]? = some (.cells #[c, d] t' (0, 0)) ∧ Below w.heap.size w w1 ∧ w.heap.size + 1 < w1.heap.size := by
  obtain ⟨w0, rfl, h0, h1, hb0, hz⟩ := box2 w a b t
  have hs : (w.alloc (.cells #[a, b] t)).heap.size = w.heap.size + 1 := by simp
  have hb : Below (w.alloc (.cells #[a, b] t)).heap.size (w.alloc (.cells #[a, b] t)) ((w.alloc (.cells #[a, b] t)).alloc (.cells #[c, d] t')) := (Below.refl _ _).alloc (Nat.le_refl _) _
  exact ⟨_, rfl, (hb.cell (p := ⟨_, _, none⟩) hz).trans h0, (hb.cell (p := ⟨_, _, none⟩) hz).trans h1, by rw [← hs]; exact heap_alloc_new _ _, hb0.trans (hb.mono (by omega)), by simp⟩

set_option maxHeartbeats 1000000 in
set_option maxRecDepth 100000 in
theorem shiftClosure (x y a b : Int) (g : Nat) (w : World) (h1 : -1000000 ≤ x) (h2 : x ≤ 1000000) (h3 : -1000000 ≤ y) (h4 : y ≤ 1000000) (k1 : -1000000 ≤ a) (k2 : a ≤ 1000000) (k3 : -1000000 ≤ b) (k4 : b ≤ 1000000)
    (hg : g < w.heap.size) (c0 : w.cell? ⟨g, 0, none⟩ = some (.int .i64 a)) (c1 : w.cell? ⟨g, 1, none⟩ = some (.int .i64 b)) :
    Calls Try.prog 48 #[.agg #[.int .i64 x, .int .i64 y], .pointer (some ⟨g, 0, none⟩)] w fun e w' => e = .returned (.agg #[.int .i64 (x + a), .int .i64 (y + b)]) ∧ Below w.heap.size w w' := by
  obtain ⟨w0, hw0, d0, d1, hr, hb0, hz0⟩ := box22 w (.int .i64 x) (.int .i64 y) (.int .i64 0) (.int .i64 0) 61 61
  have hne : w.heap.size ≠ g := by omega
  have hne2 : w.heap.size + 1 ≠ g := by omega
  have e0 : ((w.alloc (.cells #[.int .i64 x, .int .i64 y] 61)).alloc (.cells #[.int .i64 0, .int .i64 0] 61)).cell? ⟨g, 0, none⟩ = some (.int .i64 a) := by rw [← hw0]; exact (hb0.cell (p := ⟨g, _, none⟩) hg).trans c0
  have e1 : ((w.alloc (.cells #[.int .i64 x, .int .i64 y] 61)).alloc (.cells #[.int .i64 0, .int .i64 0] 61)).cell? ⟨g, 1, none⟩ = some (.int .i64 b) := by rw [← hw0]; exact (hb0.cell (p := ⟨g, _, none⟩) hg).trans c1
  have HW := Lib.hid hw0
  have HR := Lib.hid hr
  clear hw0 hr
  go_enter Try.func48, Try.ntmps48
  go_wp2_with fail
  rw [← HW.out]
  refine (netPlus x y a b _ h1 h2 h3 h4 k1 k2 k3 k4).mono ?_
  rintro e w1 ⟨rfl, hb1⟩
  have hr1 := (hb1.block _ hz0).trans HR.out
  have hz1 := Nat.lt_of_lt_of_le hz0 hb1.size
  obtain ⟨t0, t1, tf⟩ := two_of_block hr1
  clear hr1 c0 c1 d0 d1 e0 e1
  go_wp2
  exact bodyPost_ret (v := .agg #[.int .i64 (x + a), .int .i64 (y + b)]) (by simp [results, Try.results48, go_sem, t0, t1]) rfl ⟨rfl, ((hb0.trans (hb1.mono (by omega))).setCell (by simp) _).setCell (by simp) _⟩
end Go.Proofs.Ytkplpmhdmlkjhaa

/- Plain mathematics of two nets that are far from one another. -/
namespace Go.Proofs.Ytkplpmhdmlkjhaa
open Ck

def Near (l : List Bar) : Prop := ∀ b ∈ l, -200 ≤ b.x ∧ b.x ≤ 200 ∧ -200 ≤ b.y ∧ b.y ≤ 200
def farL (l : List Bar) : List Bar := l.map (Bar.shift 1000 1000)
theorem farL_mem {l : List Bar} {b : Bar} (h : b ∈ farL l) : ∃ c ∈ l, b = c.shift 1000 1000 := by
  obtain ⟨c, hc, rfl⟩ := List.mem_map.1 h
  exact ⟨c, hc, rfl⟩
theorem farL_net {l : List Bar} (hN : Net l) (hn : Near l) : Net (farL l) := by
  refine ⟨fun b hb => ?_, ?_⟩
  · obtain ⟨c, hc, rfl⟩ := farL_mem hb
    obtain ⟨⟨_, _, h3⟩, h4, _⟩ := hN.1 c hc
    obtain ⟨n1, n2, n3, n4⟩ := hn c hc
    simp only [Bar.lo] at h3
    simp only [okBar, okKnot, inPlace, Bar.lo, Bar.hi, Bar.shift]
    refine ⟨⟨⟨by omega, by omega⟩, ⟨by omega, by omega⟩, by omega⟩, h4, ⟨?_, ?_⟩, ⟨by omega, by omega⟩⟩
    · rcases h4 with h | h <;> rw [h] <;> omega
    · rcases h4 with h | h <;> rw [h] <;> omega
  · rw [farL, List.pairwise_map]
    exact hN.2.imp (fun {a b} h => by simp only [Blt, Bar.shift] at h ⊢; omega)
theorem near_far {a b : List Bar} (ha : Near a) (hb : Near b) : ∀ x ∈ a, ∀ y ∈ farL b, Blt x y := by
  intro x hx y hy
  obtain ⟨c, hc, rfl⟩ := farL_mem hy
  have h1 := ha x hx
  have h2 := hb c hc
  simp only [Blt, Bar.shift]
  omega
theorem apart {a b : List Bar} (ha : Near a) (hb : Near b) : ∀ k ∈ ends a, k ∉ ends (farL b) := by
  intro k hk hk'
  obtain ⟨x, hx, h⟩ := mem_ends.1 hk
  obtain ⟨y, hy, h'⟩ := mem_ends.1 hk'
  obtain ⟨c, hc, rfl⟩ := farL_mem hy
  have h1 := ha x hx
  have h2 := hb c hc
  have e1 : k.y ≤ 201 := by rcases h with rfl | rfl <;> simp only [Bar.lo, Bar.hi] <;> omega
  have e2 : 800 ≤ k.y := by rcases h' with rfl | rfl <;> simp only [Bar.lo, Bar.hi, Bar.shift] <;> omega
  omega
/-- The numbers of a near net and a far one, together, are the sums. -/
theorem apart_sums {a b : List Bar} (ha : Near a) (hb : Near b) {p q z : Nat} (hp : PartsIs a p) (hq : PartsIs b q) (hz : PartsIs (a ++ farL b) z) :
    nK (a ++ farL b) = nK a + nK b ∧ nM (a ++ farL b) = nM a + nM b ∧ z = p + q ∧ (a ++ farL b).length = a.length + b.length := by
  refine ⟨?_, ?_, ?_, ?_⟩
  · rw [nK_add (apart ha hb), farL, nK_shift]
  · rw [nM_add (fun x hx => (ha x hx).2.2.2) (fun y hy => by
      obtain ⟨c, hc, rfl⟩ := farL_mem hy
      have := hb c hc
      simp only [Bar.shift]
      omega), farL, nM_shift]
  · exact CntIs.det hz (PartsIs.add (apart ha hb) hp (PartsIs.shift 1000 1000 hq))
  · rw [List.length_append, farL, List.length_map]
end Go.Proofs.Ytkplpmhdmlkjhaa

/- The sort of the library laid at this program, at bars and at knots. -/
namespace Go.Proofs.Ytkplpmhdmlkjhaa
open Go.Shelf
def Try.sortB_ren : Go.Shelf.Ren := ⟨fun | 6 => 69 | 15 => 73 | 14 => 79 | 28 => 88 | 29 => 89 | 20 => 91 | 21 => 92 | 22 => 93 | 23 => 94 | 24 => 95 | 25 => 96 | 26 => 97 | 27 => 98 | 46 => 104 | 47 => 100 | 48 => 101 | 49 => 105 | 50 => 106 | 57 => 108 | n => n, fun | 22 => 22 | 24 => 50 | 25 => 92 | 3 => 3 | 39 => 114 | 0 => 0 | 53 => 130 | 55 => 132 | 4 => 4 | 46 => 123 | 45 => 122 | 50 => 127 | 5 => 5 | 9 => 9 | 66 => 139 | 70 => 143 | 76 => 147 | 77 => 148 | n => n, fun | n => n⟩
theorem Try.sortB : Go.Proofs.SlLaysF0.n6 Try.prog Try.sortB_ren := {
  mixed := by kernel_rfl,
  f6 := ⟨Try.f69.name, by decide, Try.func69.trans (congrArg some (by kernel_rfl))⟩,
  f14 := ⟨Try.f79.name, by decide, Try.func79.trans (congrArg some (by kernel_rfl))⟩,
  f15 := Try.func73.trans (congrArg some (by kernel_rfl)),
  f20 := ⟨Try.f91.name, by decide, Try.func91.trans (congrArg some (by kernel_rfl))⟩,
  f21 := ⟨Try.f92.name, by decide, Try.func92.trans (congrArg some (by kernel_rfl))⟩,
  f22 := ⟨Try.f93.name, by decide, Try.func93.trans (congrArg some (by kernel_rfl))⟩,
  f23 := ⟨Try.f94.name, by decide, Try.func94.trans (congrArg some (by kernel_rfl))⟩,
  f24 := ⟨Try.f95.name, by decide, Try.func95.trans (congrArg some (by kernel_rfl))⟩,
  f25 := ⟨Try.f96.name, by decide, Try.func96.trans (congrArg some (by kernel_rfl))⟩,
  f26 := ⟨Try.f97.name, by decide, Try.func97.trans (congrArg some (by kernel_rfl))⟩,
  f27 := ⟨Try.f98.name, by decide, Try.func98.trans (congrArg some (by kernel_rfl))⟩,
  f28 := Try.func88.trans (congrArg some (by kernel_rfl)),
  f29 := Try.func89.trans (congrArg some (by kernel_rfl)),
  f46 := ⟨Try.f104.name, by decide, Try.func104.trans (congrArg some (by kernel_rfl))⟩,
  f47 := Try.func100.trans (congrArg some (by kernel_rfl)),
  f48 := Try.func101.trans (congrArg some (by kernel_rfl)),
  f49 := ⟨Try.f105.name, by decide, Try.func105.trans (congrArg some (by kernel_rfl))⟩,
  f50 := ⟨Try.f106.name, by decide, Try.func106.trans (congrArg some (by kernel_rfl))⟩,
  f57 := ⟨Try.f108.name, by decide, Try.func108.trans (congrArg some (by kernel_rfl))⟩,
  t0 := Try.underlying0,
  a0 := Try.isAgg0,
  z0 := Try.sizeOf0,
  v0 := Try.zeroValue0,
  t3 := Try.underlying3,
  a3 := Try.isAgg3,
  z3 := Try.sizeOf3,
  v3 := Try.zeroValue3,
  t4 := Try.underlying4,
  a4 := Try.isAgg4,
  z4 := Try.sizeOf4,
  v4 := Try.zeroValue4,
  t5 := Try.underlying5,
  a5 := Try.isAgg5,
  z5 := Try.sizeOf5,
  v5 := Try.zeroValue5,
  t9 := Try.underlying9,
  a9 := Try.isAgg9,
  z9 := Try.sizeOf9,
  v9 := Try.zeroValue9,
  t22 := Try.underlying22,
  a22 := Try.isAgg22,
  z22 := Try.sizeOf22,
  v22 := Try.zeroValue22,
  t25 := Try.underlying92,
  a25 := Try.isAgg92,
  z25 := Try.sizeOf92,
  v25 := Try.zeroValue92,
  t39 := Try.underlying114,
  a39 := Try.isAgg114,
  z39 := Try.sizeOf114,
  v39 := Try.zeroValue114,
  t45 := Try.underlying122,
  a45 := Try.isAgg122,
  z45 := Try.sizeOf122,
  v45 := Try.zeroValue122,
  t46 := Try.underlying123,
  a46 := Try.isAgg123,
  z46 := Try.sizeOf123,
  v46 := Try.zeroValue123,
  t50 := Try.underlying127,
  a50 := Try.isAgg127,
  z50 := Try.sizeOf127,
  v50 := Try.zeroValue127,
  t53 := Try.underlying130,
  a53 := Try.isAgg130,
  z53 := Try.sizeOf130,
  v53 := Try.zeroValue130,
  t55 := Try.underlying132,
  a55 := Try.isAgg132,
  z55 := Try.sizeOf132,
  v55 := Try.zeroValue132,
  t66 := Try.underlying139,
  a66 := Try.isAgg139,
  z66 := Try.sizeOf139,
  v66 := Try.zeroValue139,
  t70 := Try.underlying143,
  a70 := Try.isAgg143,
  z70 := Try.sizeOf143,
  v70 := Try.zeroValue143,
  t76 := Try.underlying147,
  a76 := Try.isAgg147,
  z76 := Try.sizeOf147,
  v76 := Try.zeroValue147,
  t77 := Try.underlying148,
  a77 := Try.isAgg148,
  z77 := Try.sizeOf148,
  v77 := Try.zeroValue148 }
def Try.sortK_ren : Go.Shelf.Ren := ⟨fun | 6 => 53 | 15 => 73 | 14 => 72 | 28 => 88 | 29 => 89 | 20 => 80 | 21 => 81 | 22 => 82 | 23 => 83 | 24 => 84 | 25 => 85 | 26 => 86 | 27 => 87 | 46 => 99 | 47 => 100 | 48 => 101 | 49 => 102 | 50 => 103 | 57 => 107 | n => n, fun | 22 => 36 | 24 => 30 | 25 => 70 | 3 => 3 | 39 => 114 | 0 => 0 | 53 => 130 | 55 => 132 | 4 => 4 | 46 => 123 | 45 => 122 | 50 => 127 | 5 => 5 | 9 => 9 | 66 => 139 | 70 => 143 | 76 => 147 | 77 => 148 | n => n, fun | n => n⟩
theorem Try.sortK : Go.Proofs.SlLaysF0.n6 Try.prog Try.sortK_ren := {
  mixed := by kernel_rfl,
  f6 := ⟨Try.f53.name, by decide, Try.func53.trans (congrArg some (by kernel_rfl))⟩,
  f14 := ⟨Try.f72.name, by decide, Try.func72.trans (congrArg some (by kernel_rfl))⟩,
  f15 := Try.func73.trans (congrArg some (by kernel_rfl)),
  f20 := ⟨Try.f80.name, by decide, Try.func80.trans (congrArg some (by kernel_rfl))⟩,
  f21 := ⟨Try.f81.name, by decide, Try.func81.trans (congrArg some (by kernel_rfl))⟩,
  f22 := ⟨Try.f82.name, by decide, Try.func82.trans (congrArg some (by kernel_rfl))⟩,
  f23 := ⟨Try.f83.name, by decide, Try.func83.trans (congrArg some (by kernel_rfl))⟩,
  f24 := ⟨Try.f84.name, by decide, Try.func84.trans (congrArg some (by kernel_rfl))⟩,
  f25 := ⟨Try.f85.name, by decide, Try.func85.trans (congrArg some (by kernel_rfl))⟩,
  f26 := ⟨Try.f86.name, by decide, Try.func86.trans (congrArg some (by kernel_rfl))⟩,
  f27 := ⟨Try.f87.name, by decide, Try.func87.trans (congrArg some (by kernel_rfl))⟩,
  f28 := Try.func88.trans (congrArg some (by kernel_rfl)),
  f29 := Try.func89.trans (congrArg some (by kernel_rfl)),
  f46 := ⟨Try.f99.name, by decide, Try.func99.trans (congrArg some (by kernel_rfl))⟩,
  f47 := Try.func100.trans (congrArg some (by kernel_rfl)),
  f48 := Try.func101.trans (congrArg some (by kernel_rfl)),
  f49 := ⟨Try.f102.name, by decide, Try.func102.trans (congrArg some (by kernel_rfl))⟩,
  f50 := ⟨Try.f103.name, by decide, Try.func103.trans (congrArg some (by kernel_rfl))⟩,
  f57 := ⟨Try.f107.name, by decide, Try.func107.trans (congrArg some (by kernel_rfl))⟩,
  t0 := Try.underlying0,
  a0 := Try.isAgg0,
  z0 := Try.sizeOf0,
  v0 := Try.zeroValue0,
  t3 := Try.underlying3,
  a3 := Try.isAgg3,
  z3 := Try.sizeOf3,
  v3 := Try.zeroValue3,
  t4 := Try.underlying4,
  a4 := Try.isAgg4,
  z4 := Try.sizeOf4,
  v4 := Try.zeroValue4,
  t5 := Try.underlying5,
  a5 := Try.isAgg5,
  z5 := Try.sizeOf5,
  v5 := Try.zeroValue5,
  t9 := Try.underlying9,
  a9 := Try.isAgg9,
  z9 := Try.sizeOf9,
  v9 := Try.zeroValue9,
  t22 := Try.underlying36,
  a22 := Try.isAgg36,
  z22 := Try.sizeOf36,
  v22 := Try.zeroValue36,
  t25 := Try.underlying70,
  a25 := Try.isAgg70,
  z25 := Try.sizeOf70,
  v25 := Try.zeroValue70,
  t39 := Try.underlying114,
  a39 := Try.isAgg114,
  z39 := Try.sizeOf114,
  v39 := Try.zeroValue114,
  t45 := Try.underlying122,
  a45 := Try.isAgg122,
  z45 := Try.sizeOf122,
  v45 := Try.zeroValue122,
  t46 := Try.underlying123,
  a46 := Try.isAgg123,
  z46 := Try.sizeOf123,
  v46 := Try.zeroValue123,
  t50 := Try.underlying127,
  a50 := Try.isAgg127,
  z50 := Try.sizeOf127,
  v50 := Try.zeroValue127,
  t53 := Try.underlying130,
  a53 := Try.isAgg130,
  z53 := Try.sizeOf130,
  v53 := Try.zeroValue130,
  t55 := Try.underlying132,
  a55 := Try.isAgg132,
  z55 := Try.sizeOf132,
  v55 := Try.zeroValue132,
  t66 := Try.underlying139,
  a66 := Try.isAgg139,
  z66 := Try.sizeOf139,
  v66 := Try.zeroValue139,
  t70 := Try.underlying143,
  a70 := Try.isAgg143,
  z70 := Try.sizeOf143,
  v70 := Try.zeroValue143,
  t76 := Try.underlying147,
  a76 := Try.isAgg147,
  z76 := Try.sizeOf147,
  v76 := Try.zeroValue147,
  t77 := Try.underlying148,
  a77 := Try.isAgg148,
  z77 := Try.sizeOf148,
  v77 := Try.zeroValue148 }
end Go.Proofs.Ytkplpmhdmlkjhaa

/- A row of the call's own with elements of k cells, before and behind the library's sort. -/
namespace Go.Proofs.Ytkplpmhdmlkjhaa
open Go.RowKit Go.Sort

variable {α : Type} [Inhabited α]
theorem flat_at (enc : α → List Value) (k : Nat) (hk : ∀ x, (enc x).length = k) : ∀ (ss : List α) (t : Nat), t < ss.length * k → (ss.flatMap enc)[t]? = some ((enc (ss[t / k]!))[t % k]!)
  | [], t, h => by simp at h
  | a :: r, t, h => by
    have k0 : 0 < k := by
      rcases Nat.eq_zero_or_pos k with h0 | h0
      · subst h0; simp at h
      · exact h0
    rw [List.flatMap_cons]
    by_cases ht : t < k
    · rw [List.getElem?_append_left (by rw [hk]; exact ht), Nat.div_eq_of_lt ht, Nat.mod_eq_of_lt ht]
      have : t < (enc a).length := by rw [hk]; exact ht
      simp [this]
    · have h1 : t - k < r.length * k := by
        have : (a :: r).length * k = r.length * k + k := by rw [List.length_cons, Nat.add_mul, Nat.one_mul]
        omega
      have e1 : t / k = (t - k) / k + 1 := by
        have e := Nat.add_div_right (t - k) k0
        rwa [Nat.sub_add_cancel (by omega)] at e
      have e2 : t % k = (t - k) % k := by
        have e := Nat.add_mod_right (t - k) k
        rw [Nat.sub_add_cancel (by omega)] at e
        exact e
      rw [List.getElem?_append_right (by rw [hk]; omega), hk, flat_at enc k hk r (t - k) h1, e1, e2]
      simp
omit [Inhabited α] in
theorem flat_length (enc : α → List Value) (k : Nat) (hk : ∀ x, (enc x).length = k) : ∀ (ss : List α), (ss.flatMap enc).length = ss.length * k
  | [] => by simp
  | a :: r => by rw [List.flatMap_cons, List.length_append, hk, flat_length enc k hk r, List.length_cons, Nat.add_mul, Nat.one_mul]; omega
theorem flatK_list (enc : α → List Value) (k : Nat) (hk : ∀ x, (enc x).length = k) (ss : List α) : flatK enc k ss.toArray = (ss.flatMap enc).toArray := by
  refine ext_get! (by simp [flat_length enc k hk]) fun t ht => ?_
  have ht' : t < ss.length * k := by simpa using ht
  rw [get_flatK enc k _ t (by simpa using ht')]
  have h := flat_at enc k hk ss t ht'
  rw [getElem!_pos _ t (by simpa [flat_length enc k hk] using ht')]
  rw [List.getElem?_eq_getElem (by rw [flat_length enc k hk]; exact ht'), Option.some.injEq] at h
  rw [List.getElem_toArray, h]
  simp
theorem holdsK_of_row (enc : α → List Value) (k : Nat) (hk : ∀ x, (enc x).length = k) {w : World} {g : Nat} {cur : Array Value} {e : TypeId} (ss : List α) (hb : w.heap[g]? = some (.cells cur e (0, 0))) (ht : cur.toList.take (ss.length * k) = ss.flatMap enc) :
    HoldsK enc k w g 0 ss.toArray := by
  unfold HoldsK
  rw [flatK_list enc k hk]
  intro j hj
  have hj' : j < ss.length * k := by simpa [flat_length enc k hk] using hj
  refine ⟨?_, by simp [World.frozen?, hb]⟩
  have h1 : (cur.toList.take (ss.length * k))[j]? = (ss.flatMap enc)[j]? := by rw [ht]
  rw [List.getElem?_take_of_lt hj', flat_at enc k hk ss j hj'] at h1
  have h2 := flat_at enc k hk ss j hj'
  have h3 : (ss.flatMap enc).toArray[j]! = (enc ss[j / k]!)[j % k]! := by
    rw [getElem!_pos _ j hj, List.getElem_toArray]
    rw [List.getElem?_eq_getElem (by rw [flat_length enc k hk]; exact hj'), Option.some.injEq] at h2
    exact h2
  rw [h3]
  simp only [World.cell?, hb, Nat.zero_add, id]
  simp only [Option.isSome_none, Bool.false_eq_true, if_false]
  rw [← Array.getElem?_toList, h1]
theorem take_put (cur : Array Value) (ts : List Value) (h : ts.length ≤ cur.size) : (putCells id 0 ts.toArray cur).toList.take ts.length = ts := by
  apply List.ext_getElem?
  intro j
  by_cases hj : j < ts.length
  · rw [List.getElem?_take_of_lt hj, Array.getElem?_toList]
    simp [putCells, hj, show j < cur.size by omega]
  · rw [List.getElem?_take_eq_none (by omega), List.getElem?_eq_none (by omega)]
theorem sorted_heap {w : World} {g m : Nat} {os : Array Obj} {cur : Array Value} {e : TypeId} {fr : Nat × Nat} (F : Array Value) (hb : w.heap[g]? = some (.cells cur e fr)) :
    (grow (putRow id (Sort.ahead w m) g 0 F) os).heap[g]? = some (.cells (putCells id 0 F cur) e fr) := by
  have hg : g < w.heap.size := (Array.getElem?_eq_some_iff.1 hb).1
  rw [heap_grow_old _ _ (by simpa using hg)]
  simp [putRow, mapBlock, Sort.ahead, Array.getElem?_modify, hb, onCells]
theorem sorted_grown {w : World} {g m : Nat} {os : Array Obj} (F : Array Value) : w.grownBy (grow (putRow id (Sort.ahead w m) g 0 F) os) (some g) := by
  refine ⟨rfl, rfl, rfl, by simp, fun k hk hne => ?_⟩
  rw [heap_grow_old _ _ (by simpa using hk)]
  have : g ≠ k := fun e => hne (by rw [e])
  simp [putRow, mapBlock, Sort.ahead, Array.getElem?_modify, this]
/-- Behind the sort the same slice owns the cells of the permuted elements. -/
theorem sorted_owns (enc : α → List Value) (k : Nat) (hk : ∀ x, (enc x).length = k) {w : World} {base g cap m : Nat} {e : TypeId} {os : Array Obj} {cur : Array Value} (ss : List α) (hbase : base ≤ g) (hb : w.heap[g]? = some (.cells cur e (0, 0)))
    (h1 : ss.length ≤ cap) (h2 : cap ≤ maxLen) (h3 : cur.size = cap * k) :
    (sortWorldK enc k w g 0 m ss.toArray os).ownsRow base e k (.slice (some ⟨g, 0, none⟩) ss.length cap) ss.length (ss.flatMap enc) ∧ (base ≤ w.heap.size → Below base w (sortWorldK enc k w g 0 m ss.toArray os)) := by
  unfold sortWorldK putRowK
  rw [flatK_list enc k hk]
  refine ⟨⟨flat_length enc k hk ss, .inr ⟨g, cap, _, rfl, hbase, sorted_heap _ hb, h1, h2, by simp [putCells, h3], ?_⟩⟩, fun hB => (Below.refl _ _).grown (sorted_grown _) hB (fun j e => by cases e; exact hbase)⟩
  have hle : (ss.flatMap enc).length ≤ cur.size := by rw [flat_length enc k hk, h3]; exact Nat.mul_le_mul_right k h1
  have := take_put cur (ss.flatMap enc) hle
  rwa [flat_length enc k hk] at this
end Go.Proofs.Ytkplpmhdmlkjhaa

/- The library's sort at bars by compareBars. -/
namespace Go.Proofs.Ytkplpmhdmlkjhaa
open Go.RowKit Go.Sort Go.Shelf

instance (a b : Ck.Bar) : Decidable (Ck.Blt a b) := by unfold Ck.Blt; infer_instance
instance : Inhabited Ck.Bar := ⟨⟨0, 0, 0⟩⟩
instance : Inhabited Ck.Knot := ⟨⟨0, 0⟩⟩
theorem ltBars (x y : Ck.Bar) : ltOf cmpB x y = decide (Ck.Blt x y) := by
  unfold ltOf
  rw [decide_eq_decide, cmpB_lt_iff]
theorem swoBars : SWO (ltOf cmpB) where
  irrefl x := by rw [ltBars, decide_eq_false_iff_not]; exact fun h => h.irrefl
  trans x y z h1 h2 := by
    rw [ltBars, decide_eq_true_eq] at *
    exact h1.trans h2
  ntrans x y z h1 h2 := by
    rw [ltBars, decide_eq_false_iff_not] at *
    unfold Ck.Blt at *
    omega
theorem totBars (x y : Ck.Bar) (h1 : ltOf cmpB x y = false) (h2 : ltOf cmpB y x = false) : x = y := by
  rw [ltBars, decide_eq_false_iff_not] at *
  rcases Ck.Blt.tri x y with h | h | h
  · exact absurd h h1
  · exact h
  · exact absurd h h2
theorem layBars (blk off size : Nat) (w : World) : CmpLays Try.prog 51 #[] bcells 3 cmpB blk off size w := fun _ _ _ _ x y =>
  (netCompareBars x.x x.y x.s y.x y.y y.s _).mono fun e w' h => by
    obtain ⟨he, rfl⟩ := h
    exact ⟨he, 1, _, by rw [alloc_eq_grow, alloc_eq_grow, alloc_eq_grow, grow_grow, grow_grow]; rfl⟩

def leB (x y : Ck.Bar) : Bool := !(ltOf cmpB y x)
def sortBars (l : List Ck.Bar) : List Ck.Bar := l.mergeSort leB
theorem leB_iff (x y : Ck.Bar) : leB x y = true ↔ ¬ Ck.Blt y x := by simp [leB, ltBars]
theorem sortBars_perm (l : List Ck.Bar) : (sortBars l).Perm l := List.mergeSort_perm l leB
theorem sortBars_sorted (l : List Ck.Bar) : (sortBars l).Pairwise fun x y => ¬ Ck.Blt y x := by
  have := List.pairwise_mergeSort (le := leB) (fun a b c h1 h2 => by rw [leB_iff] at *; unfold Ck.Blt at *; omega) (fun a b => by rw [Bool.or_eq_true, leB_iff, leB_iff]; unfold Ck.Blt; omega) l
  exact this.imp fun {a b} h => (leB_iff a b).1 h
theorem sortBars_strict {l : List Ck.Bar} (hn : l.Nodup) : (sortBars l).Pairwise Ck.Blt := by
  have h1 := sortBars_sorted l
  have h2 : (sortBars l).Nodup := (sortBars_perm l).nodup_iff.2 hn
  exact h1.imp₂ (fun a b h k => by
    rcases Ck.Blt.tri a b with h' | h' | h'
    · exact h'
    · exact absurd h' k
    · exact absurd h' h) h2
theorem sortBars_net {l : List Ck.Bar} (h : l.Pairwise Ck.Blt) : sortBars l = l :=
  List.Perm.eq_of_pairwise (le := fun a b => ¬ Ck.Blt b a) (fun a b _ _ h1 h2 => by
    rcases Ck.Blt.tri a b with h' | h' | h'
    · exact absurd h' h2
    · exact h'
    · exact absurd h' h1) (sortBars_sorted l) (h.imp fun {a b} h k => (h.trans k).irrefl) (sortBars_perm l)

theorem netSortBars (base : Nat) (v : Value) (l : List Ck.Bar) (w : World) (hl : l.length ≤ 100000) (hB : base ≤ w.heap.size) (h : w.ownsRow base 50 3 v l.length (bcellsL l)) :
    Calls Try.prog 69 #[v, .func (.func 51) #[] #[]] w fun e w' => e = .returned (.tuple #[]) ∧ w'.ownsRow base 50 3 v l.length (bcellsL (sortBars l)) ∧ Below base w w' := by
  have eg : ∀ args w, (callFunc 51 args).run Try.prog w = .ok (.enter 51 args) w := enters_of Try.func51 (by kernel_rfl) rfl
  rcases h.2 with ⟨rfl, hz⟩ | ⟨g, cap, cur, rfl, hbase, hgb, r1, r2, r3, r4⟩
  · have hl0 : l = [] := List.eq_nil_of_length_eq_zero hz
    subst hl0
    have hc := AnyF.slices_SortFunc_none Try.sortB none 0 (.func (.func 51) #[] #[]) w
    change Calls Try.prog 69 _ _ _ at hc
    exact hc.mono fun e w' ⟨he, hw⟩ => ⟨he, by rw [hw]; exact ⟨by simp [sortBars, bcellsL], .inl ⟨rfl, rfl⟩⟩, by rw [hw]; exact Below.refl _ _⟩
  · have hH := holdsK_of_row bcells 3 (fun _ => rfl) l hgb (r4.trans rfl)
    have hgl : g < w.heap.size := (Array.getElem?_eq_some_iff.1 hgb).1
    have hc := AnyQ.slices_SortFunc_total Try.sortB 3 Try.isAgg50 Try.sizeOf50 bcells (fun _ => rfl) (fun x v hv => by simp [bcells] at hv; rcases hv with rfl | rfl | rfl <;> rfl) cmpB swoBars 51 #[] g 0 cap l.toArray w eg (layBars g 0 _ w) hH hgl (by simp; omega) totBars
    change Calls Try.prog 69 _ _ _ at hc
    rw [List.size_toArray] at hc
    refine hc.mono fun e w' ⟨he, n, os, hw⟩ => ?_
    have hs : (l.toArray.toList.mergeSort fun x y => !(ltOf cmpB) y x) = sortBars l := rfl
    rw [hs] at hw
    have hp := (sortBars_perm l).length_eq
    obtain ⟨q1, q2⟩ := sorted_owns bcells 3 (fun _ => rfl) (m := n) (os := os) (sortBars l) hbase hgb (by rw [hp]; exact r1) r2 r3
    rw [hp] at q1
    rw [hw]
    exact ⟨he, q1, q2 hB⟩
end Go.Proofs.Ytkplpmhdmlkjhaa
