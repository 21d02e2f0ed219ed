/- TopCorkApart returns true for every two lists of bars, valid or not, and leaves both as they were. Conditions: none. -/
import Derived.Test.YtgbpemphddpelaaA3
/- The contract of the reference's Sorted, at a list that ascends already. -/
namespace Go.Proofs.Ytgbpemphddpelaa
open Go.RowKit

def OwnPost (l : List Ck.Bar) (w : World) (e : Ending) (w' : World) : Prop :=
  ∃ v, e = .returned v ∧ w'.ownsRow w.heap.size 50 3 v l.length (bcellsL l) ∧ Below w.heap.size w w'

theorem keepQ {W w1 w2 : World} {b o : Nat} {x y s : Value} (h : w1.cell? ⟨b, o, none⟩ = some x ∧ w1.cell? ⟨b, o + 1, none⟩ = some y ∧ w1.cell? ⟨b, o + 2, none⟩ = some s ∧ Below W.heap.size W w1 ∧ b < W.heap.size) (hb : Below W.heap.size w1 w2) :
    w2.cell? ⟨b, o, none⟩ = some x ∧ w2.cell? ⟨b, o + 1, none⟩ = some y ∧ w2.cell? ⟨b, o + 2, none⟩ = some s ∧ Below W.heap.size W w2 ∧ b < W.heap.size := by
  obtain ⟨h0, h1, h2, h3, h4⟩ := h
  exact ⟨(hb.cell (p := ⟨b, _, none⟩) h4).trans h0, (hb.cell (p := ⟨b, _, none⟩) h4).trans h1, (hb.cell (p := ⟨b, _, none⟩) h4).trans h2, h3.trans hb, h4⟩
theorem belQ {W w1 : World} {b o : Nat} {x y s : Value} (h : w1.cell? ⟨b, o, none⟩ = some x ∧ w1.cell? ⟨b, o + 1, none⟩ = some y ∧ w1.cell? ⟨b, o + 2, none⟩ = some s ∧ Below W.heap.size W w1 ∧ b < W.heap.size) : Below W.heap.size W w1 := h.2.2.2.1
theorem three_far {w w' : World} {H : Nat} {a b c : Value} {t : TypeId} {row : Option Nat} (hH : w.heap[H]? = some (.cells #[a, b, c] t (0, 0))) (hg : w.grownBy w' row) (hne : some H ≠ row) : ∀ (j : Nat) (u : Value), [a, b, c][j]? = some u → w'.cell? ((⟨H, 0, none⟩ : Addr).add j) = some u :=
  World.news_of_block ((hg.block H (Array.getElem?_eq_some_iff.1 hH).1 hne).trans hH)
theorem new2 (w : World) (o : Obj) (a b c : Value) (t : TypeId) : ((w.alloc o).alloc (.cells #[a, b, c] t)).heap[w.heap.size + 1]? = some (.cells #[a, b, c] t (0, 0)) := by
  have := heap_alloc_new (w.alloc o) (.cells #[a, b, c] t)
  rwa [World.size_alloc] at this
theorem new1 (w : World) (o : Obj) (a b c : Value) (t : TypeId) : ((w.alloc (.cells #[a, b, c] t)).alloc o).heap[w.heap.size]? = some (.cells #[a, b, c] t (0, 0)) :=
  (Below.heap_alloc _ _ _ (by simp)).trans (heap_alloc_new _ _)
theorem empty_row2 (w : World) (o : Obj) (base : Nat) (hb : base ≤ w.heap.size) (t : TypeId) (size : Nat) : ((w.alloc o).alloc (.cells #[] t)).ownsRow base t size (.slice (some ⟨w.heap.size + 1, 0, none⟩) 0 0) 0 [] := by
  have := empty_row (w.alloc o) base (by simp; omega) t size
  rwa [World.size_alloc] at this
theorem srt_row {w6 : World} {base B g cap p : Nat} {l : List Ck.Bar} (hlt : p < l.length) (hB : B ≤ base) (h : w6.ownsRow base 50 3 (.slice (some ⟨g, 0, none⟩) (0 + p + 1) cap) (0 + p + 1) ([] ++ bcellsL (l.take p) ++ [.int .i64 l[p].x, .int .i64 l[p].y, .int .i64 l[p].s])) :
    Hid (w6.ownsRow B 50 3 (.slice (some ⟨g, 0, none⟩) (p + 1) cap) (p + 1) (bcellsL (l.take (p + 1)))) := by
  rw [List.take_succ_eq_append_getElem hlt, bcellsL, List.flatMap_append, ← bcellsL]
  rw [Nat.zero_add, List.nil_append] at h
  exact ownsRow_mono h hB
theorem srt_row0 {w6 : World} {base B g cap : Nat} {l : List Ck.Bar} (hlt : 0 < l.length) (hB : B ≤ base) (h : w6.ownsRow base 50 3 (.slice (some ⟨g, 0, none⟩) (0 + 1) cap) (0 + 1) ([] ++ [.int .i64 l[0].x, .int .i64 l[0].y, .int .i64 l[0].s])) :
    Hid (w6.ownsRow B 50 3 (.slice (some ⟨g, 0, none⟩) 1 cap) 1 (bcellsL (l.take 1))) := by
  rw [List.take_succ_eq_append_getElem hlt, bcellsL, List.flatMap_append]
  exact ownsRow_mono h hB
theorem grewQ {B : Nat} {w1 w2 : World} {base : Nat} {e : TypeId} {size n : Nat} {v : Value} {xs : List Value} (h : w1.ownsRow base e size v n xs) (hB : B ≤ base) (hz : B ≤ w1.heap.size) (hg : w1.grownBy w2 v.ownBlock) : Below B w1 w2 :=
  (Below.refl _ _).grown hg hz (fun k e => Nat.le_trans hB (ownsRow_base h k e))

set_option maxHeartbeats 4000000 in
set_option maxRecDepth 100000 in
theorem refSortedUp (A : Option Addr) (c : Nat) (l : List Ck.Bar) (w : World) (hl : l.length ≤ 4096) (hs : l.Pairwise Ck.Blt) (h : RB w w.heap.size A l) :
    Calls Try.prog 19 #[.slice A l.length c] w (OwnPost l w) := by
  obtain ⟨ib, hib, hb0, hb01, hb02⟩ := info_parts Try.info50
  have HIB := Lib.hid hib
  have HB0 := Lib.hid hb0
  have HB1 := Lib.hid hb01
  have HB2 := Lib.hid hb02
  have HR := Lib.hid h
  have HS := Lib.hid hs
  have hl' : (l.length : Int) ≤ 4096 := by omega
  clear hib hb0 hb01 hb02 h hs
  go_enter Try.func19, Try.ntmps19
  go_wp2_with fail
  go_loopw [3, 4, 5] (fun v i _ wr => ∃ k : Nat, k ≤ l.length ∧ i = .int .i64 k ∧ Hid (wr.ownsRow w.heap.size 50 3 v k (bcellsL (l.take k))) ∧ Hid (k = 0 → v = .slice none 0 0) ∧ Below w.heap.size w wr) (fun _ i _ _ => l.length - (intOf i).toNat)
  case atStart => exact ⟨0, Nat.zero_le _, rfl, ⟨rfl, .inl ⟨rfl, rfl⟩⟩, fun _ => rfl, Below.refl _ _⟩
  case round =>
    obtain ⟨k, hk, rfl, hown, hnil, hb⟩ := hrel
    have hbz := hb.size
    by_cases hlt : k < l.length
    · have HRw := Lib.hid (HR.out.below hb)
      obtain ⟨b, off, rfl, hB, hc⟩ := HRw.out (by omega)
      obtain ⟨d0, d1, d2⟩ := hc k hlt
      have HC := Lib.hid hc
      have hki : (k : Int) < (l.length : Int) := by omega
      have hk0 : (0 : Int) ≤ (k : Int) := by omega
      have hbw : b < wr.heap.size := by omega
      clear hc
      by_cases hz : k = 0
      · subst hz
        have HV := Lib.hid (hnil.out rfl)
        rw [HV.out]
        generalize wr = wo at *
        go_wp2_with fail
        go_loopw [5] (fun at' wi => at' = .int .i64 0 ∧ Below wo.heap.size wo wi) (fun _ _ => 0)
        case atStart => exact ⟨rfl, Below.refl _ _⟩
        case round =>
          obtain ⟨rfl, hbi⟩ := hrel
          go_wp2_with fail
          go_quiet (fail)
          have hb8 := below_drewN hbi nq
          generalize World.drewN wr nq = W8 at *
          clear nq
          go_wp2_with fail
          go_quiet (fail)
          have hb9 := below_drewN hb8 nq
          generalize World.drewN W8 nq = W9 at *
          go_wp2_with fail
          have hs9 := hb9.size
          have e0 := (hb9.cell (p := ⟨b, off + 0 * 3, none⟩) hbw).trans d0
          have e1 := (hb9.cell (p := ⟨b, off + 0 * 3 + 1, none⟩) hbw).trans d1
          have e2 := (hb9.cell (p := ⟨b, off + 0 * 3 + 2, none⟩) hbw).trans d2
          rw [Nat.zero_mul, Nat.add_zero] at e0 e1 e2
          clear d0 d1 d2
          go_region_held3 (fun w' => w'.cell? ⟨b, off, none⟩ = some (.int .i64 l[0].x) ∧ w'.cell? ⟨b, off + 1, none⟩ = some (.int .i64 l[0].y) ∧ w'.cell? ⟨b, off + 2, none⟩ = some (.int .i64 l[0].s) ∧ Below wo.heap.size wo w' ∧ b < wo.heap.size)
              (first
                | exact ⟨e0, e1, e2, below_drew hb9, hbw⟩
                | assumption
                | exact keepQ (by assumption) ((Below.refl _ _).alloc (belQ (by assumption)).size _)
                | exact keepQ (by assumption) (by assumption))
              (first
                | (refine step_append_none rfl (.tmp 44) (.tmp 47) 22 rfl wo.heap.size 50 ib 3 Try.underlying22 HIB.out (.slice (some ⟨W9.heap.size, 0, none⟩) 0 0) 0 [] ?_ (by first | exact empty_row _ _ (by first | omega | (simp; omega)) _ _ | exact (empty_row _ _ (by first | omega | (simp; omega)) _ _).alloc _) ?_ ?_; (· rfl); (· rfl))
                | (refine step_append_none rfl (.tmp 44) (.tmp 47) 22 rfl wo.heap.size 50 ib 3 Try.underlying22 HIB.out (.slice (some ⟨W9.heap.size + 1, 0, none⟩) 0 0) 0 [] ?_ (by exact empty_row2 _ _ _ (by first | omega | (simp; omega)) _ _) ?_ ?_; (· rfl); (· rfl))
                | (refine step_append_lies _ rfl (.tmp 48) (.tmp 53) 22 rfl wo.heap.size 50 ib (.agg #[.int .i64 0, .int .i64 0, .int .i64 0]) 3 24 Try.underlying22 HIB.out HB0.out HB1.out HB2.out rfl (by decide) (.slice (some ⟨W9.heap.size, 0, none⟩) 0 0) 0 [] ?_ (by first | exact empty_row _ _ (by first | omega | (simp; omega)) _ _ | exact (empty_row _ _ (by first | omega | (simp; omega)) _ _).alloc _) ⟨W9.heap.size + 1, 0, none⟩ 1 1 [.int .i64 l[0].x, .int .i64 l[0].y, .int .i64 l[0].s] ?_ rfl (by exact World.news_of_block (new2 _ _ _ _ _ _)) (by intro u hu; simp at hu; rcases hu with rfl | rfl | rfl <;> rfl) (by decide) (by unfold maxLen; omega) (by omega) (by first | omega | (simp; omega)) _ rfl ?_; (· (simp [Act.eval, Act.put]; done)); (· (simp [Act.eval, Act.put]; done)); intro g2 cap2 w6 hown6 hgrow6 hat6 hlt6; have hQ6 := grewQ (B := wo.heap.size) (base := wo.heap.size) (e := 50) (size := 3) (n := 0) (xs := []) (by first | exact empty_row _ _ (by first | omega | (simp; omega)) _ _ | exact (empty_row _ _ (by first | omega | (simp; omega)) _ _).alloc _) (Nat.le_refl _) (by first | omega | (simp; omega)) hgrow6)
                | (refine step_append_lies _ rfl (.tmp 48) (.tmp 53) 22 rfl wo.heap.size 50 ib (.agg #[.int .i64 0, .int .i64 0, .int .i64 0]) 3 24 Try.underlying22 HIB.out HB0.out HB1.out HB2.out rfl (by decide) (.slice (some ⟨W9.heap.size + 1, 0, none⟩) 0 0) 0 [] ?_ (by exact empty_row2 _ _ _ (by first | omega | (simp; omega)) _ _) ⟨W9.heap.size, 0, none⟩ 1 1 [.int .i64 l[0].x, .int .i64 l[0].y, .int .i64 l[0].s] ?_ rfl (by exact World.news_of_block (new1 _ _ _ _ _ _)) (by intro u hu; simp at hu; rcases hu with rfl | rfl | rfl <;> rfl) (by decide) (by unfold maxLen; omega) (by omega) (by first | omega | (simp; omega)) _ rfl ?_; (· (simp [Act.eval, Act.put]; done)); (· (simp [Act.eval, Act.put]; done)); intro g2 cap2 w6 hown6 hgrow6 hat6 hlt6; have hQ6 := grewQ (B := wo.heap.size) (base := wo.heap.size) (e := 50) (size := 3) (n := 0) (xs := []) (by exact empty_row2 _ _ _ (by first | omega | (simp; omega)) _ _) (Nat.le_refl _) (by first | omega | (simp; omega)) hgrow6)
                | (refine step_append_none rfl (.tmp 54) (.tmp 57) 22 rfl wo.heap.size 50 ib 3 Try.underlying22 HIB.out (.slice (some ⟨g2, 0, none⟩) (0 + 1) cap2) (0 + 1) ([] ++ [.int .i64 l[0].x, .int .i64 l[0].y, .int .i64 l[0].s]) ?_ hown6 ?_ ?_; (· (first | rfl | (simp [Act.eval, Act.put]; done))); (· rfl))
                | fail)
          all_goals
            have hrow6 := srt_row0 hlt hbz hown6
            have hbel6 := hb.trans ((belQ (by assumption)).mono hbz)
            clear hown6 hgrow6 hat6
            go_wp2
            go_roundw
            case rel => exact ⟨1, by omega, by go_num, by first | exact hrow6 | (simp only [Nat.zero_add]; exact hrow6), fun h => by omega, hbel6⟩
            case measure => simp [intOf]; omega
      · obtain ⟨g, cap, rfl, hg, hkc, hcm, hgz⟩ := own_form hown.out (by omega)
        have hkt : (l.take k).length = k := by rw [List.length_take]; omega
        have HO := Lib.hid (RB.of_own (l := l.take k) (n := k) (by
          have h9 := hown.out
          rw [hkt]
          exact h9))
        have HKT := Lib.hid hkt
        clear hkt
        generalize wr = wo at *
        go_wp2_with fail
        go_loopw [5] (fun at' wi => ∃ p : Nat, p ≤ k ∧ at' = .int .i64 p ∧ Below wo.heap.size wo wi) (fun at' _ => k - (intOf at').toNat)
        case atStart => exact ⟨0, Nat.zero_le _, rfl, Below.refl _ _⟩
        case round =>
          obtain ⟨p, hp, rfl, hbi⟩ := hrel
          by_cases hpk : p < k
          · obtain ⟨_, _, hcell⟩ : ∃ b' off', _ := HO.out.below hbi (by rw [HKT.out]; omega)
            obtain ⟨hA', _, hcell⟩ := hcell
            cases hA'
            obtain ⟨f0, f1, f2⟩ := hcell p (by rw [HKT.out]; exact hpk)
            rw [List.getElem_take] at f0 f1 f2
            simp only [Nat.zero_add] at f0 f1 f2
            replace d0 := (hbi.cell (p := ⟨b, off + k * 3, none⟩) hbw).trans d0
            replace d1 := (hbi.cell (p := ⟨b, off + k * 3 + 1, none⟩) hbw).trans d1
            replace d2 := (hbi.cell (p := ⟨b, off + k * 3 + 2, none⟩) hbw).trans d2
            have hpl : p < l.length := by omega
            have HL := Lib.hid (show lessB l[p].x l[p].y l[p].s l[k].x l[k].y l[k].s = true from (lessB_iff l[p] l[k]).2 (List.pairwise_iff_getElem.1 HS.out p k hpl hlt hpk))
            have hg1 : decide (p < k) = true := by simpa using hpk
            have hg2 : decide ((p : Int) < (k : Int)) = true := by simpa using hpk
            have hp0 : (0 : Int) ≤ (p : Int) := by omega
            have hpi : (p : Int) < (k : Int) := by omega
            clear hcell
            go_wp2_with fail
            have hw1 : IntKind.i64.wrap (p : Int) = (p : Int) := by rw [IntKind.wrap_i64]; omega
            have hw2 : IntKind.i64.wrap (k : Int) = (k : Int) := by rw [IntKind.wrap_i64]; omega
            refine wp_region_still_tail 13 (by kernel_rfl) (by kernel_rfl) ?_
            simp only [List.take_succ_cons, List.take_zero, List.drop_succ_cons, List.drop_zero]
            repeat still_step
            refine wpStill_nil ?_
            change wpList _ _ _ _ _ wr.drew
            clear hw1 hw2
            go_wp2_with fail
            refine (refLess _ _ _ _ _ _ _).mono ?_
            rintro e w2 ⟨rfl, hb3⟩
            rw [HL.out]
            go_wp2
            go_roundw
            case rel => exact ⟨p + 1, by omega, by go_num, (below_drew hbi).trans (hb3.mono hbi.size)⟩
            case measure => simp [intOf]; omega
          · obtain rfl : p = k := by omega
            have hg1 : decide (p < p) = false := by simp
            have hg2 : decide ((p : Int) < (p : Int)) = false := by simp
            go_wp2_with fail
            go_quiet (fail)
            have hb8 := below_drewN hbi nq
            generalize World.drewN wr nq = W8 at *
            clear nq
            go_wp2_with fail
            go_quiet (fail)
            have hb9 := below_drewN hb8 nq
            generalize World.drewN W8 nq = W9 at *
            go_wp2_with fail
            have hs9 := hb9.size
            have e0 := (hb9.cell (p := ⟨b, off + p * 3, none⟩) hbw).trans d0
            have e1 := (hb9.cell (p := ⟨b, off + p * 3 + 1, none⟩) hbw).trans d1
            have e2 := (hb9.cell (p := ⟨b, off + p * 3 + 2, none⟩) hbw).trans d2
            clear hg1 hg2 d0 d1 d2
            go_region_held3 (fun w' => w'.cell? ⟨b, off + p * 3, none⟩ = some (.int .i64 l[p].x) ∧ w'.cell? ⟨b, off + p * 3 + 1, none⟩ = some (.int .i64 l[p].y) ∧ w'.cell? ⟨b, off + p * 3 + 2, none⟩ = some (.int .i64 l[p].s) ∧ Below wo.heap.size wo w' ∧ b < wo.heap.size)
              (first
                | exact ⟨e0, e1, e2, below_drew hb9, hbw⟩
                | assumption
                | exact keepQ (by assumption) ((Below.refl _ _).alloc (belQ (by assumption)).size _)
                | exact keepQ (by assumption) (by assumption))
              (first
                | (refine step_append_lies _ rfl (.tmp 44) (.tmp 47) 22 rfl wo.heap.size 50 ib (.agg #[.int .i64 0, .int .i64 0, .int .i64 0]) 3 24 Try.underlying22 HIB.out HB0.out HB1.out HB2.out rfl (by decide) (.slice (some ⟨W9.heap.size, 0, none⟩) 0 0) 0 [] ?_ (by first | exact empty_row _ _ (by first | omega | (simp; omega)) _ _ | exact (empty_row _ _ (by first | omega | (simp; omega)) _ _).alloc _) ⟨g, 0, none⟩ p cap (bcellsL (l.take p)) ?_ (by rw [bcellsL_length, HKT.out]) (by exact (HO.out.below (belQ (by assumption))).news (by rw [HKT.out]; omega)) (bcellsL_one _) (by omega) (by unfold maxLen; omega) (by omega) (by first | omega | (simp; omega)) _ rfl ?_; (· rfl); (· rfl); intro g1 cap1 w5 hown5 hgrow5 hat5 hlt5; have hQ5 := grewQ (B := wo.heap.size) (base := wo.heap.size) (e := 50) (size := 3) (n := 0) (xs := []) (by first | exact empty_row _ _ (by first | omega | (simp; omega)) _ _ | exact (empty_row _ _ (by first | omega | (simp; omega)) _ _).alloc _) (Nat.le_refl _) (by first | omega | (simp; omega)) hgrow5)
                | (refine step_append_lies _ rfl (.tmp 44) (.tmp 47) 22 rfl wo.heap.size 50 ib (.agg #[.int .i64 0, .int .i64 0, .int .i64 0]) 3 24 Try.underlying22 HIB.out HB0.out HB1.out HB2.out rfl (by decide) (.slice (some ⟨W9.heap.size + 1, 0, none⟩) 0 0) 0 [] ?_ (by exact empty_row2 _ _ _ (by first | omega | (simp; omega)) _ _) ⟨g, 0, none⟩ p cap (bcellsL (l.take p)) ?_ (by rw [bcellsL_length, HKT.out]) (by exact (HO.out.below (belQ (by assumption))).news (by rw [HKT.out]; omega)) (bcellsL_one _) (by omega) (by unfold maxLen; omega) (by omega) (by first | omega | (simp; omega)) _ rfl ?_; (· rfl); (· rfl); intro g1 cap1 w5 hown5 hgrow5 hat5 hlt5; have hQ5 := grewQ (B := wo.heap.size) (base := wo.heap.size) (e := 50) (size := 3) (n := 0) (xs := []) (by exact empty_row2 _ _ _ (by first | omega | (simp; omega)) _ _) (Nat.le_refl _) (by first | omega | (simp; omega)) hgrow5)
                | (refine step_append_lies _ rfl (.tmp 48) (.tmp 53) 22 rfl wo.heap.size 50 ib (.agg #[.int .i64 0, .int .i64 0, .int .i64 0]) 3 24 Try.underlying22 HIB.out HB0.out HB1.out HB2.out rfl (by decide) (.slice (some ⟨g1, 0, none⟩) (0 + p) cap1) (0 + p) ([] ++ bcellsL (l.take p)) ?_ (by first | exact hown5 | exact hown5.alloc _) ⟨w5.heap.size, 0, none⟩ 1 1 [.int .i64 l[p].x, .int .i64 l[p].y, .int .i64 l[p].s] ?_ rfl (by exact three_new _ _ _ _ _) (by intro u hu; simp at hu; rcases hu with rfl | rfl | rfl <;> rfl) (by decide) (by unfold maxLen; omega) (by omega) (by have := (belQ (by assumption)).size; first | omega | (simp; omega)) _ rfl ?_; (· (simp [Act.eval, Act.put]; done)); (· (simp [Act.eval, Act.put]; done)); intro g2 cap2 w6 hown6 hgrow6 hat6 hlt6; have hQ6 := grewQ (B := wo.heap.size) (base := wo.heap.size) (e := 50) (size := 3) (n := 0 + p) (xs := [] ++ bcellsL (l.take p)) (by first | exact hown5 | exact hown5.alloc _) (Nat.le_refl _) (by have := (belQ (by assumption)).size; first | omega | (simp; omega)) hgrow6)
                | (refine step_append_lies _ rfl (.tmp 48) (.tmp 53) 22 rfl wo.heap.size 50 ib (.agg #[.int .i64 0, .int .i64 0, .int .i64 0]) 3 24 Try.underlying22 HIB.out HB0.out HB1.out HB2.out rfl (by decide) (.slice (some ⟨g1, 0, none⟩) (0 + p) cap1) (0 + p) ([] ++ bcellsL (l.take p)) ?_ (by first | exact hown5 | exact hown5.alloc _) ⟨W9.heap.size + 1, 0, none⟩ 1 1 [.int .i64 l[p].x, .int .i64 l[p].y, .int .i64 l[p].s] ?_ rfl (by exact three_far (by first | exact new2 _ _ _ _ _ _ | exact new1 _ _ _ _ _ _) hgrow5 (by simp [Value.ownBlock])) (by intro u hu; simp at hu; rcases hu with rfl | rfl | rfl <;> rfl) (by decide) (by unfold maxLen; omega) (by omega) (by have := (belQ (by assumption)).size; first | omega | (simp; omega)) _ rfl ?_; (· (simp [Act.eval, Act.put]; done)); (· (simp [Act.eval, Act.put]; done)); intro g2 cap2 w6 hown6 hgrow6 hat6 hlt6; have hQ6 := grewQ (B := wo.heap.size) (base := wo.heap.size) (e := 50) (size := 3) (n := 0 + p) (xs := [] ++ bcellsL (l.take p)) (by first | exact hown5 | exact hown5.alloc _) (Nat.le_refl _) (by have := (belQ (by assumption)).size; first | omega | (simp; omega)) hgrow6)
                | (refine step_append_lies _ rfl (.tmp 48) (.tmp 53) 22 rfl wo.heap.size 50 ib (.agg #[.int .i64 0, .int .i64 0, .int .i64 0]) 3 24 Try.underlying22 HIB.out HB0.out HB1.out HB2.out rfl (by decide) (.slice (some ⟨g1, 0, none⟩) (0 + p) cap1) (0 + p) ([] ++ bcellsL (l.take p)) ?_ (by first | exact hown5 | exact hown5.alloc _) ⟨W9.heap.size, 0, none⟩ 1 1 [.int .i64 l[p].x, .int .i64 l[p].y, .int .i64 l[p].s] ?_ rfl (by exact three_far (by first | exact new2 _ _ _ _ _ _ | exact new1 _ _ _ _ _ _) hgrow5 (by simp [Value.ownBlock])) (by intro u hu; simp at hu; rcases hu with rfl | rfl | rfl <;> rfl) (by decide) (by unfold maxLen; omega) (by omega) (by have := (belQ (by assumption)).size; first | omega | (simp; omega)) _ rfl ?_; (· (simp [Act.eval, Act.put]; done)); (· (simp [Act.eval, Act.put]; done)); intro g2 cap2 w6 hown6 hgrow6 hat6 hlt6; have hQ6 := grewQ (B := wo.heap.size) (base := wo.heap.size) (e := 50) (size := 3) (n := 0 + p) (xs := [] ++ bcellsL (l.take p)) (by first | exact hown5 | exact hown5.alloc _) (Nat.le_refl _) (by have := (belQ (by assumption)).size; first | omega | (simp; omega)) hgrow6)
                | (refine step_append_zeroA rfl (.tmp 54) (.tmp 57) 22 rfl wo.heap.size 50 ib 3 Try.underlying22 HIB.out (.slice (some ⟨g2, 0, none⟩) (0 + p + 1) cap2) (0 + p + 1) ([] ++ bcellsL (l.take p) ++ [.int .i64 l[p].x, .int .i64 l[p].y, .int .i64 l[p].s]) ?_ hown6 (if cap = p then some ⟨g, 0, none⟩ else some ⟨g, p * 3, none⟩) (cap - p) ?_ (by split <;> exact ⟨_, rfl⟩) ?_; (· rfl); (· rfl))
                | fail)
            all_goals
              have hrow6 := srt_row hlt hbz hown6
              have hbel6 := hb.trans ((belQ (by assumption)).mono hbz)
              clear hown5 hown6 hgrow5 hgrow6 hat5 hat6
              go_wp2
              go_roundw
              case rel => exact ⟨p + 1, by omega, by go_num, by first | exact hrow6 | (simp only [Nat.zero_add]; exact hrow6), fun h => by omega, hbel6⟩
              case measure => simp [intOf]; omega
    · obtain rfl : k = l.length := by omega
      have hrow := hown.out
      rw [List.take_length] at hrow
      have HO := Lib.hid hrow
      clear hrow
      go_wp2
      go_ret
      exact ⟨_, rfl, HO.out, hb⟩
end Go.Proofs.Ytgbpemphddpelaa

/- Contracts of plus, the shift's closure, barBetween. -/
namespace Go.Proofs.Ytgbpemphddpelaa
open Go.RowKit

set_option maxHeartbeats 1000000 in
set_option maxRecDepth 100000 in
theorem netPlus (x y a b : Int) (w : World) (h1 : -1000000 ≤ x) (h2 : x ≤ 1000000) (h3 : -1000000 ≤ y) (h4 : y ≤ 1000000) (k1 : -1000000 ≤ a) (k2 : a ≤ 1000000) (k3 : -1000000 ≤ b) (k4 : b ≤ 1000000) :
    Calls Try.prog 49 #[.agg #[.int .i64 x, .int .i64 y], .agg #[.int .i64 a, .int .i64 b]] w fun e w' => e = .returned (.agg #[.int .i64 (x + a), .int .i64 (y + b)]) ∧ Below w.heap.size w w' := by
  go_enter Try.func49, Try.ntmps49
  go_wp2
  exact bodyPost_ret (v := .agg #[.int .i64 (x + a), .int .i64 (y + b)]) (by simp [results, Try.results49, go_sem]) rfl ⟨rfl, (((Below.refl _ _).alloc (Nat.le_refl _) _).alloc (by simp) _).alloc (by simp; omega) _⟩

set_option maxHeartbeats 1000000 in
set_option maxRecDepth 100000 in
theorem netBetweenUp (x y a b : Int) (w : World) (h1 : -1000000 ≤ x) (h2 : x ≤ 1000000) (k1 : -1000000 ≤ a) (k2 : a ≤ 1000000) (hle : y ≤ b) :
    Calls Try.prog 68 #[.agg #[.int .i64 x, .int .i64 y], .agg #[.int .i64 a, .int .i64 b]] w fun e w' => e = .returned (.agg #[.int .i64 x, .int .i64 y, .int .i64 (a - x)]) ∧ Below w.heap.size w w' := by
  have hn : ¬ b < y := by omega
  go_enter Try.func68, Try.ntmps68
  go_wp2
  exact bodyPost_ret (v := .agg #[.int .i64 x, .int .i64 y, .int .i64 (a - x)]) (by simp [results, Try.results68, go_sem]) rfl ⟨rfl, (((Below.refl _ _).alloc (Nat.le_refl _) _).alloc (by simp) _).alloc (by simp; omega) _⟩

set_option maxHeartbeats 1000000 in
set_option maxRecDepth 100000 in
theorem netWithin (A : Option Addr) (c : Nat) (l : List Ck.Bar) (w : World) (hl : l.length ≤ 4096) (hc : l.length ≤ c) (hcm : c ≤ maxLen) (hN : Ck.Net l) (h : RB w w.heap.size A l) :
    Calls Try.prog 25 #[.slice A l.length c] w fun e w' => e = .returned (.tuple #[.slice A l.length c, .int .i64 0]) ∧ Below w.heap.size w w' := by
  have HE := Lib.hid ((netE_zero l).2 ⟨hl, hN⟩)
  have HR := Lib.hid h
  clear h hN
  go_enter Try.func25, Try.ntmps25
  go_wp2_with fail
  refine (netCheckNet A c l _ hl hc hcm HR.out).mono ?_
  rintro e w1 ⟨rfl, hb1⟩
  rw [HE.out]
  go_wp2
  go_ret2
  exact ⟨rfl, hb1⟩
end Go.Proofs.Ytgbpemphddpelaa

/- The contract of the shift's closure. -/
namespace Go.Proofs.Ytgbpemphddpelaa
open Go.RowKit

theorem box22 (w : World) (a b c d : Value) (t t' : TypeId) : ∃ w1, w1 = (w.alloc (.cells #[a, b] t)).alloc (.cells #[c, d] t') ∧ w1.cell? ⟨w.heap.size, 0, none⟩ = some a ∧ w1.cell? ⟨w.heap.size, 1, none⟩ = some b ∧
    w1.heap[w.heap.size + 1]? = some (.cells #[c, d] t' (0, 0)) ∧ Below w.heap.size w w1 ∧ w.heap.size + 1 < w1.heap.size := by
  obtain ⟨w0, rfl, h0, h1, hb0, hz⟩ := box2 w a b t
  have hs : (w.alloc (.cells #[a, b] t)).heap.size = w.heap.size + 1 := by simp
  have hb : Below (w.alloc (.cells #[a, b] t)).heap.size (w.alloc (.cells #[a, b] t)) ((w.alloc (.cells #[a, b] t)).alloc (.cells #[c, d] t')) := (Below.refl _ _).alloc (Nat.le_refl _) _
  exact ⟨_, rfl, (hb.cell (p := ⟨_, _, none⟩) hz).trans h0, (hb.cell (p := ⟨_, _, none⟩) hz).trans h1, by rw [← hs]; exact heap_alloc_new _ _, hb0.trans (hb.mono (by omega)), by simp⟩

set_option maxHeartbeats 1000000 in
set_option maxRecDepth 100000 in
theorem shiftClosure (x y a b : Int) (g : Nat) (w : World) (h1 : -1000000 ≤ x) (h2 : x ≤ 1000000) (h3 : -1000000 ≤ y) (h4 : y ≤ 1000000) (k1 : -1000000 ≤ a) (k2 : a ≤ 1000000) (k3 : -1000000 ≤ b) (k4 : b ≤ 1000000)
    (hg : g < w.heap.size) (c0 : w.cell? ⟨g, 0, none⟩ = some (.int .i64 a)) (c1 : w.cell? ⟨g, 1, none⟩ = some (.int .i64 b)) :
    Calls Try.prog 48 #[.agg #[.int .i64 x, .int .i64 y], .pointer (some ⟨g, 0, none⟩)] w fun e w' => e = .returned (.agg #[.int .i64 (x + a), .int .i64 (y + b)]) ∧ Below w.heap.size w w' := by
  obtain ⟨w0, hw0, d0, d1, hr, hb0, hz0⟩ := box22 w (.int .i64 x) (.int .i64 y) (.int .i64 0) (.int .i64 0) 61 61
  have hne : w.heap.size ≠ g := by omega
  have hne2 : w.heap.size + 1 ≠ g := by omega
  have e0 : ((w.alloc (.cells #[.int .i64 x, .int .i64 y] 61)).alloc (.cells #[.int .i64 0, .int .i64 0] 61)).cell? ⟨g, 0, none⟩ = some (.int .i64 a) := by rw [← hw0]; exact (hb0.cell (p := ⟨g, _, none⟩) hg).trans c0
  have e1 : ((w.alloc (.cells #[.int .i64 x, .int .i64 y] 61)).alloc (.cells #[.int .i64 0, .int .i64 0] 61)).cell? ⟨g, 1, none⟩ = some (.int .i64 b) := by rw [← hw0]; exact (hb0.cell (p := ⟨g, _, none⟩) hg).trans c1
  have HW := Lib.hid hw0
  have HR := Lib.hid hr
  clear hw0 hr
  go_enter Try.func48, Try.ntmps48
  go_wp2_with fail
  rw [← HW.out]
  refine (netPlus x y a b _ h1 h2 h3 h4 k1 k2 k3 k4).mono ?_
  rintro e w1 ⟨rfl, hb1⟩
  have hr1 := (hb1.block _ hz0).trans HR.out
  have hz1 := Nat.lt_of_lt_of_le hz0 hb1.size
  obtain ⟨t0, t1, tf⟩ := two_of_block hr1
  clear hr1 c0 c1 d0 d1 e0 e1
  go_wp2
  exact bodyPost_ret (v := .agg #[.int .i64 (x + a), .int .i64 (y + b)]) (by simp [results, Try.results48, go_sem, t0, t1]) rfl ⟨rfl, ((hb0.trans (hb1.mono (by omega))).setCell (by simp) _).setCell (by simp) _⟩
end Go.Proofs.Ytgbpemphddpelaa

/- Plain mathematics of two nets that are far from one another. -/
namespace Go.Proofs.Ytgbpemphddpelaa
open Ck

def Near (l : List Bar) : Prop := ∀ b ∈ l, -200 ≤ b.x ∧ b.x ≤ 200 ∧ -200 ≤ b.y ∧ b.y ≤ 200
def farL (l : List Bar) : List Bar := l.map (Bar.shift 1000 1000)
theorem farL_mem {l : List Bar} {b : Bar} (h : b ∈ farL l) : ∃ c ∈ l, b = c.shift 1000 1000 := by
  obtain ⟨c, hc, rfl⟩ := List.mem_map.1 h
  exact ⟨c, hc, rfl⟩
theorem farL_net {l : List Bar} (hN : Net l) (hn : Near l) : Net (farL l) := by
  refine ⟨fun b hb => ?_, ?_⟩
  · obtain ⟨c, hc, rfl⟩ := farL_mem hb
    obtain ⟨⟨_, _, h3⟩, h4, _⟩ := hN.1 c hc
    obtain ⟨n1, n2, n3, n4⟩ := hn c hc
    simp only [Bar.lo] at h3
    simp only [okBar, okKnot, inPlace, Bar.lo, Bar.hi, Bar.shift]
    refine ⟨⟨⟨by omega, by omega⟩, ⟨by omega, by omega⟩, by omega⟩, h4, ⟨?_, ?_⟩, ⟨by omega, by omega⟩⟩
    · rcases h4 with h | h <;> rw [h] <;> omega
    · rcases h4 with h | h <;> rw [h] <;> omega
  · rw [farL, List.pairwise_map]
    exact hN.2.imp (fun {a b} h => by simp only [Blt, Bar.shift] at h ⊢; omega)
theorem near_far {a b : List Bar} (ha : Near a) (hb : Near b) : ∀ x ∈ a, ∀ y ∈ farL b, Blt x y := by
  intro x hx y hy
  obtain ⟨c, hc, rfl⟩ := farL_mem hy
  have h1 := ha x hx
  have h2 := hb c hc
  simp only [Blt, Bar.shift]
  omega
theorem apart {a b : List Bar} (ha : Near a) (hb : Near b) : ∀ k ∈ ends a, k ∉ ends (farL b) := by
  intro k hk hk'
  obtain ⟨x, hx, h⟩ := mem_ends.1 hk
  obtain ⟨y, hy, h'⟩ := mem_ends.1 hk'
  obtain ⟨c, hc, rfl⟩ := farL_mem hy
  have h1 := ha x hx
  have h2 := hb c hc
  have e1 : k.y ≤ 201 := by rcases h with rfl | rfl <;> simp only [Bar.lo, Bar.hi] <;> omega
  have e2 : 800 ≤ k.y := by rcases h' with rfl | rfl <;> simp only [Bar.lo, Bar.hi, Bar.shift] <;> omega
  omega
/-- The numbers of a near net and a far one, together, are the sums. -/
theorem apart_sums {a b : List Bar} (ha : Near a) (hb : Near b) {p q z : Nat} (hp : PartsIs a p) (hq : PartsIs b q) (hz : PartsIs (a ++ farL b) z) :
    nK (a ++ farL b) = nK a + nK b ∧ nM (a ++ farL b) = nM a + nM b ∧ z = p + q ∧ (a ++ farL b).length = a.length + b.length := by
  refine ⟨?_, ?_, ?_, ?_⟩
  · rw [nK_add (apart ha hb), farL, nK_shift]
  · rw [nM_add (fun x hx => (ha x hx).2.2.2) (fun y hy => by
      obtain ⟨c, hc, rfl⟩ := farL_mem hy
      have := hb c hc
      simp only [Bar.shift]
      omega), farL, nM_shift]
  · exact CntIs.det hz (PartsIs.add (apart ha hb) hp (PartsIs.shift 1000 1000 hq))
  · rw [List.length_append, farL, List.length_map]
end Go.Proofs.Ytgbpemphddpelaa

/- The contract of moved, by a shift's closure. -/
namespace Go.Proofs.Ytgbpemphddpelaa
open Go.RowKit

theorem made_row (w : World) (base n : Nat) (hb : base ≤ w.heap.size) (hn : n ≤ 4096) (cs : Array Value) (hcs : cs.size = n * 3) (t : TypeId) : (w.alloc (.cells cs t)).ownsRow base t 3 (.slice (some ⟨w.heap.size, 0, none⟩) 0 n) 0 [] :=
  ⟨by simp, .inr ⟨_, _, _, rfl, hb, heap_alloc_new _ _, Nat.zero_le _, by unfold maxLen; omega, hcs, by simp⟩⟩
def zeros3 (n : Nat) : Array Value := madeCells (Value.agg #[.int .i64 0, .int .i64 0, .int .i64 0]).cells (n * 3)

def K5 (W : World) (g g0 : Nat) (a b c d e : Value) (w0 : World) : Prop := w0.cell? ⟨g, 0, none⟩ = some a ∧ w0.cell? ⟨g, 1, none⟩ = some b ∧ w0.cell? ⟨g, 2, none⟩ = some c ∧ w0.cell? ⟨g0, 0, none⟩ = some d ∧ w0.cell? ⟨g0, 1, none⟩ = some e ∧ g < w0.heap.size ∧ g0 < w0.heap.size ∧ Below g W w0
theorem carry5 {W w0 w1 : World} {g g0 : Nat} {a b c d e : Value} (hb : Below w0.heap.size w0 w1) (h : K5 W g g0 a b c d e w0) : K5 W g g0 a b c d e w1 :=
  ⟨(hb.cell (p := ⟨g, _, none⟩) h.2.2.2.2.2.1).trans h.1, (hb.cell (p := ⟨g, _, none⟩) h.2.2.2.2.2.1).trans h.2.1, (hb.cell (p := ⟨g, _, none⟩) h.2.2.2.2.2.1).trans h.2.2.1, (hb.cell (p := ⟨g0, _, none⟩) h.2.2.2.2.2.2.1).trans h.2.2.2.1, (hb.cell (p := ⟨g0, _, none⟩) h.2.2.2.2.2.2.1).trans h.2.2.2.2.1, Nat.lt_of_lt_of_le h.2.2.2.2.2.1 hb.size, Nat.lt_of_lt_of_le h.2.2.2.2.2.2.1 hb.size, h.2.2.2.2.2.2.2.trans (hb.mono (Nat.le_of_lt h.2.2.2.2.2.1))⟩
theorem K5.below {W w0 : World} {g g0 : Nat} {a b c d e : Value} (h : K5 W g g0 a b c d e w0) : Below g W w0 := h.2.2.2.2.2.2.2

theorem mov_row {w10 : World} {base : Nat} {v : Value} {l : List Ck.Bar} {k : Nat} {dx dy : Int} (hlt : k < l.length) (h : w10.ownsRow base 50 3 v (k + 1) (bcellsL ((l.take k).map (Ck.Bar.shift dx dy)) ++ [.int .i64 (l[k].x + dx), .int .i64 (l[k].y + dy), .int .i64 l[k].s])) :
    Hid (w10.ownsRow base 50 3 v (k + 1) (bcellsL ((l.take (k + 1)).map (Ck.Bar.shift dx dy)))) := by
  rw [List.take_succ_eq_append_getElem hlt, List.map_append, bcellsL, List.flatMap_append, ← bcellsL]
  exact h
theorem mov_below {wr w9 w10 : World} {o : Obj} {base : Nat} {row : Option Nat} (hb : Below wr.heap.size wr w9) (hg : (w9.alloc o).grownBy w10 row) (hrow : ∀ k, row = some k → base ≤ k) (hbz : base ≤ wr.heap.size) : Below base wr w10 :=
  (((hb.mono hbz).alloc (Nat.le_trans hbz hb.size) _)).grown hg (by have := hb.size; simp; omega) hrow

def MovPost (l : List Ck.Bar) (dx dy : Int) (w : World) (e : Ending) (w' : World) : Prop :=
  ∃ v, e = .returned v ∧ w'.ownsRow w.heap.size 50 3 v l.length (bcellsL (sortBars (l.map (Ck.Bar.shift dx dy)))) ∧ Below w.heap.size w w'

set_option maxHeartbeats 4000000 in
set_option maxRecDepth 100000 in
theorem netMoved (A : Option Addr) (c g0 : Nat) (l : List Ck.Bar) (dx dy : Int) (w : World) (hl : l.length ≤ 4096) (hok : ∀ x ∈ l, Ck.okBar x) (h : RB w w.heap.size A l) (k1 : -500000 ≤ dx) (k2 : dx ≤ 500000) (k3 : -500000 ≤ dy) (k4 : dy ≤ 500000)
    (hg : g0 < w.heap.size) (c0 : w.cell? ⟨g0, 0, none⟩ = some (.int .i64 dx)) (c1 : w.cell? ⟨g0, 1, none⟩ = some (.int .i64 dy)) :
    Calls Try.prog 47 #[.slice A l.length c, .func (.func 48) #[] #[.pointer (some ⟨g0, 0, none⟩)]] w (MovPost l dx dy w) := by
  obtain ⟨ib, hib, hb0, hb01, hb02⟩ := info_parts Try.info50
  have hmk : ∀ W : World, (Instr.makeSlice 22 (.int .i64 0) (.int .i64 (l.length : Int))).run Try.prog W = .ok (.slice (some ⟨W.heap.size, 0, none⟩) 0 l.length) (W.alloc (.cells (zeros3 l.length) 50)) := fun W => by
    have := run_make (P := Try.prog) W 22 50 ib _ Try.underlying22 hib hb0 .i64 .i64 0 (l.length : Int) (by omega) (by omega) (by rw [hb02]; omega) (by omega)
    rw [hb01, Int.toNat_natCast] at this
    exact this
  have HIB := Lib.hid hib
  have HB0 := Lib.hid hb0
  have HB1 := Lib.hid hb01
  have HB2 := Lib.hid hb02
  have HR := Lib.hid h
  have hl' : (l.length : Int) ≤ 4096 := by omega
  clear hib hb0 hb01 hb02 h
  go_enter Try.func47, Try.ntmps47
  go_wp2_with fail
  go_loopw [5, 7, 13] (fun v _ i wi => ∃ k : Nat, k ≤ l.length ∧ i = .int .i64 k ∧ Hid (wi.ownsRow w.heap.size 50 3 v k (bcellsL ((l.take k).map (Ck.Bar.shift dx dy)))) ∧ Below w.heap.size w wi) (fun _ _ i _ => l.length - (intOf i).toNat)
  case atStart => exact ⟨0, Nat.zero_le _, rfl, made_row _ _ _ (Nat.le_refl _) hl _ (by rw [zeros3, size_madeCells]) _, (Below.refl _ _).alloc (Nat.le_refl _) _⟩
  case round =>
    obtain ⟨k, hk, rfl, hown, hb⟩ := hrel
    by_cases hlt : k < l.length
    · obtain ⟨b, off, rfl, hB, hc⟩ := HR.out.below hb (by omega)
      obtain ⟨d0, d1, d2⟩ := hc k hlt
      have hbz := hb.size
      obtain ⟨⟨⟨hx1, hx2⟩, ⟨hy1, hy2⟩, _⟩, hs, _⟩ := hok _ (List.getElem_mem hlt)
      replace hx1 : -100000 ≤ l[k].x := hx1
      replace hx2 : l[k].x ≤ 100000 := hx2
      replace hy1 : -100000 ≤ l[k].y := hy1
      replace hy2 : l[k].y ≤ 100000 := hy2
      have hs1 : -1 ≤ l[k].s := by omega
      have hs2 : l[k].s ≤ 1 := by omega
      have q0 := (hb.cell (p := ⟨g0, 0, none⟩) hg).trans c0
      have q1 := (hb.cell (p := ⟨g0, 1, none⟩) hg).trans c1
      clear hc hs
      go_wp2_with fail
      obtain ⟨w1, hw1, e0, e1, e2, hb1, hz1⟩ := box3 wr (.int .i64 l[k].x) (.int .i64 l[k].y) (.int .i64 l[k].s) 50
      rw [← hw1]
      clear hw1 d0 d1 d2
      replace q0 := (hb1.cell (p := ⟨g0, 0, none⟩) (by show g0 < _; omega)).trans q0
      replace q1 := (hb1.cell (p := ⟨g0, 1, none⟩) (by show g0 < _; omega)).trans q1
      have hk0 : K5 wr wr.heap.size g0 (.int .i64 l[k].x) (.int .i64 l[k].y) (.int .i64 l[k].s) (.int .i64 dx) (.int .i64 dy) w1.drew := ⟨e0, e1, e2, q0, q1, hz1, by show g0 < w1.heap.size; omega, below_drew hb1⟩
      go_region_law (first
        | (go_simp; go_at_call 64; refine (netLower _ _ _ _).mono ?_; rintro e w9 ⟨rfl, hb9⟩; have hk9 := carry5 hb9 (by assumption); obtain ⟨_, _, _, _, _, _, _, _⟩ := id hk9)
        | (go_simp; go_at_call 67; refine (netUpper _ _ _ _ hx1 hx2 hy1 hy2 hs1 hs2).mono ?_; rintro e w9 ⟨rfl, hb9⟩; have hk9 := carry5 hb9 (by assumption); obtain ⟨_, _, _, _, _, _, _, _⟩ := id hk9)
        | (go_simp; go_at_call 48; refine (shiftClosure _ _ dx dy g0 _ (by omega) (by omega) (by omega) (by omega) (by omega) (by omega) (by omega) (by omega) (by assumption) (by assumption) (by assumption)).mono ?_; rintro e w9 ⟨rfl, hb9⟩; have hk9 := carry5 hb9 (by assumption); obtain ⟨_, _, _, _, _, _, _, _⟩ := id hk9)
        | (go_simp; go_at_call 68; refine (netBetweenUp _ _ _ _ _ (by omega) (by omega) (by omega) (by omega) (by omega)).mono ?_; rintro e w9 ⟨rfl, hb9⟩; have hk9 := carry5 hb9 (by assumption); obtain ⟨_, _, _, _, _, _, _, _⟩ := id hk9; rw [show l[k].x + l[k].s + dx - (l[k].x + dx) = l[k].s from by omega])
        | (refine step_append_lies _ rfl (.tmp 17) (.tmp 27) 22 rfl w.heap.size 50 ib (.agg #[.int .i64 0, .int .i64 0, .int .i64 0]) 3 24 Try.underlying22 HIB.out HB0.out HB1.out HB2.out rfl (by decide) u5 k (bcellsL ((l.take k).map (Ck.Bar.shift dx dy))) (by simp [Act.eval, Act.put]) (by exact (ownsRow_below hown.out (K5.below (by assumption))).alloc _) _ 1 1 [.int .i64 (l[k].x + dx), .int .i64 (l[k].y + dy), .int .i64 l[k].s] (by first | (simp [Act.eval, Act.put]; done) | (simp [Act.eval, Act.put]; rfl)) rfl (by exact three_new _ _ _ _ _) (by intro u hu; simp at hu; rcases hu with rfl | rfl | rfl <;> rfl) (by decide) (by unfold maxLen; omega) (by omega) (by simp; omega) _ rfl ?_; intro gx cap w10 hown10 hgrow10 _ _))
      all_goals
        have hrow := mov_row (dx := dx) (dy := dy) hlt hown10
        have hbel := hb.trans (mov_below (K5.below (by assumption)) hgrow10 (ownsRow_base hown.out) hbz)
        clear hgrow10 hown10
        go_wp2
        go_roundw
        case rel => exact ⟨k + 1, by omega, by go_num, hrow, hbel⟩
        case measure => simp [intOf]; omega
    · obtain rfl : k = l.length := by omega
      have hrow := hown.out
      rw [List.take_length] at hrow
      have hlm : (l.map (Ck.Bar.shift dx dy)).length = l.length := List.length_map ..
      rw [← hlm] at hrow
      have hbz := hb.size
      go_wp2_with fail
      refine (netSortBars w.heap.size _ (l.map (Ck.Bar.shift dx dy)) _ (by omega) hbz hrow).mono ?_
      rintro e w2 ⟨rfl, hrow2, hb2⟩
      rw [hlm] at hrow2
      have HO := Lib.hid hrow2
      clear hrow hrow2
      go_wp2
      go_ret
      exact ⟨_, rfl, HO.out, hb.trans hb2⟩
end Go.Proofs.Ytgbpemphddpelaa

/- Contracts of shiftedBy and Shift at near nets. -/
namespace Go.Proofs.Ytgbpemphddpelaa
open Go.RowKit

set_option maxHeartbeats 1000000 in
theorem netShiftedBy (A : Option Addr) (c : Nat) (l : List Ck.Bar) (dx dy : Int) (w : World) (hl : l.length ≤ 4096) (hok : ∀ x ∈ l, Ck.okBar x) (h : RB w w.heap.size A l) (k1 : -500000 ≤ dx) (k2 : dx ≤ 500000) (k3 : -500000 ≤ dy) (k4 : dy ≤ 500000) :
    Calls Try.prog 26 #[.slice A l.length c, .agg #[.int .i64 dx, .int .i64 dy]] w (MovPost l dx dy w) := by
  obtain ⟨w1, hw1, e0, e1, hb1, hz1⟩ := box2 w (.int .i64 dx) (.int .i64 dy) 61
  have HR := Lib.hid h
  have HO := Lib.hid hok
  have HW := Lib.hid hw1
  clear h hok hw1
  go_enter Try.func26, Try.ntmps26
  go_wp2_with fail
  rw [← HW.out]
  refine (netMoved A c w.heap.size l dx dy w1 hl HO.out ((HR.out.below hb1).more hb1.size) k1 k2 k3 k4 hz1 e0 e1).mono ?_
  rintro e w2 ⟨v, rfl, hrow, hb2⟩
  have HV := Lib.hid (ownsRow_mono hrow hb1.size)
  clear hrow
  go_wp2
  go_ret
  exact ⟨v, rfl, HV.out, hb1.trans (hb2.mono hb1.size)⟩

theorem keepS {W w1 w2 : World} {g : Nat} {x y : Value} (h : w1.cell? ⟨g, 0, none⟩ = some x ∧ w1.cell? ⟨g, 1, none⟩ = some y ∧ Below g W w1 ∧ g < w1.heap.size) (hb : Below w1.heap.size w1 w2) :
    w2.cell? ⟨g, 0, none⟩ = some x ∧ w2.cell? ⟨g, 1, none⟩ = some y ∧ Below g W w2 ∧ g < w2.heap.size := by
  obtain ⟨h0, h1, h3, h4⟩ := h
  exact ⟨(hb.cell (p := ⟨g, 0, none⟩) h4).trans h0, (hb.cell (p := ⟨g, 1, none⟩) h4).trans h1, h3.trans (hb.mono (by omega)), by have := hb.size; omega⟩
theorem sId {W w : World} {g : Nat} {x y : Value} (h : w.cell? ⟨g, 0, none⟩ = some x ∧ w.cell? ⟨g, 1, none⟩ = some y ∧ Below g W w ∧ g < w.heap.size) : w.cell? ⟨g, 0, none⟩ = some x ∧ w.cell? ⟨g, 1, none⟩ = some y ∧ Below g W w ∧ g < w.heap.size := h
theorem checkS {W w : World} {g : Nat} {x y : Value} (A : Option Addr) (c : Nat) (l : List Ck.Bar) (hl : l.length ≤ 4096) (hcap : l.length ≤ c) (hcm : c ≤ maxLen) (HR : Hid (RB W W.heap.size A l)) (hg : W.heap.size ≤ g) (HE : Hid (netE l = 0))
    (h : w.cell? ⟨g, 0, none⟩ = some x ∧ w.cell? ⟨g, 1, none⟩ = some y ∧ Below g W w ∧ g < w.heap.size) : Calls Try.prog 23 #[.slice A l.length c] w fun e w' => e = .returned (.int .i64 0) ∧ Below w.heap.size w w' :=
  (netCheckNet A c l w hl hcap hcm ((HR.out.below (h.2.2.1.mono hg)).more (by have := h.2.2.1.size; have := h.2.2.2; omega))).mono fun e w' ⟨he, hb⟩ => ⟨by rw [he, HE.out], hb⟩

set_option maxHeartbeats 2000000 in
set_option maxRecDepth 100000 in
theorem netShift (A : Option Addr) (c : Nat) (l : List Ck.Bar) (w : World) (hl : l.length ≤ 4096) (hcap : l.length ≤ c) (hcm : c ≤ maxLen) (hN : Ck.Net l) (hn : Near l) (h : RB w w.heap.size A l) :
    Calls Try.prog 7 #[.slice A l.length c, .agg #[.int .i64 1000, .int .i64 1000]] w fun e w' => ∃ v, e = .returned (.tuple #[v, .int .i64 0]) ∧ w'.ownsRow w.heap.size 50 3 v (farL l).length (bcellsL (farL l)) ∧ Below w.heap.size w w' := by
  obtain ⟨w1, hw1, e0, e1, hb1, hz1⟩ := box2 w (.int .i64 1000) (.int .i64 1000) 30
  have HR := Lib.hid h
  have HN := Lib.hid hN
  have HF := Lib.hid (farL_net hN hn)
  have HE := Lib.hid ((netE_zero l).2 ⟨hl, hN⟩)
  have HK := Lib.hid (show knotE 1000 1000 = 0 by decide)
  have HS := Lib.hid (sortBars_net (farL_net hN hn).2)
  have HL := Lib.hid (show (farL l).length = l.length by rw [farL, List.length_map])
  have HW := Lib.hid hw1
  clear h hN hn hw1
  go_enter Try.func7, Try.ntmps7
  go_wp2_with fail
  rw [← HW.out]
  go_region_held3 (fun w' => w'.cell? ⟨w.heap.size, 0, none⟩ = some (.int .i64 1000) ∧ w'.cell? ⟨w.heap.size, 1, none⟩ = some (.int .i64 1000) ∧ Below w.heap.size w w' ∧ w.heap.size < w'.heap.size)
    (first | exact ⟨e0, e1, below_drew hb1, hz1⟩ | exact keepS (by assumption) (by assumption) | exact keepS (by assumption) ((Below.refl _ _).alloc (Nat.le_refl _) _) | assumption | go_keep)
    (first
      | (go_at_call 23; refine (checkS A c l hl hcap hcm HR (Nat.le_refl _) HE (by assumption)).mono ?_; rintro e w' ⟨rfl, hbq⟩)
      | (go_at_call 24; refine (netCheckKnot _ _ _).mono ?_; rintro e w' ⟨rfl, hbq⟩; rw [HK.out])
      | (go_at_call 22; refine (netFirst2 _ _ 0 0 25 _ (by exact heap_alloc_new _ _)).mono ?_; rintro e w' ⟨rfl, rfl⟩; rw [show firstE [0, 0] = 0 from rfl]))
  obtain ⟨c0, c1, hbW, hzW⟩ := sId (by assumption)
  go_wp2_with fail
  refine (netShiftedBy A c l 1000 1000 _ hl HN.out.1 ((HR.out.below hbW).more hbW.size) (by omega) (by omega) (by omega) (by omega)).mono ?_
  rintro e w3 ⟨v, rfl, hrow, hb3⟩
  have hrow' := ownsRow_mono hrow hbW.size
  have hbT := hbW.trans (hb3.mono hbW.size)
  rw [show l.map (Ck.Bar.shift 1000 1000) = farL l from rfl, HS.out] at hrow'
  obtain ⟨a, cv, rfl, hcv, hcm2⟩ := own_slice hrow'
  have hrow2 := hrow'
  rw [← HL.out] at hrow2 hcv
  have HO := Lib.hid hrow2
  have hRB := RB.of_own hrow2
  have HRB := Lib.hid hRB
  have hlen : (farL l).length ≤ 4096 := by rw [HL.out]; exact hl
  have HLen := Lib.hid hlen
  clear hrow hrow' hrow2 hRB hlen
  go_wp2_with fail
  rw [← HL.out]
  refine (netWithin a cv (farL l) _ HLen.out hcv hcm2 HF.out HRB.out).mono ?_
  rintro e w4 ⟨rfl, hb4⟩
  go_wp2
  go_ret2
  exact ⟨_, rfl, ownsRow_below HO.out (hb4.mono (Nat.le_refl _)), hbT.trans (hb4.mono hbT.size)⟩
end Go.Proofs.Ytgbpemphddpelaa

/- Contracts of the reference's Bars; equality of counts. -/
namespace Go.Proofs.Ytgbpemphddpelaa
open Go.RowKit

def meshL4 (x y : Int) : List Ck.Bar := [⟨x, y - 1, -1⟩, ⟨x, y - 1, 1⟩, ⟨x - 1, y, 1⟩, ⟨x + 1, y, -1⟩]
theorem four_row (w : World) (base : Nat) (hb : base ≤ w.heap.size) (t : TypeId) (l : List Ck.Bar) (hl : l.length = 4) : (w.alloc (.cells (bcellsL l).toArray t)).ownsRow base t 3 (.slice (some ⟨w.heap.size, 0, none⟩) 4 4) l.length (bcellsL l) :=
  ⟨by rw [bcellsL_length], .inr ⟨w.heap.size, 4, _, by rw [hl], hb, heap_alloc_new _ _, by omega, by unfold maxLen; omega, by simp [bcellsL_length, hl], by rw [List.take_of_length_le (by simp [bcellsL_length])]⟩⟩

theorem four_row2 (w : World) (o : Obj) (base : Nat) (hb : base ≤ w.heap.size) (t : TypeId) (l : List Ck.Bar) (hl : l.length = 4) : ((w.alloc o).alloc (.cells (bcellsL l).toArray t)).ownsRow base t 3 (.slice (some ⟨w.heap.size + 1, 0, none⟩) 4 4) l.length (bcellsL l) := by
  have := four_row (w.alloc o) base (by simp; omega) t l hl
  rwa [World.size_alloc] at this

set_option maxHeartbeats 1000000 in
set_option maxRecDepth 100000 in
theorem refBars (x y : Int) (w : World) (h1 : -1000 ≤ x) (h2 : x ≤ 1000) (h3 : -1000 ≤ y) (h4 : y ≤ 1000) :
    Calls Try.prog 20 #[.agg #[.int .i64 x, .int .i64 y]] w (OwnPost (meshL4 x y) w) := by
  go_enter Try.func20, Try.ntmps20
  go_wp2_with fail
  go_ret
  exact ⟨_, rfl, four_row2 w _ w.heap.size (Nat.le_refl _) _ (meshL4 x y) rfl, ((Below.refl _ _).alloc (Nat.le_refl _) _).alloc (by simp) _⟩

theorem eqCounts (a b c d e a' b' c' d' e' : Int) (r : Bool) (hr : decide (a = a' ∧ b = b' ∧ c = c' ∧ d = d' ∧ e = e') = r) (w : World) :
    (Op.equalIn 10000 33 (.agg #[.int .i64 a, .int .i64 b, .int .i64 c, .int .i64 d, .int .i64 e]) (.agg #[.int .i64 a', .int .i64 b', .int .i64 c', .int .i64 d', .int .i64 e'])).run Try.prog w = .ok r w := by
  have u3 := Try.underlying3
  have a3 := Try.isAgg3
  have z3 := Try.sizeOf3
  have hS : Try.prog.underlying 33 = some (.struct (Try.prog.fieldsOf 33)) := by kernel_rfl
  have hp : Try.prog.stoodInHeld 33 = false := by kernel_rfl
  subst hr
  rw [show (10000 : Nat) = 9999 + 1 from rfl, run_equalIn_struct w 9999 33 _ _ hS hp]
  simp only [Program.fieldsOf, Try.underlying33]
  go_simp
  by_cases h1 : a = a' <;> by_cases h2 : b = b' <;> by_cases h3 : c = c' <;> by_cases h4 : d = d' <;> by_cases h5 : e = e' <;> simp [h1, h2, h3, h4, h5]
theorem guardCounts : Try.prog.eqGuardType Try.prog.depth 33 = false := by kernel_rfl
end Go.Proofs.Ytgbpemphddpelaa

/- The contract of corkMesh: the fixed example holds. -/
namespace Go.Proofs.Ytgbpemphddpelaa
open Go.RowKit Ck

def oneL : List Bar := meshL4 1 2
def twoL : List Bar := meshL4 3 2
def bothL : List Bar := [⟨1, 1, -1⟩, ⟨1, 1, 1⟩, ⟨3, 1, -1⟩, ⟨3, 1, 1⟩, ⟨0, 2, 1⟩, ⟨2, 2, -1⟩, ⟨2, 2, 1⟩, ⟨4, 2, -1⟩]
theorem oneL_eq : oneL = [⟨1, 1, -1⟩, ⟨1, 1, 1⟩, ⟨0, 2, 1⟩, ⟨2, 2, -1⟩] := by decide
theorem twoL_eq : twoL = [⟨3, 1, -1⟩, ⟨3, 1, 1⟩, ⟨2, 2, 1⟩, ⟨4, 2, -1⟩] := by decide
theorem one_net : Net oneL := ((netE_zero _).1 (by decide)).2
theorem two_net : Net twoL := ((netE_zero _).1 (by decide)).2
theorem both_merge : mergeU oneL twoL = bothL := by
  rw [oneL_eq, twoL_eq]
  simp [mergeU, cmpB, firstE, cmpE, bothL]
theorem one_nK : nK oneL = 4 := by decide
theorem one_nM : nM oneL = 1 := by decide
theorem both_nK : nK bothL = 7 := by decide
theorem both_nM : nM bothL = 2 := by decide
theorem lohi {l : List Bar} {b : Bar} (h : b ∈ l) {k m : Knot} (hk : k = b.lo) (hm : m = b.hi) : Conn l k m := Conn.one h (.inl ⟨hk, hm⟩)
theorem hilo {l : List Bar} {b : Bar} (h : b ∈ l) {k m : Knot} (hk : k = b.hi) (hm : m = b.lo) : Conn l k m := Conn.one h (.inr ⟨hk, hm⟩)
theorem one_parts : PartsIs oneL 1 := by
  have c1 : Conn oneL ⟨1, 1⟩ ⟨0, 2⟩ := lohi (b := ⟨1, 1, -1⟩) (by decide) (by decide) (by decide)
  have c2 : Conn oneL ⟨1, 1⟩ ⟨2, 2⟩ := lohi (b := ⟨1, 1, 1⟩) (by decide) (by decide) (by decide)
  unfold PartsIs
  refine CntIs.fresh (n := 0) (by simp) ?_
  refine CntIs.old ⟨⟨1, 1⟩, by decide, .refl _⟩ ?_
  refine CntIs.old ⟨⟨1, 1⟩, by decide, c1⟩ ?_
  refine CntIs.old ⟨⟨1, 1⟩, by decide, c2⟩ ?_
  exact .nil _
theorem both_parts : PartsIs bothL 1 := by
  have c1 : Conn bothL ⟨1, 1⟩ ⟨0, 2⟩ := lohi (b := ⟨1, 1, -1⟩) (by decide) (by decide) (by decide)
  have c2 : Conn bothL ⟨1, 1⟩ ⟨2, 2⟩ := lohi (b := ⟨1, 1, 1⟩) (by decide) (by decide) (by decide)
  have c3 : Conn bothL ⟨2, 2⟩ ⟨3, 1⟩ := hilo (b := ⟨3, 1, -1⟩) (by decide) (by decide) (by decide)
  have c4 : Conn bothL ⟨3, 1⟩ ⟨4, 2⟩ := lohi (b := ⟨3, 1, 1⟩) (by decide) (by decide) (by decide)
  unfold PartsIs
  refine CntIs.fresh (n := 0) (by simp) ?_
  refine CntIs.old ⟨⟨1, 1⟩, by decide, .refl _⟩ ?_
  refine CntIs.old ⟨⟨1, 1⟩, by decide, c2.trans c3⟩ ?_
  refine CntIs.old ⟨⟨1, 1⟩, by decide, c2.trans c3⟩ ?_
  refine CntIs.old ⟨⟨1, 1⟩, by decide, c1⟩ ?_
  refine CntIs.old ⟨⟨1, 1⟩, by decide, c2⟩ ?_
  refine CntIs.old ⟨⟨1, 1⟩, by decide, c2⟩ ?_
  refine CntIs.old ⟨⟨1, 1⟩, by decide, (c2.trans c3).trans c4⟩ ?_
  exact .nil _
theorem countOne (A : Option Addr) (c : Nat) (w : World) (hc : 4 ≤ c) (hcm : c ≤ maxLen) (h : RB w w.heap.size A oneL) :
    Calls Try.prog 21 #[.slice A 4 c] w fun e w' => e = .returned (.tuple #[.agg #[.int .i64 4, .int .i64 4, .int .i64 1, .int .i64 1, .int .i64 0], .int .i64 0]) ∧ Below w.heap.size w w' :=
  (netCount A c oneL w (by decide) hc hcm one_net h).mono fun e w' ⟨p, hp, he, hb⟩ => by
    obtain rfl : p = 1 := CntIs.det hp one_parts
    rw [one_nK, one_nM] at he
    exact ⟨he, hb⟩
theorem countBoth (A : Option Addr) (c : Nat) (w : World) (hc : 8 ≤ c) (hcm : c ≤ maxLen) (h : RB w w.heap.size A bothL) :
    Calls Try.prog 21 #[.slice A 8 c] w fun e w' => e = .returned (.tuple #[.agg #[.int .i64 7, .int .i64 8, .int .i64 2, .int .i64 1, .int .i64 0], .int .i64 0]) ∧ Below w.heap.size w w' :=
  (netCount A c bothL w (by decide) hc hcm (by
    have := mergeU_net one_net two_net
    rwa [both_merge] at this) h).mono fun e w' ⟨p, hp, he, hb⟩ => by
    obtain rfl : p = 1 := CntIs.det hp both_parts
    rw [both_nK, both_nM] at he
    exact ⟨he, hb⟩
theorem ownMesh {w w1 : World} {l : List Bar} {v : Value} (hl : l.length = 4) (h : w1.ownsRow w.heap.size 50 3 v l.length (bcellsL l)) : ∃ a c, v = .slice a 4 c ∧ 4 ≤ c ∧ c ≤ maxLen ∧ RB w1 w1.heap.size a l := by
  obtain ⟨a, c, rfl, h1, h2⟩ := own_slice h
  exact ⟨a, c, by rw [hl], by omega, h2, RB.of_own h⟩

set_option maxHeartbeats 4000000 in
set_option maxRecDepth 100000 in
theorem corkMesh (w : World) : Calls Try.prog 6 #[] w fun e w' => e = .returned (.bool true) ∧ Below w.heap.size w w' := by
  have ex0 : ∀ (a b : Value) (w : World), (Instr.extract (.tuple #[a, b]) 0).run Try.prog w = .ok a w := fun _ _ _ => by kernel_rfl
  have ex1 : ∀ (a b : Value) (w : World), (Instr.extract (.tuple #[a, b]) 1).run Try.prog w = .ok b w := fun _ _ _ => by kernel_rfl
  go_enter Try.func6, Try.ntmps6
  go_wp2_with fail
  refine (refBars 1 2 _ (by omega) (by omega) (by omega) (by omega)).mono ?_
  rintro e w1 ⟨v, rfl, hrow, hb1⟩
  obtain ⟨a1, c1, rfl, _, _, hR1⟩ := ownMesh rfl hrow
  clear hrow
  go_wp2_with fail
  refine (refSortedUp a1 c1 oneL _ (by decide) one_net.2 hR1).mono ?_
  rintro e w2 ⟨v, rfl, hrow, hb2⟩
  obtain ⟨a2, c2, rfl, hc2, hm2, hR2⟩ := ownMesh rfl hrow
  have hq2 := hb1.trans (hb2.mono hb1.size)
  have H2 := Lib.hid hR2
  clear hrow hR1 hR2
  go_wp2_with fail
  refine (refBars 3 2 _ (by omega) (by omega) (by omega) (by omega)).mono ?_
  rintro e w3 ⟨v, rfl, hrow, hb3⟩
  obtain ⟨a3, c3, rfl, _, _, hR3⟩ := ownMesh rfl hrow
  have hq3 := hq2.trans (hb3.mono hq2.size)
  clear hrow
  go_wp2_with fail
  refine (refSortedUp a3 c3 twoL _ (by decide) two_net.2 hR3).mono ?_
  rintro e w4 ⟨v, rfl, hrow, hb4⟩
  obtain ⟨a4, c4, rfl, hc4, hm4, hR4⟩ := ownMesh rfl hrow
  have hq4 := hq3.trans (hb4.mono hq3.size)
  have hb24 := hb3.trans (hb4.mono hb3.size)
  have H4 := Lib.hid hR4
  clear hrow hR3 hR4
  go_wp2_with fail
  refine (countOne a2 c2 _ hc2 hm2 ((H2.out.below hb24).more hb24.size)).mono ?_
  rintro e w5 ⟨rfl, hb5⟩
  have hq5 := hq4.trans (hb5.mono hq4.size)
  obtain ⟨w6, hw6⟩ : ∃ w6, w6 = w5.alloc (.cells #[.int .i64 4, .int .i64 4, .int .i64 1, .int .i64 1, .int .i64 0] 33) := ⟨_, rfl⟩
  have hk6 : w6.heap[w5.heap.size]? = some (.cells #[.int .i64 4, .int .i64 4, .int .i64 1, .int .i64 1, .int .i64 0] 33 (0, 0)) := by rw [hw6]; exact heap_alloc_new _ _
  have hb6 : Below w5.heap.size w5 w6 := by rw [hw6]; exact (Below.refl _ _).alloc (Nat.le_refl _) _
  have hz6 : w5.heap.size < w6.heap.size := by rw [hw6]; simp
  have hq6 := hq5.trans (hb6.mono hq5.size)
  have hb46 := hb5.trans (hb6.mono hb5.size)
  have hb26 := hb24.trans (hb46.mono hb24.size)
  have HW6 := Lib.hid hw6
  have HK6 := Lib.hid hk6
  clear hw6 hk6
  go_wp2_with fail
  rw [← HW6.out]
  refine (netUnion a2 a4 c2 c4 oneL twoL _ (by decide) (by decide) hc2 hm2 hc4 hm4 one_net two_net ((H2.out.below hb26).more hb26.size) ((H4.out.below hb46).more hb46.size) (by rw [both_merge]; decide)).mono ?_
  rintro e w7 ⟨v, rfl, hrow, hb7⟩
  rw [both_merge] at hrow
  obtain ⟨a7, c7, rfl, hc7, hm7⟩ := own_slice hrow
  have H7 := Lib.hid (RB.of_own hrow)
  have hq7 := hq6.trans (hb7.mono hq6.size)
  clear hrow
  go_wp2_with fail
  refine (countBoth a7 c7 _ hc7 hm7 H7.out).mono ?_
  rintro e w8 ⟨rfl, hb8⟩
  have hq8 := hq7.trans (hb8.mono hq7.size)
  have hb68 := hb7.trans (hb8.mono hb7.size)
  obtain ⟨r0, r1, r2, r3, r4, rf⟩ := five_of_block ((hb68.block _ hz6).trans HK6.out)
  have hz8 : w5.heap.size < w8.heap.size := by have := hb68.size; omega
  have hq1 := eqCounts 4 4 1 1 0 4 4 1 1 0 true (by decide)
  have hq2' := eqCounts 7 8 2 1 0 7 8 2 1 0 true (by decide)
  have hgd := guardCounts
  go_wp2
  go_ret
  exact ⟨rfl, hq8.alloc hq8.size _⟩
end Go.Proofs.Ytgbpemphddpelaa

/- Wrappers of the contracts for TopCorkApart. -/
namespace Go.Proofs.Ytgbpemphddpelaa
open Go.RowKit Ck

/-- The slice is of the call's own, or reads so. -/
def OKS (w : World) (a : Option Addr) (c : Nat) (l : List Bar) : Prop := l.length ≤ c ∧ c ≤ maxLen ∧ (a = none → c = 0) ∧ RB w w.heap.size a l
theorem OKS.below {w w' : World} {a : Option Addr} {c : Nat} {l : List Bar} (h : OKS w a c l) (hb : Below w.heap.size w w') : OKS w' a c l := ⟨h.1, h.2.1, h.2.2.1, (h.2.2.2.below hb).more hb.size⟩
theorem own_oks {w : World} {base : Nat} {v : Value} {l : List Bar} (h : w.ownsRow base 50 3 v l.length (bcellsL l)) : ∃ a c, v = .slice a l.length c ∧ OKS w a c l := by
  rcases h.2 with ⟨rfl, hz⟩ | ⟨g, cap, cur, rfl, _, _, h1, h2, _⟩
  · have : l = [] := List.eq_nil_of_length_eq_zero hz
    subst this
    exact ⟨none, 0, rfl, Nat.zero_le _, by unfold maxLen; omega, fun _ => rfl, RB.nil _ _ _⟩
  · exact ⟨_, _, rfl, h1, h2, (fun e => by cases e), RB.of_own h⟩
def SlicePost (l : List Bar) (w : World) (e : Ending) (w' : World) : Prop := ∃ a c, e = .returned (.slice a l.length c) ∧ OKS w' a c l ∧ Below w.heap.size w w'
def PairPost (l : List Bar) (w : World) (e : Ending) (w' : World) : Prop := ∃ a c, e = .returned (.tuple #[.slice a l.length c, .int .i64 0]) ∧ OKS w' a c l ∧ Below w.heap.size w w'
theorem copyS (A : Option Addr) (c : Nat) (l : List Bar) (w : World) (hl : l.length ≤ 4096) (hA : A = none → c = 0) (h : RB w w.heap.size A l) :
    Calls Try.prog 8 #[.slice A l.length c] w (SlicePost l w) :=
  (corkCopyAny A c l w hl hA h).mono fun e w' ⟨v, he, hrow, hb⟩ => by
    obtain ⟨a, c', rfl, hok⟩ := own_oks hrow
    exact ⟨a, c', he, hok, hb⟩
theorem shiftS (A : Option Addr) (c : Nat) (l : List Bar) (w : World) (hl : l.length ≤ 4096) (hN : Net l) (hn : Near l) (h : OKS w A c l) :
    Calls Try.prog 7 #[.slice A l.length c, .agg #[.int .i64 1000, .int .i64 1000]] w (PairPost (farL l) w) :=
  (netShift A c l w hl h.1 h.2.1 hN hn h.2.2.2).mono fun e w' ⟨v, he, hrow, hb⟩ => by
    obtain ⟨a, c', rfl, hok⟩ := own_oks hrow
    exact ⟨a, c', he, hok, hb⟩
theorem unionS (A A' : Option Addr) (c c' : Nat) (l l' u : List Bar) (w : World) (hu : mergeU l l' = u) (hl : l.length ≤ 2000) (hl' : l'.length ≤ 2000) (hN : Net l) (hN' : Net l') (h : OKS w A c l) (h' : OKS w A' c' l') :
    Calls Try.prog 9 #[.slice A l.length c, .slice A' l'.length c'] w (PairPost u w) :=
  (netUnion A A' c c' l l' w (by omega) (by omega) h.1 h.2.1 h'.1 h'.2.1 hN hN' h.2.2.2 h'.2.2.2 (by have := mergeU_length l l'; omega)).mono fun e w' ⟨v, he, hrow, hb⟩ => by
    subst hu
    obtain ⟨a, c', rfl, hok⟩ := own_oks hrow
    exact ⟨a, c', he, hok, hb⟩
theorem CntIs.le {l : List Bar} : ∀ {r : List Bar} {seen : List Knot} {n : Nat}, CntIs l seen r n → n ≤ r.length
  | [], _, _, .nil _ => Nat.le_refl _
  | _ :: _, _, _, .old _ h => Nat.le_succ_of_le (CntIs.le h)
  | _ :: _, _, _, .fresh _ h => Nat.succ_le_succ (CntIs.le h)
def CF (l : List Bar) (x0 x1 x2 x3 x4 : Int) : Prop := ∃ p : Nat, PartsIs l p ∧ x0 = (nK l : Nat) ∧ x1 = (l.length : Nat) ∧ x2 = (nM l : Nat) ∧ x3 = (p : Nat) ∧ x4 = (l.length : Int) - (nK l : Nat) + p - (nM l : Nat)
def bd (x : Int) : Prop := -10000 ≤ x ∧ x ≤ 10000
def CPost (l : List Bar) (w : World) (e : Ending) (w' : World) : Prop :=
  ∃ x0 x1 x2 x3 x4 : Int, e = .returned (.tuple #[.agg #[.int .i64 x0, .int .i64 x1, .int .i64 x2, .int .i64 x3, .int .i64 x4], .bool true]) ∧ CF l x0 x1 x2 x3 x4 ∧ (bd x0 ∧ bd x1 ∧ bd x2 ∧ bd x3 ∧ bd x4) ∧ Below w.heap.size w w'
theorem countC (A : Option Addr) (c : Nat) (l : List Bar) (w : World) (hl : l.length ≤ 200) (hA : A = none → c = 0) (hN : Net l) (h : RB w w.heap.size A l) : Calls Try.prog 10 #[.slice A l.length c] w (CPost l w) :=
  (corkCount A c l w (by omega) hA hN h).mono fun e w' ⟨p, hp, he, hb⟩ => by
    have h1 := nK_le l
    have h2 : nM l ≤ l.length := List.countP_le_length
    have h3 : p ≤ l.length := CntIs.le hp
    exact ⟨_, _, _, _, _, he, ⟨p, hp, rfl, rfl, rfl, rfl, rfl⟩, ⟨by unfold bd; omega, by unfold bd; omega, by unfold bd; omega, by unfold bd; omega, by unfold bd; omega⟩, hb⟩
theorem CF.sums {l l' : List Bar} (hn : Near l) (hn' : Near l') {x0 x1 x2 x3 x4 y0 y1 y2 y3 y4 z0 z1 z2 z3 z4 : Int} (hx : CF l x0 x1 x2 x3 x4) (hy : CF l' y0 y1 y2 y3 y4) (hz : CF (l ++ farL l') z0 z1 z2 z3 z4) :
    z0 = x0 + y0 ∧ z1 = x1 + y1 ∧ z2 = x2 + y2 ∧ z3 = x3 + y3 ∧ z4 = x4 + y4 := by
  obtain ⟨p, hp, rfl, rfl, rfl, rfl, rfl⟩ := hx
  obtain ⟨q, hq, rfl, rfl, rfl, rfl, rfl⟩ := hy
  obtain ⟨r, hr, rfl, rfl, rfl, rfl, rfl⟩ := hz
  obtain ⟨h1, h2, h3, h4⟩ := apart_sums hn hn' hp hq hr
  omega
theorem countS (A : Option Addr) (c : Nat) (l : List Bar) (w : World) (hl : l.length ≤ 4096) (hA : A = none → c = 0) (hN : Net l) (h : RB w w.heap.size A l) : Calls Try.prog 10 #[.slice A l.length c] w (CorkPost l w) := corkCount A c l w hl hA hN h

theorem kcellsL_at (l : List Knot) : ∀ (i : Nat) (h : i < l.length), (kcellsL l)[i * 2]? = some (.int .i64 l[i].x) ∧ (kcellsL l)[i * 2 + 1]? = some (.int .i64 l[i].y) := by
  induction l with
  | nil => intro i h; simp at h
  | cons a r ih =>
    intro i h
    have e : kcellsL (a :: r) = [.int .i64 a.x, .int .i64 a.y] ++ kcellsL r := by simp [kcellsL]
    rw [e]
    cases i with
    | zero => exact ⟨rfl, rfl⟩
    | succ i =>
      have := ih i (by simpa using h)
      rw [show (i + 1) * 2 = i * 2 + 2 from by omega]
      simpa using this
theorem own_rk {w : World} {base : Nat} {v : Value} {l : List Knot} (h : w.ownsRow base 30 2 v l.length (kcellsL l)) : ∃ a c, v = .slice a l.length c ∧ RK w w.heap.size a l := by
  rcases h.2 with ⟨rfl, hz⟩ | ⟨g, cap, cur, rfl, _, hgb, h1, h2, _⟩
  · have : l = [] := List.eq_nil_of_length_eq_zero hz
    subst this
    exact ⟨none, 0, rfl, fun hl => by simp at hl⟩
  · refine ⟨_, _, rfl, fun hl => ⟨g, 0, rfl, (Array.getElem?_eq_some_iff.1 hgb).1, fun i hi => ?_⟩⟩
    have hc := h.cells (g := g) rfl
    obtain ⟨k0, k1⟩ := kcellsL_at l i hi
    have q0 := hc _ _ k0
    have q1 := hc _ _ k1
    rw [add0] at q0 q1
    simp only [Nat.zero_add]
    exact ⟨q0, q1⟩
def KPost (l : List Bar) (w : World) (e : Ending) (w' : World) : Prop :=
  ∃ a c ks, e = .returned (.tuple #[.slice a (List.length ks) c, .int .i64 0]) ∧ List.Nodup ks ∧ (∀ k, k ∈ ks ↔ k ∈ ends l) ∧ RK w' w'.heap.size a ks ∧ Below w.heap.size w w'
theorem knotsS (A : Option Addr) (c : Nat) (l : List Bar) (w : World) (hl : l.length ≤ 4096) (hN : Net l) (h : OKS w A c l) : Calls Try.prog 11 #[.slice A l.length c] w (KPost l w) :=
  (netKnots A c l w hl h.1 h.2.1 hN h.2.2.2).mono fun e w' ⟨v, ks, he, hn, hm, hrow, hb⟩ => by
    obtain ⟨a, c', rfl, hk⟩ := own_rk hrow
    exact ⟨a, c', ks, he, hn, hm, hk, hb⟩
theorem knots_len {l : List Bar} {ks : List Knot} (hn : ks.Nodup) (hm : ∀ k, k ∈ ks ↔ k ∈ ends l) : ks.length ≤ 2 * l.length := by
  rw [nK_eq hn hm]; exact nK_le l

def corkF (l : List Bar) : Bool := decide (l.length ≤ 20) && corkB l
theorem corkNetAny (A : Option Addr) (c : Nat) (l : List Bar) (w : World) (hm : l.length ≤ maxLen) (h : RB w w.heap.size A l) :
    Calls Try.prog 5 #[.slice A l.length c, .int .i64 20] w fun e w' => e = .returned (.bool (corkF l)) ∧ Below w.heap.size w w' := by
  by_cases hl : l.length ≤ 20
  · exact (corkNetShort A c l w hl h).mono fun e w' ⟨he, hb⟩ => ⟨by rw [he]; simp [corkF, hl], hb⟩
  · exact (corkNetLong A c l.length w (by omega) hm).mono fun e w' ⟨he, hb⟩ => ⟨by rw [he]; simp [corkF, hl], hb ▸ Below.refl _ _⟩
theorem corkF_true {l : List Bar} (h : corkF l = true) : l.length ≤ 20 ∧ Net l ∧ Near l := by
  simp only [corkF, corkB, Bool.and_eq_true, decide_eq_true_eq, List.all_eq_true] at h
  refine ⟨h.1, ((netE_zero l).1 h.2.1).2, fun b hb => ?_⟩
  have := h.2.2 b hb
  simpa [nearB] using this
end Go.Proofs.Ytgbpemphddpelaa

/- The walk of TopCorkApart. -/
namespace Go.Proofs.Ytgbpemphddpelaa
open Go.RowKit Ck

def YesPost (w : World) (e : Ending) (w' : World) : Prop := e = .returned (.bool true) ∧ Below w.heap.size w w'

set_option maxHeartbeats 4000000 in
set_option maxRecDepth 100000 in
theorem apartNo (A A' : Option Addr) (c c' : Nat) (l l' : List Bar) (w : World) (hm : l.length ≤ maxLen) (hm' : l'.length ≤ maxLen) (h : RB w w.heap.size A l) (h' : RB w w.heap.size A' l') (hno : corkF l = false ∨ corkF l = true ∧ corkF l' = false) :
    Calls Try.prog 3 #[.slice A l.length c, .slice A' l'.length c'] w (YesPost w) := by
  have HR := Lib.hid h
  have HR' := Lib.hid h'
  clear h h'
  rcases hno with h1 | ⟨h1, h2⟩
  · have H1 := Lib.hid h1
    clear h1
    go_enter Try.func3, Try.ntmps3
    go_wp2_with fail
    refine (corkNetAny A c l _ hm HR.out).mono ?_
    rintro e w1 ⟨rfl, hb1⟩
    rw [H1.out]
    go_wp2_with fail
    refine (corkMesh _).mono ?_
    rintro e w2 ⟨rfl, hb2⟩
    go_wp2
    go_ret
    exact ⟨rfl, hb1.trans (hb2.mono hb1.size)⟩
  · have H1 := Lib.hid h1
    have H2 := Lib.hid h2
    clear h1 h2
    go_enter Try.func3, Try.ntmps3
    go_wp2_with fail
    refine (corkNetAny A c l _ hm HR.out).mono ?_
    rintro e w1 ⟨rfl, hb1⟩
    rw [H1.out]
    go_wp2_with fail
    refine (corkNetAny A' c' l' _ hm' ((HR'.out.below hb1).more hb1.size)).mono ?_
    rintro e w2 ⟨rfl, hb2⟩
    rw [H2.out]
    have hq2 := hb1.trans (hb2.mono hb1.size)
    go_wp2_with fail
    refine (corkMesh _).mono ?_
    rintro e w3 ⟨rfl, hb3⟩
    go_wp2
    go_ret
    exact ⟨rfl, hq2.trans (hb3.mono hq2.size)⟩

def cntK (ks' : List Knot) (l : List Knot) : Nat := l.countP fun p => decide (p ∈ ks')
theorem cntK_le (ks' ks : List Knot) (j : Nat) : cntK ks' (ks.take j) ≤ ks.length := Nat.le_trans List.countP_le_length (by rw [List.length_take]; omega)
theorem cntK_in {ks' ks : List Knot} {j : Nat} (hlt : j < ks.length) (h : ks[j] ∈ ks') : cntK ks' (ks.take (j + 1)) = cntK ks' (ks.take j) + 1 := by
  rw [List.take_succ_eq_append_getElem hlt, cntK, cntK, List.countP_append]; simp [h]
theorem cntK_out {ks' ks : List Knot} {j : Nat} (hlt : j < ks.length) (h : ks[j] ∉ ks') : cntK ks' (ks.take (j + 1)) = cntK ks' (ks.take j) := by
  rw [List.take_succ_eq_append_getElem hlt, cntK, cntK, List.countP_append]; simp [h]
theorem ends_merge {l l' : List Bar} {k : Knot} (h : k ∈ ends l) : k ∈ ends (mergeU l l') := by
  obtain ⟨b, hb, e⟩ := mem_ends.1 h
  exact mem_ends.2 ⟨b, (mergeU_mem b l l').2 (.inl hb), e⟩
theorem boxF (w : World) (a b c d e : Value) (t : TypeId) : ∃ w1, w1 = w.alloc (.cells #[a, b, c, d, e] t) ∧ w1.heap[w.heap.size]? = some (.cells #[a, b, c, d, e] t (0, 0)) ∧ Below w.heap.size w w1 ∧ w.heap.size < w1.heap.size :=
  ⟨_, rfl, heap_alloc_new _ _, (Below.refl _ _).alloc (Nat.le_refl _) _, by simp⟩

set_option maxHeartbeats 8000000 in
set_option maxRecDepth 100000 in
theorem apartYes (A A' : Option Addr) (c c' : Nat) (l l' : List Bar) (w : World) (hA : A = none → c = 0) (hA' : A' = none → c' = 0) (h : RB w w.heap.size A l) (h' : RB w w.heap.size A' l') (h1 : corkF l = true) (h2 : corkF l' = true) :
    Calls Try.prog 3 #[.slice A l.length c, .slice A' l'.length c'] w (YesPost w) := by
  have ex0 : ∀ (a b : Value) (w : World), (Instr.extract (.tuple #[a, b]) 0).run Try.prog w = .ok a w := fun _ _ _ => by kernel_rfl
  have ex1 : ∀ (a b : Value) (w : World), (Instr.extract (.tuple #[a, b]) 1).run Try.prog w = .ok b w := fun _ _ _ => by kernel_rfl
  obtain ⟨hl, hN, hn⟩ := corkF_true h1
  obtain ⟨hl', hN', hn'⟩ := corkF_true h2
  have hm : l.length ≤ maxLen := by unfold maxLen; omega
  have hm' : l'.length ≤ maxLen := by unfold maxLen; omega
  have HR := Lib.hid h
  have HR' := Lib.hid h'
  have H1 := Lib.hid h1
  have H2 := Lib.hid h2
  have HN := Lib.hid hN
  have HN' := Lib.hid hN'
  have Hn := Lib.hid hn
  have Hn' := Lib.hid hn'
  have hfl : (farL l').length ≤ 20 := by rw [farL, List.length_map]; exact hl'
  have HFN := Lib.hid (farL_net hN' hn')
  obtain ⟨u, hu⟩ : ∃ u, u = l ++ farL l' := ⟨_, rfl⟩
  have HU := Lib.hid hu
  have HM := Lib.hid ((mergeU_append l (farL l') (near_far hn hn')).trans hu.symm)
  have HUN := Lib.hid (by have := mergeU_net hN (farL_net hN' hn'); rwa [mergeU_append l (farL l') (near_far hn hn'), ← hu] at this : Net u)
  have hul : u.length ≤ 40 := by rw [hu, List.length_append]; omega
  obtain ⟨t, ht⟩ : ∃ t, mergeU l l' = t := ⟨_, rfl⟩
  have HT := Lib.hid ht
  have HTN := Lib.hid (ht ▸ mergeU_net hN hN' : Net t)
  have htl : t.length ≤ 40 := by have := mergeU_length l l'; rw [ht] at this; omega
  clear hu ht
  clear h h' h1 h2 hN hN' hn hn'
  go_enter Try.func3, Try.ntmps3
  go_wp2_with fail
  refine (corkNetAny A c l _ hm HR.out).mono ?_
  rintro e w1 ⟨rfl, hb1⟩
  rw [H1.out]
  go_wp2_with fail
  refine (corkNetAny A' c' l' _ hm' ((HR'.out.below hb1).more hb1.size)).mono ?_
  rintro e w2 ⟨rfl, hb2⟩
  rw [H2.out]
  have q2 := hb1.trans (hb2.mono hb1.size)
  -- far
  go_wp2_with fail
  refine (copyS A' c' l' _ (by omega) hA' ((HR'.out.below q2).more q2.size)).mono ?_
  rintro e w3 ⟨a3, c3, rfl, hk3, hb3⟩
  have q3 := q2.trans (hb3.mono q2.size)
  go_wp2_with fail
  refine (shiftS a3 c3 l' _ (by omega) HN'.out Hn'.out hk3).mono ?_
  rintro e w4 ⟨a4, c4, rfl, hk4, hb4⟩
  have q4 := q3.trans (hb4.mono q3.size)
  have K4 := Lib.hid hk4
  clear hk3 hk4
  -- u
  go_wp2_with fail
  refine (copyS A c l _ (by omega) hA ((HR.out.below q4).more q4.size)).mono ?_
  rintro e w5 ⟨a5, c5, rfl, hk5, hb5⟩
  have q5 := q4.trans (hb5.mono q4.size)
  have K5' := Lib.hid hk5
  clear hk5
  go_wp2_with fail
  refine (copyS a4 c4 (farL l') _ (by omega) (K4.out.below hb5).2.2.1 (K4.out.below hb5).2.2.2).mono ?_
  rintro e w6 ⟨a6, c6, rfl, hk6, hb6⟩
  have q6 := q5.trans (hb6.mono q5.size)
  have K6 := Lib.hid hk6
  clear hk6
  go_wp2_with fail
  refine (unionS a5 a6 c5 c6 l (farL l') u _ HM.out (by omega) (by omega) HN.out HFN.out (K5'.out.below hb6) K6.out).mono ?_
  rintro e w7 ⟨a7, c7, rfl, hk7, hb7⟩
  have q7 := q6.trans (hb7.mono q6.size)
  have K7 := Lib.hid hk7
  clear hk7
  -- the counts
  go_wp2_with fail
  refine (countC A c l _ (by omega) hA HN.out ((HR.out.below q7).more q7.size)).mono ?_
  rintro e w8 ⟨x0, x1, x2, x3, x4, rfl, hx, ⟨⟨p0, p1⟩, ⟨p2, p3⟩, ⟨p4, p5⟩, ⟨p6, p7⟩, ⟨p8, p9⟩⟩, hb8⟩
  have HX := Lib.hid hx
  clear hx
  obtain ⟨wx, hwx, kx, bx, zx⟩ := boxF w8 (.int .i64 x0) (.int .i64 x1) (.int .i64 x2) (.int .i64 x3) (.int .i64 x4) 33
  have q8 := (q7.trans (hb8.mono q7.size)).trans (bx.mono (q7.trans (hb8.mono q7.size)).size)
  have b78 := hb8.trans (bx.mono hb8.size)
  have HWX := Lib.hid hwx
  have KX := Lib.hid kx
  clear hwx kx
  go_wp2_with fail
  rw [← HWX.out]
  refine (countC A' c' l' _ (by omega) hA' HN'.out ((HR'.out.below q8).more q8.size)).mono ?_
  rintro e w9 ⟨y0, y1, y2, y3, y4, rfl, hy, ⟨⟨r0, r1⟩, ⟨r2, r3⟩, ⟨r4, r5⟩, ⟨r6, r7⟩, ⟨r8, r9⟩⟩, hb9⟩
  have HY := Lib.hid hy
  clear hy
  obtain ⟨wy, hwy, ky, by', zy⟩ := boxF w9 (.int .i64 y0) (.int .i64 y1) (.int .i64 y2) (.int .i64 y3) (.int .i64 y4) 33
  have b89 := hb9.trans (by'.mono hb9.size)
  have q9 := q8.trans (b89.mono q8.size)
  have b79 := b78.trans (b89.mono b78.size)
  have HWY := Lib.hid hwy
  have KY := Lib.hid ky
  clear hwy ky
  go_wp2_with fail
  rw [← HWY.out]
  refine (countC a7 c7 u _ (by omega) (K7.out.below b79).2.2.1 HUN.out (K7.out.below b79).2.2.2).mono ?_
  rintro e w10 ⟨z0, z1, z2, z3, z4, rfl, hz, ⟨⟨s0, s1⟩, ⟨s2, s3⟩, ⟨s4, s5⟩, ⟨s6, s7⟩, ⟨s8, s9⟩⟩, hb10⟩
  obtain ⟨e0, e1, e2, e3, e4⟩ := CF.sums Hn.out Hn'.out HX.out HY.out (HU.out ▸ hz)
  clear hz
  obtain ⟨wz, hwz, kz, bz, zz⟩ := boxF w10 (.int .i64 z0) (.int .i64 z1) (.int .i64 z2) (.int .i64 z3) (.int .i64 z4) 33
  have b910 := hb10.trans (bz.mono hb10.size)
  have q10 := q9.trans (b910.mono q9.size)
  have hqz := eqCounts z0 z1 z2 z3 z4 (x0 + y0) (x1 + y1) (x2 + y2) (x3 + y3) (x4 + y4) true (by rw [decide_eq_true_eq]; exact ⟨e0, e1, e2, e3, e4⟩)
  have hgd := guardCounts
  obtain ⟨f0, f1, f2, f3, f4, ff⟩ := five_of_block kz
  obtain ⟨g0, g1, g2, g3, g4, gf⟩ := five_of_block ((b910.block _ zy).trans KY.out)
  obtain ⟨i0, i1, i2, i3, i4, ifr⟩ := five_of_block (((b89.trans (b910.mono b89.size)).block _ zx).trans KX.out)
  have hsx : w8.heap.size < wz.heap.size := by have := (b89.trans (b910.mono b89.size)).size; omega
  have hsy : w9.heap.size < wz.heap.size := by have := b910.size; omega
  have HWZ := Lib.hid hwz
  clear hwz kz e0 e1 e2 e3 e4 ff gf ifr
  go_wp2_with (rw [← HWZ.out])
  have Q := Lib.hid q10
  clear f0 f1 f2 f3 f4 g0 g1 g2 g3 g4 i0 i1 i2 i3 i4 hqz hgd hsx hsy p0 p1 p2 p3 p4 p5 p6 p7 p8 p9 r0 r1 r2 r3 r4 r5 r6 r7 r8 r9 s0 s1 s2 s3 s4 s5 s6 s7 s8 s9
  refine (copyS A c l _ (by omega) hA ((HR.out.below q10).more q10.size)).mono ?_
  rintro e w11 ⟨a11, c11, rfl, hk11, hb11⟩
  have q11 := q10.trans (hb11.mono q10.size)
  go_wp2_with fail
  refine (knotsS a11 c11 l _ (by omega) HN.out hk11).mono ?_
  rintro e w12 ⟨a12, c12, ks, rfl, hn12, hm12, hr12, hb12⟩
  have q12 := q11.trans (hb12.mono q11.size)
  have hkl := knots_len hn12 hm12
  have N1 := Lib.hid hn12
  have M1 := Lib.hid hm12
  have R1 := Lib.hid hr12
  clear hk11 hn12 hm12 hr12
  go_wp2_with fail
  refine (copyS A' c' l' _ (by omega) hA' ((HR'.out.below q12).more q12.size)).mono ?_
  rintro e w13 ⟨a13, c13, rfl, hk13, hb13⟩
  have q13 := q12.trans (hb13.mono q12.size)
  go_wp2_with fail
  refine (knotsS a13 c13 l' _ (by omega) HN'.out hk13).mono ?_
  rintro e w14 ⟨a14, c14, ks', rfl, hn14, hm14, hr14, hb14⟩
  have q14 := q13.trans (hb14.mono q13.size)
  have b1214 := hb13.trans (hb14.mono hb13.size)
  have hkl' := knots_len hn14 hm14
  have N2 := Lib.hid hn14
  have M2 := Lib.hid hm14
  have R2 := Lib.hid hr14
  clear hk13 hn14 hm14 hr14
  go_wp2_with fail
  refine (copyS A c l _ (by omega) hA ((HR.out.below q14).more q14.size)).mono ?_
  rintro e w15 ⟨a15, c15, rfl, hk15, hb15⟩
  have q15 := q14.trans (hb15.mono q14.size)
  have K15 := Lib.hid hk15
  clear hk15
  go_wp2_with fail
  refine (copyS A' c' l' _ (by omega) hA' ((HR'.out.below q15).more q15.size)).mono ?_
  rintro e w16 ⟨a16, c16, rfl, hk16, hb16⟩
  have q16 := q15.trans (hb16.mono q15.size)
  have K16 := Lib.hid hk16
  clear hk16
  go_wp2_with fail
  refine (unionS a15 a16 c15 c16 l l' t _ HT.out (by omega) (by omega) HN.out HN'.out (K15.out.below hb16) K16.out).mono ?_
  rintro e w17 ⟨a17, c17, rfl, hk17, hb17⟩
  have q17 := q16.trans (hb17.mono q16.size)
  have K17 := Lib.hid hk17
  clear hk17
  go_wp2_with fail
  refine (copyS a17 c17 t _ (by omega) K17.out.2.2.1 K17.out.2.2.2).mono ?_
  rintro e w18 ⟨a18, c18, rfl, hk18, hb18⟩
  have q18 := q17.trans (hb18.mono q17.size)
  go_wp2_with fail
  refine (knotsS a18 c18 t _ (by omega) HTN.out hk18).mono ?_
  rintro e w19 ⟨a19, c19, ms, rfl, hn19, hm19, hr19, hb19⟩
  have q19 := q18.trans (hb19.mono q18.size)
  have b1419 := (hb15.trans (hb16.mono hb15.size)).trans ((hb17.trans ((hb18.trans (hb19.mono hb18.size)).mono hb17.size)).mono (hb15.trans (hb16.mono hb15.size)).size)
  have b1219 := b1214.trans (b1419.mono b1214.size)
  have hkl'' := knots_len hn19 hm19
  have SUM := Lib.hid (knots_union N1.out N2.out hn19 M1.out M2.out hm19 (fun x => by rw [← HT.out]; exact mergeU_mem x l l'))
  have M3 := Lib.hid hm19
  have R3 := Lib.hid hr19
  have R1' := Lib.hid ((R1.out.below b1219).more b1219.size)
  have R2' := Lib.hid ((R2.out.below b1419).more b1419.size)
  have hn40 : ¬ ((40 : Int) < (ks.length : Int)) := by omega
  have hn41 : ¬ ((40 : Int) < (ks'.length : Int)) := by omega
  have hk40 : (ks.length : Int) ≤ 40 := by omega
  have hk41 : (ks'.length : Int) ≤ 40 := by omega
  have hk42 : (ms.length : Int) ≤ 80 := by omega
  clear hk18 hn19 hm19 hr19
  go_wp2_with fail
  go_loopw [23, 157] (fun n i wi => ∃ j : Nat, j ≤ ks.length ∧ i = .int .i64 j ∧ n = .int .i64 (cntK ks' (ks.take j) : Nat) ∧ Below w19.heap.size w19 wi) (fun _ i _ => ks.length - (intOf i).toNat)
  case atStart => exact ⟨0, Nat.zero_le _, rfl, rfl, Below.refl _ _⟩
  case round =>
    obtain ⟨j, hj, rfl, rfl, hb⟩ := hrel
    have hbz := hb.size
    have hcb := cntK_le ks' ks j
    by_cases hlt : j < ks.length
    · obtain ⟨b, off, rfl, hB, hc⟩ := R1'.out.below hb (by omega)
      obtain ⟨d0, d1⟩ := hc j hlt
      obtain ⟨w20, hw20, v0, v1, hb20, hz20⟩ := box2 wr (.int .i64 ks[j].x) (.int .i64 ks[j].y) 30
      have HW20 := Lib.hid hw20
      have bt := hb.trans (hb20.mono hbz)
      have HIN := Lib.hid (show decide (ks[j] ∈ ms) = true by
        rw [decide_eq_true_eq]
        exact (M3.out _).2 (HT.out ▸ ends_merge (M1.out _ |>.1 (List.getElem_mem hlt))))
      clear hc hw20
      by_cases hin : ks[j] ∈ ks'
      · have HC := Lib.hid (cntK_in hlt hin)
        have HD := Lib.hid (show decide (ks[j] ∈ ks') = true by simpa using hin)
        clear hin
        go_wp2_with fail
        rw [← HW20.out]
        refine (refHasKnot a14 c14 ks' ks[j] _ (by omega) ((R2'.out.below bt).more bt.size)).mono ?_
        rintro e w21 ⟨rfl, hb21⟩
        rw [HD.out]
        have bt1 := bt.trans (hb21.mono bt.size)
        have v0' := (hb21.cell (p := ⟨wr.heap.size, 0, none⟩) hz20).trans v0
        have v1' := (hb21.cell (p := ⟨wr.heap.size, 1, none⟩) hz20).trans v1
        go_wp2_with fail
        refine (refHasKnot a19 c19 ms ks[j] _ (by omega) ((R3.out.below bt1).more bt1.size)).mono ?_
        rintro e w22 ⟨rfl, hb22⟩
        rw [HIN.out]
        go_wp2
        go_roundw
        case rel => exact ⟨j + 1, by omega, by go_num, by rw [HC.out]; go_num, bt1.trans (hb22.mono bt1.size)⟩
        case measure => simp [intOf]; omega
      · have HC := Lib.hid (cntK_out hlt hin)
        have HD := Lib.hid (show decide (ks[j] ∈ ks') = false by simpa using hin)
        clear hin
        go_wp2_with fail
        rw [← HW20.out]
        refine (refHasKnot a14 c14 ks' ks[j] _ (by omega) ((R2'.out.below bt).more bt.size)).mono ?_
        rintro e w21 ⟨rfl, hb21⟩
        rw [HD.out]
        have bt1 := bt.trans (hb21.mono bt.size)
        have v0' := (hb21.cell (p := ⟨wr.heap.size, 0, none⟩) hz20).trans v0
        have v1' := (hb21.cell (p := ⟨wr.heap.size, 1, none⟩) hz20).trans v1
        go_wp2_with fail
        refine (refHasKnot a19 c19 ms ks[j] _ (by omega) ((R3.out.below bt1).more bt1.size)).mono ?_
        rintro e w22 ⟨rfl, hb22⟩
        rw [HIN.out]
        go_wp2
        go_roundw
        case rel => exact ⟨j + 1, by omega, by go_num, by rw [HC.out], bt1.trans (hb22.mono bt1.size)⟩
        case measure => simp [intOf]; omega
    · obtain rfl : j = ks.length := by omega
      have hsum : (ms.length : Int) = (ks.length : Int) + (ks'.length : Int) - (cntK ks' (ks.take ks.length) : Nat) := by
        have := SUM.out
        rw [List.take_length]
        unfold cntK
        omega
      generalize (cntK ks' (ks.take ks.length) : Nat) = cc at hsum hcb ⊢
      have heq : ((ms.length : Int) == (ks.length : Int) + (ks'.length : Int) - (cc : Int)) = true := by rw [beq_iff_eq]; exact hsum
      have hcc : (cc : Int) ≤ 40 := by omega
      have HSM := Lib.hid hsum
      clear hsum
      go_wp2_with fail
      refine (Calls.mono (corkMesh _) ?_)
      rintro e w23 ⟨rfl, hb23⟩
      have qf := Q.out
      go_wp2
      go_ret
      exact ⟨rfl, (q19.trans (hb.mono q19.size)).trans (hb23.mono (by have := q19.size; omega))⟩
end Go.Proofs.Ytgbpemphddpelaa

namespace Go.Proofs.Ytgbpemphddpelaa
open Go.ChangeShapes Go.WideShapes Go.ChangeAt Go.RowKit

theorem topApart (A A' : Option Addr) (c c' : Nat) (l l' : List Ck.Bar) (w : World) (hA : A = none → c = 0) (hA' : A' = none → c' = 0) (hm : l.length ≤ maxLen) (hm' : l'.length ≤ maxLen) (h : RB w w.heap.size A l) (h' : RB w w.heap.size A' l') :
    Calls Try.prog 3 #[.slice A l.length c, .slice A' l'.length c'] w (YesPost w) := by
  cases h1 : corkF l
  · exact apartNo A A' c c' l l' w hm hm' h h' (.inl h1)
  · cases h2 : corkF l'
    · exact apartNo A A' c c' l l' w hm hm' h h' (.inr ⟨h1, h2⟩)
    · exact apartYes A A' c c' l l' w hA hA' h h' h1 h2

theorem Try.own : ownKnob Try.prog.godebug = none := by kernel_rfl
theorem Try.laidOut : laidOutB Try.prog = true := by kernel_rfl

set_option maxRecDepth 100000 in
theorem apart_lifted (os : Os) (started : os.Started) (H : Type) (enc : TypeId × Value → H) :
    ReturnsInHanded {} Try.checked os 3 .any (Rows.topCorkApartSpec.pre6 enc Try.prog Try.f3 Rows.topCorkApartRow.domain false) (Rows.topCorkApartSpec.post enc Try.prog Try.f3 false true false false) := by
  refine returnsInHanded_of_change (C := Try.checked) Try.own started (by kernel_rfl) Try.func3
    (ChangeSpec.witness6 (enc := enc) (C := Try.checked) false ⟨#[], #[.slice none 0 0, .slice none 0 0], []⟩ 8 (by kernel_rfl) (by kernel_rfl) (by kernel_rfl) (by kernel_rfl)) ?_
  intro W base args ds gs before hval0 hW _ _
  have hval : ∀ (j : Nat) t v, Try.f3.params[j]? = some t → args[j]? = some v → Value.okWide Try.prog W .any base t v := hval0
  have hW' := hW
  obtain ⟨p, q, hA0, hV, rfl, _, _⟩ := hW
  have hA : DataW.TrodAll enc Try.prog W 0 (fun _ => true) true Try.f3.params.toList args.toList ds p := hA0
  rw [Try.params3] at hA hval
  obtain ⟨v0, v1, d0, d1, p0, p1, rfl, rfl, rfl, h0, h1⟩ := trodAll_two hA
  obtain ⟨rfl, rfl⟩ := trodVars_none hV
  clear hA0 hval0
  simp only [List.append_nil] at hW'
  have hlt : ∀ x ∈ p0 ++ p1, x.block < W.heap.size := fun x hx => by simpa using hW'.lt x hx
  obtain ⟨A, c, l, rfl, hAn, hlc, hcm, hR⟩ := open_bars (hval 0 22 v0 rfl rfl) h0 (fun x hx => hlt x (List.mem_append_left _ hx))
  obtain ⟨A', c', l', rfl, hAn', hlc', hcm', hR'⟩ := open_bars (hval 1 22 v1 rfl rfl) h1 (fun x hx => hlt x (List.mem_append_right _ hx))
  have harg0 : ∀ (W' : World), Below W.heap.size W W' → DataW.Trod enc Try.prog W' 0 (fun b => decide (b < W.heap.size)) true 22 (.slice A l.length c) d0 p0 :=
    fun W' hn => Below.trod Try.laidOut (by kernel_rfl) (of_decide_eq_true (by kernel_rfl)) h0 hn (fun x hx => hlt x (List.mem_append_left _ hx))
  have harg1 : ∀ (W' : World), Below W.heap.size W W' → DataW.Trod enc Try.prog W' 0 (fun b => decide (b < W.heap.size)) true 22 (.slice A' l'.length c') d1 p1 :=
    fun W' hn => Below.trod Try.laidOut (by kernel_rfl) (of_decide_eq_true (by kernel_rfl)) h1 hn (fun x hx => hlt x (List.mem_append_right _ hx))
  refine (topApart A A' c c' l l' W hAn hAn' (Nat.le_trans hlc hcm) (Nat.le_trans hlc' hcm') hR hR').mono fun e W' ⟨he, hb⟩ => ?_
  subst he
  refine ⟨_, rfl, _, _, _, [], p0 ++ p1, [], hW', ?_, trodAll_mk2 (harg0 W' hb) (harg1 W' hb), rfl, hb.frame _, fun h => by cases h⟩
  exact trodAll_mk1 (shut_bool Try.underlying4 true)

theorem x_holds : Rows.TopCorkApartSaid :=
  OpenClaim.holds_of_wide 3 Try.f3 rfl rfl rfl rfl rfl rfl rfl ⟨rfl, rfl, rfl, rfl, rfl⟩ rfl rfl rfl rfl rfl (by kernel_rfl) Try.func3 (by kernel_rfl)
    (of_decide_eq_true (by kernel_rfl)) (by unfold Func.isWrapper; first | (rw [if_pos (by decide +kernel)]; kernel_rfl) | (rw [if_neg (by decide +kernel)]; exact ⟨rfl, rfl⟩))
    (fun os started H enc _ => apart_lifted os started H enc)
#print axioms x_holds
end Go.Proofs.Ytgbpemphddpelaa
