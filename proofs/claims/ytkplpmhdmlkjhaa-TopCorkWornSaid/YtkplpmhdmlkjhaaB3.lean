/- Helpers, part 3. -/
import Derived.Test.YtkplpmhdmlkjhaaB2
import Derived.Laws.AppendOwnNone
import Derived.Maps.Range
import Derived.Sort.MapsRangeIn
import Derived.RangeFuncSeq
import Derived.RangeFuncNested
import Derived.RangeFuncBound
import Derived.RangeFuncCalls
import Derived.RangeFuncLeaves
import Derived.Shelf.Abstract
import Derived.OwnWalkIn
import Derived.TacticsInMore
import Derived.LoopNIn
import Derived.LoopIn
import Derived.Shelf.AbstractIn
import Derived.Deep.RegionHeld3
import Derived.Deep.AppendLies
/- The contract of Count at a valid net. -/
namespace Go.Proofs.Ytkplpmhdmlkjhaa
open Go.RowKit

theorem farB_iff (n : Int) : farB n = false ↔ Ck.inPlace n := by simp [farB, Ck.inPlace]
theorem knotE_ok (x y : Int) : knotE x y = 0 ↔ Ck.okKnot ⟨x, y⟩ := by
  unfold knotE Ck.okKnot
  cases hx : farB x
  · cases hy : farB y
    · have h1 := (farB_iff x).1 hx
      have h2 := (farB_iff y).1 hy
      simp [h1, h2, evenB]
    · have h2 : ¬ Ck.inPlace y := fun h => by rw [(farB_iff y).2 h] at hy; cases hy
      simp [h2]
  · have h2 : ¬ Ck.inPlace x := fun h => by rw [(farB_iff x).2 h] at hx; cases hx
    simp [h2]
theorem barE_iff (b : Ck.Bar) : barE b.x b.y b.s = 0 ↔ Ck.okBar b := by
  unfold barE Ck.okBar
  by_cases h1 : knotE b.x b.y = 0
  · by_cases h2 : b.s = 1 ∨ b.s = -1
    · simp only [h1, if_true, if_pos h2, knotE_ok]
      have hk : Ck.okKnot ⟨b.x, b.y⟩ := (knotE_ok _ _).1 h1
      constructor
      · rintro ⟨a, c, _⟩
        exact ⟨hk, h2.symm, a, c⟩
      · rintro ⟨_, _, a, c⟩
        refine ⟨a, c, ?_⟩
        have := hk.2.2
        simp only at this ⊢
        omega
    · simp only [h1, if_true, if_neg h2]
      constructor
      · intro h; omega
      · rintro ⟨_, h, _⟩; exact absurd h.symm h2
  · simp only [if_neg h1]
    constructor
    · intro h; exact absurd h h1
    · rintro ⟨h, _⟩; exact absurd ((knotE_ok _ _).2 h) h1
theorem netFrom_zero : ∀ (l : List Ck.Bar) (p : Option Ck.Bar), netFrom p l = 0 ↔ (∀ b ∈ l, Ck.okBar b) ∧ (match p with | none => l.Pairwise Ck.Blt | some a => (a :: l).Pairwise Ck.Blt)
  | [], none => by simp [netFrom]
  | [], some a => by simp [netFrom]
  | b :: r, none => by
    unfold netFrom
    by_cases h : barE b.x b.y b.s = 0
    · rw [if_pos h, netFrom_zero r (some b)]
      simp only [List.mem_cons, forall_eq_or_imp, (barE_iff b).1 h, true_and]
    · rw [if_neg h]
      constructor
      · intro h'; exact absurd h' h
      · intro h'; exact absurd ((barE_iff b).2 (h'.1 b (by simp))) h
  | b :: r, some a => by
    unfold netFrom
    by_cases h : barE b.x b.y b.s = 0
    · rw [if_pos h]
      by_cases hl : lessB a.x a.y a.s b.x b.y b.s = true
      · have hab := (lessB_iff a b).1 hl
        rw [if_pos hl, netFrom_zero r (some b)]
        simp only [List.mem_cons, forall_eq_or_imp, (barE_iff b).1 h, true_and]
        constructor
        · rintro ⟨h1, h2⟩
          exact ⟨h1, List.pairwise_cons.2 ⟨fun c hc => by
            rcases List.mem_cons.1 hc with rfl | hc
            · exact hab
            · exact hab.trans ((List.pairwise_cons.1 h2).1 c hc), h2⟩⟩
        · rintro ⟨h1, h2⟩
          exact ⟨h1, (List.pairwise_cons.1 h2).2⟩
      · rw [if_neg hl]
        constructor
        · intro h'; omega
        · rintro ⟨_, h2⟩
          exact absurd ((lessB_iff a b).2 ((List.pairwise_cons.1 h2).1 b (by simp))) hl
    · rw [if_neg h]
      constructor
      · intro h'; exact absurd h' h
      · intro h'; exact absurd ((barE_iff b).2 (h'.1 b (by simp))) h
theorem netE_zero (l : List Ck.Bar) : netE l = 0 ↔ l.length ≤ 4096 ∧ Ck.Net l := by
  unfold netE
  split
  · constructor
    · intro h; omega
    · rintro ⟨h, _⟩; omega
  · rw [netFrom_zero]
    constructor
    · rintro ⟨h1, h2⟩; exact ⟨by omega, h1, h2⟩
    · rintro ⟨_, h1, h2⟩; exact ⟨h1, h2⟩

theorem mput_keys (m : List (Ck.Knot × Int)) (k k' : Ck.Knot) (v : Int) : k' ∈ (mput m k v).map (·.1) ↔ k' = k ∨ k' ∈ m.map (·.1) := by
  induction m with
  | nil => simp [mput]
  | cons p r ih =>
    by_cases h : k = p.1
    · rw [show mput (p :: r) k v = (k, v) :: r from by simp [mput, h]]
      simp only [List.map_cons, List.mem_cons, ← h]
      constructor
      · rintro (h1 | h1)
        · exact .inl h1
        · exact .inr (.inr h1)
      · rintro (h1 | h1 | h1)
        · exact .inl h1
        · exact .inl h1
        · exact .inr h1
    · simp only [mput, if_neg h, List.map_cons, List.mem_cons, ih]
      constructor
      · rintro (h1 | h1 | h1)
        · exact .inr (.inl h1)
        · exact .inl h1
        · exact .inr (.inr h1)
      · rintro (h1 | h1 | h1)
        · exact .inr (.inl h1)
        · exact .inl h1
        · exact .inr (.inr h1)
theorem degs_keys (ks : List Ck.Knot) : ∀ (m : List (Ck.Knot × Int)) (k : Ck.Knot), k ∈ (ks.foldl incr m).map (·.1) ↔ k ∈ ks ∨ k ∈ m.map (·.1) := by
  induction ks with
  | nil => intro m k; simp
  | cons a r ih =>
    intro m k
    rw [List.foldl_cons, ih, incr, mput_keys, List.mem_cons]
    constructor
    · rintro (h | h | h)
      · exact .inl (.inr h)
      · exact .inl (.inl h)
      · exact .inr h
    · rintro ((h | h) | h)
      · exact .inr (.inl h)
      · exact .inl h
      · exact .inr (.inr h)
theorem MIs.keys_nodup {w : World} {b : Nat} {m : List (Ck.Knot × Int)} (h : MIs w b m) : (m.map (·.1)).Nodup := by
  obtain ⟨_, _, _, _, h3, _⟩ := h
  exact h3
theorem degs_length {w : World} {b : Nat} {l : List Ck.Bar} (h : MIs w b (degsL (Ck.ends l))) : (degsL (Ck.ends l)).length = Ck.nK l := by
  rw [← Ck.nK_eq h.keys_nodup (fun k => by rw [degsL, degs_keys]; simp), List.length_map]
theorem MIs.size {w : World} {b : Nat} {m : List (Ck.Knot × Int)} (h : MIs w b m) : ∃ es clock, w.heap[b]? = some (.map es clock) ∧ es.size = m.length := by
  obtain ⟨es, clock, h1, h2, _⟩ := h
  refine ⟨es, clock, h1, ?_⟩
  have := congrArg List.length h2
  simpa using this
theorem nK_le (l : List Ck.Bar) : Ck.nK l ≤ 2 * l.length := by
  rw [← ends_length l]
  exact (Ck.nub_nodup _).length_le_of_subset (fun k hk => Ck.mem_nub.1 hk)
theorem meshL_nM (l : List Ck.Bar) : (meshL l l).length = Ck.nM l := by
  rw [meshL, ← List.countP_eq_length_filter, Ck.nM]
  refine List.countP_congr fun b hb => ?_
  obtain ⟨x, y, s⟩ := b
  simp only [isM, Ck.isMesh, allIn, meshBars4, List.all_cons, List.all_nil, Bool.and_true, Bool.and_eq_true, decide_eq_true_eq]
  rw [show y + 1 - 1 = y from by omega]
  constructor
  · rintro ⟨h1, _, h2, h3, h4⟩; exact ⟨h1, h2, h3, h4⟩
  · rintro ⟨h1, h2, h3, h4⟩
    subst h1
    exact ⟨rfl, hb, h2, h3, h4⟩

theorem MIs.len {w : World} {b : Nat} {m : List (Ck.Knot × Int)} (h : MIs w b m) : (Builtin.len_ #[68] 3 #[.map (some b)]).run Try.prog w = .ok (.int .i64 (m.length : Nat)) w := by
  obtain ⟨es, clock, h1, h2⟩ := h.size
  simp [Builtin.len_, run_underlying Try.underlying68, MapKept.run_getObj_map h1, goInt, h2, Result.andThen]
theorem five_of_block {w : World} {g : Nat} {a b c d e : Value} {t : TypeId} (h : w.heap[g]? = some (.cells #[a, b, c, d, e] t (0, 0))) : w.cell? ⟨g, 0, none⟩ = some a ∧ w.cell? ⟨g, 1, none⟩ = some b ∧ w.cell? ⟨g, 2, none⟩ = some c ∧ w.cell? ⟨g, 3, none⟩ = some d ∧ w.cell? ⟨g, 4, none⟩ = some e ∧ ∀ i, w.frozen? ⟨g, i, none⟩ = false := by
  refine ⟨?_, ?_, ?_, ?_, ?_, fun i => ?_⟩ <;> simp [World.cell?, World.frozen?, h]
def CountPost (l : List Ck.Bar) (w : World) (e : Ending) (w' : World) : Prop :=
  ∃ p : Nat, Ck.PartsIs l p ∧ e = .returned (.tuple #[.agg #[.int .i64 (Ck.nK l : Nat), .int .i64 (l.length : Nat), .int .i64 (Ck.nM l : Nat), .int .i64 p, .int .i64 ((l.length : Int) - (Ck.nK l : Nat) + p - (Ck.nM l : Nat))], .int .i64 0]) ∧ Below w.heap.size w w'

set_option maxHeartbeats 2000000 in
set_option maxRecDepth 100000 in
theorem netCount (A : Option Addr) (c : Nat) (l : List Ck.Bar) (w : World) (hl : l.length ≤ 4096) (hcap : l.length ≤ c) (hcm : c ≤ maxLen) (hN : Ck.Net l) (h : RB w w.heap.size A l) :
    Calls Try.prog 21 #[.slice A l.length c] w (CountPost l w) := by
  have HR := Lib.hid h
  have HN := Lib.hid hN
  have HE := Lib.hid ((netE_zero l).2 ⟨hl, hN⟩)
  have hnk := nK_le l
  have hnm : (meshL l l).length ≤ l.length := by have := meshL_le l l.length; rwa [List.take_length] at this
  clear h hN
  go_enter Try.func21, Try.ntmps21
  obtain ⟨w0, hw0⟩ : ∃ w0, w0 = w.alloc (.cells #[.int .i64 0, .int .i64 0, .int .i64 0, .int .i64 0, .int .i64 0] 33) := ⟨_, rfl⟩
  have hr0 : w0.heap[w.heap.size]? = some (.cells #[.int .i64 0, .int .i64 0, .int .i64 0, .int .i64 0, .int .i64 0] 33 (0, 0)) := by rw [hw0]; exact heap_alloc_new _ _
  have hb0 : Below w.heap.size w w0 := by rw [hw0]; exact (Below.refl _ _).alloc (Nat.le_refl _) _
  have hz0 : w.heap.size < w0.heap.size := by rw [hw0]; simp
  have HW := Lib.hid hw0
  have HR0 := Lib.hid hr0
  clear hw0 hr0
  go_wp2_with fail
  rw [← HW.out]
  refine (netCheckNet A c l _ hl hcap hcm ((HR.out.below hb0).more hb0.size)).mono ?_
  rintro e w1 ⟨rfl, hb1⟩
  rw [HE.out]
  have hc1 := hb0.trans (hb1.mono hb0.size)
  have hz1 := Nat.lt_of_lt_of_le hz0 hb1.size
  go_wp2_with fail
  refine (netDegrees A c l _ hl HN.out.1 ((HR.out.below hc1).more hc1.size)).mono ?_
  rintro e w2 ⟨b, rfl, hbz, hm2, hb2⟩
  have hc2 := hc1.trans (hb2.mono hc1.size)
  have hz2 := Nat.lt_of_lt_of_le hz1 hb2.size
  have hlen := hm2.len
  rw [degs_length hm2] at hlen
  have hms := meshL_nM l
  rw [hms] at hnm
  have HMS := Lib.hid hms
  clear hms
  go_wp2_with fail
  refine (netMeshesOf A c l _ hl HN.out.2 HN.out.1 ((HR.out.below hc2).more hc2.size)).mono ?_
  rintro e w3 ⟨v, rfl, hown, hb3⟩
  rw [HMS.out] at hown
  have hc3 := hc2.trans (hb3.mono hc2.size)
  have hz3 := Nat.lt_of_lt_of_le hz2 hb3.size
  have hlv : ∃ a cv, v = .slice a (Ck.nM l) cv := by
    rcases hown.2 with ⟨h1, h2⟩ | ⟨g, cap, cur, h1, _⟩
    · exact ⟨none, 0, by rw [h1, h2]⟩
    · exact ⟨_, _, h1⟩
  obtain ⟨av, cv, rfl⟩ := hlv
  clear hown
  go_wp2_with fail
  refine (netPartsOf A c l _ hl HN.out.2 HN.out.1 ((HR.out.below hc3).more hc3.size)).mono ?_
  rintro e w4 ⟨p, ap, cp, hp, hpl, rfl, hb4⟩
  have hc4 := hc3.trans (hb4.mono hc3.size)
  have hz4 := Nat.lt_of_lt_of_le hz3 hb4.size
  have hr4 := (hb4.block _ hz3).trans ((hb3.block _ hz2).trans ((hb2.block _ hz1).trans ((hb1.block _ hz0).trans HR0.out)))
  obtain ⟨r0, r1, r2, r3, r4, rf⟩ := five_of_block hr4
  have HR4 := Lib.hid hr4
  have HP := Lib.hid hp
  clear hr4 hp
  generalize hgk : Ck.nK l = nk at *
  generalize hgm : Ck.nM l = nm at *
  have HK := Lib.hid hgk
  have HM := Lib.hid hgm
  clear hgk hgm
  go_wp2
  exact bodyPost_ret (v := .tuple #[.agg #[.int .i64 (nk : Int), .int .i64 (l.length : Int), .int .i64 (nm : Int), .int .i64 (p : Int), .int .i64 ((l.length : Int) - nk + p - nm)], .int .i64 0]) (by simp [results, Try.results21, go_sem, r0, r1, r2, r3, r4, hz4]) rfl
    ⟨p, HP.out, by rw [HK.out, HM.out], (((((hc4.setCell (Nat.le_refl _) _).setCell (Nat.le_refl _) _).setCell (Nat.le_refl _) _).setCell (Nat.le_refl _) _).setCell (Nat.le_refl _) _).alloc (by simp; omega) _⟩
end Go.Proofs.Ytkplpmhdmlkjhaa

/- Contracts of compareHeads and merge, where all that either list has is kept. -/
namespace Go.Proofs.Ytkplpmhdmlkjhaa
open Go.RowKit

def headsE : List Ck.Bar → List Ck.Bar → Int
  | [], _ => 1
  | _ :: _, [] => -1
  | a :: _, b :: _ => cmpB a b
theorem RB.head {w : World} {B : Nat} {A : Option Addr} {a : Ck.Bar} {r : List Ck.Bar} (h : RB w B A (a :: r)) : ∃ b off, A = some ⟨b, off, none⟩ ∧ b < B ∧ w.cell? ⟨b, off, none⟩ = some (.int .i64 a.x) ∧ w.cell? ⟨b, off + 1, none⟩ = some (.int .i64 a.y) ∧ w.cell? ⟨b, off + 2, none⟩ = some (.int .i64 a.s) ∧ RB w B (some ⟨b, off + 3, none⟩) r := by
  obtain ⟨b, off, rfl, hb, hc⟩ := h (by simp)
  have h0 := hc 0 (by simp)
  simp only [List.getElem_cons_zero, Nat.zero_mul, Nat.add_zero] at h0
  refine ⟨b, off, rfl, hb, h0.1, h0.2.1, h0.2.2, fun hl => ⟨b, off + 3, rfl, hb, fun i hi => ?_⟩⟩
  have := hc (i + 1) (by simpa using hi)
  simp only [List.getElem_cons_succ] at this
  rw [show off + (i + 1) * 3 = off + 3 + i * 3 from by omega] at this
  exact this
theorem RB.nil (w : World) (B : Nat) (A : Option Addr) : RB w B A [] := fun h => by simp at h

set_option maxHeartbeats 1000000 in
set_option maxRecDepth 100000 in
theorem netHeads (A A' : Option Addr) (c c' : Nat) (l l' : List Ck.Bar) (w : World) (hl : l.length ≤ 10000) (hl' : l'.length ≤ 10000) (h : RB w w.heap.size A l) (h' : RB w w.heap.size A' l') :
    Calls Try.prog 70 #[.slice A l.length c, .slice A' l'.length c', .func (.func 51) #[] #[]] w fun e w' => e = .returned (.int .i64 (headsE l l')) ∧ Below w.heap.size w w' := by
  match l, l', h, h' with
  | [], l', _, _ =>
    go_enter Try.func70, Try.ntmps70
    go_wp2
    go_ret
    exact ⟨rfl, Below.refl _ _⟩
  | a :: r, [], _, _ =>
    have h1 : ((r.length : Int) + 1 == 0) = false := by rw [beq_eq_false_iff_ne]; omega
    have h2 : (((a :: r).length : Int) == 0) = false := by rw [beq_eq_false_iff_ne]; simp only [List.length_cons]; omega
    go_enter Try.func70, Try.ntmps70
    go_wp2
    go_ret
    exact ⟨rfl, Below.refl _ _⟩
  | a :: r, a' :: r', h, h' =>
    obtain ⟨b, off, rfl, hb, c0, c1, c2, _⟩ := h.head
    obtain ⟨b', off', rfl, hb', d0, d1, d2, _⟩ := h'.head
    have h1 : ((r.length : Int) + 1 == 0) = false := by rw [beq_eq_false_iff_ne]; omega
    have h3 : ((r'.length : Int) + 1 == 0) = false := by rw [beq_eq_false_iff_ne]; omega
    have h5 : (0 : Int) < (r.length : Int) + 1 := by omega
    have h6 : (0 : Int) < (r'.length : Int) + 1 := by omega
    clear h h'
    go_enter Try.func70, Try.ntmps70
    go_wp2_with fail
    refine wp_region_still_tail 7 (by kernel_rfl) (by kernel_rfl) ?_
    simp only [List.take_succ_cons, List.take_zero, List.drop_succ_cons, List.drop_zero]
    repeat still_step
    refine wpStill_nil ?_
    change wpList _ _ _ _ _ w.drew
    go_wp2_with fail
    refine (netCompareBars_below _ _ _ _ _ _ _).mono ?_
    rintro e w2 ⟨rfl, hb2⟩
    go_wp2
    go_ret
    exact ⟨rfl, (below_drew (Below.refl _ _)).trans hb2⟩
end Go.Proofs.Ytkplpmhdmlkjhaa

/- The contract of merge where all is kept. -/
namespace Go.Proofs.Ytkplpmhdmlkjhaa
open Go.RowKit

def mergeU : List Ck.Bar → List Ck.Bar → List Ck.Bar
  | [], l' => l'
  | a :: r, [] => a :: r
  | a :: r, b :: r' => if cmpB a b < 0 then a :: mergeU r (b :: r') else if 0 < cmpB a b then b :: mergeU (a :: r) r' else a :: mergeU r r'
termination_by l l' => l.length + l'.length
def bcellsL (l : List Ck.Bar) : List Value := l.flatMap fun b => [.int .i64 b.x, .int .i64 b.y, .int .i64 b.s]
theorem bcellsL_snoc (l : List Ck.Bar) (b : Ck.Bar) : bcellsL (l ++ [b]) = bcellsL l ++ [.int .i64 b.x, .int .i64 b.y, .int .i64 b.s] := by simp [bcellsL]
theorem headsE_neg {ra rb : List Ck.Bar} (h : headsE ra rb < 0) : ∃ a r, ra = a :: r ∧ mergeU ra rb = a :: mergeU r rb := by
  match ra, rb, h with
  | [], _, h => simp [headsE] at h
  | a :: r, [], _ => exact ⟨a, r, rfl, by cases r <;> simp [mergeU]⟩
  | a :: r, b :: r', h =>
    have h' : cmpB a b < 0 := h
    exact ⟨a, r, rfl, by rw [mergeU, if_pos h']⟩
theorem headsE_pos {ra rb : List Ck.Bar} (h : 0 < headsE ra rb) (hne : 0 < ra.length + rb.length) : ∃ b r', rb = b :: r' ∧ mergeU ra rb = b :: mergeU ra r' := by
  match ra, rb, h with
  | [], [], _ => simp at hne
  | [], b :: r', _ => exact ⟨b, r', rfl, by simp [mergeU]⟩
  | a :: r, [], h => simp [headsE] at h
  | a :: r, b :: r', h => 
    have h' : 0 < cmpB a b := h
    exact ⟨b, r', rfl, by rw [mergeU, if_neg (by omega), if_pos h']⟩
theorem headsE_zero {ra rb : List Ck.Bar} (h : headsE ra rb = 0) : ∃ a r r', ra = a :: r ∧ rb = a :: r' ∧ mergeU ra rb = a :: mergeU r r' := by
  match ra, rb, h with
  | [], _, h => simp [headsE] at h
  | a :: r, [], h => simp [headsE] at h
  | a :: r, b :: r', h =>
    have h' : cmpB a b = 0 := h
    have e := (cmpB_zero _ _).1 h'
    subst e
    exact ⟨a, r, r', rfl, rfl, by rw [mergeU, if_neg (by omega), if_neg (by omega)]⟩

set_option maxHeartbeats 400000 in
theorem keepUnion (x y : Bool) (w : World) : Calls Try.prog 28 #[.bool x, .bool y] w fun e w' => e = .returned (.bool (x || y)) ∧ w = w' := by
  cases x
  all_goals
    go_enter Try.func28, Try.ntmps28
    go_wp2
    go_ret
    exact ⟨rfl, rfl⟩

theorem three_of_block {w : World} {g : Nat} {a b c : Value} {t : TypeId} (h : w.heap[g]? = some (.cells #[a, b, c] t (0, 0))) : w.cell? ⟨g, 0, none⟩ = some a ∧ w.cell? ⟨g, 1, none⟩ = some b ∧ w.cell? ⟨g, 2, none⟩ = some c ∧ ∀ i, w.frozen? ⟨g, i, none⟩ = false := by
  refine ⟨?_, ?_, ?_, fun i => ?_⟩ <;> simp [World.cell?, World.frozen?, h]
/-- A bar is stored into a variable of its own. -/
theorem put3 {w : World} {g : Nat} {a b c : Value} {t : TypeId} (h : w.heap[g]? = some (.cells #[a, b, c] t (0, 0))) (x y z : Value) :
    ∃ W, W = ((w.setCell ⟨g, 0, none⟩ x).setCell ⟨g, 1, none⟩ y).setCell ⟨g, 2, none⟩ z ∧ W.heap[g]? = some (.cells #[x, y, z] t (0, 0)) ∧ Below g w W ∧ W.heap.size = w.heap.size := by
  refine ⟨_, rfl, ?_, (((Below.refl g w).setCell (p := ⟨g, 0, none⟩) (Nat.le_refl g) _).setCell (p := ⟨g, 1, none⟩) (Nat.le_refl g) _).setCell (p := ⟨g, 2, none⟩) (Nat.le_refl g) _, by simp [World.setCell]⟩
  simp [World.setCell, Array.getElem?_modify, h, Array.setIfInBounds]
/-- What is left of a list when its first bar is taken: the slice's address stays where no room is left behind it. -/
theorem RB.cut1 {w : World} {B b off c : Nat} {r : List Ck.Bar} (h : RB w B (some ⟨b, off + 3, none⟩) r) (hc : r.length + 1 ≤ c) (A : Option Addr) (hA : c ≠ 1 → A = some ⟨b, off + 3, none⟩) : RB w B A r := fun hl => by
  rw [hA (by omega)]
  exact h hl

def MrgPost (l l' : List Ck.Bar) (w : World) (e : Ending) (w' : World) : Prop :=
  ∃ v, e = .returned v ∧ w'.ownsRow w.heap.size 50 3 v (mergeU l l').length (bcellsL (mergeU l l')) ∧ Below w.heap.size w w'
def mrgRel (l0 l0' : List Ck.Bar) (w : World) (g : Nat) (va vb vo : Value) (wi : World) : Prop :=
  ∃ A A' c c' ra rb out, g = ra.length + rb.length ∧ va = .slice A ra.length c ∧ vb = .slice A' rb.length c' ∧ ra.length ≤ c ∧ c ≤ 9223372036854775807 ∧ rb.length ≤ c' ∧ c' ≤ 9223372036854775807 ∧ RB wi w.heap.size A ra ∧ RB wi w.heap.size A' rb ∧
    mergeU l0 l0' = out ++ mergeU ra rb ∧ out.length + ra.length + rb.length ≤ l0.length + l0'.length ∧ wi.ownsRow w.heap.size 50 3 vo out.length (bcellsL out) ∧ Below w.heap.size w wi

set_option maxHeartbeats 4000000 in
set_option maxRecDepth 100000 in
theorem netMergeU (A A' : Option Addr) (c c' : Nat) (l l' : List Ck.Bar) (w : World) (hl : l.length ≤ 4096) (hl' : l'.length ≤ 4096) (hc : l.length ≤ c) (hcm : c ≤ maxLen) (hc' : l'.length ≤ c') (hcm' : c' ≤ maxLen) (h : RB w w.heap.size A l) (h' : RB w w.heap.size A' l') :
    Calls Try.prog 50 #[.slice A l.length c, .slice A' l'.length c', .func (.func 51) #[] #[], .func (.func 28) #[] #[]] w (MrgPost l l' w) := by
  obtain ⟨ib, hib, hb0, hb01, hb02⟩ := info_parts Try.info50
  have HIB := Lib.hid hib
  have HB0 := Lib.hid hb0
  have HB1 := Lib.hid hb01
  have HB2 := Lib.hid hb02
  have HR := Lib.hid h
  have HR' := Lib.hid h'
  clear hib hb0 hb01 hb02 h h'
  unfold maxLen at hcm hcm'
  go_enter Try.func50, Try.ntmps50
  go_wp2_with fail
  go_loopg [0, 1, 9, 10, 11] (l.length + l'.length) (fun g va vb vo _ _ wi => mrgRel l l' w g va vb vo wi)
  case atStart => exact ⟨A, A', c, c', l, l', [], rfl, rfl, rfl, hc, hcm, hc', hcm', HR.out, HR'.out, rfl, by simp, World.ownsRow_nil _ _ _ _, Below.refl _ _⟩
  case round =>
    obtain ⟨A1, A2, c1, c2, ra, rb, out, hg, rfl, rfl, k1, k2, k3, k4, r1, r2, hm, hlen, hown, hb⟩ := hrel
    have HG := Lib.hid hg
    have HM := Lib.hid hm
    have HO := Lib.hid hown
    have HA := Lib.hid r1
    have HB := Lib.hid r2
    have hbz := hb.size
    clear hg hm hown r1 r2
    by_cases hne : 0 < ra.length + rb.length
    · rcases Int.lt_trichotomy (headsE ra rb) 0 with ho | ho | ho
      · obtain ⟨a, r, rfl, hmu⟩ := headsE_neg ho
        have HMU := Lib.hid hmu
        have ho1 : (headsE (a :: r) rb ≤ 0) := by omega
        have ho2 : ¬ (0 ≤ headsE (a :: r) rb) := by omega
        have HRA := HA.out.head
        clear hmu
        obtain ⟨b, off, rfl, hbb, d0, d1, d2, ht⟩ := HRA
        have HT := Lib.hid ht
        clear ht
        generalize hoe : headsE (a :: r) rb = o at ho ho1 ho2
        have HOE := Lib.hid hoe
        clear hoe
        go_wp2_with fail
        refine (netHeads (some ⟨b, off, none⟩) A2 c1 c2 (a :: r) rb _ (by simp at hlen ⊢; omega) (by simp at hlen; omega) (HA.out.more hbz) (HB.out.more hbz)).mono ?_
        rintro e w2 ⟨rfl, hb2⟩
        rw [HOE.out]
        have hz2 := hb2.size
        have e0 := (hb2.cell (p := ⟨b, off, none⟩) (by show b < _; omega)).trans d0
        have e1 := (hb2.cell (p := ⟨b, off + 1, none⟩) (by show b < _; omega)).trans d1
        have e2 := (hb2.cell (p := ⟨b, off + 2, none⟩) (by show b < _; omega)).trans d2
        clear d0 d1 d2
        obtain ⟨w3, hw3⟩ : ∃ w3, w3 = w2.alloc (.cells #[.int .i64 0, .int .i64 0, .int .i64 0] 50) := ⟨_, rfl⟩
        have hx : w3.heap[w2.heap.size]? = some (.cells #[.int .i64 0, .int .i64 0, .int .i64 0] 50 (0, 0)) := by rw [hw3]; exact heap_alloc_new _ _
        have hb3 : Below w2.heap.size w2 w3 := by rw [hw3]; exact (Below.refl _ _).alloc (Nat.le_refl _) _
        have hz3 : w2.heap.size < w3.heap.size := by rw [hw3]; simp
        obtain ⟨W, hW, hxW, hbW, hzW⟩ := put3 hx (.int .i64 a.x) (.int .i64 a.y) (.int .i64 a.s)
        obtain ⟨f0, f1, f2, ff⟩ := three_of_block hx
        obtain ⟨g0, g1, g2, _⟩ := three_of_block hxW
        have HW3 := Lib.hid hw3
        have HWW := Lib.hid hW
        have HZW := Lib.hid hzW
        clear hzW
        replace e0 := (hb3.cell (p := ⟨b, off, none⟩) (by show b < _; omega)).trans e0
        replace e1 := (hb3.cell (p := ⟨b, off + 1, none⟩) (by show b < _; omega)).trans e1
        replace e2 := (hb3.cell (p := ⟨b, off + 2, none⟩) (by show b < _; omega)).trans e2
        have hq : Below wr.heap.size wr W := (hb2.trans (hb3.mono hz2)).trans (hbW.mono hz2)
        have HOW := Lib.hid (ownsRow_below HO.out hq)
        have hbw := hb.trans (hq.mono hbz)
        have HTW := Lib.hid ((HT.out.below (hq.mono hbz)))
        have HBW := Lib.hid ((HB.out.below (hq.mono hbz)))
        have hi1 : (0 : Int) < (r.length : Int) + 1 := by omega
        have hi2 : (1 : Int) ≤ (r.length : Int) + 1 := by omega
        have hi3 : (r.length : Int) + 1 ≤ (c1 : Int) := by simp at k1; omega
        clear hw3 hW hx hxW
        go_wp2_with fail
        rw [← HW3.out]
        go_region
        rw [← HWW.out]
        generalize hA1 : (if c1 = 1 then some (⟨b, off, none⟩ : Addr) else some ⟨b, off + 3, none⟩) = A1
        have HRA1 := Lib.hid (HTW.out.cut1 (c := c1) (by simp at k1; omega) A1 (fun hne => by rw [← hA1, if_neg hne]))
        clear hA1 e0 e1 e2
        go_wp2_with (first
          | (go_at_call 28; refine (keepUnion _ _ _).mono ?_; rintro e w' ⟨rfl, rfl⟩)
          | (at_builtin; refine wpList_append_own _ rfl _ _ 22 rfl w.heap.size 50 ib (.agg #[.int .i64 0, .int .i64 0, .int .i64 0]) 3 24 Try.underlying22 HIB.out HB0.out HB1.out HB2.out rfl (by decide) _ _ _ rfl (by exact HOW.out.alloc _) ⟨W.heap.size, 0, none⟩ 1 1 [.int .i64 a.x, .int .i64 a.y, .int .i64 a.s] rfl rfl ?c1 ?c2 ?c3 ?c4 ?c5 ?_))
        case c1 => exact three_new _ _ _ _ _
        case c2 => intro u hu; simp at hu; rcases hu with rfl | rfl | rfl <;> rfl
        case c3 => unfold maxLen; simp at hlen; omega
        case c4 => simp at hlen; omega
        case c5 => have := hbw.size; simp; omega
        intro v' w4 hown4 hgrow4 _
        have hq4 : Below w.heap.size w w4 := (below_drew (hbw.alloc hbw.size (.cells #[.int .i64 a.x, .int .i64 a.y, .int .i64 a.s] 50))).grown hgrow4 (by have := hbw.size; simp; omega) (ownsRow_base HOW.out)
        have hsame : ∀ {X : Option Addr} {q : List Ck.Bar}, RB W w.heap.size X q → RB w4 w.heap.size X q := fun hX => by
          intro hl
          obtain ⟨b', off', e', hb', hc'⟩ := hX hl
          have hk : ∀ o, w4.cell? ⟨b', o, none⟩ = W.cell? ⟨b', o, none⟩ := fun o => (hq4.cell (p := ⟨b', o, none⟩) hb').trans (hbw.cell (p := ⟨b', o, none⟩) hb').symm
          exact ⟨b', off', e', hb', fun i hi => ⟨(hk _).trans (hc' i hi).1, (hk _).trans (hc' i hi).2.1, (hk _).trans (hc' i hi).2.2⟩⟩
        have HRA4 := Lib.hid (hsame HRA1.out)
        have HRB4 := Lib.hid (hsame HBW.out)
        have HO4 := Lib.hid hown4
        clear hown4 hgrow4 hsame
        go_wp2
        go_roundg (r.length + rb.length)
        case measure => rw [HG.out]; simp only [List.length_cons]; omega
        case rel => exact ⟨A1, A2, c1 - 1, c2, r, rb, out ++ [a], rfl, rfl, rfl, by simp at k1; omega, by omega, k3, k4, HRA4.out, HRB4.out, by rw [HM.out, HMU.out]; simp, by simp at hlen ⊢; omega, by rw [bcellsL_snoc, List.length_append]; exact HO4.out, hq4⟩
      · obtain ⟨a, r, r', rfl, rfl, hmu⟩ := headsE_zero ho
        have HMU := Lib.hid hmu
        have ho1 : (headsE (a :: r) (a :: r') ≤ 0) := by omega
        have ho2 : (0 ≤ headsE (a :: r) (a :: r')) := by omega
        have HRA := HA.out.head
        have HRB := HB.out.head
        clear hmu
        obtain ⟨b, off, rfl, hbb, d0, d1, d2, ht⟩ := HRA
        have HT := Lib.hid ht
        clear ht
        obtain ⟨b', off', rfl, hbb', d0', d1', d2', ht'⟩ := HRB
        have HT' := Lib.hid ht'
        clear ht'
        generalize hoe : headsE (a :: r) (a :: r') = o at ho ho1 ho2
        have HOE := Lib.hid hoe
        clear hoe
        go_wp2_with fail
        refine (netHeads (some ⟨b, off, none⟩) (some ⟨b', off', none⟩) c1 c2 (a :: r) (a :: r') _ (by simp at hlen ⊢; omega) (by simp at hlen ⊢; omega) (HA.out.more hbz) (HB.out.more hbz)).mono ?_
        rintro e w2 ⟨rfl, hb2⟩
        rw [HOE.out]
        have hz2 := hb2.size
        have e0 := (hb2.cell (p := ⟨b, off, none⟩) (by show b < _; omega)).trans d0
        have e0' := (hb2.cell (p := ⟨b', off', none⟩) (by show b' < _; omega)).trans d0'
        have e1 := (hb2.cell (p := ⟨b, off + 1, none⟩) (by show b < _; omega)).trans d1
        have e1' := (hb2.cell (p := ⟨b', off' + 1, none⟩) (by show b' < _; omega)).trans d1'
        have e2 := (hb2.cell (p := ⟨b, off + 2, none⟩) (by show b < _; omega)).trans d2
        have e2' := (hb2.cell (p := ⟨b', off' + 2, none⟩) (by show b' < _; omega)).trans d2'
        clear d0 d1 d2 d0' d1' d2'
        obtain ⟨w3, hw3⟩ : ∃ w3, w3 = w2.alloc (.cells #[.int .i64 0, .int .i64 0, .int .i64 0] 50) := ⟨_, rfl⟩
        have hx : w3.heap[w2.heap.size]? = some (.cells #[.int .i64 0, .int .i64 0, .int .i64 0] 50 (0, 0)) := by rw [hw3]; exact heap_alloc_new _ _
        have hb3 : Below w2.heap.size w2 w3 := by rw [hw3]; exact (Below.refl _ _).alloc (Nat.le_refl _) _
        have hz3 : w2.heap.size < w3.heap.size := by rw [hw3]; simp
        obtain ⟨W, hW, hxW, hbW, hzW⟩ := put3 hx (.int .i64 a.x) (.int .i64 a.y) (.int .i64 a.s)
        obtain ⟨f0, f1, f2, ff⟩ := three_of_block hx
        obtain ⟨g0, g1, g2, gf⟩ := three_of_block hxW
        obtain ⟨V, hV, hxV, hbV, hzV⟩ := put3 hxW (.int .i64 a.x) (.int .i64 a.y) (.int .i64 a.s)
        obtain ⟨q0, q1, q2, _⟩ := three_of_block hxV
        have HVV := Lib.hid hV
        clear hV hzV
        have HW3 := Lib.hid hw3
        have HWW := Lib.hid hW
        have HZW := Lib.hid hzW
        clear hzW
        replace e0 := (hb3.cell (p := ⟨b, off, none⟩) (by show b < _; omega)).trans e0
        replace e0' := (hbW.cell (p := ⟨b', off', none⟩) (by show b' < _; omega)).trans ((hb3.cell (p := ⟨b', off', none⟩) (by show b' < _; omega)).trans e0')
        replace e1 := (hb3.cell (p := ⟨b, off + 1, none⟩) (by show b < _; omega)).trans e1
        replace e1' := (hbW.cell (p := ⟨b', off' + 1, none⟩) (by show b' < _; omega)).trans ((hb3.cell (p := ⟨b', off' + 1, none⟩) (by show b' < _; omega)).trans e1')
        replace e2 := (hb3.cell (p := ⟨b, off + 2, none⟩) (by show b < _; omega)).trans e2
        replace e2' := (hbW.cell (p := ⟨b', off' + 2, none⟩) (by show b' < _; omega)).trans ((hb3.cell (p := ⟨b', off' + 2, none⟩) (by show b' < _; omega)).trans e2')
        have hq : Below wr.heap.size wr W := (hb2.trans (hb3.mono hz2)).trans (hbW.mono hz2)
        have hqv : Below wr.heap.size wr V := hq.trans (hbV.mono hz2)
        have HOW := Lib.hid (ownsRow_below HO.out hqv)
        have hbw := hb.trans (hqv.mono hbz)
        have HTW := Lib.hid ((HT.out.below (hqv.mono hbz)))
        have HBW := Lib.hid ((HT'.out.below (hqv.mono hbz)))
        have hi4 : (0 : Int) < (r'.length : Int) + 1 := by omega
        have hi5 : (1 : Int) ≤ (r'.length : Int) + 1 := by omega
        have hi6 : (r'.length : Int) + 1 ≤ (c2 : Int) := by simp at k3; omega
        have hi1 : (0 : Int) < (r.length : Int) + 1 := by omega
        have hi2 : (1 : Int) ≤ (r.length : Int) + 1 := by omega
        have hi3 : (r.length : Int) + 1 ≤ (c1 : Int) := by simp at k1; omega
        clear hw3 hW hx hxW
        go_wp2_with fail
        rw [← HW3.out]
        go_region
        rw [← HWW.out]
        generalize hA1 : (if c1 = 1 then some (⟨b, off, none⟩ : Addr) else some ⟨b, off + 3, none⟩) = A1
        have HRA1 := Lib.hid (HTW.out.cut1 (c := c1) (by simp at k1; omega) A1 (fun hne => by rw [← hA1, if_neg hne]))
        clear hA1 e0 e1 e2
        go_wp2_with fail
        go_region
        rw [← HVV.out]
        generalize hA3 : (if c2 = 1 then some (⟨b', off', none⟩ : Addr) else some ⟨b', off' + 3, none⟩) = A3
        have HRA3 := Lib.hid (HBW.out.cut1 (c := c2) (by simp at k3; omega) A3 (fun hne => by rw [← hA3, if_neg hne]))
        clear hA3 e0' e1' e2'
        go_wp2_with (first
          | (go_at_call 28; refine (keepUnion _ _ _).mono ?_; rintro e w' ⟨rfl, rfl⟩)
          | (at_builtin; refine wpList_append_own _ rfl _ _ 22 rfl w.heap.size 50 ib (.agg #[.int .i64 0, .int .i64 0, .int .i64 0]) 3 24 Try.underlying22 HIB.out HB0.out HB1.out HB2.out rfl (by decide) _ _ _ rfl (by exact HOW.out.alloc _) ⟨V.heap.size, 0, none⟩ 1 1 [.int .i64 a.x, .int .i64 a.y, .int .i64 a.s] rfl rfl ?c1 ?c2 ?c3 ?c4 ?c5 ?_))
        case c1 => exact three_new _ _ _ _ _
        case c2 => intro u hu; simp at hu; rcases hu with rfl | rfl | rfl <;> rfl
        case c3 => unfold maxLen; simp at hlen; omega
        case c4 => simp at hlen; omega
        case c5 => have := hbw.size; simp; omega
        intro v' w4 hown4 hgrow4 _
        have hq4 : Below w.heap.size w w4 := (below_drew (below_drew (hbw.alloc hbw.size (.cells #[.int .i64 a.x, .int .i64 a.y, .int .i64 a.s] 50)))).grown hgrow4 (by have := hbw.size; simp; omega) (ownsRow_base HOW.out)
        have hsame : ∀ {X : Option Addr} {q : List Ck.Bar}, RB V w.heap.size X q → RB w4 w.heap.size X q := fun hX => by
          intro hl
          obtain ⟨b9, off9, e', hb', hc'⟩ := hX hl
          have hk : ∀ o, w4.cell? ⟨b9, o, none⟩ = V.cell? ⟨b9, o, none⟩ := fun o => (hq4.cell (p := ⟨b9, o, none⟩) hb').trans (hbw.cell (p := ⟨b9, o, none⟩) hb').symm
          exact ⟨b9, off9, e', hb', fun i hi => ⟨(hk _).trans (hc' i hi).1, (hk _).trans (hc' i hi).2.1, (hk _).trans (hc' i hi).2.2⟩⟩
        have HRA4 := Lib.hid (hsame HRA1.out)
        have HRB4 := Lib.hid (hsame HRA3.out)
        have HO4 := Lib.hid hown4
        clear hown4 hgrow4 hsame
        go_wp2
        go_roundg (r.length + r'.length)
        case measure => rw [HG.out]; simp only [List.length_cons]; omega
        case rel => exact ⟨A1, A3, c1 - 1, c2 - 1, r, r', out ++ [a], rfl, rfl, rfl, by simp at k1; omega, by omega, by simp at k3; omega, by omega, HRA4.out, HRB4.out, by rw [HM.out, HMU.out]; simp, by simp at hlen ⊢; omega, by rw [bcellsL_snoc, List.length_append]; exact HO4.out, hq4⟩
      · obtain ⟨a, r, rfl, hmu⟩ := headsE_pos ho hne
        rcases ra with _ | ⟨x, rx⟩
        · skip
          have HMU := Lib.hid hmu
          have ho1 : ¬ (headsE ([] : List Ck.Bar) (a :: r) ≤ 0) := by omega
          have ho2 : (0 ≤ headsE ([] : List Ck.Bar) (a :: r)) := by omega
          have HRA := HB.out.head
          clear hmu
          obtain ⟨b, off, rfl, hbb, d0, d1, d2, ht⟩ := HRA
          have HT := Lib.hid ht
          clear ht
          generalize hoe : headsE ([] : List Ck.Bar) (a :: r) = o at ho ho1 ho2
          have HOE := Lib.hid hoe
          clear hoe
          go_wp2_with fail
          refine (netHeads A1 (some ⟨b, off, none⟩) c1 c2 ([] : List Ck.Bar) (a :: r) _ (by simp only [List.length_cons, List.length_nil] at hlen ⊢; omega) (by simp only [List.length_cons, List.length_nil] at hlen ⊢; omega) (HA.out.more hbz) (HB.out.more hbz)).mono ?_
          rintro e w2 ⟨rfl, hb2⟩
          rw [HOE.out]
          have hz2 := hb2.size
          have e0 := (hb2.cell (p := ⟨b, off, none⟩) (by show b < _; omega)).trans d0
          have e1 := (hb2.cell (p := ⟨b, off + 1, none⟩) (by show b < _; omega)).trans d1
          have e2 := (hb2.cell (p := ⟨b, off + 2, none⟩) (by show b < _; omega)).trans d2
          clear d0 d1 d2
          obtain ⟨w3, hw3⟩ : ∃ w3, w3 = w2.alloc (.cells #[.int .i64 0, .int .i64 0, .int .i64 0] 50) := ⟨_, rfl⟩
          have hx : w3.heap[w2.heap.size]? = some (.cells #[.int .i64 0, .int .i64 0, .int .i64 0] 50 (0, 0)) := by rw [hw3]; exact heap_alloc_new _ _
          have hb3 : Below w2.heap.size w2 w3 := by rw [hw3]; exact (Below.refl _ _).alloc (Nat.le_refl _) _
          have hz3 : w2.heap.size < w3.heap.size := by rw [hw3]; simp
          obtain ⟨W, hW, hxW, hbW, hzW⟩ := put3 hx (.int .i64 a.x) (.int .i64 a.y) (.int .i64 a.s)
          obtain ⟨f0, f1, f2, ff⟩ := three_of_block hx
          obtain ⟨g0, g1, g2, _⟩ := three_of_block hxW
          have HW3 := Lib.hid hw3
          have HWW := Lib.hid hW
          have HZW := Lib.hid hzW
          clear hzW
          replace e0 := (hb3.cell (p := ⟨b, off, none⟩) (by show b < _; omega)).trans e0
          replace e1 := (hb3.cell (p := ⟨b, off + 1, none⟩) (by show b < _; omega)).trans e1
          replace e2 := (hb3.cell (p := ⟨b, off + 2, none⟩) (by show b < _; omega)).trans e2
          have hq : Below wr.heap.size wr W := (hb2.trans (hb3.mono hz2)).trans (hbW.mono hz2)
          have HOW := Lib.hid (ownsRow_below HO.out hq)
          have hbw := hb.trans (hq.mono hbz)
          have HTW := Lib.hid ((HT.out.below (hq.mono hbz)))
          have HBW := Lib.hid ((HA.out.below (hq.mono hbz)))
          have hi1 : (0 : Int) < (r.length : Int) + 1 := by omega
          have hi2 : (1 : Int) ≤ (r.length : Int) + 1 := by omega
          have hi3 : (r.length : Int) + 1 ≤ (c2 : Int) := by simp at k3; omega
          clear hw3 hW hx hxW
          go_wp2_with fail
          rw [← HW3.out]
          go_region
          rw [← HWW.out]
          generalize hA1 : (if c2 = 1 then some (⟨b, off, none⟩ : Addr) else some ⟨b, off + 3, none⟩) = A3
          have HRA1 := Lib.hid (HTW.out.cut1 (c := c2) (by simp at k3; omega) A3 (fun hne => by rw [← hA1, if_neg hne]))
          clear hA1 e0 e1 e2
          go_wp2_with (first
            | (go_at_call 28; refine (keepUnion _ _ _).mono ?_; rintro e w' ⟨rfl, rfl⟩)
            | (at_builtin; refine wpList_append_own _ rfl _ _ 22 rfl w.heap.size 50 ib (.agg #[.int .i64 0, .int .i64 0, .int .i64 0]) 3 24 Try.underlying22 HIB.out HB0.out HB1.out HB2.out rfl (by decide) _ _ _ rfl (by exact HOW.out.alloc _) ⟨W.heap.size, 0, none⟩ 1 1 [.int .i64 a.x, .int .i64 a.y, .int .i64 a.s] rfl rfl ?c1 ?c2 ?c3 ?c4 ?c5 ?_))
          case c1 => exact three_new _ _ _ _ _
          case c2 => intro u hu; simp at hu; rcases hu with rfl | rfl | rfl <;> rfl
          case c3 => unfold maxLen; simp at hlen; omega
          case c4 => simp at hlen; omega
          case c5 => have := hbw.size; simp; omega
          intro v' w4 hown4 hgrow4 _
          have hq4 : Below w.heap.size w w4 := (below_drew (hbw.alloc hbw.size (.cells #[.int .i64 a.x, .int .i64 a.y, .int .i64 a.s] 50))).grown hgrow4 (by have := hbw.size; simp; omega) (ownsRow_base HOW.out)
          have hsame : ∀ {X : Option Addr} {q : List Ck.Bar}, RB W w.heap.size X q → RB w4 w.heap.size X q := fun hX => by
            intro hl
            obtain ⟨b', off', e', hb', hc'⟩ := hX hl
            have hk : ∀ o, w4.cell? ⟨b', o, none⟩ = W.cell? ⟨b', o, none⟩ := fun o => (hq4.cell (p := ⟨b', o, none⟩) hb').trans (hbw.cell (p := ⟨b', o, none⟩) hb').symm
            exact ⟨b', off', e', hb', fun i hi => ⟨(hk _).trans (hc' i hi).1, (hk _).trans (hc' i hi).2.1, (hk _).trans (hc' i hi).2.2⟩⟩
          have HRA4 := Lib.hid (hsame HRA1.out)
          have HRB4 := Lib.hid (hsame HBW.out)
          have HO4 := Lib.hid hown4
          clear hown4 hgrow4 hsame
          go_wp2
          go_roundg (([] : List Ck.Bar).length + r.length)
          case measure => rw [HG.out]; simp only [List.length_cons, List.length_nil]; omega
          case rel => exact ⟨A1, A3, c1, c2 - 1, ([] : List Ck.Bar), r, out ++ [a], rfl, rfl, rfl, k1, k2, by simp at k3; omega, by omega, HRB4.out, HRA4.out, by rw [HM.out, HMU.out]; simp, by simp at hlen ⊢; omega, by rw [bcellsL_snoc, List.length_append]; exact HO4.out, hq4⟩
        · skip
          have HMU := Lib.hid hmu
          have ho1 : ¬ (headsE (x :: rx) (a :: r) ≤ 0) := by omega
          have ho2 : (0 ≤ headsE (x :: rx) (a :: r)) := by omega
          have HRA := HB.out.head
          clear hmu
          obtain ⟨b, off, rfl, hbb, d0, d1, d2, ht⟩ := HRA
          have HT := Lib.hid ht
          clear ht
          generalize hoe : headsE (x :: rx) (a :: r) = o at ho ho1 ho2
          have HOE := Lib.hid hoe
          clear hoe
          go_wp2_with fail
          refine (netHeads A1 (some ⟨b, off, none⟩) c1 c2 (x :: rx) (a :: r) _ (by simp only [List.length_cons] at hlen ⊢; omega) (by simp only [List.length_cons] at hlen ⊢; omega) (HA.out.more hbz) (HB.out.more hbz)).mono ?_
          rintro e w2 ⟨rfl, hb2⟩
          rw [HOE.out]
          have hz2 := hb2.size
          have e0 := (hb2.cell (p := ⟨b, off, none⟩) (by show b < _; omega)).trans d0
          have e1 := (hb2.cell (p := ⟨b, off + 1, none⟩) (by show b < _; omega)).trans d1
          have e2 := (hb2.cell (p := ⟨b, off + 2, none⟩) (by show b < _; omega)).trans d2
          clear d0 d1 d2
          obtain ⟨w3, hw3⟩ : ∃ w3, w3 = w2.alloc (.cells #[.int .i64 0, .int .i64 0, .int .i64 0] 50) := ⟨_, rfl⟩
          have hx : w3.heap[w2.heap.size]? = some (.cells #[.int .i64 0, .int .i64 0, .int .i64 0] 50 (0, 0)) := by rw [hw3]; exact heap_alloc_new _ _
          have hb3 : Below w2.heap.size w2 w3 := by rw [hw3]; exact (Below.refl _ _).alloc (Nat.le_refl _) _
          have hz3 : w2.heap.size < w3.heap.size := by rw [hw3]; simp
          obtain ⟨W, hW, hxW, hbW, hzW⟩ := put3 hx (.int .i64 a.x) (.int .i64 a.y) (.int .i64 a.s)
          obtain ⟨f0, f1, f2, ff⟩ := three_of_block hx
          obtain ⟨g0, g1, g2, _⟩ := three_of_block hxW
          have HW3 := Lib.hid hw3
          have HWW := Lib.hid hW
          have HZW := Lib.hid hzW
          clear hzW
          replace e0 := (hb3.cell (p := ⟨b, off, none⟩) (by show b < _; omega)).trans e0
          replace e1 := (hb3.cell (p := ⟨b, off + 1, none⟩) (by show b < _; omega)).trans e1
          replace e2 := (hb3.cell (p := ⟨b, off + 2, none⟩) (by show b < _; omega)).trans e2
          have hq : Below wr.heap.size wr W := (hb2.trans (hb3.mono hz2)).trans (hbW.mono hz2)
          have HOW := Lib.hid (ownsRow_below HO.out hq)
          have hbw := hb.trans (hq.mono hbz)
          have HTW := Lib.hid ((HT.out.below (hq.mono hbz)))
          have HBW := Lib.hid ((HA.out.below (hq.mono hbz)))
          have hi1 : (0 : Int) < (r.length : Int) + 1 := by omega
          have hi2 : (1 : Int) ≤ (r.length : Int) + 1 := by omega
          have hi3 : (r.length : Int) + 1 ≤ (c2 : Int) := by simp at k3; omega
          clear hw3 hW hx hxW
          go_wp2_with fail
          rw [← HW3.out]
          go_region
          rw [← HWW.out]
          generalize hA1 : (if c2 = 1 then some (⟨b, off, none⟩ : Addr) else some ⟨b, off + 3, none⟩) = A3
          have HRA1 := Lib.hid (HTW.out.cut1 (c := c2) (by simp at k3; omega) A3 (fun hne => by rw [← hA1, if_neg hne]))
          clear hA1 e0 e1 e2
          go_wp2_with (first
            | (go_at_call 28; refine (keepUnion _ _ _).mono ?_; rintro e w' ⟨rfl, rfl⟩)
            | (at_builtin; refine wpList_append_own _ rfl _ _ 22 rfl w.heap.size 50 ib (.agg #[.int .i64 0, .int .i64 0, .int .i64 0]) 3 24 Try.underlying22 HIB.out HB0.out HB1.out HB2.out rfl (by decide) _ _ _ rfl (by exact HOW.out.alloc _) ⟨W.heap.size, 0, none⟩ 1 1 [.int .i64 a.x, .int .i64 a.y, .int .i64 a.s] rfl rfl ?c1 ?c2 ?c3 ?c4 ?c5 ?_))
          case c1 => exact three_new _ _ _ _ _
          case c2 => intro u hu; simp at hu; rcases hu with rfl | rfl | rfl <;> rfl
          case c3 => unfold maxLen; simp at hlen; omega
          case c4 => simp at hlen; omega
          case c5 => have := hbw.size; simp; omega
          intro v' w4 hown4 hgrow4 _
          have hq4 : Below w.heap.size w w4 := (below_drew (hbw.alloc hbw.size (.cells #[.int .i64 a.x, .int .i64 a.y, .int .i64 a.s] 50))).grown hgrow4 (by have := hbw.size; simp; omega) (ownsRow_base HOW.out)
          have hsame : ∀ {X : Option Addr} {q : List Ck.Bar}, RB W w.heap.size X q → RB w4 w.heap.size X q := fun hX => by
            intro hl
            obtain ⟨b', off', e', hb', hc'⟩ := hX hl
            have hk : ∀ o, w4.cell? ⟨b', o, none⟩ = W.cell? ⟨b', o, none⟩ := fun o => (hq4.cell (p := ⟨b', o, none⟩) hb').trans (hbw.cell (p := ⟨b', o, none⟩) hb').symm
            exact ⟨b', off', e', hb', fun i hi => ⟨(hk _).trans (hc' i hi).1, (hk _).trans (hc' i hi).2.1, (hk _).trans (hc' i hi).2.2⟩⟩
          have HRA4 := Lib.hid (hsame HRA1.out)
          have HRB4 := Lib.hid (hsame HBW.out)
          have HO4 := Lib.hid hown4
          clear hown4 hgrow4 hsame
          go_wp2
          go_roundg ((x :: rx).length + r.length)
          case measure => rw [HG.out]; simp only [List.length_cons]; omega
          case rel => exact ⟨A1, A3, c1, c2 - 1, (x :: rx), r, out ++ [a], rfl, rfl, rfl, k1, k2, by simp at k3; omega, by omega, HRB4.out, HRA4.out, by rw [HM.out, HMU.out]; simp, by simp at hlen ⊢; omega, by rw [bcellsL_snoc, List.length_append]; exact HO4.out, hq4⟩
    · have h1 : ra = [] := List.eq_nil_of_length_eq_zero (by omega)
      have h2 : rb = [] := List.eq_nil_of_length_eq_zero (by omega)
      subst h1
      subst h2
      go_wp2
      go_ret
      have hfin := HM.out
      simp only [mergeU, List.append_nil] at hfin
      exact ⟨_, rfl, by rw [hfin]; exact HO.out, hb⟩
end Go.Proofs.Ytkplpmhdmlkjhaa

/- Contracts of merged and Union at valid nets. -/
namespace Go.Proofs.Ytkplpmhdmlkjhaa
open Go.RowKit

def TwoPost (l l' : List Ck.Bar) (w : World) (e : Ending) (w' : World) : Prop :=
  ∃ v, e = .returned (.tuple #[v, .int .i64 0]) ∧ w'.ownsRow w.heap.size 50 3 v (mergeU l l').length (bcellsL (mergeU l l')) ∧ Below w.heap.size w w'
theorem ownsRow_mono {w : World} {base base' : Nat} {e : TypeId} {size n : Nat} {v : Value} {xs : List Value} (h : w.ownsRow base e size v n xs) (hb : base' ≤ base) : w.ownsRow base' e size v n xs := by
  refine ⟨h.1, ?_⟩
  rcases h.2 with h2 | ⟨g, cap, cur, h1, h2, h3⟩
  · exact .inl h2
  · exact .inr ⟨g, cap, cur, h1, by omega, h3⟩

set_option maxHeartbeats 2000000 in
set_option maxRecDepth 100000 in
theorem netMerged (A A' : Option Addr) (c c' : Nat) (l l' : List Ck.Bar) (w : World) (hl : l.length ≤ 4096) (hl' : l'.length ≤ 4096) (hc : l.length ≤ c) (hcm : c ≤ maxLen) (hc' : l'.length ≤ c') (hcm' : c' ≤ maxLen) (hN : Ck.Net l) (hN' : Ck.Net l') (h : RB w w.heap.size A l) (h' : RB w w.heap.size A' l') :
    Calls Try.prog 27 #[.slice A l.length c, .slice A' l'.length c', .func (.func 28) #[] #[]] w (TwoPost l l' w) := by
  have HR := Lib.hid h
  have HR' := Lib.hid h'
  have HE := Lib.hid ((netE_zero l).2 ⟨hl, hN⟩)
  have HE' := Lib.hid ((netE_zero l').2 ⟨hl', hN'⟩)
  clear h h' hN hN'
  go_enter Try.func27, Try.ntmps27
  go_wp2_with fail
  refine (netCheckNet A c l _ hl hc hcm HR.out).mono ?_
  rintro e w1 ⟨rfl, hb1⟩
  rw [HE.out]
  go_wp2_with fail
  refine (netCheckNet A' c' l' _ hl' hc' hcm' ((HR'.out.below hb1).more hb1.size)).mono ?_
  rintro e w2 ⟨rfl, hb2⟩
  rw [HE'.out]
  have hq2 := hb1.trans (hb2.mono hb1.size)
  go_wp2_with fail
  refine (netFirst2 _ _ 0 0 25 _ (by exact heap_alloc_new _ _)).mono ?_
  rintro e w3 ⟨rfl, rfl⟩
  rw [show firstE [0, 0] = 0 from rfl]
  have hq3 := hq2.alloc hq2.size (.cells #[.int .i64 0, .int .i64 0] 25)
  go_wp2_with fail
  refine (netMergeU A A' c c' l l' _ hl hl' hc hcm hc' hcm' ((HR.out.below hq3).more hq3.size) ((HR'.out.below hq3).more hq3.size)).mono ?_
  rintro e w4 ⟨v, rfl, hown, hb4⟩
  have HO := Lib.hid (ownsRow_mono hown hq3.size)
  clear hown
  go_wp2
  go_ret2
  exact ⟨v, rfl, HO.out, hq3.trans (hb4.mono hq3.size)⟩
end Go.Proofs.Ytkplpmhdmlkjhaa

/- Contracts of Union at valid nets with at most 4096 bars together, of the copy that the statements make, and of their count. -/
namespace Go.Proofs.Ytkplpmhdmlkjhaa
open Go.RowKit

theorem own_slice {w : World} {base : Nat} {e : TypeId} {size n : Nat} {v : Value} {xs : List Value} (h : w.ownsRow base e size v n xs) : ∃ a c, v = .slice a n c ∧ n ≤ c ∧ c ≤ maxLen := by
  rcases h.2 with ⟨rfl, rfl⟩ | ⟨g, cap, cur, rfl, _, _, h1, h2, _⟩
  · exact ⟨none, 0, rfl, Nat.le_refl _, by unfold maxLen; omega⟩
  · exact ⟨_, _, rfl, h1, h2⟩
theorem bcellsL_at (l : List Ck.Bar) : ∀ (i : Nat) (h : i < l.length), (bcellsL l)[i * 3]? = some (.int .i64 l[i].x) ∧ (bcellsL l)[i * 3 + 1]? = some (.int .i64 l[i].y) ∧ (bcellsL l)[i * 3 + 2]? = some (.int .i64 l[i].s) := by
  induction l with
  | nil => intro i h; simp at h
  | cons a r ih =>
    intro i h
    have e : bcellsL (a :: r) = [.int .i64 a.x, .int .i64 a.y, .int .i64 a.s] ++ bcellsL r := by simp [bcellsL]
    rw [e]
    cases i with
    | zero => exact ⟨rfl, rfl, rfl⟩
    | succ i =>
      have := ih i (by simpa using h)
      rw [show (i + 1) * 3 = i * 3 + 3 from by omega]
      simpa using this
theorem bcellsL_length (l : List Ck.Bar) : (bcellsL l).length = l.length * 3 := by
  induction l with
  | nil => rfl
  | cons a r ih => simp [bcellsL] at ih ⊢; omega
/-- A row of the call's own that holds the cells of bars reads as these bars. -/
theorem RB.of_own {w : World} {base c : Nat} {A : Option Addr} {l : List Ck.Bar} {n : Nat} (h : w.ownsRow base 50 3 (.slice A n c) l.length (bcellsL l)) : RB w w.heap.size A l := fun hl => by
  obtain ⟨g, cap, hv, _, _, _, hg⟩ := own_form h hl
  injection hv with hA _ _
  subst hA
  have hc := h.cells (g := g) rfl
  refine ⟨g, 0, rfl, hg, fun i hi => ?_⟩
  obtain ⟨h0, h1, h2⟩ := bcellsL_at l i hi
  have k0 := hc _ _ h0
  have k1 := hc _ _ h1
  have k2 := hc _ _ h2
  rw [add0] at k0 k1 k2
  simp only [Nat.zero_add]
  exact ⟨k0, k1, k2⟩

set_option maxHeartbeats 2000000 in
set_option maxRecDepth 100000 in
theorem netUnion (A A' : Option Addr) (c c' : Nat) (l l' : List Ck.Bar) (w : World) (hl : l.length ≤ 4096) (hl' : l'.length ≤ 4096) (hc : l.length ≤ c) (hcm : c ≤ maxLen) (hc' : l'.length ≤ c') (hcm' : c' ≤ maxLen) (hN : Ck.Net l) (hN' : Ck.Net l') (h : RB w w.heap.size A l) (h' : RB w w.heap.size A' l') (hu : (mergeU l l').length ≤ 4096) :
    Calls Try.prog 9 #[.slice A l.length c, .slice A' l'.length c'] w (TwoPost l l' w) := by
  have ex0 : ∀ (a b : Value) (w : World), (Instr.extract (.tuple #[a, b]) 0).run Try.prog w = .ok a w := fun _ _ _ => by kernel_rfl
  have ex1 : ∀ (a b : Value) (w : World), (Instr.extract (.tuple #[a, b]) 1).run Try.prog w = .ok b w := fun _ _ _ => by kernel_rfl
  have hu1 : ¬ ((4096 : Int) < ((mergeU l l').length : Int)) := by omega
  go_enter Try.func9, Try.ntmps9
  go_wp2_with fail
  refine (netMerged A A' c c' l l' _ hl hl' hc hcm hc' hcm' hN hN' h h').mono ?_
  rintro e w1 ⟨v, rfl, hown, hb1⟩
  obtain ⟨a, cv, rfl, _, _⟩ := own_slice hown
  have HO := Lib.hid hown
  clear hown
  generalize hn : (mergeU l l').length = n at hu hu1
  have HN := Lib.hid hn
  clear hn
  go_wp2
  go_ret2
  exact ⟨.slice a n cv, rfl, by have h9 := HO.out; rw [HN.out] at h9 ⊢; exact h9, hb1⟩

def CopyPost (l : List Ck.Bar) (w : World) (e : Ending) (w' : World) : Prop :=
  ∃ v, e = .returned v ∧ w'.ownsRow w.heap.size 50 3 v l.length (bcellsL l) ∧ Below w.heap.size w w'
theorem empty_row (w : World) (base : Nat) (hb : base ≤ w.heap.size) (t : TypeId) (size : Nat) : (w.alloc (.cells #[] t)).ownsRow base t size (.slice (some ⟨w.heap.size, 0, none⟩) 0 0) 0 [] :=
  ⟨by simp, .inr ⟨_, _, _, rfl, hb, heap_alloc_new _ _, Nat.le_refl _, by unfold maxLen; omega, by simp, by simp⟩⟩
theorem RB.news {w : World} {B : Nat} {b off : Nat} {l : List Ck.Bar} (h : RB w B (some ⟨b, off, none⟩) l) (hl : 0 < l.length) : ∀ (j : Nat) (u : Value), (bcellsL l)[j]? = some u → w.cell? ((⟨b, off, none⟩ : Addr).add j) = some u := by
  intro j u hu
  obtain ⟨b', off', e, _, hc⟩ := h hl
  cases e
  have hj : j < (bcellsL l).length := (List.getElem?_eq_some_iff.1 hu).1
  rw [bcellsL_length] at hj
  have hi : j / 3 < l.length := by omega
  obtain ⟨k0, k1, k2⟩ := hc (j / 3) hi
  obtain ⟨h0, h1, h2⟩ := bcellsL_at l (j / 3) hi
  have hadd : (⟨b, off, none⟩ : Addr).add j = ⟨b, off + j, none⟩ := by
    unfold Addr.add
    split
    · rename_i e; simp
    · rfl
  rw [hadd]
  have hm : j % 3 = 0 ∨ j % 3 = 1 ∨ j % 3 = 2 := by omega
  rcases hm with hm | hm | hm
  · have e : j = j / 3 * 3 := by omega
    rw [← e] at h0 k0
    rw [k0, ← hu, h0]
  · have e : j = j / 3 * 3 + 1 := by omega
    rw [← e] at h1
    rw [Nat.add_assoc, ← e] at k1
    rw [k1, ← hu, h1]
  · have e : j = j / 3 * 3 + 2 := by omega
    rw [← e] at h2
    rw [Nat.add_assoc, ← e] at k2
    rw [k2, ← hu, h2]
theorem bcellsL_one (l : List Ck.Bar) : ∀ u ∈ bcellsL l, u.oneCell' = true := by
  intro u hu
  simp only [bcellsL, List.mem_flatMap] at hu
  obtain ⟨b, _, hu⟩ := hu
  simp at hu
  rcases hu with rfl | rfl | rfl <;> rfl

set_option maxHeartbeats 2000000 in
set_option maxRecDepth 100000 in
theorem corkCopy (A : Option Addr) (c : Nat) (l : List Ck.Bar) (w : World) (hl : l.length ≤ 4096) (hne : 0 < l.length) (h : RB w w.heap.size A l) :
    Calls Try.prog 8 #[.slice A l.length c] w (CopyPost l w) := by
  obtain ⟨ib, hib, hb0, hb01, hb02⟩ := info_parts Try.info50
  obtain ⟨b, off, rfl, hB, _⟩ := h hne
  have HR := Lib.hid h
  clear h
  go_enter Try.func8, Try.ntmps8
  go_wp2_with (at_builtin; refine wpList_append_own _ rfl _ _ 22 rfl w.heap.size 50 ib (.agg #[.int .i64 0, .int .i64 0, .int .i64 0]) 3 24 Try.underlying22 hib hb0 hb01 hb02 rfl (by decide) _ _ _ rfl (by exact empty_row _ _ (Nat.le_refl _) _ _) ⟨b, off, none⟩ l.length c (bcellsL l) rfl (bcellsL_length l) ?c1 (bcellsL_one l) ?c3 ?c4 ?c5 ?_)
  case c1 => exact (HR.out.below ((Below.refl _ _).alloc (Nat.le_refl _) _)).news hne
  case c3 => unfold maxLen; omega
  case c4 => omega
  case c5 => simp
  intro v' w4 hown4 hgrow4 _
  have HO := Lib.hid hown4
  have hq := ((Below.refl w.heap.size w).alloc (Nat.le_refl _) (.cells #[] 50)).grown hgrow4 (by simp) (ownsRow_base (empty_row w w.heap.size (Nat.le_refl _) 50 3))
  clear hown4 hgrow4
  go_wp2
  go_ret
  exact ⟨_, rfl, by simpa using HO.out, hq⟩
end Go.Proofs.Ytkplpmhdmlkjhaa

/- The statements' copy and count of the empty list. -/
namespace Go.Proofs.Ytkplpmhdmlkjhaa
open Go.RowKit

set_option maxHeartbeats 2000000 in
set_option maxRecDepth 100000 in
theorem corkCopy0 (A : Option Addr) (c : Nat) (w : World) (hA : A = none → c = 0) :
    Calls Try.prog 8 #[.slice A 0 c] w (CopyPost [] w) := by
  obtain ⟨ib, hib, hb0, hb01, hb02⟩ := info_parts Try.info50
  rcases A with _ | ad
  · obtain rfl := hA rfl
    go_enter Try.func8, Try.ntmps8
    go_wp2_with (at_builtin; refine wpList_append_own_none rfl _ _ 22 rfl w.heap.size 50 ib 3 Try.underlying22 hib _ _ _ rfl (by exact empty_row _ _ (Nat.le_refl _) _ _) rfl ?_)
    go_ret
    exact ⟨_, rfl, empty_row _ _ (Nat.le_refl _) _ _, (Below.refl _ _).alloc (Nat.le_refl _) _⟩
  · clear hA
    go_enter Try.func8, Try.ntmps8
    go_wp2_with (at_builtin; refine wpList_append_own _ rfl _ _ 22 rfl w.heap.size 50 ib (.agg #[.int .i64 0, .int .i64 0, .int .i64 0]) 3 24 Try.underlying22 hib hb0 hb01 hb02 rfl (by decide) _ _ _ rfl (by exact empty_row _ _ (Nat.le_refl _) _ _) ad 0 c [] rfl rfl ?c1 ?c2 ?c3 ?c4 ?c5 ?_)
    case c1 => intro j u h; simp at h
    case c2 => intro u h; simp at h
    case c3 => unfold maxLen; omega
    case c4 => omega
    case c5 => simp
    intro v' w4 hown4 hgrow4 _
    have HO := Lib.hid hown4
    have hq := ((Below.refl w.heap.size w).alloc (Nat.le_refl _) (.cells #[] 50)).grown hgrow4 (by simp) (ownsRow_base (empty_row w w.heap.size (Nat.le_refl _) 50 3))
    clear hown4 hgrow4
    go_wp2
    go_ret
    exact ⟨v', rfl, HO.out, hq⟩
/-- The copy of any list. -/
theorem corkCopyAny (A : Option Addr) (c : Nat) (l : List Ck.Bar) (w : World) (hl : l.length ≤ 4096) (hA : A = none → c = 0) (h : RB w w.heap.size A l) : Calls Try.prog 8 #[.slice A l.length c] w (CopyPost l w) := by
  match l, h with
  | [], _ => exact corkCopy0 A c w hA
  | a :: r, h => exact corkCopy A c (a :: r) w hl (by simp) h
end Go.Proofs.Ytkplpmhdmlkjhaa

/- Contracts of the statements' count of a copy, and of HasKnot. -/
namespace Go.Proofs.Ytkplpmhdmlkjhaa
open Go.RowKit

def CorkPost (l : List Ck.Bar) (w : World) (e : Ending) (w' : World) : Prop :=
  ∃ p : Nat, Ck.PartsIs l p ∧ e = .returned (.tuple #[.agg #[.int .i64 (Ck.nK l : Nat), .int .i64 (l.length : Nat), .int .i64 (Ck.nM l : Nat), .int .i64 p, .int .i64 ((l.length : Int) - (Ck.nK l : Nat) + p - (Ck.nM l : Nat))], .bool true]) ∧ Below w.heap.size w w'

set_option maxHeartbeats 2000000 in
set_option maxRecDepth 100000 in
theorem corkCount (A : Option Addr) (c : Nat) (l : List Ck.Bar) (w : World) (hl : l.length ≤ 4096) (hA : A = none → c = 0) (hN : Ck.Net l) (h : RB w w.heap.size A l) :
    Calls Try.prog 10 #[.slice A l.length c] w (CorkPost l w) := by
  have ex0 : ∀ (a b : Value) (w : World), (Instr.extract (.tuple #[a, b]) 0).run Try.prog w = .ok a w := fun _ _ _ => by kernel_rfl
  have ex1 : ∀ (a b : Value) (w : World), (Instr.extract (.tuple #[a, b]) 1).run Try.prog w = .ok b w := fun _ _ _ => by kernel_rfl
  have HR := Lib.hid h
  have HN := Lib.hid hN
  clear h hN
  obtain ⟨w0, hw0⟩ : ∃ w0, w0 = w.alloc (.cells #[.int .i64 0, .int .i64 0, .int .i64 0, .int .i64 0, .int .i64 0] 33) := ⟨_, rfl⟩
  have hr0 : w0.heap[w.heap.size]? = some (.cells #[.int .i64 0, .int .i64 0, .int .i64 0, .int .i64 0, .int .i64 0] 33 (0, 0)) := by rw [hw0]; exact heap_alloc_new _ _
  have hb0 : Below w.heap.size w w0 := by rw [hw0]; exact (Below.refl _ _).alloc (Nat.le_refl _) _
  have hz0 : w.heap.size < w0.heap.size := by rw [hw0]; simp
  have HW := Lib.hid hw0
  have HR0 := Lib.hid hr0
  clear hw0 hr0
  go_enter Try.func10, Try.ntmps10
  go_wp2_with fail
  rw [← HW.out]
  refine (corkCopyAny A c l _ hl hA ((HR.out.below hb0).more hb0.size)).mono ?_
  rintro e w1 ⟨v, rfl, hown, hb1⟩
  obtain ⟨a, cv, rfl, hcv, hcm⟩ := own_slice hown
  have HO := Lib.hid (RB.of_own hown)
  clear hown
  have hc1 := hb0.trans (hb1.mono hb0.size)
  have hz1 := Nat.lt_of_lt_of_le hz0 hb1.size
  go_wp2_with fail
  refine (netCount a cv l _ hl hcv hcm HN.out HO.out).mono ?_
  rintro e w2 ⟨p, hp, rfl, hb2⟩
  have hc2 := hc1.trans (hb2.mono hc1.size)
  have hz2 := Nat.lt_of_lt_of_le hz1 hb2.size
  have hr2 := (hb2.block _ hz1).trans ((hb1.block _ hz0).trans HR0.out)
  obtain ⟨r0, r1, r2, r3, r4, rf⟩ := five_of_block hr2
  have HP := Lib.hid hp
  clear hr2 hp
  generalize hgk : Ck.nK l = nk
  generalize hgm : Ck.nM l = nm
  have HK := Lib.hid hgk
  have HM := Lib.hid hgm
  clear hgk hgm
  go_wp2
  exact bodyPost_ret (v := .tuple #[.agg #[.int .i64 (nk : Int), .int .i64 (l.length : Int), .int .i64 (nm : Int), .int .i64 (p : Int), .int .i64 ((l.length : Int) - nk + p - nm)], .bool true]) (by simp [results, Try.results10, go_sem, r0, r1, r2, r3, r4, hz2]) rfl
    ⟨p, HP.out, by rw [HK.out, HM.out], by
      first
      | exact (((((hc2.setCell (Nat.le_refl _) _).setCell (Nat.le_refl _) _).setCell (Nat.le_refl _) _).setCell (Nat.le_refl _) _).setCell (Nat.le_refl _) _).alloc (by simp; omega) _
      | exact ((((((hc2.alloc (by omega) _).setCell (Nat.le_refl _) _).setCell (Nat.le_refl _) _).setCell (Nat.le_refl _) _).setCell (Nat.le_refl _) _).setCell (Nat.le_refl _) _)⟩
end Go.Proofs.Ytkplpmhdmlkjhaa

/- Plain mathematics of the union: its members, its order, its length. -/
namespace Go.Proofs.Ytkplpmhdmlkjhaa
open Ck

theorem cmpB_lt_iff (a b : Bar) : cmpB a b < 0 ↔ Blt a b := by
  rw [← lessB_iff, ← cmpB_neg, decide_eq_true_eq]
theorem mergeU_mem (x : Bar) : ∀ (l l' : List Bar), x ∈ mergeU l l' ↔ x ∈ l ∨ x ∈ l'
  | [], l' => by simp [mergeU]
  | a :: r, [] => by simp [mergeU]
  | a :: r, b :: r' => by
    rw [mergeU]
    split
    · rw [List.mem_cons, mergeU_mem x r (b :: r'), List.mem_cons, List.mem_cons, or_assoc]
    · split
      · rw [List.mem_cons, mergeU_mem x (a :: r) r', List.mem_cons, List.mem_cons]
        constructor
        · rintro (h | h | h)
          · exact .inr (.inl h)
          · exact .inl h
          · exact .inr (.inr h)
        · rintro (h | h | h)
          · exact .inr (.inl h)
          · exact .inl h
          · exact .inr (.inr h)
      · have e : a = b := (cmpB_zero a b).1 (by omega)
        subst e
        rw [List.mem_cons, mergeU_mem x r r', List.mem_cons, List.mem_cons]
        constructor
        · rintro (h | h | h)
          · exact .inl (.inl h)
          · exact .inl (.inr h)
          · exact .inr (.inr h)
        · rintro ((h | h) | (h | h))
          · exact .inl h
          · exact .inr (.inl h)
          · exact .inl h
          · exact .inr (.inr h)
termination_by l l' => l.length + l'.length
theorem mergeU_sorted : ∀ (l l' : List Bar), l.Pairwise Blt → l'.Pairwise Blt → (mergeU l l').Pairwise Blt
  | [], l', _, h' => by simpa [mergeU] using h'
  | a :: r, [], h, _ => by simpa [mergeU] using h
  | a :: r, b :: r', h, h' => by
    obtain ⟨h1, h2⟩ := List.pairwise_cons.1 h
    obtain ⟨k1, k2⟩ := List.pairwise_cons.1 h'
    rw [mergeU]
    split
    · rename_i hc
      have hab := (cmpB_lt_iff a b).1 hc
      refine List.pairwise_cons.2 ⟨fun x hx => ?_, mergeU_sorted r (b :: r') h2 h'⟩
      rcases (mergeU_mem x r (b :: r')).1 hx with hx | hx
      · exact h1 x hx
      · rcases List.mem_cons.1 hx with rfl | hx
        · exact hab
        · exact hab.trans (k1 x hx)
    · rename_i hc
      split
      · rename_i hd
        have hba : Blt b a := by
          rcases Blt.tri a b with h | h | h
          · exact absurd ((cmpB_lt_iff a b).2 h) hc
          · rw [(cmpB_zero a b).2 h] at hd; omega
          · exact h
        refine List.pairwise_cons.2 ⟨fun x hx => ?_, mergeU_sorted (a :: r) r' h k2⟩
        rcases (mergeU_mem x (a :: r) r').1 hx with hx | hx
        · rcases List.mem_cons.1 hx with rfl | hx
          · exact hba
          · exact hba.trans (h1 x hx)
        · exact k1 x hx
      · have e : a = b := (cmpB_zero a b).1 (by omega)
        subst e
        refine List.pairwise_cons.2 ⟨fun x hx => ?_, mergeU_sorted r r' h2 k2⟩
        rcases (mergeU_mem x r r').1 hx with hx | hx
        · exact h1 x hx
        · exact k1 x hx
termination_by l l' => l.length + l'.length
theorem mergeU_length : ∀ (l l' : List Bar), (mergeU l l').length ≤ l.length + l'.length
  | [], l' => by simp [mergeU]
  | a :: r, [] => by simp [mergeU]
  | a :: r, b :: r' => by
    rw [mergeU]
    split
    · have := mergeU_length r (b :: r'); simp only [List.length_cons] at this ⊢; omega
    · split
      · have := mergeU_length (a :: r) r'; simp only [List.length_cons] at this ⊢; omega
      · have := mergeU_length r r'; simp only [List.length_cons] at this ⊢; omega
termination_by l l' => l.length + l'.length
theorem mergeU_net {l l' : List Bar} (h : Net l) (h' : Net l') : Net (mergeU l l') :=
  ⟨fun b hb => ((mergeU_mem b l l').1 hb).elim (h.1 b) (h'.1 b), mergeU_sorted l l' h.2 h'.2⟩
/-- All bars of the first list come before all of the second one. -/
theorem mergeU_append : ∀ (l l' : List Bar), (∀ a ∈ l, ∀ b ∈ l', Blt a b) → mergeU l l' = l ++ l'
  | [], l', _ => by simp [mergeU]
  | a :: r, [], _ => by simp [mergeU]
  | a :: r, b :: r', h => by
    rw [mergeU, if_pos ((cmpB_lt_iff a b).2 (h a (by simp) b (by simp))), mergeU_append r (b :: r') (fun x hx => h x (by simp [hx]))]
    rfl
end Go.Proofs.Ytkplpmhdmlkjhaa

/- Wrappers of the contracts of corkCopy, Union and corkCount. -/
namespace Go.Proofs.Ytkplpmhdmlkjhaa
open Go.RowKit Ck

/-- The slice is of the call's own, or reads so. -/
def OKS (w : World) (a : Option Addr) (c : Nat) (l : List Bar) : Prop := l.length ≤ c ∧ c ≤ maxLen ∧ (a = none → c = 0) ∧ RB w w.heap.size a l
theorem OKS.below {w w' : World} {a : Option Addr} {c : Nat} {l : List Bar} (h : OKS w a c l) (hb : Below w.heap.size w w') : OKS w' a c l := ⟨h.1, h.2.1, h.2.2.1, (h.2.2.2.below hb).more hb.size⟩
theorem own_oks {w : World} {base : Nat} {v : Value} {l : List Bar} (h : w.ownsRow base 50 3 v l.length (bcellsL l)) : ∃ a c, v = .slice a l.length c ∧ OKS w a c l := by
  rcases h.2 with ⟨rfl, hz⟩ | ⟨g, cap, cur, rfl, _, _, h1, h2, _⟩
  · have : l = [] := List.eq_nil_of_length_eq_zero hz
    subst this
    exact ⟨none, 0, rfl, Nat.zero_le _, by unfold maxLen; omega, fun _ => rfl, RB.nil _ _ _⟩
  · exact ⟨_, _, rfl, h1, h2, (fun e => by cases e), RB.of_own h⟩
def SlicePost (l : List Bar) (w : World) (e : Ending) (w' : World) : Prop := ∃ a c, e = .returned (.slice a l.length c) ∧ OKS w' a c l ∧ Below w.heap.size w w'
def PairPost (l : List Bar) (w : World) (e : Ending) (w' : World) : Prop := ∃ a c, e = .returned (.tuple #[.slice a l.length c, .int .i64 0]) ∧ OKS w' a c l ∧ Below w.heap.size w w'
theorem copyS (A : Option Addr) (c : Nat) (l : List Bar) (w : World) (hl : l.length ≤ 4096) (hA : A = none → c = 0) (h : RB w w.heap.size A l) :
    Calls Try.prog 8 #[.slice A l.length c] w (SlicePost l w) :=
  (corkCopyAny A c l w hl hA h).mono fun e w' ⟨v, he, hrow, hb⟩ => by
    obtain ⟨a, c', rfl, hok⟩ := own_oks hrow
    exact ⟨a, c', he, hok, hb⟩
theorem unionS (A A' : Option Addr) (c c' : Nat) (l l' u : List Bar) (w : World) (hu : mergeU l l' = u) (hl : l.length ≤ 2000) (hl' : l'.length ≤ 2000) (hN : Net l) (hN' : Net l') (h : OKS w A c l) (h' : OKS w A' c' l') :
    Calls Try.prog 9 #[.slice A l.length c, .slice A' l'.length c'] w (PairPost u w) :=
  (netUnion A A' c c' l l' w (by omega) (by omega) h.1 h.2.1 h'.1 h'.2.1 hN hN' h.2.2.2 h'.2.2.2 (by have := mergeU_length l l'; omega)).mono fun e w' ⟨v, he, hrow, hb⟩ => by
    subst hu
    obtain ⟨a, c', rfl, hok⟩ := own_oks hrow
    exact ⟨a, c', he, hok, hb⟩
theorem CntIs.le {l : List Bar} : ∀ {r : List Bar} {seen : List Knot} {n : Nat}, CntIs l seen r n → n ≤ r.length
  | [], _, _, .nil _ => Nat.le_refl _
  | _ :: _, _, _, .old _ h => Nat.le_succ_of_le (CntIs.le h)
  | _ :: _, _, _, .fresh _ h => Nat.succ_le_succ (CntIs.le h)
def CF (l : List Bar) (x0 x1 x2 x3 x4 : Int) : Prop := ∃ p : Nat, PartsIs l p ∧ x0 = (nK l : Nat) ∧ x1 = (l.length : Nat) ∧ x2 = (nM l : Nat) ∧ x3 = (p : Nat) ∧ x4 = (l.length : Int) - (nK l : Nat) + p - (nM l : Nat)
def bd (x : Int) : Prop := -10000 ≤ x ∧ x ≤ 10000
def CPost (l : List Bar) (w : World) (e : Ending) (w' : World) : Prop :=
  ∃ x0 x1 x2 x3 x4 : Int, e = .returned (.tuple #[.agg #[.int .i64 x0, .int .i64 x1, .int .i64 x2, .int .i64 x3, .int .i64 x4], .bool true]) ∧ CF l x0 x1 x2 x3 x4 ∧ (bd x0 ∧ bd x1 ∧ bd x2 ∧ bd x3 ∧ bd x4) ∧ Below w.heap.size w w'
theorem countC (A : Option Addr) (c : Nat) (l : List Bar) (w : World) (hl : l.length ≤ 200) (hA : A = none → c = 0) (hN : Net l) (h : RB w w.heap.size A l) : Calls Try.prog 10 #[.slice A l.length c] w (CPost l w) :=
  (corkCount A c l w (by omega) hA hN h).mono fun e w' ⟨p, hp, he, hb⟩ => by
    have h1 := nK_le l
    have h2 : nM l ≤ l.length := List.countP_le_length
    have h3 : p ≤ l.length := CntIs.le hp
    exact ⟨_, _, _, _, _, he, ⟨p, hp, rfl, rfl, rfl, rfl, rfl⟩, ⟨by unfold bd; omega, by unfold bd; omega, by unfold bd; omega, by unfold bd; omega, by unfold bd; omega⟩, hb⟩
theorem countS (A : Option Addr) (c : Nat) (l : List Bar) (w : World) (hl : l.length ≤ 4096) (hA : A = none → c = 0) (hN : Net l) (h : RB w w.heap.size A l) : Calls Try.prog 10 #[.slice A l.length c] w (CorkPost l w) := corkCount A c l w hl hA hN h
end Go.Proofs.Ytkplpmhdmlkjhaa

/- The contract of merge where what the second list lacks is kept. -/
namespace Go.Proofs.Ytkplpmhdmlkjhaa
open Go.RowKit

def mergeM : List Ck.Bar → List Ck.Bar → List Ck.Bar
  | [], _ => []
  | a :: r, [] => a :: r
  | a :: r, b :: r' => if cmpB a b < 0 then a :: mergeM r (b :: r') else if 0 < cmpB a b then mergeM (a :: r) r' else mergeM r r'
termination_by l l' => l.length + l'.length
theorem mergeM_nil (l : List Ck.Bar) : mergeM l [] = l := by cases l <;> simp [mergeM]
theorem headsM_neg {ra rb : List Ck.Bar} (h : headsE ra rb < 0) : ∃ a r, ra = a :: r ∧ mergeM ra rb = a :: mergeM r rb := by
  match ra, rb, h with
  | [], _, h => simp [headsE] at h
  | a :: r, [], _ => exact ⟨a, r, rfl, by rw [mergeM_nil, mergeM_nil]⟩
  | a :: r, b :: r', h =>
    have h' : cmpB a b < 0 := h
    exact ⟨a, r, rfl, by rw [mergeM, if_pos h']⟩
theorem headsM_pos {ra rb : List Ck.Bar} (h : 0 < headsE ra rb) (hne : 0 < ra.length + rb.length) : ∃ b r', rb = b :: r' ∧ mergeM ra rb = mergeM ra r' := by
  match ra, rb, h with
  | [], [], _ => simp at hne
  | [], b :: r', _ => exact ⟨b, r', rfl, by simp [mergeM]⟩
  | a :: r, [], h => simp [headsE] at h
  | a :: r, b :: r', h =>
    have h' : 0 < cmpB a b := h
    exact ⟨b, r', rfl, by rw [mergeM, if_neg (by omega), if_pos h']⟩
theorem headsM_zero {ra rb : List Ck.Bar} (h : headsE ra rb = 0) : ∃ a r r', ra = a :: r ∧ rb = a :: r' ∧ mergeM ra rb = mergeM r r' := by
  match ra, rb, h with
  | [], _, h => simp [headsE] at h
  | a :: r, [], h => simp [headsE] at h
  | a :: r, b :: r', h =>
    have h' : cmpB a b = 0 := h
    have e := (cmpB_zero _ _).1 h'
    subst e
    exact ⟨a, r, r', rfl, rfl, by rw [mergeM, if_neg (by omega), if_neg (by omega)]⟩

set_option maxHeartbeats 400000 in
theorem keepMinus (x y : Bool) (w : World) : Calls Try.prog 42 #[.bool x, .bool y] w fun e w' => e = .returned (.bool (x && !y)) ∧ w = w' := by
  cases x
  all_goals
    go_enter Try.func42, Try.ntmps42
    go_wp2
    go_ret
    exact ⟨rfl, rfl⟩
theorem keepM10 (w : World) : Calls Try.prog 42 #[.bool true, .bool false] w fun e w' => e = .returned (.bool true) ∧ w = w' := keepMinus true false w
theorem keepM11 (w : World) : Calls Try.prog 42 #[.bool true, .bool true] w fun e w' => e = .returned (.bool false) ∧ w = w' := keepMinus true true w
theorem keepM01 (w : World) : Calls Try.prog 42 #[.bool false, .bool true] w fun e w' => e = .returned (.bool false) ∧ w = w' := keepMinus false true w

def MrgMPost (l l' : List Ck.Bar) (w : World) (e : Ending) (w' : World) : Prop :=
  ∃ v, e = .returned v ∧ w'.ownsRow w.heap.size 50 3 v (mergeM l l').length (bcellsL (mergeM l l')) ∧ Below w.heap.size w w'
def mrgMRel (l0 l0' : List Ck.Bar) (w : World) (g : Nat) (va vb vo : Value) (wi : World) : Prop :=
  ∃ A A' c c' ra rb out, g = ra.length + rb.length ∧ va = .slice A ra.length c ∧ vb = .slice A' rb.length c' ∧ ra.length ≤ c ∧ c ≤ 9223372036854775807 ∧ rb.length ≤ c' ∧ c' ≤ 9223372036854775807 ∧ RB wi w.heap.size A ra ∧ RB wi w.heap.size A' rb ∧
    mergeM l0 l0' = out ++ mergeM ra rb ∧ out.length + ra.length + rb.length ≤ l0.length + l0'.length ∧ wi.ownsRow w.heap.size 50 3 vo out.length (bcellsL out) ∧ Below w.heap.size w wi

set_option maxHeartbeats 4000000 in
set_option maxRecDepth 100000 in
theorem netMergeM (A A' : Option Addr) (c c' : Nat) (l l' : List Ck.Bar) (w : World) (hl : l.length ≤ 4096) (hl' : l'.length ≤ 4096) (hc : l.length ≤ c) (hcm : c ≤ maxLen) (hc' : l'.length ≤ c') (hcm' : c' ≤ maxLen) (h : RB w w.heap.size A l) (h' : RB w w.heap.size A' l') :
    Calls Try.prog 50 #[.slice A l.length c, .slice A' l'.length c', .func (.func 51) #[] #[], .func (.func 42) #[] #[]] w (MrgMPost l l' w) := by
  obtain ⟨ib, hib, hb0, hb01, hb02⟩ := info_parts Try.info50
  have HIB := Lib.hid hib
  have HB0 := Lib.hid hb0
  have HB1 := Lib.hid hb01
  have HB2 := Lib.hid hb02
  have HR := Lib.hid h
  have HR' := Lib.hid h'
  clear hib hb0 hb01 hb02 h h'
  unfold maxLen at hcm hcm'
  go_enter Try.func50, Try.ntmps50
  go_wp2_with fail
  go_loopg [0, 1, 9, 10, 11] (l.length + l'.length) (fun g va vb vo _ _ wi => mrgMRel l l' w g va vb vo wi)
  case atStart => exact ⟨A, A', c, c', l, l', [], rfl, rfl, rfl, hc, hcm, hc', hcm', HR.out, HR'.out, rfl, by simp, World.ownsRow_nil _ _ _ _, Below.refl _ _⟩
  case round =>
    obtain ⟨A1, A2, c1, c2, ra, rb, out, hg, rfl, rfl, k1, k2, k3, k4, r1, r2, hm, hlen, hown, hb⟩ := hrel
    have HG := Lib.hid hg
    have HM := Lib.hid hm
    have HO := Lib.hid hown
    have HA := Lib.hid r1
    have HB := Lib.hid r2
    have hbz := hb.size
    clear hg hm hown r1 r2
    by_cases hne : 0 < ra.length + rb.length
    · rcases Int.lt_trichotomy (headsE ra rb) 0 with ho | ho | ho
      · obtain ⟨a, r, rfl, hmu⟩ := headsM_neg ho
        have HMU := Lib.hid hmu
        have ho1 : (headsE (a :: r) rb ≤ 0) := by omega
        have ho2 : ¬ (0 ≤ headsE (a :: r) rb) := by omega
        have HRA := HA.out.head
        clear hmu
        obtain ⟨b, off, rfl, hbb, d0, d1, d2, ht⟩ := HRA
        have HT := Lib.hid ht
        clear ht
        generalize hoe : headsE (a :: r) rb = o at ho ho1 ho2
        have hd1 : decide (0 ≤ o) = false := decide_eq_false (by omega)
        have HOE := Lib.hid hoe
        clear hoe
        go_wp2_with fail
        refine (netHeads (some ⟨b, off, none⟩) A2 c1 c2 (a :: r) rb _ (by simp at hlen ⊢; omega) (by simp at hlen; omega) (HA.out.more hbz) (HB.out.more hbz)).mono ?_
        rintro e w2 ⟨rfl, hb2⟩
        rw [HOE.out]
        have hz2 := hb2.size
        have e0 := (hb2.cell (p := ⟨b, off, none⟩) (by show b < _; omega)).trans d0
        have e1 := (hb2.cell (p := ⟨b, off + 1, none⟩) (by show b < _; omega)).trans d1
        have e2 := (hb2.cell (p := ⟨b, off + 2, none⟩) (by show b < _; omega)).trans d2
        clear d0 d1 d2
        obtain ⟨w3, hw3⟩ : ∃ w3, w3 = w2.alloc (.cells #[.int .i64 0, .int .i64 0, .int .i64 0] 50) := ⟨_, rfl⟩
        have hx : w3.heap[w2.heap.size]? = some (.cells #[.int .i64 0, .int .i64 0, .int .i64 0] 50 (0, 0)) := by rw [hw3]; exact heap_alloc_new _ _
        have hb3 : Below w2.heap.size w2 w3 := by rw [hw3]; exact (Below.refl _ _).alloc (Nat.le_refl _) _
        have hz3 : w2.heap.size < w3.heap.size := by rw [hw3]; simp
        obtain ⟨W, hW, hxW, hbW, hzW⟩ := put3 hx (.int .i64 a.x) (.int .i64 a.y) (.int .i64 a.s)
        obtain ⟨f0, f1, f2, ff⟩ := three_of_block hx
        obtain ⟨g0, g1, g2, _⟩ := three_of_block hxW
        have HW3 := Lib.hid hw3
        have HWW := Lib.hid hW
        have HZW := Lib.hid hzW
        clear hzW
        replace e0 := (hb3.cell (p := ⟨b, off, none⟩) (by show b < _; omega)).trans e0
        replace e1 := (hb3.cell (p := ⟨b, off + 1, none⟩) (by show b < _; omega)).trans e1
        replace e2 := (hb3.cell (p := ⟨b, off + 2, none⟩) (by show b < _; omega)).trans e2
        have hq : Below wr.heap.size wr W := (hb2.trans (hb3.mono hz2)).trans (hbW.mono hz2)
        have HOW := Lib.hid (ownsRow_below HO.out hq)
        have hbw := hb.trans (hq.mono hbz)
        have HTW := Lib.hid ((HT.out.below (hq.mono hbz)))
        have HBW := Lib.hid ((HB.out.below (hq.mono hbz)))
        have hi1 : (0 : Int) < (r.length : Int) + 1 := by omega
        have hi2 : (1 : Int) ≤ (r.length : Int) + 1 := by omega
        have hi3 : (r.length : Int) + 1 ≤ (c1 : Int) := by simp at k1; omega
        clear hw3 hW hx hxW
        go_wp2_with fail
        rw [← HW3.out]
        go_region
        rw [← HWW.out]
        generalize hA1 : (if c1 = 1 then some (⟨b, off, none⟩ : Addr) else some ⟨b, off + 3, none⟩) = A1
        have HRA1 := Lib.hid (HTW.out.cut1 (c := c1) (by simp at k1; omega) A1 (fun hne => by rw [← hA1, if_neg hne]))
        clear hA1 e0 e1 e2
        go_wp2_with (first
          | (go_at_call 42; refine (keepM10 _).mono ?_; rintro e w' ⟨rfl, rfl⟩)
          | (at_builtin; refine wpList_append_own _ rfl _ _ 22 rfl w.heap.size 50 ib (.agg #[.int .i64 0, .int .i64 0, .int .i64 0]) 3 24 Try.underlying22 HIB.out HB0.out HB1.out HB2.out rfl (by decide) _ _ _ rfl (by exact HOW.out.alloc _) ⟨W.heap.size, 0, none⟩ 1 1 [.int .i64 a.x, .int .i64 a.y, .int .i64 a.s] rfl rfl ?c1 ?c2 ?c3 ?c4 ?c5 ?_))
        case c1 => exact three_new _ _ _ _ _
        case c2 => intro u hu; simp at hu; rcases hu with rfl | rfl | rfl <;> rfl
        case c3 => unfold maxLen; simp at hlen; omega
        case c4 => simp at hlen; omega
        case c5 => have := hbw.size; simp; omega
        intro v' w4 hown4 hgrow4 _
        have hq4 : Below w.heap.size w w4 := (below_drew (hbw.alloc hbw.size (.cells #[.int .i64 a.x, .int .i64 a.y, .int .i64 a.s] 50))).grown hgrow4 (by have := hbw.size; simp; omega) (ownsRow_base HOW.out)
        have hsame : ∀ {X : Option Addr} {q : List Ck.Bar}, RB W w.heap.size X q → RB w4 w.heap.size X q := fun hX => by
          intro hl
          obtain ⟨b', off', e', hb', hc'⟩ := hX hl
          have hk : ∀ o, w4.cell? ⟨b', o, none⟩ = W.cell? ⟨b', o, none⟩ := fun o => (hq4.cell (p := ⟨b', o, none⟩) hb').trans (hbw.cell (p := ⟨b', o, none⟩) hb').symm
          exact ⟨b', off', e', hb', fun i hi => ⟨(hk _).trans (hc' i hi).1, (hk _).trans (hc' i hi).2.1, (hk _).trans (hc' i hi).2.2⟩⟩
        have HRA4 := Lib.hid (hsame HRA1.out)
        have HRB4 := Lib.hid (hsame HBW.out)
        have HO4 := Lib.hid hown4
        clear hown4 hgrow4 hsame
        go_wp2
        go_roundg (r.length + rb.length)
        case measure => rw [HG.out]; simp only [List.length_cons, List.length_nil]; omega
        case rel => exact ⟨A1, A2, c1 - 1, c2, r, rb, out ++ [a], rfl, rfl, rfl, by simp at k1; omega, by omega, k3, k4, HRA4.out, HRB4.out, by rw [HM.out, HMU.out]; simp, by simp at hlen ⊢; omega, by rw [bcellsL_snoc, List.length_append]; exact HO4.out, hq4⟩
      · obtain ⟨a, r, r', rfl, rfl, hmu⟩ := headsM_zero ho
        have HMU := Lib.hid hmu
        have ho1 : (headsE (a :: r) (a :: r') ≤ 0) := by omega
        have ho2 : (0 ≤ headsE (a :: r) (a :: r')) := by omega
        have HRA := HA.out.head
        have HRB := HB.out.head
        clear hmu
        obtain ⟨b, off, rfl, hbb, d0, d1, d2, ht⟩ := HRA
        have HT := Lib.hid ht
        clear ht
        obtain ⟨b', off', rfl, hbb', d0', d1', d2', ht'⟩ := HRB
        have HT' := Lib.hid ht'
        clear ht'
        generalize hoe : headsE (a :: r) (a :: r') = o at ho ho1 ho2
        have HOE := Lib.hid hoe
        clear hoe
        go_wp2_with fail
        refine (netHeads (some ⟨b, off, none⟩) (some ⟨b', off', none⟩) c1 c2 (a :: r) (a :: r') _ (by simp at hlen ⊢; omega) (by simp at hlen ⊢; omega) (HA.out.more hbz) (HB.out.more hbz)).mono ?_
        rintro e w2 ⟨rfl, hb2⟩
        rw [HOE.out]
        have hz2 := hb2.size
        have e0 := (hb2.cell (p := ⟨b, off, none⟩) (by show b < _; omega)).trans d0
        have e0' := (hb2.cell (p := ⟨b', off', none⟩) (by show b' < _; omega)).trans d0'
        have e1 := (hb2.cell (p := ⟨b, off + 1, none⟩) (by show b < _; omega)).trans d1
        have e1' := (hb2.cell (p := ⟨b', off' + 1, none⟩) (by show b' < _; omega)).trans d1'
        have e2 := (hb2.cell (p := ⟨b, off + 2, none⟩) (by show b < _; omega)).trans d2
        have e2' := (hb2.cell (p := ⟨b', off' + 2, none⟩) (by show b' < _; omega)).trans d2'
        clear d0 d1 d2 d0' d1' d2'
        obtain ⟨w3, hw3⟩ : ∃ w3, w3 = w2.alloc (.cells #[.int .i64 0, .int .i64 0, .int .i64 0] 50) := ⟨_, rfl⟩
        have hx : w3.heap[w2.heap.size]? = some (.cells #[.int .i64 0, .int .i64 0, .int .i64 0] 50 (0, 0)) := by rw [hw3]; exact heap_alloc_new _ _
        have hb3 : Below w2.heap.size w2 w3 := by rw [hw3]; exact (Below.refl _ _).alloc (Nat.le_refl _) _
        have hz3 : w2.heap.size < w3.heap.size := by rw [hw3]; simp
        obtain ⟨W, hW, hxW, hbW, hzW⟩ := put3 hx (.int .i64 a.x) (.int .i64 a.y) (.int .i64 a.s)
        obtain ⟨f0, f1, f2, ff⟩ := three_of_block hx
        obtain ⟨g0, g1, g2, gf⟩ := three_of_block hxW
        obtain ⟨V, hV, hxV, hbV, hzV⟩ := put3 hxW (.int .i64 a.x) (.int .i64 a.y) (.int .i64 a.s)
        obtain ⟨q0, q1, q2, _⟩ := three_of_block hxV
        have HVV := Lib.hid hV
        clear hV hzV
        have HW3 := Lib.hid hw3
        have HWW := Lib.hid hW
        have HZW := Lib.hid hzW
        clear hzW
        replace e0 := (hb3.cell (p := ⟨b, off, none⟩) (by show b < _; omega)).trans e0
        replace e0' := (hbW.cell (p := ⟨b', off', none⟩) (by show b' < _; omega)).trans ((hb3.cell (p := ⟨b', off', none⟩) (by show b' < _; omega)).trans e0')
        replace e1 := (hb3.cell (p := ⟨b, off + 1, none⟩) (by show b < _; omega)).trans e1
        replace e1' := (hbW.cell (p := ⟨b', off' + 1, none⟩) (by show b' < _; omega)).trans ((hb3.cell (p := ⟨b', off' + 1, none⟩) (by show b' < _; omega)).trans e1')
        replace e2 := (hb3.cell (p := ⟨b, off + 2, none⟩) (by show b < _; omega)).trans e2
        replace e2' := (hbW.cell (p := ⟨b', off' + 2, none⟩) (by show b' < _; omega)).trans ((hb3.cell (p := ⟨b', off' + 2, none⟩) (by show b' < _; omega)).trans e2')
        have hq : Below wr.heap.size wr W := (hb2.trans (hb3.mono hz2)).trans (hbW.mono hz2)
        have hqv : Below wr.heap.size wr V := hq.trans (hbV.mono hz2)
        have HOW := Lib.hid (ownsRow_below HO.out hqv)
        have hbw := hb.trans (hqv.mono hbz)
        have HTW := Lib.hid ((HT.out.below (hqv.mono hbz)))
        have HBW := Lib.hid ((HT'.out.below (hqv.mono hbz)))
        have hi4 : (0 : Int) < (r'.length : Int) + 1 := by omega
        have hi5 : (1 : Int) ≤ (r'.length : Int) + 1 := by omega
        have hi6 : (r'.length : Int) + 1 ≤ (c2 : Int) := by simp at k3; omega
        have hi1 : (0 : Int) < (r.length : Int) + 1 := by omega
        have hi2 : (1 : Int) ≤ (r.length : Int) + 1 := by omega
        have hi3 : (r.length : Int) + 1 ≤ (c1 : Int) := by simp at k1; omega
        clear hw3 hW hx hxW
        go_wp2_with fail
        rw [← HW3.out]
        go_region
        rw [← HWW.out]
        generalize hA1 : (if c1 = 1 then some (⟨b, off, none⟩ : Addr) else some ⟨b, off + 3, none⟩) = A1
        have HRA1 := Lib.hid (HTW.out.cut1 (c := c1) (by simp at k1; omega) A1 (fun hne => by rw [← hA1, if_neg hne]))
        clear hA1 e0 e1 e2
        go_wp2_with fail
        go_region
        rw [← HVV.out]
        generalize hA3 : (if c2 = 1 then some (⟨b', off', none⟩ : Addr) else some ⟨b', off' + 3, none⟩) = A3
        have HRA3 := Lib.hid (HBW.out.cut1 (c := c2) (by simp at k3; omega) A3 (fun hne => by rw [← hA3, if_neg hne]))
        clear hA3 e0' e1' e2'
        go_wp2_with (go_at_call 42; refine (keepM11 _).mono ?_; rintro e w' ⟨rfl, rfl⟩)
        go_roundg (r.length + r'.length)
        case measure => rw [HG.out]; simp only [List.length_cons, List.length_nil]; omega
        case rel => exact ⟨A1, A3, c1 - 1, c2 - 1, r, r', out, rfl, rfl, rfl, by simp at k1; omega, by omega, by simp at k3; omega, by omega, HRA1.out, HRA3.out, by rw [HM.out, HMU.out], by simp at hlen ⊢; omega, HOW.out, by first | exact hbw | exact below_drew hbw | exact below_drew (below_drew hbw)⟩
      · obtain ⟨a, r, rfl, hmu⟩ := headsM_pos ho hne
        rcases ra with _ | ⟨x, rx⟩
        · skip
          have HMU := Lib.hid hmu
          have ho1 : ¬ (headsE ([] : List Ck.Bar) (a :: r) ≤ 0) := by omega
          have ho2 : (0 ≤ headsE ([] : List Ck.Bar) (a :: r)) := by omega
          have HRA := HB.out.head
          clear hmu
          obtain ⟨b, off, rfl, hbb, d0, d1, d2, ht⟩ := HRA
          have HT := Lib.hid ht
          clear ht
          generalize hoe : headsE ([] : List Ck.Bar) (a :: r) = o at ho ho1 ho2
          have hd1 : decide (o ≤ 0) = false := decide_eq_false (by omega)
          have HOE := Lib.hid hoe
          clear hoe
          go_wp2_with fail
          refine (netHeads A1 (some ⟨b, off, none⟩) c1 c2 ([] : List Ck.Bar) (a :: r) _ (by simp only [List.length_cons, List.length_nil] at hlen ⊢; omega) (by simp only [List.length_cons, List.length_nil] at hlen ⊢; omega) (HA.out.more hbz) (HB.out.more hbz)).mono ?_
          rintro e w2 ⟨rfl, hb2⟩
          rw [HOE.out]
          have hz2 := hb2.size
          have e0 := (hb2.cell (p := ⟨b, off, none⟩) (by show b < _; omega)).trans d0
          have e1 := (hb2.cell (p := ⟨b, off + 1, none⟩) (by show b < _; omega)).trans d1
          have e2 := (hb2.cell (p := ⟨b, off + 2, none⟩) (by show b < _; omega)).trans d2
          clear d0 d1 d2
          obtain ⟨w3, hw3⟩ : ∃ w3, w3 = w2.alloc (.cells #[.int .i64 0, .int .i64 0, .int .i64 0] 50) := ⟨_, rfl⟩
          have hx : w3.heap[w2.heap.size]? = some (.cells #[.int .i64 0, .int .i64 0, .int .i64 0] 50 (0, 0)) := by rw [hw3]; exact heap_alloc_new _ _
          have hb3 : Below w2.heap.size w2 w3 := by rw [hw3]; exact (Below.refl _ _).alloc (Nat.le_refl _) _
          have hz3 : w2.heap.size < w3.heap.size := by rw [hw3]; simp
          obtain ⟨W, hW, hxW, hbW, hzW⟩ := put3 hx (.int .i64 a.x) (.int .i64 a.y) (.int .i64 a.s)
          obtain ⟨f0, f1, f2, ff⟩ := three_of_block hx
          obtain ⟨g0, g1, g2, _⟩ := three_of_block hxW
          have HW3 := Lib.hid hw3
          have HWW := Lib.hid hW
          have HZW := Lib.hid hzW
          clear hzW
          replace e0 := (hb3.cell (p := ⟨b, off, none⟩) (by show b < _; omega)).trans e0
          replace e1 := (hb3.cell (p := ⟨b, off + 1, none⟩) (by show b < _; omega)).trans e1
          replace e2 := (hb3.cell (p := ⟨b, off + 2, none⟩) (by show b < _; omega)).trans e2
          have hq : Below wr.heap.size wr W := (hb2.trans (hb3.mono hz2)).trans (hbW.mono hz2)
          have HOW := Lib.hid (ownsRow_below HO.out hq)
          have hbw := hb.trans (hq.mono hbz)
          have HTW := Lib.hid ((HT.out.below (hq.mono hbz)))
          have HBW := Lib.hid ((HA.out.below (hq.mono hbz)))
          have hi1 : (0 : Int) < (r.length : Int) + 1 := by omega
          have hi2 : (1 : Int) ≤ (r.length : Int) + 1 := by omega
          have hi3 : (r.length : Int) + 1 ≤ (c2 : Int) := by simp at k3; omega
          clear hw3 hW hx hxW
          go_wp2_with fail
          rw [← HW3.out]
          go_region
          rw [← HWW.out]
          generalize hA1 : (if c2 = 1 then some (⟨b, off, none⟩ : Addr) else some ⟨b, off + 3, none⟩) = A3
          have HRA1 := Lib.hid (HTW.out.cut1 (c := c2) (by simp at k3; omega) A3 (fun hne => by rw [← hA1, if_neg hne]))
          clear hA1 e0 e1 e2
          go_wp2_with (go_at_call 42; refine (keepM01 _).mono ?_; rintro e w' ⟨rfl, rfl⟩)
          go_roundg (([] : List Ck.Bar).length + r.length)
          case measure => rw [HG.out]; simp only [List.length_cons, List.length_nil]; omega
          case rel => exact ⟨A1, A3, c1, c2 - 1, ([] : List Ck.Bar), r, out, rfl, rfl, rfl, k1, k2, by simp at k3; omega, by omega, HBW.out, HRA1.out, by rw [HM.out, HMU.out], by simp at hlen ⊢; omega, HOW.out, by first | exact hbw | exact below_drew hbw | exact below_drew (below_drew hbw)⟩
        · skip
          have HMU := Lib.hid hmu
          have ho1 : ¬ (headsE (x :: rx) (a :: r) ≤ 0) := by omega
          have ho2 : (0 ≤ headsE (x :: rx) (a :: r)) := by omega
          have HRA := HB.out.head
          clear hmu
          obtain ⟨b, off, rfl, hbb, d0, d1, d2, ht⟩ := HRA
          have HT := Lib.hid ht
          clear ht
          generalize hoe : headsE (x :: rx) (a :: r) = o at ho ho1 ho2
          have hd1 : decide (o ≤ 0) = false := decide_eq_false (by omega)
          have HOE := Lib.hid hoe
          clear hoe
          go_wp2_with fail
          refine (netHeads A1 (some ⟨b, off, none⟩) c1 c2 (x :: rx) (a :: r) _ (by simp only [List.length_cons, List.length_nil] at hlen ⊢; omega) (by simp only [List.length_cons, List.length_nil] at hlen ⊢; omega) (HA.out.more hbz) (HB.out.more hbz)).mono ?_
          rintro e w2 ⟨rfl, hb2⟩
          rw [HOE.out]
          have hz2 := hb2.size
          have e0 := (hb2.cell (p := ⟨b, off, none⟩) (by show b < _; omega)).trans d0
          have e1 := (hb2.cell (p := ⟨b, off + 1, none⟩) (by show b < _; omega)).trans d1
          have e2 := (hb2.cell (p := ⟨b, off + 2, none⟩) (by show b < _; omega)).trans d2
          clear d0 d1 d2
          obtain ⟨w3, hw3⟩ : ∃ w3, w3 = w2.alloc (.cells #[.int .i64 0, .int .i64 0, .int .i64 0] 50) := ⟨_, rfl⟩
          have hx : w3.heap[w2.heap.size]? = some (.cells #[.int .i64 0, .int .i64 0, .int .i64 0] 50 (0, 0)) := by rw [hw3]; exact heap_alloc_new _ _
          have hb3 : Below w2.heap.size w2 w3 := by rw [hw3]; exact (Below.refl _ _).alloc (Nat.le_refl _) _
          have hz3 : w2.heap.size < w3.heap.size := by rw [hw3]; simp
          obtain ⟨W, hW, hxW, hbW, hzW⟩ := put3 hx (.int .i64 a.x) (.int .i64 a.y) (.int .i64 a.s)
          obtain ⟨f0, f1, f2, ff⟩ := three_of_block hx
          obtain ⟨g0, g1, g2, _⟩ := three_of_block hxW
          have HW3 := Lib.hid hw3
          have HWW := Lib.hid hW
          have HZW := Lib.hid hzW
          clear hzW
          replace e0 := (hb3.cell (p := ⟨b, off, none⟩) (by show b < _; omega)).trans e0
          replace e1 := (hb3.cell (p := ⟨b, off + 1, none⟩) (by show b < _; omega)).trans e1
          replace e2 := (hb3.cell (p := ⟨b, off + 2, none⟩) (by show b < _; omega)).trans e2
          have hq : Below wr.heap.size wr W := (hb2.trans (hb3.mono hz2)).trans (hbW.mono hz2)
          have HOW := Lib.hid (ownsRow_below HO.out hq)
          have hbw := hb.trans (hq.mono hbz)
          have HTW := Lib.hid ((HT.out.below (hq.mono hbz)))
          have HBW := Lib.hid ((HA.out.below (hq.mono hbz)))
          have hi1 : (0 : Int) < (r.length : Int) + 1 := by omega
          have hi2 : (1 : Int) ≤ (r.length : Int) + 1 := by omega
          have hi3 : (r.length : Int) + 1 ≤ (c2 : Int) := by simp at k3; omega
          clear hw3 hW hx hxW
          go_wp2_with fail
          rw [← HW3.out]
          go_region
          rw [← HWW.out]
          generalize hA1 : (if c2 = 1 then some (⟨b, off, none⟩ : Addr) else some ⟨b, off + 3, none⟩) = A3
          have HRA1 := Lib.hid (HTW.out.cut1 (c := c2) (by simp at k3; omega) A3 (fun hne => by rw [← hA1, if_neg hne]))
          clear hA1 e0 e1 e2
          go_wp2_with (go_at_call 42; refine (keepM01 _).mono ?_; rintro e w' ⟨rfl, rfl⟩)
          go_roundg ((x :: rx).length + r.length)
          case measure => rw [HG.out]; simp only [List.length_cons, List.length_nil]; omega
          case rel => exact ⟨A1, A3, c1, c2 - 1, (x :: rx), r, out, rfl, rfl, rfl, k1, k2, by simp at k3; omega, by omega, HBW.out, HRA1.out, by rw [HM.out, HMU.out], by simp at hlen ⊢; omega, HOW.out, by first | exact hbw | exact below_drew hbw | exact below_drew (below_drew hbw)⟩
    · have h1 : ra = [] := List.eq_nil_of_length_eq_zero (by omega)
      have h2 : rb = [] := List.eq_nil_of_length_eq_zero (by omega)
      subst h1
      subst h2
      go_wp2
      go_ret
      have hfin := HM.out
      simp only [mergeM, List.append_nil] at hfin
      exact ⟨_, rfl, by rw [hfin]; exact HO.out, hb⟩
end Go.Proofs.Ytkplpmhdmlkjhaa

/- Minus at valid nets; plain mathematics of what is left. -/
namespace Go.Proofs.Ytkplpmhdmlkjhaa
open Go.RowKit

def MinPost (l l' : List Ck.Bar) (w : World) (e : Ending) (w' : World) : Prop :=
  ∃ v, e = .returned (.tuple #[v, .int .i64 0]) ∧ w'.ownsRow w.heap.size 50 3 v (mergeM l l').length (bcellsL (mergeM l l')) ∧ Below w.heap.size w w'

set_option maxHeartbeats 2000000 in
set_option maxRecDepth 100000 in
theorem netMergedM (A A' : Option Addr) (c c' : Nat) (l l' : List Ck.Bar) (w : World) (hl : l.length ≤ 4096) (hl' : l'.length ≤ 4096) (hc : l.length ≤ c) (hcm : c ≤ maxLen) (hc' : l'.length ≤ c') (hcm' : c' ≤ maxLen) (hN : Ck.Net l) (hN' : Ck.Net l') (h : RB w w.heap.size A l) (h' : RB w w.heap.size A' l') :
    Calls Try.prog 27 #[.slice A l.length c, .slice A' l'.length c', .func (.func 42) #[] #[]] w (MinPost l l' w) := by
  have HR := Lib.hid h
  have HR' := Lib.hid h'
  have HE := Lib.hid ((netE_zero l).2 ⟨hl, hN⟩)
  have HE' := Lib.hid ((netE_zero l').2 ⟨hl', hN'⟩)
  clear h h' hN hN'
  go_enter Try.func27, Try.ntmps27
  go_wp2_with fail
  refine (netCheckNet A c l _ hl hc hcm HR.out).mono ?_
  rintro e w1 ⟨rfl, hb1⟩
  rw [HE.out]
  go_wp2_with fail
  refine (netCheckNet A' c' l' _ hl' hc' hcm' ((HR'.out.below hb1).more hb1.size)).mono ?_
  rintro e w2 ⟨rfl, hb2⟩
  rw [HE'.out]
  have hq2 := hb1.trans (hb2.mono hb1.size)
  go_wp2_with fail
  refine (netFirst2 _ _ 0 0 25 _ (by exact heap_alloc_new _ _)).mono ?_
  rintro e w3 ⟨rfl, rfl⟩
  rw [show firstE [0, 0] = 0 from rfl]
  have hq3 := hq2.alloc hq2.size (.cells #[.int .i64 0, .int .i64 0] 25)
  go_wp2_with fail
  refine (netMergeM A A' c c' l l' _ hl hl' hc hcm hc' hcm' ((HR.out.below hq3).more hq3.size) ((HR'.out.below hq3).more hq3.size)).mono ?_
  rintro e w4 ⟨v, rfl, hown, hb4⟩
  have HO := Lib.hid (ownsRow_mono hown hq3.size)
  clear hown
  go_wp2
  go_ret2
  exact ⟨v, rfl, HO.out, hq3.trans (hb4.mono hq3.size)⟩

set_option maxHeartbeats 2000000 in
set_option maxRecDepth 100000 in
theorem netMinus (A A' : Option Addr) (c c' : Nat) (l l' : List Ck.Bar) (w : World) (hl : l.length ≤ 4096) (hl' : l'.length ≤ 4096) (hc : l.length ≤ c) (hcm : c ≤ maxLen) (hc' : l'.length ≤ c') (hcm' : c' ≤ maxLen) (hN : Ck.Net l) (hN' : Ck.Net l') (h : RB w w.heap.size A l) (h' : RB w w.heap.size A' l') :
    Calls Try.prog 17 #[.slice A l.length c, .slice A' l'.length c'] w (MinPost l l' w) := by
  have ex0 : ∀ (a b : Value) (w : World), (Instr.extract (.tuple #[a, b]) 0).run Try.prog w = .ok a w := fun _ _ _ => by kernel_rfl
  have ex1 : ∀ (a b : Value) (w : World), (Instr.extract (.tuple #[a, b]) 1).run Try.prog w = .ok b w := fun _ _ _ => by kernel_rfl
  go_enter Try.func17, Try.ntmps17
  go_wp2_with fail
  refine (netMergedM A A' c c' l l' _ hl hl' hc hcm hc' hcm' hN hN' h h').mono ?_
  rintro e w1 ⟨v, rfl, hown, hb1⟩
  obtain ⟨a, cv, rfl, _, _⟩ := own_slice hown
  have HO := Lib.hid hown
  clear hown
  generalize hn : (mergeM l l').length = n
  have HN := Lib.hid hn
  clear hn
  go_wp2
  go_ret2
  exact ⟨.slice a n cv, rfl, by have h9 := HO.out; rw [HN.out] at h9 ⊢; exact h9, hb1⟩


open Ck
theorem mergeM_one_lt {x : Bar} {l : List Bar} (h : ∀ b ∈ l, Blt x b) : mergeM l [x] = l := by
  cases l with
  | nil => simp [mergeM]
  | cons b r =>
    have hb := h b (by simp)
    have h1 : ¬ cmpB b x < 0 := fun hh => (hb.trans ((cmpB_lt_iff b x).1 hh)).irrefl
    have h2 : 0 < cmpB b x := by
      have h0 : cmpB b x ≠ 0 := fun e => by have := (cmpB_zero b x).1 e; subst this; exact hb.irrefl
      omega
    rw [mergeM, if_neg h1, if_pos h2, mergeM_nil]
/-- One bar less: the bar is taken out of the list. -/
theorem mergeM_one {x : Bar} : ∀ {l : List Bar}, l.Pairwise Blt → mergeM l [x] = l.filter (fun b => decide (b ≠ x))
  | [], _ => by simp [mergeM]
  | b :: r, h => by
    obtain ⟨h1, h2⟩ := List.pairwise_cons.1 h
    rcases Blt.tri b x with hb | hb | hb
    · rw [mergeM, if_pos ((cmpB_lt_iff b x).2 hb), mergeM_one h2, List.filter_cons_of_pos]
      have : b ≠ x := fun e => by subst e; exact hb.irrefl
      simpa using this
    · subst hb
      have e0 := (cmpB_zero b b).2 rfl
      rw [mergeM, if_neg (by omega), if_neg (by omega), mergeM_nil]
      rw [List.filter_cons_of_neg (by simp), List.filter_eq_self.2]
      intro c hc
      have : c ≠ b := fun e => by subst e; exact (h1 c hc).irrefl
      simpa using this
    · rw [mergeM_one_lt (fun c hc => by rcases List.mem_cons.1 hc with rfl | hc; exact hb; exact hb.trans (h1 c hc)), List.filter_eq_self.2]
      intro c hc
      have : c ≠ x := by
        rintro rfl
        rcases List.mem_cons.1 hc with e | hc
        · subst e; exact hb.irrefl
        · exact (hb.trans (h1 c hc)).irrefl
      simpa using this
theorem sorted_unique : ∀ {l l' : List Bar}, l.Pairwise Blt → l'.Pairwise Blt → (∀ b, b ∈ l ↔ b ∈ l') → l = l'
  | [], [], _, _, _ => rfl
  | [], b :: r', _, _, h => absurd ((h b).2 (by simp)) (by simp)
  | a :: r, [], _, _, h => absurd ((h a).1 (by simp)) (by simp)
  | a :: r, b :: r', h1, h2, h => by
    obtain ⟨k1, k2⟩ := List.pairwise_cons.1 h1
    obtain ⟨m1, m2⟩ := List.pairwise_cons.1 h2
    have e : a = b := by
      rcases List.mem_cons.1 ((h a).1 (by simp)) with e | e
      · exact e
      · rcases List.mem_cons.1 ((h b).2 (by simp)) with e' | e'
        · exact e'.symm
        · exact ((m1 a e).trans (k1 b e')).irrefl.elim
    subst e
    rw [sorted_unique k2 m2 fun c => ?_]
    constructor
    · intro hc
      rcases List.mem_cons.1 ((h c).1 (by simp [hc])) with e | e
      · subst e; exact (k1 c hc).irrefl.elim
      · exact e
    · intro hc
      rcases List.mem_cons.1 ((h c).2 (by simp [hc])) with e | e
      · subst e; exact (m1 c hc).irrefl.elim
      · exact e
/-- Put back, the bar stands where it stood. -/
theorem mergeU_one {x : Bar} {l : List Bar} (h : l.Pairwise Blt) (hx : x ∈ l) : mergeU (l.filter (fun b => decide (b ≠ x))) [x] = l := by
  refine sorted_unique (mergeU_sorted _ _ (h.filter _) (by simp)) h fun b => ?_
  rw [mergeU_mem, List.mem_filter]
  constructor
  · rintro (⟨h1, _⟩ | h1)
    · exact h1
    · simp at h1; subst h1; exact hx
  · intro hb
    by_cases e : b = x
    · exact .inr (by simp [e])
    · exact .inl ⟨hb, by simpa using e⟩
theorem filter_length {x : Bar} {l : List Bar} (h : l.Pairwise Blt) (hx : x ∈ l) : (l.filter (fun b => decide (b ≠ x))).length + 1 = l.length := by
  induction l with
  | nil => simp at hx
  | cons b r ih =>
    obtain ⟨h1, h2⟩ := List.pairwise_cons.1 h
    by_cases e : b = x
    · subst e
      rw [List.filter_cons_of_neg (by simp), List.filter_eq_self.2]
      · rfl
      · intro c hc
        have : c ≠ b := fun e => by subst e; exact (h1 c hc).irrefl
        simpa using this
    · rw [List.filter_cons_of_pos (by simpa using e)]
      have := ih h2 (by rcases List.mem_cons.1 hx with rfl | hx; exact absurd rfl e; exact hx)
      simp only [List.length_cons]; omega
end Go.Proofs.Ytkplpmhdmlkjhaa

/- The contract of the reference's HasKnot. -/
namespace Go.Proofs.Ytkplpmhdmlkjhaa
open Go.RowKit

set_option maxHeartbeats 2000000 in
set_option maxRecDepth 100000 in
theorem refHasKnot (A : Option Addr) (c : Nat) (ks : List Ck.Knot) (k : Ck.Knot) (w : World) (hl : ks.length ≤ 10000) (h : RK w w.heap.size A ks) :
    Calls Try.prog 12 #[.slice A ks.length c, .agg #[.int .i64 k.x, .int .i64 k.y]] w fun e w' => e = .returned (.bool (decide (k ∈ ks))) ∧ Below w.heap.size w w' := by
  have HR := Lib.hid h
  have hl' : (ks.length : Int) ≤ 10000 := by omega
  have hgd := guardKnot
  clear h
  go_enter Try.func12, Try.ntmps12
  go_wp2_with fail
  go_loopw [5] (fun i wi => ∃ j : Nat, j ≤ ks.length ∧ i = .int .i64 j ∧ Hid (∀ q (hq : q < ks.length), q < j → ks[q] ≠ k) ∧ wi.cell? ⟨w.heap.size, 0, none⟩ = some (.int .i64 k.x) ∧ wi.cell? ⟨w.heap.size, 1, none⟩ = some (.int .i64 k.y) ∧ Below w.heap.size w wi) (fun i _ => ks.length - (intOf i).toNat)
  case atStart =>
    obtain ⟨w1, hw1, e0, e1, hb1, hz1⟩ := box2 w (.int .i64 k.x) (.int .i64 k.y) 30
    rw [← hw1]
    exact ⟨0, Nat.zero_le _, rfl, fun q _ h => by omega, e0, e1, hb1⟩
  case round =>
    obtain ⟨j, hj, rfl, hno, e0, e1, hb⟩ := hrel
    by_cases hlt : j < ks.length
    · obtain ⟨b, off, rfl, hB, hc⟩ := HR.out.below hb (by omega)
      obtain ⟨c0, c1⟩ := hc j hlt
      have hi0 : (0 : Int) ≤ (j : Int) := by omega
      have hi1 : (j : Int) < (ks.length : Int) := by omega
      have hw1 : IntKind.i64.wrap (j : Int) = (j : Int) := by rw [IntKind.wrap_i64]; omega
      clear hc
      by_cases he : ks[j] = k
      · have hq := eqKnot' ks[j] k true (by simpa using he)
        have HF := Lib.hid (show decide (k ∈ ks) = true by rw [decide_eq_true_eq, ← he]; exact List.getElem_mem hlt)
        clear he
        go_wp2_with fail
        go_quiet (fail)
        go_wp2
        go_ret
        exact ⟨ret_b HF.out.symm, below_drewN hb _⟩
      · have hq := eqKnot' ks[j] k false (by simpa using he)
        have HE := Lib.hid he
        clear he
        go_wp2_with fail
        go_quiet (fail)
        go_wp2
        go_roundw
        case rel => exact ⟨j + 1, by omega, by go_num, fun q hq2 hqj => by
          rcases Nat.lt_or_ge q j with h1 | h1
          · exact hno.out q hq2 h1
          · obtain rfl : q = j := by omega
            exact HE.out, e0, e1, below_drewN hb _⟩
        case measure => simp [intOf]; omega
    · obtain rfl : j = ks.length := by omega
      have HF := Lib.hid (show decide (k ∈ ks) = false by
        rw [decide_eq_false_iff_not]
        intro hm
        obtain ⟨q, hq, e⟩ := List.getElem_of_mem hm
        exact hno.out q hq hq e)
      go_wp2
      go_ret
      exact ⟨ret_b HF.out.symm, hb⟩
end Go.Proofs.Ytkplpmhdmlkjhaa

/- The contract of corkNet: a valid net with at most 20 bars within 200 units. -/
namespace Go.Proofs.Ytkplpmhdmlkjhaa
open Go.RowKit

def nearB (b : Ck.Bar) : Bool := decide (-200 ≤ b.x ∧ b.x ≤ 200 ∧ -200 ≤ b.y ∧ b.y ≤ 200)
def corkB (l : List Ck.Bar) : Bool := decide (netE l = 0) && l.all nearB

set_option maxHeartbeats 400000 in
theorem corkNetLong (A : Option Addr) (c n : Nat) (w : World) (hn : 20 < n) (hm : n ≤ maxLen) :
    Calls Try.prog 5 #[.slice A n c, .int .i64 20] w fun e w' => e = .returned (.bool false) ∧ w = w' := by
  unfold maxLen at hm
  have h1 : (20 : Int) < (n : Int) := by omega
  go_enter Try.func5, Try.ntmps5
  go_wp2
  go_ret
  exact ⟨rfl, rfl⟩

set_option maxHeartbeats 4000000 in
set_option maxRecDepth 100000 in
theorem corkNetShort (A : Option Addr) (c : Nat) (l : List Ck.Bar) (w : World) (hl : l.length ≤ 20) (h : RB w w.heap.size A l) :
    Calls Try.prog 5 #[.slice A l.length c, .int .i64 20] w fun e w' => e = .returned (.bool (corkB l)) ∧ Below w.heap.size w w' := by
  have HR := Lib.hid h
  have h1 : ¬ ((20 : Int) < (l.length : Int)) := by omega
  have hl' : (l.length : Int) ≤ 20 := by omega
  clear h
  by_cases hz : netE l = 0
  · have HZ := Lib.hid hz
    have HC := Lib.hid (show corkB l = l.all nearB by simp [corkB, hz])
    clear hz
    go_enter Try.func5, Try.ntmps5
    go_wp2_with fail
    refine (refCheckNet A c l _ (by omega) HR.out).mono ?_
    rintro e w1 ⟨rfl, hb1⟩
    rw [HZ.out]
    go_wp2_with fail
    go_loopw [6, 18] (fun _ i wi => ∃ j : Nat, j ≤ l.length ∧ i = .int .i64 j ∧ Hid (l.all nearB = (l.drop j).all nearB) ∧ Below w.heap.size w wi) (fun _ i _ => l.length - (intOf i).toNat)
    case atStart => exact ⟨0, Nat.zero_le _, rfl, rfl, hb1⟩
    case round =>
      obtain ⟨j, hj, rfl, hall, hb⟩ := hrel
      by_cases hlt : j < l.length
      · obtain ⟨b, off, rfl, hB, hc⟩ := HR.out.below hb (by omega)
        obtain ⟨c0, c1, c2⟩ := hc j hlt
        have hbz := hb.size
        have HD := Lib.hid (show (l.drop j).all nearB = (nearB l[j] && (l.drop (j + 1)).all nearB) by
          rw [List.drop_eq_getElem_cons hlt, List.all_cons])
        clear hc
        by_cases hn : -200 ≤ l[j].x ∧ l[j].x ≤ 200 ∧ -200 ≤ l[j].y ∧ l[j].y ≤ 200
        · have HN := Lib.hid (show nearB l[j] = true by simpa [nearB] using hn)
          obtain ⟨n1, n2, n3, n4⟩ := hn
          go_wp2
          go_roundw
          case rel => exact ⟨j + 1, by omega, by go_num, by rw [hall.out, HD.out, HN.out, Bool.true_and]; exact rfl, hb.alloc hbz _⟩
          case measure => simp [intOf]; omega
        · have HF := Lib.hid (show nearB l[j] = false by simpa [nearB] using hn)
          have HV := Lib.hid (show corkB l = false by rw [HC.out, hall.out, HD.out, HF.out]; rfl)
          by_cases n1 : l[j].x < -200
          · go_wp2
            go_ret
            exact ⟨ret_b HV.out.symm, hb.alloc hbz _⟩
          · by_cases n2 : 200 < l[j].x
            · go_wp2
              go_ret
              exact ⟨ret_b HV.out.symm, hb.alloc hbz _⟩
            · by_cases n3 : l[j].y < -200
              · go_wp2
                go_ret
                exact ⟨ret_b HV.out.symm, hb.alloc hbz _⟩
              · have n4 : 200 < l[j].y := by omega
                clear hn
                go_wp2
                go_ret
                exact ⟨ret_b HV.out.symm, hb.alloc hbz _⟩
      · obtain rfl : j = l.length := by omega
        have HV := Lib.hid (show corkB l = true by rw [HC.out, hall.out, List.drop_length]; rfl)
        go_wp2
        go_ret
        exact ⟨ret_b HV.out.symm, hb⟩
  · have HZ := Lib.hid (show corkB l = false by simp [corkB, hz])
    have hzb : (netE l != 0) = true := by rw [bne_iff_ne]; exact hz
    clear hz
    go_enter Try.func5, Try.ntmps5
    go_wp2_with fail
    refine (refCheckNet A c l _ (by omega) HR.out).mono ?_
    rintro e w1 ⟨rfl, hb1⟩
    go_wp2
    go_ret
    exact ⟨ret_b HZ.out.symm, hb1⟩
end Go.Proofs.Ytkplpmhdmlkjhaa

/- The range over a map from knots to ints that the call has made: what has come of it so far, and its step. -/
namespace Go.Proofs.Ytkplpmhdmlkjhaa
open Go.RowKit Go.ChangeMaps Go.MapKept

/-- Block r is an iterator over the map in block b, which holds the pairs m; the keys ks have come. -/
def KRange (w : World) (b r : Nat) (m : List (Ck.Knot × Int)) (ks : List Ck.Knot) : Prop :=
  ∃ es clock since seen c0, w.heap[b]? = some (.map es clock) ∧ Ents es m ∧ (m.map (·.1)).Nodup ∧ (es.toList.map (·.born)).Nodup ∧ w.heap[r]? = some (.mapIter (some b) since seen c0) ∧
    (∀ x ∈ es.toList, x.born < since) ∧ since ≤ c0 ∧ since ≤ clock ∧ ks.Nodup ∧ ∀ k, k ∈ ks ↔ ∃ x ∈ es.toList, x.key = kvv k ∧ seen.contains x.born = true
theorem kvv_inj {a b : Ck.Knot} (h : kvv a = kvv b) : a = b := by
  obtain ⟨x, y⟩ := a
  obtain ⟨x', y'⟩ := b
  simpa [kvv] using h
theorem Ents.keys {es : Array MapEntry} {m : List (Ck.Knot × Int)} (h : Ents es m) : es.toList.map (·.key) = m.map fun p => kvv p.1 := by
  have := congrArg (List.map Prod.fst) h
  simpa [List.map_map, Function.comp_def] using this
theorem Ents.mem {es : Array MapEntry} {m : List (Ck.Knot × Int)} (h : Ents es m) {x : MapEntry} (hx : x ∈ es.toList) : ∃ p ∈ m, x.key = kvv p.1 ∧ x.val = .int .i64 p.2 := by
  have : (x.key, x.val) ∈ m.map fun p => (kvv p.1, Value.int .i64 p.2) := h ▸ List.mem_map_of_mem (f := fun e : MapEntry => (e.key, e.val)) hx
  obtain ⟨p, hp, e⟩ := List.mem_map.1 this
  simp only [Prod.mk.injEq] at e
  exact ⟨p, hp, e.1.symm, e.2.symm⟩
theorem Ents.has {es : Array MapEntry} {m : List (Ck.Knot × Int)} (h : Ents es m) (k : Ck.Knot) : k ∈ m.map (·.1) ↔ ∃ x ∈ es.toList, x.key = kvv k := by
  constructor
  · intro hk
    obtain ⟨p, hp, rfl⟩ := List.mem_map.1 hk
    have : kvv p.1 ∈ es.toList.map (·.key) := by rw [h.keys]; exact List.mem_map_of_mem (f := fun p : Ck.Knot × Int => kvv p.1) hp
    obtain ⟨x, hx, e⟩ := List.mem_map.1 this
    exact ⟨x, hx, e⟩
  · rintro ⟨x, hx, e⟩
    obtain ⟨p, hp, e1, _⟩ := h.mem hx
    rw [e] at e1
    rw [kvv_inj e1]
    exact List.mem_map_of_mem hp
theorem Ents.one {es : Array MapEntry} {m : List (Ck.Knot × Int)} (h : Ents es m) (hn : (m.map (·.1)).Nodup) {x y : MapEntry} (hx : x ∈ es.toList) (hy : y ∈ es.toList) (e : x.key = y.key) : x = y := by
  have hk : (es.toList.map (·.key)).Nodup := by
    rw [h.keys, show (m.map fun p => kvv p.1) = (m.map (·.1)).map kvv from by simp [List.map_map, Function.comp_def]]
    exact List.pairwise_map.2 (hn.imp fun {a b} hne e => hne (kvv_inj e))
  exact entry_eq_of_key (List.pairwise_map.1 hk) hx hy e

theorem KRange.owns {w : World} {b r : Nat} {m : List (Ck.Knot × Int)} {ks : List Ck.Knot} (h : KRange w b r m ks) : ∃ es clock since seen c0, w.heap[b]? = some (.map es clock) ∧ w.heap[r]? = some (.mapIter (some b) since seen c0) := by
  obtain ⟨es, clock, since, seen, c0, h1, _, _, _, h2, _⟩ := h
  exact ⟨es, clock, since, seen, c0, h1, h2⟩
theorem KRange.iter_walk {w : World} {b r : Nat} {m : List (Ck.Knot × Int)} {ks : List Ck.Knot} (h : KRange w b r m ks) : ∃ o : Obj, w.heap[r]? = some o ∧ o.isWalk = true := by
  obtain ⟨es, clock, since, seen, c0, _, h2⟩ := h.owns
  exact ⟨_, h2, rfl⟩
theorem KRange.nodup {w : World} {b r : Nat} {m : List (Ck.Knot × Int)} {ks : List Ck.Knot} (h : KRange w b r m ks) : ks.Nodup := by
  obtain ⟨es, clock, since, seen, c0, _, _, _, _, _, _, _, _, h1, _⟩ := h
  exact h1
theorem KRange.sub {w : World} {b r : Nat} {m : List (Ck.Knot × Int)} {ks : List Ck.Knot} (h : KRange w b r m ks) : ∀ k ∈ ks, k ∈ m.map (·.1) := by
  obtain ⟨es, clock, since, seen, c0, _, h2, _, _, _, _, _, _, _, h1⟩ := h
  intro k hk
  obtain ⟨x, hx, e, _⟩ := (h1 k).1 hk
  exact (h2.has k).2 ⟨x, hx, e⟩
theorem KRange.lt_of_new {w : World} {b r : Nat} {m : List (Ck.Knot × Int)} {ks : List Ck.Knot} (h : KRange w b r m ks) {k : Ck.Knot} (hk : k ∈ m.map (·.1)) (hn : k ∉ ks) : ks.length < m.length := by
  have h1 : (k :: ks).Nodup := List.nodup_cons.2 ⟨hn, h.nodup⟩
  have h2 := h1.length_le_of_subset (l₂ := m.map (·.1)) (fun x hx => by
    rcases List.mem_cons.1 hx with rfl | hx
    · exact hk
    · exact h.sub x hx)
  simp only [List.length_cons, List.length_map] at h2; omega
theorem KRange.of_walks {w w' : World} {b r : Nat} {m : List (Ck.Knot × Int)} {ks : List Ck.Knot} (h : KRange w b r m ks) (hk : KeepsWalks w w') : KRange w' b r m ks := by
  obtain ⟨es, clock, since, seen, c0, h1, h2, h3, h4, h5, h6⟩ := h
  exact ⟨es, clock, since, seen, c0, hk.same b _ h1 rfl, h2, h3, h4, hk.same r _ h5 rfl, h6⟩
theorem KRange.left_eq {w w' : World} {b r : Nat} {m : List (Ck.Knot × Int)} {ks : List Ck.Knot} (h : KRange w b r m ks) (hk : KeepsWalks w w') : w'.rangeLeft b r = w.rangeLeft b r := by
  obtain ⟨es, clock, since, seen, c0, h1, h2⟩ := h.owns
  simp only [World.rangeLeft, h1, h2, hk.same b _ h1 rfl, hk.same r _ h2 rfl]

theorem MIs.range {w : World} {b : Nat} {m : List (Ck.Knot × Int)} (h : MIs w b m) :
    ∃ w', (Instr.range 68 (.map (some b))).run Try.prog w = .ok (.pointer (some ⟨w.heap.size, 0, none⟩)) w' ∧ KRange w' b w.heap.size m [] ∧ w.grownBy w' none ∧ w'.heap.size = w.heap.size + 1 := by
  have hlt := h.lt
  obtain ⟨es, clock, h1, h2, h3, h4, h5⟩ := h
  refine ⟨_, run_range_map w _ _ _ b es clock Try.underlying68 h1, ⟨es, clock, clock, #[], clock, ((MapKept.heap_alloc w _).2 b hlt).trans h1, h2, h3, h4, (MapKept.heap_alloc w _).1, h5, Nat.le_refl _, Nat.le_refl _, List.nodup_nil, fun k => by simp⟩, World.grownBy_alloc w _ none, by simp⟩

theorem KRange.next {w : World} {b r : Nat} {m : List (Ck.Knot × Int)} {ks : List Ck.Knot} (h : KRange w b r m ks) (ty : TypeId) :
    ((∀ k, k ∈ ks ↔ k ∈ m.map (·.1)) ∧ (Instr.next (.pointer (some ⟨r, 0, none⟩)) false ty).run Try.prog w = .ok (.tuple #[.bool false]) w) ∨
    ∃ k v w', k ∈ m.map (·.1) ∧ k ∉ ks ∧ (Instr.next (.pointer (some ⟨r, 0, none⟩)) false ty).run Try.prog w = .ok (.tuple #[.bool true, kvv k, .int .i64 v]) w' ∧ KRange w' b r m (ks ++ [k]) ∧ w'.rangeLeft b r < w.rangeLeft b r ∧ w.grownBy w' (some r) ∧ w'.heap.size = w.heap.size ∧
      (Instr.entry (.pointer (some ⟨r, 0, none⟩))).run Try.prog w' = .ok (.tuple #[kvv k, .int .i64 v]) w' := by
  obtain ⟨es, clock, since, seen, c0, hb, h2, h3, h4, hr, hold, hsc, hsk, hks, hiff⟩ := h
  have hne : r ≠ b := by rintro rfl; rw [hb] at hr; cases hr
  rcases run_next_at (P := Try.prog) w ty r b since c0 seen es clock hr hb hold hsc with ⟨h0, hrun⟩ | ⟨e, he, w1, hal, hrun⟩
  · refine .inl ⟨fun k => ?_, hrun⟩
    rw [hiff, h2.has]
    constructor
    · rintro ⟨x, hx, hk, _⟩; exact ⟨x, hx, hk⟩
    · rintro ⟨x, hx, hk⟩; exact ⟨x, hx, hk, all_seen es seen h0 x hx⟩
  · obtain ⟨hem, hes⟩ := mem_left he
    obtain ⟨p, hp, hkey, hval⟩ := h2.mem hem
    have hr1 : w1.heap[r]? = some (.mapIter (some b) since seen c0) := by rcases hal with rfl | rfl <;> exact hr
    have hb1 : w1.heap[b]? = some (.map es clock) := by rcases hal with rfl | rfl <;> exact hb
    have hset := heap_set (o' := .mapIter (some b) since (seen.push e.born) clock) hr1
    have hb' : (setBlock w1 r (.mapIter (some b) since (seen.push e.born) clock)).heap[b]? = some (.map es clock) := (hset.2 b (fun e1 => hne e1.symm)).trans hb1
    have hnew : p.1 ∉ ks := fun hk => by
      obtain ⟨x, hx, hxk, hxs⟩ := (hiff p.1).1 hk
      rw [h2.one h3 hx hem (hxk.trans hkey.symm), hes] at hxs
      cases hxs
    refine .inr ⟨p.1, p.2, _, List.mem_map_of_mem hp, hnew, by rw [hrun, hkey, hval], ⟨es, clock, since, seen.push e.born, clock, hb', h2, h3, h4, hset.1, hold, hsk, hsk, ?_, fun k => ?_⟩, ?_, ?_, ?_, ?_⟩
    · exact List.nodup_append.2 ⟨hks, by simp, fun a ha c hc => by
        simp at hc; subst hc; exact fun e => hnew (e ▸ ha)⟩
    · rw [List.mem_append, hiff, List.mem_singleton]
      constructor
      · rintro (⟨x, hx, hk, hs⟩ | rfl)
        · exact ⟨x, hx, hk, by rw [contains_push, hs]; rfl⟩
        · exact ⟨e, hem, hkey, by rw [contains_push]; simp⟩
      · rintro ⟨x, hx, hk, hs⟩
        rw [contains_push] at hs
        cases hc : seen.contains x.born
        · rw [hc, Bool.false_or] at hs
          have hbe : x.born = e.born := by simpa using hs
          refine .inr ?_
          have hxe : x = e := born_inj h4 hx hem hbe
          subst hxe
          exact kvv_inj (hk.symm.trans hkey)
        · exact .inl ⟨x, hx, hk, hc⟩
    · have e1 : World.rangeLeft w b r = (leftOf es seen).size := by simp only [World.rangeLeft, hb, hr]
      have e2 : ∀ W : World, W.heap[b]? = some (.map es clock) → W.heap[r]? = some (.mapIter (some b) since (seen.push e.born) clock) → W.rangeLeft b r = (leftOf es (seen.push e.born)).size := fun W h1 h2 => by simp only [World.rangeLeft, h1, h2]
      rw [e1, e2 _ hb' hset.1]
      exact left_shrinks es seen e he
    · rcases hal with rfl | rfl <;> exact ⟨rfl, rfl, rfl, by simp [setBlock], fun i _ hi => hset.2 i (fun e1 => hi (by rw [e1]))⟩
    · rcases hal with rfl | rfl <;> simp [setBlock]
    · rw [run_entry_at _ r b since seen es clock e hset.1 hb' hem h4, hkey, hval]

def KeyOf (m : List (Ck.Knot × Int)) (k : Ck.Knot) : Prop := k ∈ m.map (·.1)
section
variable {F : Fence} {n : Nat} (w : World) {ops : Array Oper} {rest : List Oper} {o : Oper} {a : Act} {Q : Exit → Act → World → Prop}
theorem wpListIn_range_knots (hg : o.guard = none) (m : Operand) (hop : o.op = Op.range 68 m) (b : Nat) (ps : List (Ck.Knot × Int)) (hm : a.eval m = .map (some b)) (hown : MIs w b ps)
    (hK : ∀ w', KRange w' b w.heap.size ps [] → w.grownBy w' none → w'.heap.size = w.heap.size + 1 → wpListIn F n Try.prog ops Q rest (a.put o.dst (.pointer (some ⟨w.heap.size, 0, none⟩))) w') :
    wpListIn F n Try.prog ops Q (o :: rest) a w := by
  refine wpListIn_plain hg fun K' hK' => ?_
  obtain ⟨w', hrun, r1, r2, r3⟩ := hown.range
  unfold Oper.wpIn
  refine ⟨?_, ?_⟩
  · simp [Oper.about, hop]
  · rw [Oper.semAt_plain F _ _ (by rw [hop]; intro c hc'; cases hc')]
    simp [execOp, hop, hm, hrun, Result.andThen]
    exact hK' _ _ (hK w' r1 r2 r3)
theorem wpListIn_next_knots (hg : o.guard = none) (it : Operand) (hop : o.op = Op.next it false) (b r : Nat) (ps : List (Ck.Knot × Int)) (ks : List Ck.Knot) (hit : a.eval it = .pointer (some ⟨r, 0, none⟩)) (h : KRange w b r ps ks)
    (hDone : (∀ k, k ∈ ks ↔ KeyOf ps k) → wpListIn F n Try.prog ops Q rest (a.put o.dst (.tuple #[.bool false])) w)
    (hMore : ∀ (k : Ck.Knot) (v : Int) (w' : World), KeyOf ps k → k ∉ ks → KRange w' b r ps (ks ++ [k]) → w'.rangeLeft b r < w.rangeLeft b r → w.grownBy w' (some r) → w'.heap.size = w.heap.size →
      (Instr.entry (.pointer (some ⟨r, 0, none⟩))).run Try.prog w' = .ok (.tuple #[.agg #[.int .i64 k.x, .int .i64 k.y], .int .i64 v]) w' → wpListIn F n Try.prog ops Q rest (a.put o.dst (.tuple #[.bool true, .agg #[.int .i64 k.x, .int .i64 k.y], .int .i64 v])) w') :
    wpListIn F n Try.prog ops Q (o :: rest) a w := by
  refine wpListIn_plain hg fun K' hK' => ?_
  unfold Oper.wpIn
  refine ⟨by simp [Oper.about, hop], ?_⟩
  rw [Oper.semAt_plain F _ _ (by rw [hop]; intro c hc'; cases hc')]
  rcases h.next o.type with ⟨hl, hrun⟩ | ⟨k, v, w', h1, h2, hrun, h3, h4, h5, h6, h7⟩
  · simp [execOp, hop, hit, hrun, Result.andThen]
    exact hK' _ _ (hDone hl)
  · simp [execOp, hop, hit, hrun, Result.andThen]
    exact hK' _ _ (hMore k v w' h1 h2 h3 h4 h5 h6 h7)
end
end Go.Proofs.Ytkplpmhdmlkjhaa

/- The iterator of a map's keys, for knots. -/
namespace Go.Proofs.Ytkplpmhdmlkjhaa
open Go.RowKit Go.ChangeMaps Go.MapKept Go.Shelf

def knotArr (k : Ck.Knot) : Array Value := #[.agg #[.int .i64 k.x, .int .i64 k.y]]

set_option maxRecDepth 100000 in
set_option maxHeartbeats 1000000 in
theorem keys1_in (F : Fence) (n : Nat) (h54 : F.fn 54) (hro : F.round = none) (hn : 1 ≤ n) (l Bm b : Nat) (m : List (Ck.Knot × Int)) (J Jx : List Ck.Knot → World → Prop)
    (hY : ∀ pre x W, J pre W → pre.length < m.length → YieldAt F (n - 1) Try.prog l (knotArr x) W fun e W' =>
      (e = .returned (.bool true) ∧ J (pre ++ [x]) W' ∧ KeepsWalks W W') ∨ (e = .returned (.bool false) ∧ Jx (pre ++ [x]) W'))
    (W : World) (hJ : AbidesFrom W.heap.size J) (hm : W.cell? ⟨Bm, 0, none⟩ = some (.map (some b))) (hown : MIs W b m) (h0 : J [] W) :
    CallsIn F n Try.prog 54 #[.func (.yield l) #[] #[], .pointer (some ⟨Bm, 0, none⟩)] W fun e W' => (∃ v, e = .returned v) ∧
      ((∃ ss : List Ck.Knot, (ss.Nodup ∧ ∀ k, k ∈ ss ↔ k ∈ m.map (·.1)) ∧ J ss W') ∨ (∃ pre : List Ck.Knot, True ∧ Jx pre W')) := by
  refine callsIn_of_wp Try.func54 rfl h54 ?_ hro
  simp only [Try.ntmps54, List.size_toArray, List.length_cons, List.length_nil, Nat.reduceAdd, Nat.reduceSub, Array.replicate_succ, Array.replicate_zero, List.push_toArray, List.append_toArray, List.nil_append, List.cons_append]
  gi_wp2_with (first
    | (gi_at_range; refine wpListIn_range_knots _ rfl _ rfl b m rfl hown ?_; intro w0 hrg0 hg0 hs0)
    | gi_in)
  go_frame
  gi_loopw [3] (fun _ wr => ∃ ss : List Ck.Knot, KRange wr b W.heap.size m ss ∧ J ss wr)
    (fun _ wr => wr.rangeLeft b W.heap.size)
  case atStart =>
    exact ⟨[], hrg0, hJ [] W w0 none h0 hg0 (fun r e => by cases e)⟩
  case round =>
    obtain ⟨ss, hrg, hJs⟩ := hrel
    gi_wp2_with (first
      | (gi_at_next; refine wpListIn_next_knots _ rfl _ rfl b W.heap.size m ss rfl hrg ?_ ?_)
      | gi_in)
    · intro hl0
      gi_wp2
      go_end0
      exact ⟨⟨_, rfl⟩, .inl ⟨ss, ⟨hrg.nodup, hl0⟩, hJs⟩⟩
    · intro k c w2 hk hnk hrg2 hlt hg2 hs2 hen
      have hJ2 : J ss w2 := hJ ss wr w2 (some W.heap.size) hJs hg2 (fun r e => by cases e; exact ⟨Nat.le_refl _, hrg.iter_walk⟩)
      have hJ3 : J ss (w2.alloc (.cells #[.int .i64 k.x, .int .i64 k.y] 30)) := hJ ss w2 _ none hJ2 (World.grownBy_alloc w2 _ none) (fun r e => by cases e)
      have hlen : ss.length < m.length := hrg.lt_of_new hk hnk
      obtain ⟨fn, tmps, assign, body, hy, hR⟩ := hY ss k _ hJ3 hlen
      have HG2 := Lib.hid hg2
      have HL := Lib.hid hlt
      have HR2 := Lib.hid hrg2
      clear hs2 hg2 hlt hrg2
      dsimp only [knotArr] at hy
      gi_wp2
      refine hR.mono ?_
      rintro e W3 (⟨rfl, hJ4, hk3⟩ | ⟨rfl, hJx3⟩)
      · gi_wp2
        have hk4 := (KeepsWalks.alloc w2 (.cells #[.int .i64 k.x, .int .i64 k.y] 30)).trans hk3
        go_roundw
        case rel => exact ⟨ss ++ [k], HR2.out.of_walks hk4, hJ4⟩
        case measure => rw [HR2.out.left_eq hk4]; exact HL.out
      · gi_wp2
        refine bodyPost_ret (results_none rfl _ _ _) rfl ?_
        exact ⟨⟨_, rfl⟩, .inr ⟨ss ++ [k], trivial, hJx3⟩⟩

theorem keys_stops (F : Fence) (n : Nat) (h54 : F.fn 54) (hro : F.round = none) (hn : 1 ≤ n) (Bm b : Nat) (m : List (Ck.Knot × Int)) (w : World) (hBm : Bm < w.heap.size)
    (hm : w.cell? ⟨Bm, 0, none⟩ = some (.map (some b))) (hown : MIs w b m) :
    SeqStopsK F n Try.prog 54 #[.pointer (some ⟨Bm, 0, none⟩)] knotArr KeepsWalks (fun ss => ss.Nodup ∧ ∀ k, k ∈ ss ↔ k ∈ m.map (·.1)) (fun _ => True) m.length w := fun l J Jx W hW hJ _ hY h0 =>
  keys1_in F n h54 hro hn l Bm b m J Jx hY W hJ ((hW.cell (p := ⟨Bm, 0, none⟩) hBm).trans hm) (hown.below hW hown.lt) h0

theorem keys_any (mb : Option Nat) (w : World) :
    Calls Try.prog 30 #[.map mb] w fun e w' => e = .returned (.func (.func 54) #[] #[.pointer (some ⟨w.heap.size, 0, none⟩)]) ∧ w' = w.alloc (.cells #[.map mb] 68) := by
  go_enter Try.func30, Try.ntmps30
  go_wp2
  go_ret
  exact ⟨rfl, rfl⟩
end Go.Proofs.Ytkplpmhdmlkjhaa

/- AppendSeq, Collect at knots, of whatever iterator. -/
namespace Go.Proofs.Ytkplpmhdmlkjhaa
open Go.RowKit Go.ChangeMaps Go.MapKept Go.Shelf
attribute [local go_sem] Oper.semAt_some

/-- A box of two cells. -/
def Box2 (W : World) (B : Nat) (t : TypeId) (a b : Value) : Prop := W.heap[B]? = some (.cells #[a, b] t (0, 0))
theorem Box2.cells {W : World} {B : Nat} {t : TypeId} {a b : Value} (h : Box2 W B t a b) : W.cell? ⟨B, 0, none⟩ = some a ∧ W.cell? ⟨B, 1, none⟩ = some b ∧ B < W.heap.size := by
  refine ⟨?_, ?_, (Array.getElem?_eq_some_iff.1 h).1⟩ <;> simp [World.cell?, show W.heap[B]? = _ from h]
theorem Box2.new (W : World) (t : TypeId) (a b : Value) : Box2 (W.alloc (.cells #[a, b] t)) W.heap.size t a b := World.alloc_heap_new W _
theorem box2_own (B : Nat) (t : TypeId) (a b : Value) : Own (fun (_ : Unit) W => Box2 W B t a b) := fun s X Y row hs hg hrow =>
  (hg.block B (Array.getElem?_eq_some_iff.1 hs).1 (fun e' => by obtain ⟨o, ho, hc⟩ := hrow B e'.symm; rw [show X.heap[B]? = _ from hs] at ho; cases ho; cases hc)).trans hs

set_option maxRecDepth 100000 in
set_option maxHeartbeats 2000000 in
theorem appendSeq_in (F : Fence) (n : Nat) (h71 : F.fn 71) (hro : F.round = none) (hn : 2 ≤ n) (g : Nat) (lb : Array Value) (hFg : F.fn g) (eg : ∀ args w, (callFunc g args).run Try.prog w = .ok (.enter g args) w)
    (S Sp : List Ck.Knot → Prop) (N : Nat) (hN : N ≤ 100000) (w : World) (hseq : SeqStopsK F (n - 1) Try.prog g lb knotArr KeepsWalks S Sp N w) :
    CallsIn F n Try.prog 71 #[.slice none 0 0, .func (.func g) #[] lb] w fun e w' => ∃ (v : Value) (ss : List Ck.Knot), e = .returned v ∧ S ss ∧ w'.ownsRow w.heap.size 30 2 v ss.length (kcellsL ss) ∧ Below w.heap.size w w' := by
  have h1 : 1 ≤ n := by omega
  obtain ⟨i0, hi, hz0, hz1, hz2⟩ := info_parts Try.info30
  refine callsIn_of_wp_marks Try.func71 rfl h71 ?_ hro
  simp only [Try.ntmps71, List.size_toArray, List.length_cons, List.length_nil, Nat.reduceAdd, Nat.reduceSub, Array.replicate_succ, Array.replicate_zero, List.push_toArray, List.append_toArray, List.nil_append, List.cons_append]
  gi_wp2
  have bO := Boxed.new w 36 (.slice none 0 0)
  have hB0 : Below w.heap.size w (w.alloc (.cells #[.slice none 0 0] 36)) := (Below.refl _ w).alloc (Nat.le_refl _) _
  have hsz : (w.alloc (.cells #[.slice none 0 0] 36)).heap.size = w.heap.size + 1 := by simp
  obtain ⟨W0, hW0⟩ : ∃ W0, w.alloc (.cells #[.slice none 0 0] 36) = W0 := ⟨_, rfl⟩
  rw [hW0] at bO hB0 hsz ⊢
  clear hW0
  refine wpIn_rangeFunc_ownH hro h1 (gf := g) (lb := lb) rfl hFg eg hseq walksK_t (walksK_b (w := W0)) hB0 (fun _ => rfl)
    (fun pre W => (∃ v, Boxed W w.heap.size 36 v ∧ W.ownsRow w.heap.size 30 2 v pre.length (kcellsL pre) ∧ True) ∧ Below w.heap.size w W)
    (fun _ _ _ => False)
    (OwnFrom.and (Own.from (holdsRow_own w.heap.size w.heap.size 36 30 2 (fun pre : List Ck.Knot => pre.length) (fun pre => kcellsL pre) (fun _ _ => True)) _) (ownFrom_below (Nat.le_refl _) (by omega)))
    (fun _ _ _ _ _ hs _ _ => hs)
    ⟨⟨_, bO, World.ownsRow_nil _ _ _ _, trivial⟩, hB0⟩
    (fun x a' W => ∃ Bx, w.heap.size < Bx ∧ Box2 W Bx 30 (.int .i64 x.x) (.int .i64 x.y) ∧ a' = { tmps := #[.slice none 0 0, .func (.func g) #[] lb, .pointer (some ⟨w.heap.size, 0, none⟩), undef, .slice none 0 0, .pointer (some ⟨Bx, 0, none⟩), .func (.func g) #[] lb, .agg #[.int .i64 x.x, .int .i64 x.y], undef, undef, undef, undef, undef], defers := [] })
    (fun x a' _ X Y row hs hg hr => by obtain ⟨Bx, h1, h2, h3⟩ := hs; exact ⟨Bx, h1, box2_own Bx _ _ _ () X Y row h2 hg (fun r e => (hr r e).2), h3⟩)
    ?assign ?body ?done ?stop
  case assign =>
    rintro l pre x W K ⟨⟨v, hv, hrow, -⟩, hB1⟩ hK
    dsimp only [knotArr]
    gi_wp2
    exact hK _ _ ((KeepsOthers.alloc _ _).from _) (KeepsWalks.alloc _ _) ⟨⟨v, hv.alloc _, hrow.alloc _, trivial⟩, hB1.alloc hB1.size _⟩ ⟨W.heap.size, hv.lt, Box2.new W _ _ _, rfl⟩
  case body =>
    rintro l pre x a' W hl ⟨r, hr⟩ ⟨⟨v, hv, hrow, -⟩, hB⟩ ⟨Bx, hBx, bX, rfl⟩ hlt
    have hc := hv.cell
    obtain ⟨x0, x1, xl⟩ := bX.cells
    gi_wp2_with (gi_at_builtin; refine wpListIn_append_own _ rfl _ _ 36 rfl w.heap.size 30 i0 (.agg #[.int .i64 0, .int .i64 0]) 2 16 Try.underlying36 hi hz0 hz1 hz2 rfl (by decide) _ _ _ rfl (hrow.alloc _) ⟨W.heap.size, 0, none⟩ 1 1 [.int .i64 x.x, .int .i64 x.y] rfl rfl (two_new _ _ _ _) (by intro u hu; simp at hu; rcases hu with rfl | rfl <;> rfl) (by unfold maxLen; omega) (by omega) (by have := hB.size; simp; omega) ?_; intro v' w1 hown' hgrow _; obtain ⟨g', cap', rfl⟩ := ownsRow_succ hown'; obtain ⟨hv1, hv2, hr2, hk2, hb2⟩ := hv.appended (by decide) hrow hB.size (Nat.le_refl _) hown' hgrow; have hc1 := hv1.cell; have hf1 := hv1.frozen)
    exact ⟨hk2.from _, hk2.walks, ⟨_, hv2, by rw [kcellsL_snoc]; simpa using hr2, trivial⟩, hB.trans hb2⟩
  case done =>
    rintro D ys W hD hS ⟨⟨v, hv, hrow, -⟩, hB⟩ hK
    have hc := hv.cell
    gi_wp2
    refine ⟨by simp, .inl ⟨_, _, rfl, run_takeDeferred hK, ?_⟩⟩
    exact ⟨_, results_tmp rfl _ _ _, v, ys, rfl, hS, ownsRow_putObj hrow _ hK rfl, hB.trans (belowK_b (w := w) (Nat.le_refl _) W D _ _ (by omega) hK rfl rfl)⟩
  case stop =>
    rintro D c pre W _ _ h _
    exact h.elim

set_option maxHeartbeats 1000000 in
theorem collect_in (F : Fence) (n : Nat) (h52 : F.fn 52) (h71 : F.fn 71) (hro : F.round = none) (hn : 3 ≤ n) (g : Nat) (lb : Array Value) (hFg : F.fn g) (eg : ∀ args w, (callFunc g args).run Try.prog w = .ok (.enter g args) w)
    (S Sp : List Ck.Knot → Prop) (N : Nat) (hN : N ≤ 100000) (w : World) (hseq : SeqStopsK F (n - 1 - 1) Try.prog g lb knotArr KeepsWalks S Sp N w) :
    CallsIn F n Try.prog 52 #[.func (.func g) #[] lb] w fun e w' => ∃ (v : Value) (ss : List Ck.Knot), e = .returned v ∧ S ss ∧ w'.ownsRow w.heap.size 30 2 v ss.length (kcellsL ss) ∧ Below w.heap.size w w' := by
  have h1 : 1 ≤ n := by omega
  refine callsIn_of_wp Try.func52 rfl h52 ?_ hro
  simp only [Try.ntmps52, List.size_toArray, List.length_cons, List.length_nil, Nat.reduceAdd, Nat.reduceSub, Array.replicate_succ, Array.replicate_zero, List.push_toArray, List.append_toArray, List.nil_append, List.cons_append]
  gi_wp2_with (gi_at_call 71; refine (appendSeq_in F (n - 1) h71 hro (by omega) g lb hFg eg S Sp N hN _ hseq).mono ?_; rintro e w' ⟨v, ss, rfl, hS, hrow, hb⟩)
  go_ret
  exact ⟨v, ss, rfl, hS, hrow, hb⟩
end Go.Proofs.Ytkplpmhdmlkjhaa

/- Appending nothing, at a step of a region that draws its order. -/
namespace Go.Proofs.Ytkplpmhdmlkjhaa
open Go.RowKit

variable {P : Program} {w : World} {ops : Array Oper} {o : Oper} {a : Act} {K : Act → World → Prop} {Q : Exit → Act → World → Prop} {E : Prop}
theorem run_append_zero (base : Nat) (t ty e : TypeId) (i : TypeInfo) (size : Nat) (ht : P.underlying t = some (.slice e)) (hi : P.info? e = some i) (v : Value) (n : Nat) (xs : List Value) (hown : w.ownsRow base e size v n xs) (ad : Addr) (c : Nat) :
    (Builtin.append_ #[t, t] ty #[v, .slice (some ad) 0 c]).run P w = .ok v w := by
  rcases hown.2 with ⟨rfl, rfl⟩ | ⟨g, cap, cur, rfl, _, _, hnc, _⟩
  · simp [Builtin.append_, run_underlying ht, sizeOf, typeInfo, hi, Builtin.lenOf, Builtin.firstCells, loadCells, loadCellsFrom, Result.andThen]
  · simp [Builtin.append_, run_underlying ht, sizeOf, typeInfo, hi, Builtin.lenOf, Builtin.firstCells, hnc, storeCells, loadCells, loadCellsFrom, Result.andThen]
theorem step_append_zero (hgd : o.guard = none) (s x : Operand) (t : TypeId) (ho : o.op = .call { callee := .builtin .append, args := #[s, x], argTypes := #[t, t] })
    (base : Nat) (e : TypeId) (i : TypeInfo) (size : Nat) (ht : P.underlying t = some (.slice e)) (hi : P.info? e = some i) (v : Value) (n : Nat) (xs : List Value) (hs : a.eval s = v) (hown : w.ownsRow base e size v n xs)
    (ad : Addr) (c : Nat) (hx : a.eval x = .slice (some ad) 0 c) (h : K (a.put o.dst v) w) :
    if Region.wanted o (yielded ops a.tmps) = true then Oper.wp P o a w K Q else E := by
  have hw : Region.wanted o (yielded ops a.tmps) = true := by simp [Region.wanted, hgd]
  rw [if_pos hw]
  have hr := run_append_zero (P := P) base t o.type e i size ht hi v n xs hown ad c
  unfold Oper.wp execOp
  simp only [ho, resolve, invoke, builtin, Sem.run_bind, Sem.run_pure, Result.andThen_ok, List.map_toArray, List.map_cons, List.map_nil, hs, hx, hr]
  exact h
theorem step_append_zeroA (hgd : o.guard = none) (s x : Operand) (t : TypeId) (ho : o.op = .call { callee := .builtin .append, args := #[s, x], argTypes := #[t, t] })
    (base : Nat) (e : TypeId) (i : TypeInfo) (size : Nat) (ht : P.underlying t = some (.slice e)) (hi : P.info? e = some i) (v : Value) (n : Nat) (xs : List Value) (hs : a.eval s = v) (hown : w.ownsRow base e size v n xs)
    (A : Option Addr) (c : Nat) (hx : a.eval x = .slice A 0 c) (hA : ∃ ad, A = some ad) (h : K (a.put o.dst v) w) :
    if Region.wanted o (yielded ops a.tmps) = true then Oper.wp P o a w K Q else E := by
  obtain ⟨ad, rfl⟩ := hA
  exact step_append_zero hgd s x t ho base e i size ht hi v n xs hs hown ad c hx h
theorem step_append_none (hgd : o.guard = none) (s x : Operand) (t : TypeId) (ho : o.op = .call { callee := .builtin .append, args := #[s, x], argTypes := #[t, t] })
    (base : Nat) (e : TypeId) (i : TypeInfo) (size : Nat) (ht : P.underlying t = some (.slice e)) (hi : P.info? e = some i) (v : Value) (n : Nat) (xs : List Value) (hs : a.eval s = v) (hown : w.ownsRow base e size v n xs)
    (hx : a.eval x = .slice none 0 0) (h : K (a.put o.dst v) w) :
    if Region.wanted o (yielded ops a.tmps) = true then Oper.wp P o a w K Q else E := by
  have hw : Region.wanted o (yielded ops a.tmps) = true := by simp [Region.wanted, hgd]
  rw [if_pos hw]
  have hr := run_append_owned_none (P := P) (w := w) base t o.type e i size ht hi v n xs hown
  unfold Oper.wp execOp
  simp only [ho, resolve, invoke, builtin, Sem.run_bind, Sem.run_pure, Result.andThen_ok, List.map_toArray, List.map_cons, List.map_nil, hs, hx, hr]
  exact h
end Go.Proofs.Ytkplpmhdmlkjhaa
