/- Helpers, part 3. -/
import Derived.Test.YthihjphcjjpjpaaS2
import Derived.Deep.RegionLaw
import Derived.RangeFuncNested
import Derived.RangeFuncBound
import Derived.RangeFuncCalls
import Derived.RangeFuncLeaves
import Derived.Shelf.Abstract
import Derived.OwnWalkIn
import Derived.TacticsInMore
import Derived.LoopNIn
import Derived.LoopIn
import Derived.Shelf.AbstractIn
import Derived.Test.YthihjphcjjpjpaaRows
import Derived.Shelf.Strings.Repeat
import Derived.Lib.OthersKept
import Derived.Lib.Strings
/- The contract of partsOf: a slice with as many parts as the net has. -/
namespace Go.Proofs.Ythihjphcjjpjpaa
open Go.RowKit

theorem Try.info48 : (Try.prog.info? 48).map (fun i => (i.zero, i.size, i.bytes)) = some (some (.agg #[.int .i64 0, .int .i64 0, .int .i64 0]), 3, 24) := by kernel_rfl
theorem Try.info31 : (Try.prog.info? 31).map (fun i => (i.zero, i.size, i.bytes)) = some (some (.slice none 0 0), 1, 24) := by kernel_rfl
def zeros (n : Nat) : Array Value := madeCells (Value.slice none 0 0).cells (n * 1)
theorem Heads.made (w : World) (base n : Nat) (_ : base ≤ w.heap.size) : Heads (w.alloc (.cells (zeros n) 31)) base w.heap.size n 0 (zeros n) where
  blk := heap_alloc_new _ _
  size := by rw [zeros, size_madeCells]; omega
  own j hj := by
    have : (zeros n)[j] = .slice none 0 0 := by simp [zeros, madeCells, Value.cells, Nat.mod_one]
    rw [this]
    exact ⟨0, [], World.ownsRow_nil _ _ _ _, Nat.le_refl _⟩
  apart j j' hj hj' _ := by
    have : (zeros n)[j] = .slice none 0 0 := by simp [zeros, madeCells, Value.cells, Nat.mod_one]
    rw [this]
    exact .inl rfl

theorem three_new (w : World) (a b c : Value) (t : TypeId) : ∀ (j : Nat) (u : Value), [a, b, c][j]? = some u → (w.alloc (.cells #[a, b, c] t)).cell? ((⟨w.heap.size, 0, none⟩ : Addr).add j) = some u := by
  obtain ⟨w1, rfl, h0, h1, h2, _⟩ := box3 w a b c t
  intro j u h
  rw [add0]
  match j, h with
  | 0, h => cases h; exact h0
  | 1, h => cases h; exact h1
  | 2, h => cases h; exact h2

def PartPost (l : List Ck.Bar) (w : World) (e : Ending) (w' : World) : Prop := ∃ n a c, Ck.PartsIs l n ∧ n ≤ l.length ∧ e = .returned (.slice a n c) ∧ Below w.heap.size w w'

set_option maxHeartbeats 4000000 in
set_option maxRecDepth 100000 in
theorem netPartsOf (A : Option Addr) (c : Nat) (l : List Ck.Bar) (w : World) (hl : l.length ≤ 4096) (hs : l.Pairwise Ck.Blt) (hok : ∀ x ∈ l, Ck.okBar x) (h : RB w w.heap.size A l) :
    Calls Try.prog 57 #[.slice A l.length c] w (PartPost l w) := by
  have hmm := @run_makeMap Try.prog
  have hl' : (l.length : Int) ≤ 4096 := by omega
  have HS := Lib.hid hs
  have HR := Lib.hid h
  have HOK := Lib.hid hok
  clear hs h hok
  go_enter Try.func57, Try.ntmps57
  go_wp2_with fail
  go_step3
  go_wp2_with fail
  go_step3
  go_wp2_with fail

  go_loopg [4, 5] l.length (fun g cv iv wi => ∃ i n M, g = l.length - i ∧ i ≤ l.length ∧ cv = .int .i64 (n : Nat) ∧ iv = .int .i64 (i : Nat) ∧ Pt l i n M ∧ MIs wi w.heap.size M ∧ Below w.heap.size w wi)
  case atStart => exact ⟨0, 0, [], rfl, Nat.zero_le _, rfl, rfl, Pt.start l, MIs.made _, (Below.refl _ _).alloc (Nat.le_refl _) _⟩
  case round =>
    obtain ⟨i, n, M, hg, hi, rfl, rfl, hpt, hmi, hbi⟩ := hrel
    have HG := Lib.hid hg
    have HPT := Lib.hid hpt
    clear hg hpt
    by_cases hlt : i < l.length
    · have hne : ((i : Int) == (l.length : Int)) = false := by rw [beq_eq_false_iff_ne]; omega
      have hrb := HR.out.below hbi
      have hbz := hbi.size
      obtain ⟨b, off, rfl, hB, hc⟩ := hrb (by omega)
      obtain ⟨c0, c1, c2⟩ := hc i hlt
      clear hc hrb
      have hml := hmi.lt
      by_cases hz : mget M l[i].lo = 0
      · have hzb : (mget M l[i].lo == 0) = true := by rw [hz]; rfl
        have HZ := Lib.hid hz
        have hnl := HPT.out.le
        clear hz
        go_wp2_with fail
        refine (netLower _ _ _ _).mono ?_
        rintro e w2 ⟨rfl, hb2⟩
        have hm2 := hmi.below hb2 hml
        have hz2 : b < wr.heap.size := by omega
        have d0 := (hb2.cell (p := ⟨b, off + i * 3, none⟩) hz2).trans c0
        have d1 := (hb2.cell (p := ⟨b, off + i * 3 + 1, none⟩) hz2).trans c1
        have d2 := (hb2.cell (p := ⟨b, off + i * 3 + 2, none⟩) hz2).trans c2
        clear c0 c1 c2
        go_wp2_with (first
          | (at_lookup; refine wpList_lookup_kn _ rfl _ _ rfl w.heap.size M hm2 l[i].lo rfl rfl ?_)
          | (go_at_call 72; refine (netLower _ _ _ _).mono ?_; rintro e w3 ⟨rfl, hb3⟩)
          | (go_at_call 81; refine (netNumberFrom _ c w.heap.size l l[i].lo ((n : Int) + 1) M _ hl HS.out HOK.out ((HR.out.below ((hbi.trans (hb2.mono hbz)).trans (hb3.mono (by have := hb2.size; omega)))).more (by have := hb2.size; have := hb3.size; omega)) (Ck.lo_ends (List.getElem_mem hlt)) (by omega) (by omega) HZ.out HPT.out.closed (hm2.below hb3 hm2.lt)).mono ?_; rintro e w4 ⟨rfl, M', hnum, hm4, hg4⟩))
        have hb4 : Below w.heap.size w w4 := ((hbi.trans (hb2.mono hbz)).trans (hb3.mono (by have := hb2.size; omega))).grown hg4 (by have := hb2.size; have := hb3.size; omega) (fun q e => by cases e; exact Nat.le_refl _)
        go_roundg (l.length - (i + 1))
        case measure => rw [HG.out]; omega
        case rel => exact ⟨i + 1, n + 1, M', rfl, by omega, by go_num, by go_num, HPT.out.fresh hlt HZ.out (fun k hk => by rw [hnum.1 k hk]; omega) hnum.2, hm4, hb4⟩
      · have hzb : (mget M l[i].lo == 0) = false := by simpa using hz
        have HZ := Lib.hid hz
        clear hz
        go_wp2_with fail
        refine (netLower _ _ _ _).mono ?_
        rintro e w2 ⟨rfl, hb2⟩
        have hm2 := hmi.below hb2 hml
        go_wp2_with (at_lookup; refine wpList_lookup_kn _ rfl _ _ rfl w.heap.size M hm2 l[i].lo rfl rfl ?_)
        go_roundg (l.length - (i + 1))
        case measure => rw [HG.out]; omega
        case rel => exact ⟨i + 1, n, M, rfl, by omega, rfl, by go_num, HPT.out.old hlt HZ.out, hm2, hbi.trans (hb2.mono hbz)⟩
    · obtain rfl : i = l.length := by omega
      obtain ⟨i1, hi1, hz01, hz11, hz21⟩ := info_parts Try.info31
      have hnl := HPT.out.le
      have hmk : ∀ W : World, (Instr.makeSlice 103 (.int .i64 (n : Int)) (.int .i64 (n : Int))).run Try.prog W = .ok (.slice (some ⟨W.heap.size, 0, none⟩) n n) (W.alloc (.cells (zeros n) 31)) := fun W => by
        have := run_make (P := Try.prog) W 103 31 i1 (.slice none 0 0) Try.underlying103 hi1 hz01 .i64 .i64 (n : Int) (n : Int) (by omega) (by omega) (by rw [hz21]; omega) (by omega)
        rw [hz11, Int.toNat_natCast] at this
        exact this
      have hbz := hbi.size
      obtain ⟨wo, rfl⟩ : ∃ wo : World, wo = wr := ⟨_, rfl⟩
      have HH := Lib.hid (Heads.made wo w.heap.size n hbz)
      have hm1 := hmi.below ((Below.refl _ _).alloc (Nat.le_refl _) (.cells (zeros n) 31)) hmi.lt
      have hb1 := hbi.alloc hbz (.cells (zeros n) 31)
      obtain ⟨wp, hwp⟩ : ∃ wp, wp = wo.alloc (.cells (zeros n) 31) := ⟨_, rfl⟩
      rw [← hwp] at HH hm1 hb1
      have HWP := Lib.hid hwp
      clear hwp hi1 hz01 hz11 hz21
      go_wp2_with fail
      rw [← HWP.out]
      obtain ⟨ib, hib, hb0, hb01, hb02⟩ := info_parts Try.info48
      have HIB := Lib.hid hib
      have HB0 := Lib.hid hb0
      have HB1 := Lib.hid hb01
      have HB2 := Lib.hid hb02
      clear hib hb0 hb01 hb02
      go_loopg [8, 9, 42] l.length (fun g _ _ iv wi => ∃ k cur, g = l.length - k ∧ k ≤ l.length ∧ iv = .int .i64 (k : Nat) ∧ Heads wi w.heap.size wo.heap.size n k cur ∧ MIs wi w.heap.size M ∧ Below w.heap.size w wi)
      case atStart => exact ⟨0, zeros n, rfl, Nat.zero_le _, rfl, HH.out, hm1, hb1⟩
      case round =>
        obtain ⟨k, cur, hg, hk, rfl, hh, hmk2, hbk⟩ := hrel
        have HGK := Lib.hid hg
        have HHK := Lib.hid hh
        clear hg hh
        by_cases hlt : k < l.length
        · have hrb := HR.out.below hbk
          have hbkz := hbk.size
          obtain ⟨b, off, rfl, hB, hc⟩ := hrb (by omega)
          obtain ⟨c0, c1, c2⟩ := hc k hlt
          obtain ⟨hp1, hp2⟩ := HPT.out.pos (List.getElem_mem hlt)
          obtain ⟨q, hq⟩ : ∃ q : Nat, mget M l[k].lo = (q : Int) + 1 := ⟨(mget M l[k].lo - 1).toNat, by omega⟩
          have hqn : q < n := by omega
          have HQ := Lib.hid hq
          clear hc hrb hq hp1 hp2
          go_wp2_with fail
          refine (netLower _ _ _ _).mono ?_
          rintro e w2 ⟨rfl, hb2⟩
          have b0 : w2.cell? ⟨wr.heap.size, 0, none⟩ = some (.int .i64 l[k].x) := by
            rw [hb2.cell (p := ⟨_, _, none⟩) (by simp), World.cell?_alloc_at _ _ _ _ (by simp)]; rfl
          have b1 : w2.cell? ⟨wr.heap.size, 1, none⟩ = some (.int .i64 l[k].y) := by
            rw [hb2.cell (p := ⟨_, _, none⟩) (by simp), World.cell?_alloc_at _ _ _ _ (by simp)]; rfl
          have b2 : w2.cell? ⟨wr.heap.size, 2, none⟩ = some (.int .i64 l[k].s) := by
            rw [hb2.cell (p := ⟨_, _, none⟩) (by simp), World.cell?_alloc_at _ _ _ _ (by simp)]; rfl
          have hq2 : Below wr.heap.size wr w2 := ((Below.refl _ _).alloc (Nat.le_refl _) _).trans (hb2.mono (by simp))
          have hm2 := hmk2.below hq2 hmk2.lt
          have hh2 := HHK.out.below hq2
          have hqs : q < cur.size := by rw [hh2.size]; exact hqn
          have hPc := hh2.cell hqs
          have hPf := hh2.frozen q
          obtain ⟨mq, xq, oq, hmq⟩ := hh2.own q hqs
          have HO := Lib.hid oq
          have HH2 := Lib.hid hh2
          have HPC := Lib.hid hPc
          have HPF := Lib.hid hPf
          have hbq := hbk.trans (hq2.mono hbkz)
          have hbqz := hbq.size
          generalize hcq : cur[q] = vq at hPc oq HO
          have HCQ := Lib.hid hcq
          have hqi0 : (0 : Int) ≤ (q : Int) := by omega
          have hqi1 : (q : Int) < (n : Int) := by omega
          clear oq hh2 hcq c0 c1 c2 hb2
          go_wp2_with (at_lookup; refine wpList_lookup_kn _ rfl _ _ rfl w.heap.size M hm2 l[k].lo rfl rfl ?_; rw [HQ.out])
          have hPlt := HH2.out.lt
          have hPne : vq.ownBlock ≠ some wo.heap.size := own_block_ne HO.out HH2.out.blk (by decide)
          go_region_law (first
            | (refine step_append_lies _ rfl (.tmp 56) (.tmp 58) 31 rfl w.heap.size 48 ib (.agg #[.int .i64 0, .int .i64 0, .int .i64 0]) 3 24 Try.underlying31 HIB.out HB0.out HB1.out HB2.out rfl (by decide) vq mq xq (by simp [Act.eval]) (by exact HO.out.alloc _) ⟨w2.heap.size, 0, none⟩ 1 1 [.int .i64 l[k].x, .int .i64 l[k].y, .int .i64 l[k].s] (by simp [Act.eval]) rfl (by exact three_new _ _ _ _ _) (by intro u hu; simp at hu; rcases hu with rfl | rfl | rfl <;> rfl) (by decide) (by unfold maxLen; omega) (by omega) (by simp; omega) (w2.heap.size + 1) (by simp) ?_; intro g cap w5 hown5 hgrow5 hblk5 hg5; have s0 : w5.cell? ⟨wo.heap.size, q, none⟩ = some vq := (World.cell?_of_block (hgrow5.block wo.heap.size (by simp; omega) (fun e => hPne e.symm))).trans (((Below.refl _ w2).alloc (Nat.le_refl _) _).cell (p := ⟨wo.heap.size, q, none⟩) hPlt |>.trans hPc); have sf : w5.frozen? ⟨wo.heap.size, q, none⟩ = false := (World.frozen?_of_block (hgrow5.block wo.heap.size (by simp; omega) (fun e => hPne e.symm))).trans (((Below.refl _ w2).alloc (Nat.le_refl _) _).frozen (p := ⟨wo.heap.size, q, none⟩) hPlt |>.trans hPf)))
          all_goals
            have hW1 : Below w2.heap.size w2 ((w2.alloc (.cells #[.int .i64 l[k].x, .int .i64 l[k].y, .int .i64 l[k].s] 48)).drew) := below_drew ((Below.refl _ _).alloc (Nat.le_refl _) _)
            have hmlt := hmi.lt
            have hm5 : MIs w5 w.heap.size M := (hm2.below hW1 hm2.lt).of_block (hgrow5.block w.heap.size (by have := hm2.lt; simp; omega) (fun e => own_map_ne HO.out hm2 e.symm))
            have hm6 : MIs (w5.setCell ⟨wo.heap.size, q, none⟩ (.slice (some ⟨g, 0, none⟩) (mq + 1) cap)) w.heap.size M := hm5.of_block (Below.heap_setCell _ _ _ _ (by show w.heap.size ≠ wo.heap.size; omega))
            have hb6 : Below w.heap.size w (w5.setCell ⟨wo.heap.size, q, none⟩ (.slice (some ⟨g, 0, none⟩) (mq + 1) cap)) := ((hbq.trans (hW1.mono hbqz)).grown hgrow5 (by simp; omega) (ownsRow_base HO.out)).setCell (by show w.heap.size ≤ wo.heap.size; omega) _
            have HST := Lib.hid (HH2.out.step hW1 hqs hown5 (by omega) (by rw [HCQ.out]; exact hgrow5) (by rw [HCQ.out]; simpa using hblk5))
            have HM6 := Lib.hid hm6
            have HB6 := Lib.hid hb6
            clear hW1 hm5 hm6 hb6 hown5 hgrow5 hblk5 s0 sf hg5
            go_wp2
            go_roundg (l.length - (k + 1))
            case measure => rw [HGK.out]; omega
            case rel => exact ⟨k + 1, _, rfl, by omega, by go_num, HST.out, HM6.out, HB6.out⟩
        · obtain rfl : k = l.length := by omega
          have HD := Lib.hid HPT.out.done
          go_wp2
          go_ret
          exact ⟨n, _, _, HD.out, hnl, rfl, hbk⟩
end Go.Proofs.Ythihjphcjjpjpaa

/- The contract of Count at a valid net. -/
namespace Go.Proofs.Ythihjphcjjpjpaa
open Go.RowKit

theorem farB_iff (n : Int) : farB n = false ↔ Ck.inPlace n := by simp [farB, Ck.inPlace]
theorem knotE_ok (x y : Int) : knotE x y = 0 ↔ Ck.okKnot ⟨x, y⟩ := by
  unfold knotE Ck.okKnot
  cases hx : farB x
  · cases hy : farB y
    · have h1 := (farB_iff x).1 hx
      have h2 := (farB_iff y).1 hy
      simp [h1, h2, evenB]
    · have h2 : ¬ Ck.inPlace y := fun h => by rw [(farB_iff y).2 h] at hy; cases hy
      simp [h2]
  · have h2 : ¬ Ck.inPlace x := fun h => by rw [(farB_iff x).2 h] at hx; cases hx
    simp [h2]
theorem barE_iff (b : Ck.Bar) : barE b.x b.y b.s = 0 ↔ Ck.okBar b := by
  unfold barE Ck.okBar
  by_cases h1 : knotE b.x b.y = 0
  · by_cases h2 : b.s = 1 ∨ b.s = -1
    · simp only [h1, if_true, if_pos h2, knotE_ok]
      have hk : Ck.okKnot ⟨b.x, b.y⟩ := (knotE_ok _ _).1 h1
      constructor
      · rintro ⟨a, c, _⟩
        exact ⟨hk, h2.symm, a, c⟩
      · rintro ⟨_, _, a, c⟩
        refine ⟨a, c, ?_⟩
        have := hk.2.2
        simp only at this ⊢
        omega
    · simp only [h1, if_true, if_neg h2]
      constructor
      · intro h; omega
      · rintro ⟨_, h, _⟩; exact absurd h.symm h2
  · simp only [if_neg h1]
    constructor
    · intro h; exact absurd h h1
    · rintro ⟨h, _⟩; exact absurd ((knotE_ok _ _).2 h) h1
theorem netFrom_zero : ∀ (l : List Ck.Bar) (p : Option Ck.Bar), netFrom p l = 0 ↔ (∀ b ∈ l, Ck.okBar b) ∧ (match p with | none => l.Pairwise Ck.Blt | some a => (a :: l).Pairwise Ck.Blt)
  | [], none => by simp [netFrom]
  | [], some a => by simp [netFrom]
  | b :: r, none => by
    unfold netFrom
    by_cases h : barE b.x b.y b.s = 0
    · rw [if_pos h, netFrom_zero r (some b)]
      simp only [List.mem_cons, forall_eq_or_imp, (barE_iff b).1 h, true_and]
    · rw [if_neg h]
      constructor
      · intro h'; exact absurd h' h
      · intro h'; exact absurd ((barE_iff b).2 (h'.1 b (by simp))) h
  | b :: r, some a => by
    unfold netFrom
    by_cases h : barE b.x b.y b.s = 0
    · rw [if_pos h]
      by_cases hl : lessB a.x a.y a.s b.x b.y b.s = true
      · have hab := (lessB_iff a b).1 hl
        rw [if_pos hl, netFrom_zero r (some b)]
        simp only [List.mem_cons, forall_eq_or_imp, (barE_iff b).1 h, true_and]
        constructor
        · rintro ⟨h1, h2⟩
          exact ⟨h1, List.pairwise_cons.2 ⟨fun c hc => by
            rcases List.mem_cons.1 hc with rfl | hc
            · exact hab
            · exact hab.trans ((List.pairwise_cons.1 h2).1 c hc), h2⟩⟩
        · rintro ⟨h1, h2⟩
          exact ⟨h1, (List.pairwise_cons.1 h2).2⟩
      · rw [if_neg hl]
        constructor
        · intro h'; omega
        · rintro ⟨_, h2⟩
          exact absurd ((lessB_iff a b).2 ((List.pairwise_cons.1 h2).1 b (by simp))) hl
    · rw [if_neg h]
      constructor
      · intro h'; exact absurd h' h
      · intro h'; exact absurd ((barE_iff b).2 (h'.1 b (by simp))) h
theorem netE_zero (l : List Ck.Bar) : netE l = 0 ↔ l.length ≤ 4096 ∧ Ck.Net l := by
  unfold netE
  split
  · constructor
    · intro h; omega
    · rintro ⟨h, _⟩; omega
  · rw [netFrom_zero]
    constructor
    · rintro ⟨h1, h2⟩; exact ⟨by omega, h1, h2⟩
    · rintro ⟨_, h1, h2⟩; exact ⟨h1, h2⟩

theorem mput_keys (m : List (Ck.Knot × Int)) (k k' : Ck.Knot) (v : Int) : k' ∈ (mput m k v).map (·.1) ↔ k' = k ∨ k' ∈ m.map (·.1) := by
  induction m with
  | nil => simp [mput]
  | cons p r ih =>
    by_cases h : k = p.1
    · rw [show mput (p :: r) k v = (k, v) :: r from by simp [mput, h]]
      simp only [List.map_cons, List.mem_cons, ← h]
      constructor
      · rintro (h1 | h1)
        · exact .inl h1
        · exact .inr (.inr h1)
      · rintro (h1 | h1 | h1)
        · exact .inl h1
        · exact .inl h1
        · exact .inr h1
    · simp only [mput, if_neg h, List.map_cons, List.mem_cons, ih]
      constructor
      · rintro (h1 | h1 | h1)
        · exact .inr (.inl h1)
        · exact .inl h1
        · exact .inr (.inr h1)
      · rintro (h1 | h1 | h1)
        · exact .inr (.inl h1)
        · exact .inl h1
        · exact .inr (.inr h1)
theorem degs_keys (ks : List Ck.Knot) : ∀ (m : List (Ck.Knot × Int)) (k : Ck.Knot), k ∈ (ks.foldl incr m).map (·.1) ↔ k ∈ ks ∨ k ∈ m.map (·.1) := by
  induction ks with
  | nil => intro m k; simp
  | cons a r ih =>
    intro m k
    rw [List.foldl_cons, ih, incr, mput_keys, List.mem_cons]
    constructor
    · rintro (h | h | h)
      · exact .inl (.inr h)
      · exact .inl (.inl h)
      · exact .inr h
    · rintro ((h | h) | h)
      · exact .inr (.inl h)
      · exact .inl h
      · exact .inr (.inr h)
theorem MIs.keys_nodup {w : World} {b : Nat} {m : List (Ck.Knot × Int)} (h : MIs w b m) : (m.map (·.1)).Nodup := by
  obtain ⟨_, _, _, _, h3, _⟩ := h
  exact h3
theorem degs_length {w : World} {b : Nat} {l : List Ck.Bar} (h : MIs w b (degsL (Ck.ends l))) : (degsL (Ck.ends l)).length = Ck.nK l := by
  rw [← Ck.nK_eq h.keys_nodup (fun k => by rw [degsL, degs_keys]; simp), List.length_map]
theorem MIs.size {w : World} {b : Nat} {m : List (Ck.Knot × Int)} (h : MIs w b m) : ∃ es clock, w.heap[b]? = some (.map es clock) ∧ es.size = m.length := by
  obtain ⟨es, clock, h1, h2, _⟩ := h
  refine ⟨es, clock, h1, ?_⟩
  have := congrArg List.length h2
  simpa using this
theorem nK_le (l : List Ck.Bar) : Ck.nK l ≤ 2 * l.length := by
  rw [← ends_length l]
  exact (Ck.nub_nodup _).length_le_of_subset (fun k hk => Ck.mem_nub.1 hk)
theorem meshL_nM (l : List Ck.Bar) : (meshL l l).length = Ck.nM l := by
  rw [meshL, ← List.countP_eq_length_filter, Ck.nM]
  refine List.countP_congr fun b hb => ?_
  obtain ⟨x, y, s⟩ := b
  simp only [isM, Ck.isMesh, allIn, meshBars4, List.all_cons, List.all_nil, Bool.and_true, Bool.and_eq_true, decide_eq_true_eq]
  rw [show y + 1 - 1 = y from by omega]
  constructor
  · rintro ⟨h1, _, h2, h3, h4⟩; exact ⟨h1, h2, h3, h4⟩
  · rintro ⟨h1, h2, h3, h4⟩
    subst h1
    exact ⟨rfl, hb, h2, h3, h4⟩

theorem MIs.len {w : World} {b : Nat} {m : List (Ck.Knot × Int)} (h : MIs w b m) : (Builtin.len_ #[101] 3 #[.map (some b)]).run Try.prog w = .ok (.int .i64 (m.length : Nat)) w := by
  obtain ⟨es, clock, h1, h2⟩ := h.size
  simp [Builtin.len_, run_underlying Try.underlying101, MapKept.run_getObj_map h1, goInt, h2, Result.andThen]
theorem five_of_block {w : World} {g : Nat} {a b c d e : Value} {t : TypeId} (h : w.heap[g]? = some (.cells #[a, b, c, d, e] t (0, 0))) : w.cell? ⟨g, 0, none⟩ = some a ∧ w.cell? ⟨g, 1, none⟩ = some b ∧ w.cell? ⟨g, 2, none⟩ = some c ∧ w.cell? ⟨g, 3, none⟩ = some d ∧ w.cell? ⟨g, 4, none⟩ = some e ∧ ∀ i, w.frozen? ⟨g, i, none⟩ = false := by
  refine ⟨?_, ?_, ?_, ?_, ?_, fun i => ?_⟩ <;> simp [World.cell?, World.frozen?, h]
def CountPost (l : List Ck.Bar) (w : World) (e : Ending) (w' : World) : Prop :=
  ∃ p : Nat, Ck.PartsIs l p ∧ e = .returned (.tuple #[.agg #[.int .i64 (Ck.nK l : Nat), .int .i64 (l.length : Nat), .int .i64 (Ck.nM l : Nat), .int .i64 p, .int .i64 ((l.length : Int) - (Ck.nK l : Nat) + p - (Ck.nM l : Nat))], .int .i64 0]) ∧ Below w.heap.size w w'

set_option maxHeartbeats 2000000 in
set_option maxRecDepth 100000 in
theorem netCount (A : Option Addr) (c : Nat) (l : List Ck.Bar) (w : World) (hl : l.length ≤ 4096) (hcap : l.length ≤ c) (hcm : c ≤ maxLen) (hN : Ck.Net l) (h : RB w w.heap.size A l) :
    Calls Try.prog 25 #[.slice A l.length c] w (CountPost l w) := by
  have HR := Lib.hid h
  have HN := Lib.hid hN
  have HE := Lib.hid ((netE_zero l).2 ⟨hl, hN⟩)
  have hnk := nK_le l
  have hnm : (meshL l l).length ≤ l.length := by have := meshL_le l l.length; rwa [List.take_length] at this
  clear h hN
  go_enter Try.func25, Try.ntmps25
  obtain ⟨w0, hw0⟩ : ∃ w0, w0 = w.alloc (.cells #[.int .i64 0, .int .i64 0, .int .i64 0, .int .i64 0, .int .i64 0] 66) := ⟨_, rfl⟩
  have hr0 : w0.heap[w.heap.size]? = some (.cells #[.int .i64 0, .int .i64 0, .int .i64 0, .int .i64 0, .int .i64 0] 66 (0, 0)) := by rw [hw0]; exact heap_alloc_new _ _
  have hb0 : Below w.heap.size w w0 := by rw [hw0]; exact (Below.refl _ _).alloc (Nat.le_refl _) _
  have hz0 : w.heap.size < w0.heap.size := by rw [hw0]; simp
  have HW := Lib.hid hw0
  have HR0 := Lib.hid hr0
  clear hw0 hr0
  go_wp2_with fail
  rw [← HW.out]
  refine (netCheckNet A c l _ hl hcap hcm ((HR.out.below hb0).more hb0.size)).mono ?_
  rintro e w1 ⟨rfl, hb1⟩
  rw [HE.out]
  have hc1 := hb0.trans (hb1.mono hb0.size)
  have hz1 := Nat.lt_of_lt_of_le hz0 hb1.size
  go_wp2_with fail
  refine (netDegrees A c l _ hl HN.out.1 ((HR.out.below hc1).more hc1.size)).mono ?_
  rintro e w2 ⟨b, rfl, hbz, hm2, hb2⟩
  have hc2 := hc1.trans (hb2.mono hc1.size)
  have hz2 := Nat.lt_of_lt_of_le hz1 hb2.size
  have hlen := hm2.len
  rw [degs_length hm2] at hlen
  have hms := meshL_nM l
  rw [hms] at hnm
  have HMS := Lib.hid hms
  clear hms
  go_wp2_with fail
  refine (netMeshesOf A c l _ hl HN.out.2 HN.out.1 ((HR.out.below hc2).more hc2.size)).mono ?_
  rintro e w3 ⟨v, rfl, hown, hb3⟩
  rw [HMS.out] at hown
  have hc3 := hc2.trans (hb3.mono hc2.size)
  have hz3 := Nat.lt_of_lt_of_le hz2 hb3.size
  have hlv : ∃ a cv, v = .slice a (Ck.nM l) cv := by
    rcases hown.2 with ⟨h1, h2⟩ | ⟨g, cap, cur, h1, _⟩
    · exact ⟨none, 0, by rw [h1, h2]⟩
    · exact ⟨_, _, h1⟩
  obtain ⟨av, cv, rfl⟩ := hlv
  clear hown
  go_wp2_with fail
  refine (netPartsOf A c l _ hl HN.out.2 HN.out.1 ((HR.out.below hc3).more hc3.size)).mono ?_
  rintro e w4 ⟨p, ap, cp, hp, hpl, rfl, hb4⟩
  have hc4 := hc3.trans (hb4.mono hc3.size)
  have hz4 := Nat.lt_of_lt_of_le hz3 hb4.size
  have hr4 := (hb4.block _ hz3).trans ((hb3.block _ hz2).trans ((hb2.block _ hz1).trans ((hb1.block _ hz0).trans HR0.out)))
  obtain ⟨r0, r1, r2, r3, r4, rf⟩ := five_of_block hr4
  have HR4 := Lib.hid hr4
  have HP := Lib.hid hp
  clear hr4 hp
  generalize hgk : Ck.nK l = nk at *
  generalize hgm : Ck.nM l = nm at *
  have HK := Lib.hid hgk
  have HM := Lib.hid hgm
  clear hgk hgm
  go_wp2
  exact bodyPost_ret (v := .tuple #[.agg #[.int .i64 (nk : Int), .int .i64 (l.length : Int), .int .i64 (nm : Int), .int .i64 (p : Int), .int .i64 ((l.length : Int) - nk + p - nm)], .int .i64 0]) (by simp [results, Try.results25, go_sem, r0, r1, r2, r3, r4, hz4]) rfl
    ⟨p, HP.out, by rw [HK.out, HM.out], (((((hc4.setCell (Nat.le_refl _) _).setCell (Nat.le_refl _) _).setCell (Nat.le_refl _) _).setCell (Nat.le_refl _) _).setCell (Nat.le_refl _) _).alloc (by simp; omega) _⟩
end Go.Proofs.Ythihjphcjjpjpaa

/- Contracts of compareHeads and merge, where all that either list has is kept. -/
namespace Go.Proofs.Ythihjphcjjpjpaa
open Go.RowKit

def headsE : List Ck.Bar → List Ck.Bar → Int
  | [], _ => 1
  | _ :: _, [] => -1
  | a :: _, b :: _ => cmpB a b
theorem RB.head {w : World} {B : Nat} {A : Option Addr} {a : Ck.Bar} {r : List Ck.Bar} (h : RB w B A (a :: r)) : ∃ b off, A = some ⟨b, off, none⟩ ∧ b < B ∧ w.cell? ⟨b, off, none⟩ = some (.int .i64 a.x) ∧ w.cell? ⟨b, off + 1, none⟩ = some (.int .i64 a.y) ∧ w.cell? ⟨b, off + 2, none⟩ = some (.int .i64 a.s) ∧ RB w B (some ⟨b, off + 3, none⟩) r := by
  obtain ⟨b, off, rfl, hb, hc⟩ := h (by simp)
  have h0 := hc 0 (by simp)
  simp only [List.getElem_cons_zero, Nat.zero_mul, Nat.add_zero] at h0
  refine ⟨b, off, rfl, hb, h0.1, h0.2.1, h0.2.2, fun hl => ⟨b, off + 3, rfl, hb, fun i hi => ?_⟩⟩
  have := hc (i + 1) (by simpa using hi)
  simp only [List.getElem_cons_succ] at this
  rw [show off + (i + 1) * 3 = off + 3 + i * 3 from by omega] at this
  exact this
theorem RB.nil (w : World) (B : Nat) (A : Option Addr) : RB w B A [] := fun h => by simp at h

set_option maxHeartbeats 1000000 in
set_option maxRecDepth 100000 in
theorem netHeads (A A' : Option Addr) (c c' : Nat) (l l' : List Ck.Bar) (w : World) (hl : l.length ≤ 10000) (hl' : l'.length ≤ 10000) (h : RB w w.heap.size A l) (h' : RB w w.heap.size A' l') :
    Calls Try.prog 83 #[.slice A l.length c, .slice A' l'.length c', .func (.func 69) #[] #[]] w fun e w' => e = .returned (.int .i64 (headsE l l')) ∧ Below w.heap.size w w' := by
  match l, l', h, h' with
  | [], l', _, _ =>
    go_enter Try.func83, Try.ntmps83
    go_wp2
    go_ret
    exact ⟨rfl, Below.refl _ _⟩
  | a :: r, [], _, _ =>
    have h1 : ((r.length : Int) + 1 == 0) = false := by rw [beq_eq_false_iff_ne]; omega
    have h2 : (((a :: r).length : Int) == 0) = false := by rw [beq_eq_false_iff_ne]; simp only [List.length_cons]; omega
    go_enter Try.func83, Try.ntmps83
    go_wp2
    go_ret
    exact ⟨rfl, Below.refl _ _⟩
  | a :: r, a' :: r', h, h' =>
    obtain ⟨b, off, rfl, hb, c0, c1, c2, _⟩ := h.head
    obtain ⟨b', off', rfl, hb', d0, d1, d2, _⟩ := h'.head
    have h1 : ((r.length : Int) + 1 == 0) = false := by rw [beq_eq_false_iff_ne]; omega
    have h3 : ((r'.length : Int) + 1 == 0) = false := by rw [beq_eq_false_iff_ne]; omega
    have h5 : (0 : Int) < (r.length : Int) + 1 := by omega
    have h6 : (0 : Int) < (r'.length : Int) + 1 := by omega
    clear h h'
    go_enter Try.func83, Try.ntmps83
    go_wp2_with fail
    refine wp_region_still_tail 7 (by kernel_rfl) (by kernel_rfl) ?_
    simp only [List.take_succ_cons, List.take_zero, List.drop_succ_cons, List.drop_zero]
    repeat still_step
    refine wpStill_nil ?_
    change wpList _ _ _ _ _ w.drew
    go_wp2_with fail
    refine (netCompareBars_below _ _ _ _ _ _ _).mono ?_
    rintro e w2 ⟨rfl, hb2⟩
    go_wp2
    go_ret
    exact ⟨rfl, (below_drew (Below.refl _ _)).trans hb2⟩
end Go.Proofs.Ythihjphcjjpjpaa

/- The contract of merge where all is kept. -/
namespace Go.Proofs.Ythihjphcjjpjpaa
open Go.RowKit

def mergeU : List Ck.Bar → List Ck.Bar → List Ck.Bar
  | [], l' => l'
  | a :: r, [] => a :: r
  | a :: r, b :: r' => if cmpB a b < 0 then a :: mergeU r (b :: r') else if 0 < cmpB a b then b :: mergeU (a :: r) r' else a :: mergeU r r'
termination_by l l' => l.length + l'.length
def bcellsL (l : List Ck.Bar) : List Value := l.flatMap fun b => [.int .i64 b.x, .int .i64 b.y, .int .i64 b.s]
theorem bcellsL_snoc (l : List Ck.Bar) (b : Ck.Bar) : bcellsL (l ++ [b]) = bcellsL l ++ [.int .i64 b.x, .int .i64 b.y, .int .i64 b.s] := by simp [bcellsL]
theorem headsE_neg {ra rb : List Ck.Bar} (h : headsE ra rb < 0) : ∃ a r, ra = a :: r ∧ mergeU ra rb = a :: mergeU r rb := by
  match ra, rb, h with
  | [], _, h => simp [headsE] at h
  | a :: r, [], _ => exact ⟨a, r, rfl, by cases r <;> simp [mergeU]⟩
  | a :: r, b :: r', h =>
    have h' : cmpB a b < 0 := h
    exact ⟨a, r, rfl, by rw [mergeU, if_pos h']⟩
theorem headsE_pos {ra rb : List Ck.Bar} (h : 0 < headsE ra rb) (hne : 0 < ra.length + rb.length) : ∃ b r', rb = b :: r' ∧ mergeU ra rb = b :: mergeU ra r' := by
  match ra, rb, h with
  | [], [], _ => simp at hne
  | [], b :: r', _ => exact ⟨b, r', rfl, by simp [mergeU]⟩
  | a :: r, [], h => simp [headsE] at h
  | a :: r, b :: r', h => 
    have h' : 0 < cmpB a b := h
    exact ⟨b, r', rfl, by rw [mergeU, if_neg (by omega), if_pos h']⟩
theorem headsE_zero {ra rb : List Ck.Bar} (h : headsE ra rb = 0) : ∃ a r r', ra = a :: r ∧ rb = a :: r' ∧ mergeU ra rb = a :: mergeU r r' := by
  match ra, rb, h with
  | [], _, h => simp [headsE] at h
  | a :: r, [], h => simp [headsE] at h
  | a :: r, b :: r', h =>
    have h' : cmpB a b = 0 := h
    have e := (cmpB_zero _ _).1 h'
    subst e
    exact ⟨a, r, r', rfl, rfl, by rw [mergeU, if_neg (by omega), if_neg (by omega)]⟩

set_option maxHeartbeats 400000 in
theorem keepUnion (x y : Bool) (w : World) : Calls Try.prog 38 #[.bool x, .bool y] w fun e w' => e = .returned (.bool (x || y)) ∧ w = w' := by
  cases x
  all_goals
    go_enter Try.func38, Try.ntmps38
    go_wp2
    go_ret
    exact ⟨rfl, rfl⟩

theorem three_of_block {w : World} {g : Nat} {a b c : Value} {t : TypeId} (h : w.heap[g]? = some (.cells #[a, b, c] t (0, 0))) : w.cell? ⟨g, 0, none⟩ = some a ∧ w.cell? ⟨g, 1, none⟩ = some b ∧ w.cell? ⟨g, 2, none⟩ = some c ∧ ∀ i, w.frozen? ⟨g, i, none⟩ = false := by
  refine ⟨?_, ?_, ?_, fun i => ?_⟩ <;> simp [World.cell?, World.frozen?, h]
/-- A bar is stored into a variable of its own. -/
theorem put3 {w : World} {g : Nat} {a b c : Value} {t : TypeId} (h : w.heap[g]? = some (.cells #[a, b, c] t (0, 0))) (x y z : Value) :
    ∃ W, W = ((w.setCell ⟨g, 0, none⟩ x).setCell ⟨g, 1, none⟩ y).setCell ⟨g, 2, none⟩ z ∧ W.heap[g]? = some (.cells #[x, y, z] t (0, 0)) ∧ Below g w W ∧ W.heap.size = w.heap.size := by
  refine ⟨_, rfl, ?_, (((Below.refl g w).setCell (p := ⟨g, 0, none⟩) (Nat.le_refl g) _).setCell (p := ⟨g, 1, none⟩) (Nat.le_refl g) _).setCell (p := ⟨g, 2, none⟩) (Nat.le_refl g) _, by simp [World.setCell]⟩
  simp [World.setCell, Array.getElem?_modify, h, Array.setIfInBounds]
/-- What is left of a list when its first bar is taken: the slice's address stays where no room is left behind it. -/
theorem RB.cut1 {w : World} {B b off c : Nat} {r : List Ck.Bar} (h : RB w B (some ⟨b, off + 3, none⟩) r) (hc : r.length + 1 ≤ c) (A : Option Addr) (hA : c ≠ 1 → A = some ⟨b, off + 3, none⟩) : RB w B A r := fun hl => by
  rw [hA (by omega)]
  exact h hl

def MrgPost (l l' : List Ck.Bar) (w : World) (e : Ending) (w' : World) : Prop :=
  ∃ v, e = .returned v ∧ w'.ownsRow w.heap.size 48 3 v (mergeU l l').length (bcellsL (mergeU l l')) ∧ Below w.heap.size w w'
def mrgRel (l0 l0' : List Ck.Bar) (w : World) (g : Nat) (va vb vo : Value) (wi : World) : Prop :=
  ∃ A A' c c' ra rb out, g = ra.length + rb.length ∧ va = .slice A ra.length c ∧ vb = .slice A' rb.length c' ∧ ra.length ≤ c ∧ c ≤ 9223372036854775807 ∧ rb.length ≤ c' ∧ c' ≤ 9223372036854775807 ∧ RB wi w.heap.size A ra ∧ RB wi w.heap.size A' rb ∧
    mergeU l0 l0' = out ++ mergeU ra rb ∧ out.length + ra.length + rb.length ≤ l0.length + l0'.length ∧ wi.ownsRow w.heap.size 48 3 vo out.length (bcellsL out) ∧ Below w.heap.size w wi

set_option maxHeartbeats 4000000 in
set_option maxRecDepth 100000 in
theorem netMergeU (A A' : Option Addr) (c c' : Nat) (l l' : List Ck.Bar) (w : World) (hl : l.length ≤ 4096) (hl' : l'.length ≤ 4096) (hc : l.length ≤ c) (hcm : c ≤ maxLen) (hc' : l'.length ≤ c') (hcm' : c' ≤ maxLen) (h : RB w w.heap.size A l) (h' : RB w w.heap.size A' l') :
    Calls Try.prog 68 #[.slice A l.length c, .slice A' l'.length c', .func (.func 69) #[] #[], .func (.func 38) #[] #[]] w (MrgPost l l' w) := by
  obtain ⟨ib, hib, hb0, hb01, hb02⟩ := info_parts Try.info48
  have HIB := Lib.hid hib
  have HB0 := Lib.hid hb0
  have HB1 := Lib.hid hb01
  have HB2 := Lib.hid hb02
  have HR := Lib.hid h
  have HR' := Lib.hid h'
  clear hib hb0 hb01 hb02 h h'
  unfold maxLen at hcm hcm'
  go_enter Try.func68, Try.ntmps68
  go_wp2_with fail
  go_loopg [0, 1, 9, 10, 11] (l.length + l'.length) (fun g va vb vo _ _ wi => mrgRel l l' w g va vb vo wi)
  case atStart => exact ⟨A, A', c, c', l, l', [], rfl, rfl, rfl, hc, hcm, hc', hcm', HR.out, HR'.out, rfl, by simp, World.ownsRow_nil _ _ _ _, Below.refl _ _⟩
  case round =>
    obtain ⟨A1, A2, c1, c2, ra, rb, out, hg, rfl, rfl, k1, k2, k3, k4, r1, r2, hm, hlen, hown, hb⟩ := hrel
    have HG := Lib.hid hg
    have HM := Lib.hid hm
    have HO := Lib.hid hown
    have HA := Lib.hid r1
    have HB := Lib.hid r2
    have hbz := hb.size
    clear hg hm hown r1 r2
    by_cases hne : 0 < ra.length + rb.length
    · rcases Int.lt_trichotomy (headsE ra rb) 0 with ho | ho | ho
      · obtain ⟨a, r, rfl, hmu⟩ := headsE_neg ho
        have HMU := Lib.hid hmu
        have ho1 : (headsE (a :: r) rb ≤ 0) := by omega
        have ho2 : ¬ (0 ≤ headsE (a :: r) rb) := by omega
        have HRA := HA.out.head
        clear hmu
        obtain ⟨b, off, rfl, hbb, d0, d1, d2, ht⟩ := HRA
        have HT := Lib.hid ht
        clear ht
        generalize hoe : headsE (a :: r) rb = o at ho ho1 ho2
        have HOE := Lib.hid hoe
        clear hoe
        go_wp2_with fail
        refine (netHeads (some ⟨b, off, none⟩) A2 c1 c2 (a :: r) rb _ (by simp at hlen ⊢; omega) (by simp at hlen; omega) (HA.out.more hbz) (HB.out.more hbz)).mono ?_
        rintro e w2 ⟨rfl, hb2⟩
        rw [HOE.out]
        have hz2 := hb2.size
        have e0 := (hb2.cell (p := ⟨b, off, none⟩) (by show b < _; omega)).trans d0
        have e1 := (hb2.cell (p := ⟨b, off + 1, none⟩) (by show b < _; omega)).trans d1
        have e2 := (hb2.cell (p := ⟨b, off + 2, none⟩) (by show b < _; omega)).trans d2
        clear d0 d1 d2
        obtain ⟨w3, hw3⟩ : ∃ w3, w3 = w2.alloc (.cells #[.int .i64 0, .int .i64 0, .int .i64 0] 48) := ⟨_, rfl⟩
        have hx : w3.heap[w2.heap.size]? = some (.cells #[.int .i64 0, .int .i64 0, .int .i64 0] 48 (0, 0)) := by rw [hw3]; exact heap_alloc_new _ _
        have hb3 : Below w2.heap.size w2 w3 := by rw [hw3]; exact (Below.refl _ _).alloc (Nat.le_refl _) _
        have hz3 : w2.heap.size < w3.heap.size := by rw [hw3]; simp
        obtain ⟨W, hW, hxW, hbW, hzW⟩ := put3 hx (.int .i64 a.x) (.int .i64 a.y) (.int .i64 a.s)
        obtain ⟨f0, f1, f2, ff⟩ := three_of_block hx
        obtain ⟨g0, g1, g2, _⟩ := three_of_block hxW
        have HW3 := Lib.hid hw3
        have HWW := Lib.hid hW
        have HZW := Lib.hid hzW
        clear hzW
        replace e0 := (hb3.cell (p := ⟨b, off, none⟩) (by show b < _; omega)).trans e0
        replace e1 := (hb3.cell (p := ⟨b, off + 1, none⟩) (by show b < _; omega)).trans e1
        replace e2 := (hb3.cell (p := ⟨b, off + 2, none⟩) (by show b < _; omega)).trans e2
        have hq : Below wr.heap.size wr W := (hb2.trans (hb3.mono hz2)).trans (hbW.mono hz2)
        have HOW := Lib.hid (ownsRow_below HO.out hq)
        have hbw := hb.trans (hq.mono hbz)
        have HTW := Lib.hid ((HT.out.below (hq.mono hbz)))
        have HBW := Lib.hid ((HB.out.below (hq.mono hbz)))
        have hi1 : (0 : Int) < (r.length : Int) + 1 := by omega
        have hi2 : (1 : Int) ≤ (r.length : Int) + 1 := by omega
        have hi3 : (r.length : Int) + 1 ≤ (c1 : Int) := by simp at k1; omega
        clear hw3 hW hx hxW
        go_wp2_with fail
        rw [← HW3.out]
        go_region
        rw [← HWW.out]
        generalize hA1 : (if c1 = 1 then some (⟨b, off, none⟩ : Addr) else some ⟨b, off + 3, none⟩) = A1
        have HRA1 := Lib.hid (HTW.out.cut1 (c := c1) (by simp at k1; omega) A1 (fun hne => by rw [← hA1, if_neg hne]))
        clear hA1 e0 e1 e2
        go_wp2_with (first
          | (go_at_call 38; refine (keepUnion _ _ _).mono ?_; rintro e w' ⟨rfl, rfl⟩)
          | (at_builtin; refine wpList_append_own _ rfl _ _ 31 rfl w.heap.size 48 ib (.agg #[.int .i64 0, .int .i64 0, .int .i64 0]) 3 24 Try.underlying31 HIB.out HB0.out HB1.out HB2.out rfl (by decide) _ _ _ rfl (by exact HOW.out.alloc _) ⟨W.heap.size, 0, none⟩ 1 1 [.int .i64 a.x, .int .i64 a.y, .int .i64 a.s] rfl rfl ?c1 ?c2 ?c3 ?c4 ?c5 ?_))
        case c1 => exact three_new _ _ _ _ _
        case c2 => intro u hu; simp at hu; rcases hu with rfl | rfl | rfl <;> rfl
        case c3 => unfold maxLen; simp at hlen; omega
        case c4 => simp at hlen; omega
        case c5 => have := hbw.size; simp; omega
        intro v' w4 hown4 hgrow4 _
        have hq4 : Below w.heap.size w w4 := (below_drew (hbw.alloc hbw.size (.cells #[.int .i64 a.x, .int .i64 a.y, .int .i64 a.s] 48))).grown hgrow4 (by have := hbw.size; simp; omega) (ownsRow_base HOW.out)
        have hsame : ∀ {X : Option Addr} {q : List Ck.Bar}, RB W w.heap.size X q → RB w4 w.heap.size X q := fun hX => by
          intro hl
          obtain ⟨b', off', e', hb', hc'⟩ := hX hl
          have hk : ∀ o, w4.cell? ⟨b', o, none⟩ = W.cell? ⟨b', o, none⟩ := fun o => (hq4.cell (p := ⟨b', o, none⟩) hb').trans (hbw.cell (p := ⟨b', o, none⟩) hb').symm
          exact ⟨b', off', e', hb', fun i hi => ⟨(hk _).trans (hc' i hi).1, (hk _).trans (hc' i hi).2.1, (hk _).trans (hc' i hi).2.2⟩⟩
        have HRA4 := Lib.hid (hsame HRA1.out)
        have HRB4 := Lib.hid (hsame HBW.out)
        have HO4 := Lib.hid hown4
        clear hown4 hgrow4 hsame
        go_wp2
        go_roundg (r.length + rb.length)
        case measure => rw [HG.out]; simp only [List.length_cons]; omega
        case rel => exact ⟨A1, A2, c1 - 1, c2, r, rb, out ++ [a], rfl, rfl, rfl, by simp at k1; omega, by omega, k3, k4, HRA4.out, HRB4.out, by rw [HM.out, HMU.out]; simp, by simp at hlen ⊢; omega, by rw [bcellsL_snoc, List.length_append]; exact HO4.out, hq4⟩
      · obtain ⟨a, r, r', rfl, rfl, hmu⟩ := headsE_zero ho
        have HMU := Lib.hid hmu
        have ho1 : (headsE (a :: r) (a :: r') ≤ 0) := by omega
        have ho2 : (0 ≤ headsE (a :: r) (a :: r')) := by omega
        have HRA := HA.out.head
        have HRB := HB.out.head
        clear hmu
        obtain ⟨b, off, rfl, hbb, d0, d1, d2, ht⟩ := HRA
        have HT := Lib.hid ht
        clear ht
        obtain ⟨b', off', rfl, hbb', d0', d1', d2', ht'⟩ := HRB
        have HT' := Lib.hid ht'
        clear ht'
        generalize hoe : headsE (a :: r) (a :: r') = o at ho ho1 ho2
        have HOE := Lib.hid hoe
        clear hoe
        go_wp2_with fail
        refine (netHeads (some ⟨b, off, none⟩) (some ⟨b', off', none⟩) c1 c2 (a :: r) (a :: r') _ (by simp at hlen ⊢; omega) (by simp at hlen ⊢; omega) (HA.out.more hbz) (HB.out.more hbz)).mono ?_
        rintro e w2 ⟨rfl, hb2⟩
        rw [HOE.out]
        have hz2 := hb2.size
        have e0 := (hb2.cell (p := ⟨b, off, none⟩) (by show b < _; omega)).trans d0
        have e0' := (hb2.cell (p := ⟨b', off', none⟩) (by show b' < _; omega)).trans d0'
        have e1 := (hb2.cell (p := ⟨b, off + 1, none⟩) (by show b < _; omega)).trans d1
        have e1' := (hb2.cell (p := ⟨b', off' + 1, none⟩) (by show b' < _; omega)).trans d1'
        have e2 := (hb2.cell (p := ⟨b, off + 2, none⟩) (by show b < _; omega)).trans d2
        have e2' := (hb2.cell (p := ⟨b', off' + 2, none⟩) (by show b' < _; omega)).trans d2'
        clear d0 d1 d2 d0' d1' d2'
        obtain ⟨w3, hw3⟩ : ∃ w3, w3 = w2.alloc (.cells #[.int .i64 0, .int .i64 0, .int .i64 0] 48) := ⟨_, rfl⟩
        have hx : w3.heap[w2.heap.size]? = some (.cells #[.int .i64 0, .int .i64 0, .int .i64 0] 48 (0, 0)) := by rw [hw3]; exact heap_alloc_new _ _
        have hb3 : Below w2.heap.size w2 w3 := by rw [hw3]; exact (Below.refl _ _).alloc (Nat.le_refl _) _
        have hz3 : w2.heap.size < w3.heap.size := by rw [hw3]; simp
        obtain ⟨W, hW, hxW, hbW, hzW⟩ := put3 hx (.int .i64 a.x) (.int .i64 a.y) (.int .i64 a.s)
        obtain ⟨f0, f1, f2, ff⟩ := three_of_block hx
        obtain ⟨g0, g1, g2, gf⟩ := three_of_block hxW
        obtain ⟨V, hV, hxV, hbV, hzV⟩ := put3 hxW (.int .i64 a.x) (.int .i64 a.y) (.int .i64 a.s)
        obtain ⟨q0, q1, q2, _⟩ := three_of_block hxV
        have HVV := Lib.hid hV
        clear hV hzV
        have HW3 := Lib.hid hw3
        have HWW := Lib.hid hW
        have HZW := Lib.hid hzW
        clear hzW
        replace e0 := (hb3.cell (p := ⟨b, off, none⟩) (by show b < _; omega)).trans e0
        replace e0' := (hbW.cell (p := ⟨b', off', none⟩) (by show b' < _; omega)).trans ((hb3.cell (p := ⟨b', off', none⟩) (by show b' < _; omega)).trans e0')
        replace e1 := (hb3.cell (p := ⟨b, off + 1, none⟩) (by show b < _; omega)).trans e1
        replace e1' := (hbW.cell (p := ⟨b', off' + 1, none⟩) (by show b' < _; omega)).trans ((hb3.cell (p := ⟨b', off' + 1, none⟩) (by show b' < _; omega)).trans e1')
        replace e2 := (hb3.cell (p := ⟨b, off + 2, none⟩) (by show b < _; omega)).trans e2
        replace e2' := (hbW.cell (p := ⟨b', off' + 2, none⟩) (by show b' < _; omega)).trans ((hb3.cell (p := ⟨b', off' + 2, none⟩) (by show b' < _; omega)).trans e2')
        have hq : Below wr.heap.size wr W := (hb2.trans (hb3.mono hz2)).trans (hbW.mono hz2)
        have hqv : Below wr.heap.size wr V := hq.trans (hbV.mono hz2)
        have HOW := Lib.hid (ownsRow_below HO.out hqv)
        have hbw := hb.trans (hqv.mono hbz)
        have HTW := Lib.hid ((HT.out.below (hqv.mono hbz)))
        have HBW := Lib.hid ((HT'.out.below (hqv.mono hbz)))
        have hi4 : (0 : Int) < (r'.length : Int) + 1 := by omega
        have hi5 : (1 : Int) ≤ (r'.length : Int) + 1 := by omega
        have hi6 : (r'.length : Int) + 1 ≤ (c2 : Int) := by simp at k3; omega
        have hi1 : (0 : Int) < (r.length : Int) + 1 := by omega
        have hi2 : (1 : Int) ≤ (r.length : Int) + 1 := by omega
        have hi3 : (r.length : Int) + 1 ≤ (c1 : Int) := by simp at k1; omega
        clear hw3 hW hx hxW
        go_wp2_with fail
        rw [← HW3.out]
        go_region
        rw [← HWW.out]
        generalize hA1 : (if c1 = 1 then some (⟨b, off, none⟩ : Addr) else some ⟨b, off + 3, none⟩) = A1
        have HRA1 := Lib.hid (HTW.out.cut1 (c := c1) (by simp at k1; omega) A1 (fun hne => by rw [← hA1, if_neg hne]))
        clear hA1 e0 e1 e2
        go_wp2_with fail
        go_region
        rw [← HVV.out]
        generalize hA3 : (if c2 = 1 then some (⟨b', off', none⟩ : Addr) else some ⟨b', off' + 3, none⟩) = A3
        have HRA3 := Lib.hid (HBW.out.cut1 (c := c2) (by simp at k3; omega) A3 (fun hne => by rw [← hA3, if_neg hne]))
        clear hA3 e0' e1' e2'
        go_wp2_with (first
          | (go_at_call 38; refine (keepUnion _ _ _).mono ?_; rintro e w' ⟨rfl, rfl⟩)
          | (at_builtin; refine wpList_append_own _ rfl _ _ 31 rfl w.heap.size 48 ib (.agg #[.int .i64 0, .int .i64 0, .int .i64 0]) 3 24 Try.underlying31 HIB.out HB0.out HB1.out HB2.out rfl (by decide) _ _ _ rfl (by exact HOW.out.alloc _) ⟨V.heap.size, 0, none⟩ 1 1 [.int .i64 a.x, .int .i64 a.y, .int .i64 a.s] rfl rfl ?c1 ?c2 ?c3 ?c4 ?c5 ?_))
        case c1 => exact three_new _ _ _ _ _
        case c2 => intro u hu; simp at hu; rcases hu with rfl | rfl | rfl <;> rfl
        case c3 => unfold maxLen; simp at hlen; omega
        case c4 => simp at hlen; omega
        case c5 => have := hbw.size; simp; omega
        intro v' w4 hown4 hgrow4 _
        have hq4 : Below w.heap.size w w4 := (below_drew (below_drew (hbw.alloc hbw.size (.cells #[.int .i64 a.x, .int .i64 a.y, .int .i64 a.s] 48)))).grown hgrow4 (by have := hbw.size; simp; omega) (ownsRow_base HOW.out)
        have hsame : ∀ {X : Option Addr} {q : List Ck.Bar}, RB V w.heap.size X q → RB w4 w.heap.size X q := fun hX => by
          intro hl
          obtain ⟨b9, off9, e', hb', hc'⟩ := hX hl
          have hk : ∀ o, w4.cell? ⟨b9, o, none⟩ = V.cell? ⟨b9, o, none⟩ := fun o => (hq4.cell (p := ⟨b9, o, none⟩) hb').trans (hbw.cell (p := ⟨b9, o, none⟩) hb').symm
          exact ⟨b9, off9, e', hb', fun i hi => ⟨(hk _).trans (hc' i hi).1, (hk _).trans (hc' i hi).2.1, (hk _).trans (hc' i hi).2.2⟩⟩
        have HRA4 := Lib.hid (hsame HRA1.out)
        have HRB4 := Lib.hid (hsame HRA3.out)
        have HO4 := Lib.hid hown4
        clear hown4 hgrow4 hsame
        go_wp2
        go_roundg (r.length + r'.length)
        case measure => rw [HG.out]; simp only [List.length_cons]; omega
        case rel => exact ⟨A1, A3, c1 - 1, c2 - 1, r, r', out ++ [a], rfl, rfl, rfl, by simp at k1; omega, by omega, by simp at k3; omega, by omega, HRA4.out, HRB4.out, by rw [HM.out, HMU.out]; simp, by simp at hlen ⊢; omega, by rw [bcellsL_snoc, List.length_append]; exact HO4.out, hq4⟩
      · obtain ⟨a, r, rfl, hmu⟩ := headsE_pos ho hne
        rcases ra with _ | ⟨x, rx⟩
        · skip
          have HMU := Lib.hid hmu
          have ho1 : ¬ (headsE ([] : List Ck.Bar) (a :: r) ≤ 0) := by omega
          have ho2 : (0 ≤ headsE ([] : List Ck.Bar) (a :: r)) := by omega
          have HRA := HB.out.head
          clear hmu
          obtain ⟨b, off, rfl, hbb, d0, d1, d2, ht⟩ := HRA
          have HT := Lib.hid ht
          clear ht
          generalize hoe : headsE ([] : List Ck.Bar) (a :: r) = o at ho ho1 ho2
          have HOE := Lib.hid hoe
          clear hoe
          go_wp2_with fail
          refine (netHeads A1 (some ⟨b, off, none⟩) c1 c2 ([] : List Ck.Bar) (a :: r) _ (by simp only [List.length_cons, List.length_nil] at hlen ⊢; omega) (by simp only [List.length_cons, List.length_nil] at hlen ⊢; omega) (HA.out.more hbz) (HB.out.more hbz)).mono ?_
          rintro e w2 ⟨rfl, hb2⟩
          rw [HOE.out]
          have hz2 := hb2.size
          have e0 := (hb2.cell (p := ⟨b, off, none⟩) (by show b < _; omega)).trans d0
          have e1 := (hb2.cell (p := ⟨b, off + 1, none⟩) (by show b < _; omega)).trans d1
          have e2 := (hb2.cell (p := ⟨b, off + 2, none⟩) (by show b < _; omega)).trans d2
          clear d0 d1 d2
          obtain ⟨w3, hw3⟩ : ∃ w3, w3 = w2.alloc (.cells #[.int .i64 0, .int .i64 0, .int .i64 0] 48) := ⟨_, rfl⟩
          have hx : w3.heap[w2.heap.size]? = some (.cells #[.int .i64 0, .int .i64 0, .int .i64 0] 48 (0, 0)) := by rw [hw3]; exact heap_alloc_new _ _
          have hb3 : Below w2.heap.size w2 w3 := by rw [hw3]; exact (Below.refl _ _).alloc (Nat.le_refl _) _
          have hz3 : w2.heap.size < w3.heap.size := by rw [hw3]; simp
          obtain ⟨W, hW, hxW, hbW, hzW⟩ := put3 hx (.int .i64 a.x) (.int .i64 a.y) (.int .i64 a.s)
          obtain ⟨f0, f1, f2, ff⟩ := three_of_block hx
          obtain ⟨g0, g1, g2, _⟩ := three_of_block hxW
          have HW3 := Lib.hid hw3
          have HWW := Lib.hid hW
          have HZW := Lib.hid hzW
          clear hzW
          replace e0 := (hb3.cell (p := ⟨b, off, none⟩) (by show b < _; omega)).trans e0
          replace e1 := (hb3.cell (p := ⟨b, off + 1, none⟩) (by show b < _; omega)).trans e1
          replace e2 := (hb3.cell (p := ⟨b, off + 2, none⟩) (by show b < _; omega)).trans e2
          have hq : Below wr.heap.size wr W := (hb2.trans (hb3.mono hz2)).trans (hbW.mono hz2)
          have HOW := Lib.hid (ownsRow_below HO.out hq)
          have hbw := hb.trans (hq.mono hbz)
          have HTW := Lib.hid ((HT.out.below (hq.mono hbz)))
          have HBW := Lib.hid ((HA.out.below (hq.mono hbz)))
          have hi1 : (0 : Int) < (r.length : Int) + 1 := by omega
          have hi2 : (1 : Int) ≤ (r.length : Int) + 1 := by omega
          have hi3 : (r.length : Int) + 1 ≤ (c2 : Int) := by simp at k3; omega
          clear hw3 hW hx hxW
          go_wp2_with fail
          rw [← HW3.out]
          go_region
          rw [← HWW.out]
          generalize hA1 : (if c2 = 1 then some (⟨b, off, none⟩ : Addr) else some ⟨b, off + 3, none⟩) = A3
          have HRA1 := Lib.hid (HTW.out.cut1 (c := c2) (by simp at k3; omega) A3 (fun hne => by rw [← hA1, if_neg hne]))
          clear hA1 e0 e1 e2
          go_wp2_with (first
            | (go_at_call 38; refine (keepUnion _ _ _).mono ?_; rintro e w' ⟨rfl, rfl⟩)
            | (at_builtin; refine wpList_append_own _ rfl _ _ 31 rfl w.heap.size 48 ib (.agg #[.int .i64 0, .int .i64 0, .int .i64 0]) 3 24 Try.underlying31 HIB.out HB0.out HB1.out HB2.out rfl (by decide) _ _ _ rfl (by exact HOW.out.alloc _) ⟨W.heap.size, 0, none⟩ 1 1 [.int .i64 a.x, .int .i64 a.y, .int .i64 a.s] rfl rfl ?c1 ?c2 ?c3 ?c4 ?c5 ?_))
          case c1 => exact three_new _ _ _ _ _
          case c2 => intro u hu; simp at hu; rcases hu with rfl | rfl | rfl <;> rfl
          case c3 => unfold maxLen; simp at hlen; omega
          case c4 => simp at hlen; omega
          case c5 => have := hbw.size; simp; omega
          intro v' w4 hown4 hgrow4 _
          have hq4 : Below w.heap.size w w4 := (below_drew (hbw.alloc hbw.size (.cells #[.int .i64 a.x, .int .i64 a.y, .int .i64 a.s] 48))).grown hgrow4 (by have := hbw.size; simp; omega) (ownsRow_base HOW.out)
          have hsame : ∀ {X : Option Addr} {q : List Ck.Bar}, RB W w.heap.size X q → RB w4 w.heap.size X q := fun hX => by
            intro hl
            obtain ⟨b', off', e', hb', hc'⟩ := hX hl
            have hk : ∀ o, w4.cell? ⟨b', o, none⟩ = W.cell? ⟨b', o, none⟩ := fun o => (hq4.cell (p := ⟨b', o, none⟩) hb').trans (hbw.cell (p := ⟨b', o, none⟩) hb').symm
            exact ⟨b', off', e', hb', fun i hi => ⟨(hk _).trans (hc' i hi).1, (hk _).trans (hc' i hi).2.1, (hk _).trans (hc' i hi).2.2⟩⟩
          have HRA4 := Lib.hid (hsame HRA1.out)
          have HRB4 := Lib.hid (hsame HBW.out)
          have HO4 := Lib.hid hown4
          clear hown4 hgrow4 hsame
          go_wp2
          go_roundg (([] : List Ck.Bar).length + r.length)
          case measure => rw [HG.out]; simp only [List.length_cons, List.length_nil]; omega
          case rel => exact ⟨A1, A3, c1, c2 - 1, ([] : List Ck.Bar), r, out ++ [a], rfl, rfl, rfl, k1, k2, by simp at k3; omega, by omega, HRB4.out, HRA4.out, by rw [HM.out, HMU.out]; simp, by simp at hlen ⊢; omega, by rw [bcellsL_snoc, List.length_append]; exact HO4.out, hq4⟩
        · skip
          have HMU := Lib.hid hmu
          have ho1 : ¬ (headsE (x :: rx) (a :: r) ≤ 0) := by omega
          have ho2 : (0 ≤ headsE (x :: rx) (a :: r)) := by omega
          have HRA := HB.out.head
          clear hmu
          obtain ⟨b, off, rfl, hbb, d0, d1, d2, ht⟩ := HRA
          have HT := Lib.hid ht
          clear ht
          generalize hoe : headsE (x :: rx) (a :: r) = o at ho ho1 ho2
          have HOE := Lib.hid hoe
          clear hoe
          go_wp2_with fail
          refine (netHeads A1 (some ⟨b, off, none⟩) c1 c2 (x :: rx) (a :: r) _ (by simp only [List.length_cons] at hlen ⊢; omega) (by simp only [List.length_cons] at hlen ⊢; omega) (HA.out.more hbz) (HB.out.more hbz)).mono ?_
          rintro e w2 ⟨rfl, hb2⟩
          rw [HOE.out]
          have hz2 := hb2.size
          have e0 := (hb2.cell (p := ⟨b, off, none⟩) (by show b < _; omega)).trans d0
          have e1 := (hb2.cell (p := ⟨b, off + 1, none⟩) (by show b < _; omega)).trans d1
          have e2 := (hb2.cell (p := ⟨b, off + 2, none⟩) (by show b < _; omega)).trans d2
          clear d0 d1 d2
          obtain ⟨w3, hw3⟩ : ∃ w3, w3 = w2.alloc (.cells #[.int .i64 0, .int .i64 0, .int .i64 0] 48) := ⟨_, rfl⟩
          have hx : w3.heap[w2.heap.size]? = some (.cells #[.int .i64 0, .int .i64 0, .int .i64 0] 48 (0, 0)) := by rw [hw3]; exact heap_alloc_new _ _
          have hb3 : Below w2.heap.size w2 w3 := by rw [hw3]; exact (Below.refl _ _).alloc (Nat.le_refl _) _
          have hz3 : w2.heap.size < w3.heap.size := by rw [hw3]; simp
          obtain ⟨W, hW, hxW, hbW, hzW⟩ := put3 hx (.int .i64 a.x) (.int .i64 a.y) (.int .i64 a.s)
          obtain ⟨f0, f1, f2, ff⟩ := three_of_block hx
          obtain ⟨g0, g1, g2, _⟩ := three_of_block hxW
          have HW3 := Lib.hid hw3
          have HWW := Lib.hid hW
          have HZW := Lib.hid hzW
          clear hzW
          replace e0 := (hb3.cell (p := ⟨b, off, none⟩) (by show b < _; omega)).trans e0
          replace e1 := (hb3.cell (p := ⟨b, off + 1, none⟩) (by show b < _; omega)).trans e1
          replace e2 := (hb3.cell (p := ⟨b, off + 2, none⟩) (by show b < _; omega)).trans e2
          have hq : Below wr.heap.size wr W := (hb2.trans (hb3.mono hz2)).trans (hbW.mono hz2)
          have HOW := Lib.hid (ownsRow_below HO.out hq)
          have hbw := hb.trans (hq.mono hbz)
          have HTW := Lib.hid ((HT.out.below (hq.mono hbz)))
          have HBW := Lib.hid ((HA.out.below (hq.mono hbz)))
          have hi1 : (0 : Int) < (r.length : Int) + 1 := by omega
          have hi2 : (1 : Int) ≤ (r.length : Int) + 1 := by omega
          have hi3 : (r.length : Int) + 1 ≤ (c2 : Int) := by simp at k3; omega
          clear hw3 hW hx hxW
          go_wp2_with fail
          rw [← HW3.out]
          go_region
          rw [← HWW.out]
          generalize hA1 : (if c2 = 1 then some (⟨b, off, none⟩ : Addr) else some ⟨b, off + 3, none⟩) = A3
          have HRA1 := Lib.hid (HTW.out.cut1 (c := c2) (by simp at k3; omega) A3 (fun hne => by rw [← hA1, if_neg hne]))
          clear hA1 e0 e1 e2
          go_wp2_with (first
            | (go_at_call 38; refine (keepUnion _ _ _).mono ?_; rintro e w' ⟨rfl, rfl⟩)
            | (at_builtin; refine wpList_append_own _ rfl _ _ 31 rfl w.heap.size 48 ib (.agg #[.int .i64 0, .int .i64 0, .int .i64 0]) 3 24 Try.underlying31 HIB.out HB0.out HB1.out HB2.out rfl (by decide) _ _ _ rfl (by exact HOW.out.alloc _) ⟨W.heap.size, 0, none⟩ 1 1 [.int .i64 a.x, .int .i64 a.y, .int .i64 a.s] rfl rfl ?c1 ?c2 ?c3 ?c4 ?c5 ?_))
          case c1 => exact three_new _ _ _ _ _
          case c2 => intro u hu; simp at hu; rcases hu with rfl | rfl | rfl <;> rfl
          case c3 => unfold maxLen; simp at hlen; omega
          case c4 => simp at hlen; omega
          case c5 => have := hbw.size; simp; omega
          intro v' w4 hown4 hgrow4 _
          have hq4 : Below w.heap.size w w4 := (below_drew (hbw.alloc hbw.size (.cells #[.int .i64 a.x, .int .i64 a.y, .int .i64 a.s] 48))).grown hgrow4 (by have := hbw.size; simp; omega) (ownsRow_base HOW.out)
          have hsame : ∀ {X : Option Addr} {q : List Ck.Bar}, RB W w.heap.size X q → RB w4 w.heap.size X q := fun hX => by
            intro hl
            obtain ⟨b', off', e', hb', hc'⟩ := hX hl
            have hk : ∀ o, w4.cell? ⟨b', o, none⟩ = W.cell? ⟨b', o, none⟩ := fun o => (hq4.cell (p := ⟨b', o, none⟩) hb').trans (hbw.cell (p := ⟨b', o, none⟩) hb').symm
            exact ⟨b', off', e', hb', fun i hi => ⟨(hk _).trans (hc' i hi).1, (hk _).trans (hc' i hi).2.1, (hk _).trans (hc' i hi).2.2⟩⟩
          have HRA4 := Lib.hid (hsame HRA1.out)
          have HRB4 := Lib.hid (hsame HBW.out)
          have HO4 := Lib.hid hown4
          clear hown4 hgrow4 hsame
          go_wp2
          go_roundg ((x :: rx).length + r.length)
          case measure => rw [HG.out]; simp only [List.length_cons]; omega
          case rel => exact ⟨A1, A3, c1, c2 - 1, (x :: rx), r, out ++ [a], rfl, rfl, rfl, k1, k2, by simp at k3; omega, by omega, HRB4.out, HRA4.out, by rw [HM.out, HMU.out]; simp, by simp at hlen ⊢; omega, by rw [bcellsL_snoc, List.length_append]; exact HO4.out, hq4⟩
    · have h1 : ra = [] := List.eq_nil_of_length_eq_zero (by omega)
      have h2 : rb = [] := List.eq_nil_of_length_eq_zero (by omega)
      subst h1
      subst h2
      go_wp2
      go_ret
      have hfin := HM.out
      simp only [mergeU, List.append_nil] at hfin
      exact ⟨_, rfl, by rw [hfin]; exact HO.out, hb⟩
end Go.Proofs.Ythihjphcjjpjpaa

/- A sheet's bars: plain mathematics, the bars of a cell, the iterator. -/
namespace Go.Proofs.Ythihjphcjjpjpaa
open Go.RowKit Go.Shelf Ck

def cel0 (x y : Int) (o : Bool) : Bar := if o then ⟨x + 1, y, -1⟩ else ⟨x, y, 1⟩
def cel1 (x y : Int) (o : Bool) : Bar := if o then ⟨x + 1, y, 1⟩ else ⟨x + 2, y, -1⟩
def oddB (r : Nat) : Bool := decide (r % 2 = 1)
def cellL (x y : Int) (r c : Nat) : List Bar := [cel0 (x + 2 * (c : Int)) (y + (r : Int)) (oddB r), cel1 (x + 2 * (c : Int)) (y + (r : Int)) (oddB r)]
/-- The first k cells of the row r. -/
def rowL (x y : Int) (r k : Nat) : List Bar := (List.range k).flatMap (cellL x y r)
/-- The first r rows. -/
def sheetP (x y : Int) (cols r : Nat) : List Bar := (List.range r).flatMap fun q => rowL x y q cols
theorem rowL_succ (x y : Int) (r k : Nat) : rowL x y r (k + 1) = rowL x y r k ++ cellL x y r k := by simp [rowL, List.range_succ]
theorem sheetP_succ (x y : Int) (cols r : Nat) : sheetP x y cols (r + 1) = sheetP x y cols r ++ rowL x y r cols := by simp [sheetP, List.range_succ]
theorem rowL_length (x y : Int) (r : Nat) : ∀ k, (rowL x y r k).length = 2 * k
  | 0 => rfl
  | k + 1 => by rw [rowL_succ, List.length_append, rowL_length x y r k]; simp [cellL]; omega
theorem sheetP_length (x y : Int) (cols : Nat) : ∀ r, (sheetP x y cols r).length = 2 * (cols * r)
  | 0 => by simp [sheetP]
  | r + 1 => by rw [sheetP_succ, List.length_append, sheetP_length x y cols r, rowL_length, Nat.mul_succ]; omega
theorem pre_short (x y : Int) {cols rows r c i : Nat} (hc : cols ≤ 256) (hr : rows ≤ 256) (h1 : r < rows) (h2 : c < cols) (h3 : i ≤ 2) : (sheetP x y cols r ++ rowL x y r c ++ (cellL x y r c).take i).length < 200000 := by
  rw [List.length_append, List.length_append, sheetP_length, rowL_length, List.length_take]
  have : cols * r ≤ 256 * 256 := Nat.mul_le_mul hc (by omega)
  omega

set_option maxHeartbeats 1000000 in
set_option maxRecDepth 100000 in
theorem netCellBars (x y : Int) (o : Bool) (w : World) (hx1 : -200000 ≤ x) (hx2 : x ≤ 200000) (hy1 : -200000 ≤ y) (hy2 : y ≤ 200000) :
    Calls Try.prog 59 #[.int .i64 x, .int .i64 y, .bool o] w fun e w' => e = .returned (.agg #[.int .i64 (cel0 x y o).x, .int .i64 (cel0 x y o).y, .int .i64 (cel0 x y o).s, .int .i64 (cel1 x y o).x, .int .i64 (cel1 x y o).y, .int .i64 (cel1 x y o).s]) ∧ Below w.heap.size w w' := by
  cases o
  · go_enter Try.func59, Try.ntmps59
    go_wp2
    exact bodyPost_ret (v := .agg #[.int .i64 x, .int .i64 y, .int .i64 1, .int .i64 (x + 2), .int .i64 y, .int .i64 (-1)]) (by simp [results, Try.results59, go_sem]) rfl ⟨rfl, by
      first
      | exact ((Below.refl _ _).alloc (Nat.le_refl _) _)
      | exact ((((((((Below.refl _ _).alloc (Nat.le_refl _) _).setCell (by simp) _).setCell (by simp) _).setCell (by simp) _).setCell (by simp) _).setCell (by simp) _).setCell (by simp) _)⟩
  · go_enter Try.func59, Try.ntmps59
    go_wp2
    exact bodyPost_ret (v := .agg #[.int .i64 (x + 1), .int .i64 y, .int .i64 (-1), .int .i64 (x + 1), .int .i64 y, .int .i64 1]) (by simp [results, Try.results59, go_sem]) rfl ⟨rfl, by
      first
      | exact ((Below.refl _ _).alloc (Nat.le_refl _) _)
      | exact ((((((((Below.refl _ _).alloc (Nat.le_refl _) _).setCell (by simp) _).setCell (by simp) _).setCell (by simp) _).setCell (by simp) _).setCell (by simp) _).setCell (by simp) _)⟩
theorem idxB0 (a b c d e f : Value) (w : World) : (Instr.index 107 (.agg #[a, b, c, d, e, f]) (.int .i64 0)).run Try.prog w = .ok (.agg #[a, b, c]) w := by kernel_rfl
theorem idxB1 (a b c d e f : Value) (w : World) : (Instr.index 107 (.agg #[a, b, c, d, e, f]) (.int .i64 1)).run Try.prog w = .ok (.agg #[d, e, f]) w := by kernel_rfl

/-- The blocks from B1 to below B2 are as they were. -/
def KR (B1 B2 : Nat) (W W' : World) : Prop := W.heap.size ≤ W'.heap.size ∧ ∀ b, B1 ≤ b → b < B2 → W'.heap[b]? = W.heap[b]?
theorem KR.refl (B1 B2 : Nat) (W : World) : KR B1 B2 W W := ⟨Nat.le_refl _, fun _ _ _ => rfl⟩
theorem KR.trans {B1 B2 : Nat} {A B C : World} (h : KR B1 B2 A B) (k : KR B1 B2 B C) : KR B1 B2 A C := ⟨Nat.le_trans h.1 k.1, fun b h1 h2 => (k.2 b h1 h2).trans (h.2 b h1 h2)⟩
theorem KR.of_below {B1 B2 : Nat} {W W' : World} (h : Below W.heap.size W W') (hB : B2 ≤ W.heap.size) : KR B1 B2 W W' := ⟨h.size, fun b _ h2 => h.block b (by omega)⟩
theorem KR.cell {B1 B2 : Nat} {W W' : World} (h : KR B1 B2 W W') {b o : Nat} (h1 : B1 ≤ b) (h2 : b < B2) : W'.cell? ⟨b, o, none⟩ = W.cell? ⟨b, o, none⟩ := World.cell?_of_block (h.2 b h1 h2)
theorem KR.put {B1 B2 : Nat} {w : World} (hB : B2 ≤ w.heap.size) (W : World) (l : Nat) (o o' : Obj) (hl : w.heap.size ≤ l) (_ : W.heap[l]? = some o) (_ : o.isCells = false) (_ : o.isWalk = false) : KR B1 B2 W (W.putObj l o') :=
  ⟨by simp, fun b _ h2 => World.putObj_heap_other (by omega)⟩
def barArr (b : Bar) : Array Value := #[.agg #[.int .i64 b.x, .int .i64 b.y, .int .i64 b.s]]
theorem grown_below {W W' : World} (hb : Below W.heap.size W W') : W.grownBy W' none := ⟨hb.os, hb.tape, hb.output, hb.size, fun i hi _ => hb.block i hi⟩

set_option maxRecDepth 100000 in
set_option maxHeartbeats 4000000 in
theorem sheet1_in (l Br Bc Ba B1 B2 n : Nat) (hn : 2 ≤ n) (x y : Int) (cols rows : Nat) (hc1 : cols ≤ 256) (hr1 : rows ≤ 256) (hx1 : -100000 ≤ x) (hx2 : x ≤ 100000) (hy1 : -100000 ≤ y) (hy2 : y ≤ 100000) (J Jx : List Bar → World → Prop)
    (hY : ∀ pre b W, J pre W → pre.length < 200000 → YieldAt Fence.wide (n - 1) Try.prog l (barArr b) W fun e W' =>
      (e = .returned (.bool true) ∧ J (pre ++ [b]) W' ∧ KR B1 B2 W W') ∨ (e = .returned (.bool false) ∧ Jx (pre ++ [b]) W'))
    (W : World) (hJ : AbidesFrom W.heap.size J) (hB : B2 ≤ W.heap.size) (hBr : B1 ≤ Br) (hBr' : Br < B2) (hBc : B1 ≤ Bc) (hBc' : Bc < B2) (hBa : B1 ≤ Ba) (hBa' : Ba < B2)
    (mr : W.cell? ⟨Br, 0, none⟩ = some (.int .i64 rows)) (mc : W.cell? ⟨Bc, 0, none⟩ = some (.int .i64 cols)) (mx : W.cell? ⟨Ba, 0, none⟩ = some (.int .i64 x)) (my : W.cell? ⟨Ba, 1, none⟩ = some (.int .i64 y)) (h0 : J [] W) :
    CallsIn Fence.wide n Try.prog 58 #[.func (.yield l) #[] #[], .pointer (some ⟨Br, 0, none⟩), .pointer (some ⟨Bc, 0, none⟩), .pointer (some ⟨Ba, 0, none⟩)] W fun e W' => (∃ v, e = .returned v) ∧
      ((∃ ss : List Bar, ss = sheetP x y cols rows ∧ J ss W') ∨ (∃ pre : List Bar, True ∧ Jx pre W')) := by
  have hJn : ∀ {s : List Bar} {A B : World}, J s A → Below A.heap.size A B → J s B := fun hs hb => hJ _ _ _ none hs (grown_below hb) (fun r e => by cases e)
  have hf60 : Fence.wide.fn 59 := trivial
  have h1n : 1 ≤ n := by omega
  refine callsIn_of_wp Try.func58 rfl trivial ?_ rfl
  simp only [Try.ntmps58, List.size_toArray, List.length_cons, List.length_nil, Nat.reduceAdd, Nat.reduceSub, Array.replicate_succ, Array.replicate_zero, List.push_toArray, List.append_toArray, List.nil_append, List.cons_append]
  gi_wp2
  gi_loopw [10] (fun v wr => ∃ r : Nat, r ≤ rows ∧ v = .int .i64 r ∧ J (sheetP x y cols r) wr ∧ KR B1 B2 W wr) (fun v _ => rows - (intOf v).toNat)
  case atStart => exact ⟨0, Nat.zero_le _, rfl, h0, KR.refl _ _ _⟩
  case round =>
    obtain ⟨r, hr, rfl, hJr, hK⟩ := hrel
    by_cases hlt : r < rows
    · have nc := (hK.cell (o := 0) hBc hBc').trans mc
      gi_wp2
      gi_loopw [14] (fun v wr => ∃ c : Nat, c ≤ cols ∧ v = .int .i64 c ∧ J (sheetP x y cols r ++ rowL x y r c) wr ∧ KR B1 B2 W wr) (fun v _ => cols - (intOf v).toNat)
      case atStart => exact ⟨0, Nat.zero_le _, rfl, by simpa [rowL] using hJr, hK⟩
      case round =>
        obtain ⟨c, hc, rfl, hJc, hK2⟩ := hrel
        by_cases hltc : c < cols
        · have nx := (hK2.cell (o := 0) hBa hBa').trans mx
          have ny := (hK2.cell (o := 1) hBa hBa').trans my
          obtain ⟨o, ho⟩ : ∃ o, oddB r = o := ⟨_, rfl⟩
          have hoq : ((r : Int) % 2 == 1) = o := by
            rw [← ho, oddB, Bool.eq_iff_iff, beq_iff_eq, decide_eq_true_eq]; omega
          have HO := Lib.hid ho
          clear ho
          gi_wp2_with (gi_at_call 59; refine (callsIn_wide.2 (netCellBars (x + 2 * (c : Int)) (y + (r : Int)) o _ (by omega) (by omega) (by omega) (by omega))).mono ?_; rintro e w2 ⟨rfl, hb2⟩)
          have hBr2 : B2 ≤ wr.heap.size := Nat.le_trans hB hK2.1
          have hJ2 := hJn hJc hb2
          have hK3 := hK2.trans (KR.of_below hb2 hBr2)
          have HC0 := Lib.hid (show cellL x y r c = [cel0 (x + 2 * (c : Int)) (y + (r : Int)) o, cel1 (x + 2 * (c : Int)) (y + (r : Int)) o] by rw [cellL, HO.out])
          generalize cel0 (x + 2 * (c : Int)) (y + (r : Int)) o = p0 at *
          generalize cel1 (x + 2 * (c : Int)) (y + (r : Int)) o = p1 at *
          have hp0 := pre_short x y hc1 hr1 (i := 0) hlt hltc (by omega)
          have hp1 := pre_short x y hc1 hr1 (i := 1) hlt hltc (by omega)
          rw [HC0.out] at hp0 hp1
          have hlt' := Lib.hid hlt
          have hltc' := Lib.hid hltc
          clear nx ny hJc
          gi_loopw [30] (fun v wi => ∃ i : Nat, i ≤ 2 ∧ v = .int .i64 i ∧ J (sheetP x y cols r ++ rowL x y r c ++ [p0, p1].take i) wi ∧ KR B1 B2 W wi) (fun v _ => 2 - (intOf v).toNat)
          case atStart => exact ⟨0, Nat.zero_le _, rfl, by simpa using hJ2, hK3⟩
          case round =>
            obtain ⟨i, hi, rfl, hJi, hKi⟩ := hrel
            have hi3 : i = 0 ∨ i = 1 ∨ i = 2 := by omega
            rcases hi3 with rfl | rfl | rfl
            · have ix := idxB0 (.int .i64 p0.x) (.int .i64 p0.y) (.int .i64 p0.s) (.int .i64 p1.x) (.int .i64 p1.y) (.int .i64 p1.s)
              have hJ3 : J (sheetP x y cols r ++ rowL x y r c ++ [p0, p1].take 0) (wr.alloc (.cells #[.int .i64 p0.x, .int .i64 p0.y, .int .i64 p0.s] 48)) := hJn hJi ((Below.refl _ _).alloc (Nat.le_refl _) _)
              have hK4 : KR B1 B2 W (wr.alloc (.cells #[.int .i64 p0.x, .int .i64 p0.y, .int .i64 p0.s] 48)) := hKi.trans (KR.of_below ((Below.refl _ _).alloc (Nat.le_refl _) _) (Nat.le_trans hB hKi.1))
              obtain ⟨fn, tmps, assign, body, hy, hR⟩ := hY _ p0 _ hJ3 hp0
              dsimp only [barArr] at hy
              gi_wp2
              refine hR.mono ?_
              rintro e W3 (⟨rfl, hJ4, hk3⟩ | ⟨rfl, hJx3⟩)
              · gi_wp2
                go_roundw
                case rel => exact ⟨1, by omega, rfl, by simpa using hJ4, hK4.trans hk3⟩
                case measure => simp [intOf]
              · gi_wp2
                refine bodyPost_ret (results_none rfl _ _ _) rfl ?_
                exact ⟨⟨_, rfl⟩, .inr ⟨_, trivial, hJx3⟩⟩
            · have ix := idxB1 (.int .i64 p0.x) (.int .i64 p0.y) (.int .i64 p0.s) (.int .i64 p1.x) (.int .i64 p1.y) (.int .i64 p1.s)
              have hJ3 : J (sheetP x y cols r ++ rowL x y r c ++ [p0, p1].take 1) (wr.alloc (.cells #[.int .i64 p1.x, .int .i64 p1.y, .int .i64 p1.s] 48)) := hJn hJi ((Below.refl _ _).alloc (Nat.le_refl _) _)
              have hK4 : KR B1 B2 W (wr.alloc (.cells #[.int .i64 p1.x, .int .i64 p1.y, .int .i64 p1.s] 48)) := hKi.trans (KR.of_below ((Below.refl _ _).alloc (Nat.le_refl _) _) (Nat.le_trans hB hKi.1))
              obtain ⟨fn, tmps, assign, body, hy, hR⟩ := hY _ p1 _ hJ3 hp1
              dsimp only [barArr] at hy
              gi_wp2
              refine hR.mono ?_
              rintro e W3 (⟨rfl, hJ4, hk3⟩ | ⟨rfl, hJx3⟩)
              · gi_wp2
                go_roundw
                case rel => exact ⟨2, by omega, rfl, by simpa using hJ4, hK4.trans hk3⟩
                case measure => simp [intOf]
              · gi_wp2
                refine bodyPost_ret (results_none rfl _ _ _) rfl ?_
                exact ⟨⟨_, rfl⟩, .inr ⟨_, trivial, hJx3⟩⟩
            · gi_wp2
              go_roundw
              case rel => exact ⟨c + 1, by have := hltc'.out; omega, by go_num, by rw [rowL_succ, HC0.out, ← List.append_assoc]; simpa using hJi, hKi⟩
              case measure => have := hltc'.out; simp [intOf]; omega
        · have e : c = cols := by omega
          subst e
          gi_wp2
          go_roundw
          case rel => exact ⟨r + 1, by omega, by go_num, by rw [sheetP_succ]; exact hJc, hK2⟩
          case measure => simp [intOf]; omega
    · have e : r = rows := by omega
      subst e
      gi_wp2
      go_end0
      exact ⟨⟨_, rfl⟩, .inl ⟨_, rfl, hJr⟩⟩
end Go.Proofs.Ythihjphcjjpjpaa

/- A loop over a function that keeps a variable of its own in a box of the type e: the body never leaves the loop. -/
namespace Go.Proofs.Ythihjphcjjpjpaa
open Go.RowKit Go.Shelf

/-- J holds on where memory grows, and where one block from B on is written that is no cells, or cells of the type e. -/
def Bides {β : Type} (B : Nat) (e : TypeId) (J : β → World → Prop) : Prop :=
  ∀ s W W' r, J s W → W.grownBy W' r → (∀ b, r = some b → B ≤ b ∧ ∃ o, W.heap[b]? = some o ∧ (o.isCells = false ∨ ∃ cs f, o = .cells cs e f)) → J s W'
theorem Bides.below {β : Type} {B : Nat} {e : TypeId} {J : β → World → Prop} (h : Bides B e J) {s : β} {W W' : World} (hs : J s W) (hb : Below W.heap.size W W') : J s W' :=
  h s W W' none hs ⟨hb.os, hb.tape, hb.output, hb.size, fun i hi _ => hb.block i hi⟩ (fun _ e => by cases e)
theorem Bides.put {β : Type} {B : Nat} {e : TypeId} {J : β → World → Prop} (h : Bides B e J) {s : β} {W : World} {l : Nat} {o : Obj} (o' : Obj) (hs : J s W) (hB : B ≤ l) (hl : W.heap[l]? = some o) (ho : o.isCells = false) : J s (W.putObj l o') :=
  h s W _ (some l) hs (grownBy_putObj' W l o') (fun b e => by cases e; exact ⟨hB, o, hl, .inl ho⟩)
theorem Bides.and {β : Type} {B : Nat} {e : TypeId} {J K : β → World → Prop} (h : Bides B e J) (k : Bides B e K) : Bides B e (fun s W => J s W ∧ K s W) := fun s W W' r hs hg hr => ⟨h s W W' r hs.1 hg hr, k s W W' r hs.2 hg hr⟩
/-- The loop's two blocks lie as they lay. -/
def Book (B : Nat) (W W' : World) : Prop := W'.heap[B]? = W.heap[B]? ∧ W'.heap[B + 1]? = W.heap[B + 1]? ∧ W.heap.size ≤ W'.heap.size
theorem Book.trans {B : Nat} {X Y Z : World} (h : Book B X Y) (k : Book B Y Z) : Book B X Z := ⟨k.1.trans h.1, k.2.1.trans h.2.1, Nat.le_trans h.2.2 k.2.2⟩
theorem Book.below {B : Nat} {W W' : World} (hB : B + 2 ≤ W.heap.size) (h : Below W.heap.size W W') : Book B W W' := ⟨h.block _ (by omega), h.block _ (by omega), h.size⟩
theorem Book.others {B : Nat} {W W' : World} (h : KeepsOthers W W') (h0 : ∃ o, W.heap[B]? = some o ∧ o.isCells = false) (h1 : ∃ o, W.heap[B + 1]? = some o ∧ o.isCells = false) : Book B W W' := by
  obtain ⟨o0, a0, b0⟩ := h0
  obtain ⟨o1, a1, b1⟩ := h1
  exact ⟨(h.same _ _ a0 b0).trans a0.symm, (h.same _ _ a1 b1).trans a1.symm, h.size⟩
def RoundEnd {α : Type} (B : Nat) (Kp : World → World → Prop) (I : List α → World → Prop) (xs : List α) (W : World) : Exit → Act → World → Prop
  | .normal, _, W' => Book B W W' ∧ Kp W W' ∧ I xs W'
  | _, _, _ => False

/-- What the loop asks of the function over which it goes. -/
def Visits {α : Type} (P : Program) (n : Nat) (e : TypeId) (gf : Nat) (lb : Array Value) (encs : α → Array Value) (Kp : World → World → Prop) (S : List α → Prop) (G : List α → α → Prop) (w : World) : Prop :=
  ∀ (l : Nat) (J : List α → World → Prop) (W : World), Below w.heap.size w W → Bides W.heap.size e J →
    (∀ pre x W1, J pre W1 → G pre x → YieldAt Fence.wide (n - 1) P l (encs x) W1 fun en W' => en = .returned (.bool true) ∧ J (pre ++ [x]) W' ∧ Kp W1 W') →
    J [] W → CallsIn Fence.wide n P gf (#[.func (.yield l) #[] #[]] ++ lb) W fun en W' => (∃ v, en = .returned v) ∧ ∃ xs, S xs ∧ J xs W'

theorem wpIn_visits {α : Type} {P : Program} {n : Nat} {e : TypeId} {g : Operand} {ps : Array Tmp} {assign body : Code} {Q : Exit → Act → World → Prop} {a : Act} {w : World} (h1 : 1 ≤ n)
    {gf : Nat} {lb : Array Value} (hg : a.eval g = .func (.func gf) #[] lb) (eg : ∀ args w, (callFunc gf args).run P w = .ok (.enter gf args) w)
    {encs : α → Array Value} {Kp : World → World → Prop} {S : List α → Prop} {G : List α → α → Prop} (hseq : Visits P (n - 1) e gf lb encs Kp S G w)
    (hKt : ∀ {A B C : World}, Kp A B → Kp B C → Kp A C) (hKb : ∀ (W : World) (l : Nat) (o o' : Obj), w.heap.size ≤ l → W.heap[l]? = some o → o.isCells = false → o.isWalk = false → Kp W (W.putObj l o')) (hps : ∀ x, (encs x).size = ps.size)
    (I : List α → World → Prop) (hI : Bides w.heap.size e I) (h0 : I [] w)
    (hround : ∀ (l : Nat) (pre : List α) (x : α) (W : World), w.heap.size + 2 ≤ W.heap.size → I pre W → G pre x →
      assign.wpIn (Fence.wide.inRound l) (n - 1 - 1) P (Exit.then (fun a' Wa => Book w.heap.size W Wa ∧ Kp W Wa ∧
        ∀ Wb, Wa.grownBy Wb (some (w.heap.size + 1)) → (∃ o, Wa.heap[w.heap.size + 1]? = some o ∧ o.isCells = false) → ((∃ o, Wb.heap[w.heap.size]? = some o ∧ o.isCells = false) ∧ ∃ o, Wb.heap[w.heap.size + 1]? = some o ∧ o.isCells = false) → body.wpIn (Fence.wide.inRound l) (n - 1 - 1) P (RoundEnd w.heap.size Kp I (pre ++ [x]) Wb) a' Wb) (fun _ _ _ => False))
        { tmps := (ps.zip (encs x)).foldl (fun t (p, v) => t.setIfInBounds p v) a.tmps, defers := [] } W)
    (hdone : ∀ (D : Nat) (xs : List α) (W : World), w.heap.size ≤ D → S xs → I xs W → W.heap[D]? = some (.deferred (some [])) → Q .normal { a with defers := { target := .collected D, args := #[] } :: a.defers } W) :
    (Code.rangeFunc g ps assign body).wpIn Fence.wide n P Q a w := by
  refine wpIn_rangeFunc fun fn _ => ?_
  obtain ⟨L, hL⟩ : ∃ L : LoopState → Option Code → Loop, L = fun s j => { state := s, pending := j, fn, tmps := a.tmps, params := ps, assign, body, defers := w.heap.size } := ⟨_, rfl⟩
  obtain ⟨W1, hW1⟩ : ∃ W1, W1 = (w.alloc (.deferred (some []))).alloc (.loop (L .ready none)) := ⟨_, rfl⟩
  have s1 : W1.heap.size = w.heap.size + 2 := by rw [hW1]; simp
  have b1 : Below w.heap.size w W1 := by rw [hW1]; exact ((Below.refl _ _).alloc (Nat.le_refl _) _).alloc (by simp) _
  have r1 : W1.heap[w.heap.size + 1]? = some (.loop (L .ready none)) := by
    rw [hW1]
    have := World.alloc_heap_new (w.alloc (.deferred (some []))) (.loop (L .ready none))
    rwa [World.size_alloc] at this
  have d1 : W1.heap[w.heap.size]? = some (.deferred (some [])) := by
    rw [hW1, Below.heap_alloc _ _ _ (by simp)]
    exact World.alloc_heap_new w _
  refine ⟨w.heap.size + 1, [{ target := .collected w.heap.size, args := #[] }], W1, { target := .fn (.func gf) lb, args := #[.func (.yield (w.heap.size + 1)) #[] #[]] }, W1, gf,
    #[.func (.yield (w.heap.size + 1)) #[] #[]] ++ lb, W1, by rw [hW1, hL]; exact run_enterLoop_outer _ _ _ _ _, ?_, fun _ _ => trivial, by simp [invoke, go_sem, eg], fun _ => h1, ?_⟩
  · simp only [resolve, hg]
    simp [go_sem]
  refine (hseq (w.heap.size + 1) (fun pre W => I pre W ∧ (W.heap[w.heap.size]? = some (.deferred (some [])) ∧ W.heap[w.heap.size + 1]? = some (.loop (L .ready none)))) W1 b1 ?bid ?yields ⟨hI.below h0 b1, d1, r1⟩).mono ?after
  case bid =>
    intro s X Y r hs hgr hr
    refine ⟨hI s X Y r hs.1 hgr fun b hb => ?_, ?_, ?_⟩
    · obtain ⟨h, o, ho⟩ := hr b hb
      exact ⟨by omega, o, ho⟩
    · exact (hgr.block _ (Array.getElem?_eq_some_iff.1 hs.2.1).1 (fun h => by have := (hr _ h.symm).1; omega)).trans hs.2.1
    · exact (hgr.block _ (Array.getElem?_eq_some_iff.1 hs.2.2).1 (fun h => by have := (hr _ h.symm).1; omega)).trans hs.2.2
  case yields =>
    rintro pre x W ⟨hi, hd, hl⟩ hlen
    have hz := (Array.getElem?_eq_some_iff.1 hl).1
    have hy := run_yield (P := P) (args := encs x) hl (by rw [hL]; exact hps x)
    rw [hL] at hy
    refine ⟨fn, _, assign, body, hy, roundIn_of_wpIn trivial (wpIn_mono (hround _ pre x W (by omega) hi hlen) ?_)⟩
    rintro en a' Wa hp
    cases en with
    | normal =>
      obtain ⟨⟨k1, k2, k3⟩, kp, hbody⟩ := hp
      have hla := k2.trans hl
      have hza := (Array.getElem?_eq_some_iff.1 hla).1
      refine ⟨_, run_beginRound hla (by rw [hL]), ?_⟩
      have hlb : (Wa.putObj (w.heap.size + 1) (.loop { L .ready none with state := .busy })).heap[w.heap.size + 1]? = some (.loop { L .ready none with state := .busy }) := World.putObj_heap_same hza
      have hdb : (Wa.putObj (w.heap.size + 1) (.loop { L .ready none with state := .busy })).heap[w.heap.size]? = some (.deferred (some [])) := (World.putObj_heap_other (by omega)).trans (k1.trans hd)
      have kb : Kp Wa (Wa.putObj (w.heap.size + 1) (.loop { L .ready none with state := .busy })) := hKb _ _ _ _ (by omega) hla rfl rfl
      refine wpIn_mono (hbody _ (grownBy_putObj' _ _ _) ⟨_, hla, rfl⟩ ⟨⟨_, hdb, rfl⟩, ⟨_, hlb, rfl⟩⟩) ?_
      rintro e3 a3 W3 hp3
      cases e3 with
      | normal =>
        obtain ⟨⟨m1, m2, m3⟩, kp3, hi3⟩ := hp3
        have hl3 := m2.trans hlb
        have hz3 := (Array.getElem?_eq_some_iff.1 hl3).1
        refine ⟨_, _, run_endRound none hl3, rfl, ⟨hI.put _ hi3 (by omega) hl3 rfl, (World.putObj_heap_other (by omega)).trans (m1.trans hdb), ?_⟩, hKt kp (hKt (hKt kb kp3) (hKb _ _ _ _ (by omega) hl3 rfl rfl))⟩
        rw [World.putObj_heap_same hz3, hL]
        rfl
      | _ => exact hp3.elim
    | _ => exact hp.elim
  case after =>
    rintro en W2 ⟨⟨v, rfl⟩, xs, hS, hi, hd, hl⟩
    exact ⟨none, _, by have := run_endLoop (P := P) hl (by rw [hL]; simp); rw [hL] at this; exact this, hdone _ xs _ (Nat.le_refl _) hS (hI.put _ hi (by omega) hl rfl) ((World.putObj_heap_other (by omega)).trans hd)⟩
end Go.Proofs.Ythihjphcjjpjpaa

/- strings.Repeat of the library laid at this program. -/
namespace Go.Proofs.Ythihjphcjjpjpaa
open Go.Shelf
def Try.rep_ren : Go.Shelf.Ren := ⟨fun | 105 => 82 | 212 => 92 | 99 => 93 | 165 => 94 | 166 => 87 | 170 => 95 | 169 => 88 | 263 => 98 | 264 => 99 | 206 => 100 | 240 => 97 | 241 => 101 | 276 => 102 | 277 => 103 | n => n, fun | 9 => 9 | 3 => 3 | 4 => 4 | 20 => 20 | 0 => 0 | 46 => 129 | 109 => 142 | 5 => 5 | 72 => 133 | 76 => 136 | 51 => 149 | 146 => 150 | 53 => 152 | 148 => 153 | 70 => 130 | 37 => 131 | 75 => 135 | 127 => 148 | 164 => 155 | 80 => 138 | n => n, fun | n => n⟩
theorem Try.rep : Go.Proofs.Lays.n105 Try.prog Try.rep_ren := {
  mixed := by kernel_rfl,
  f99 := Try.func93.trans (congrArg some (by kernel_rfl)),
  f105 := Try.func82.trans (congrArg some (by kernel_rfl)),
  f165 := Try.func94.trans (congrArg some (by kernel_rfl)),
  f166 := Try.func87.trans (congrArg some (by kernel_rfl)),
  f169 := Try.func88.trans (congrArg some (by kernel_rfl)),
  f170 := Try.func95.trans (congrArg some (by kernel_rfl)),
  f206 := Try.func100.trans (congrArg some (by kernel_rfl)),
  f212 := Try.func92.trans (congrArg some (by kernel_rfl)),
  f240 := Try.func97.trans (congrArg some (by kernel_rfl)),
  f241 := Try.func101.trans (congrArg some (by kernel_rfl)),
  f263 := Try.func98.trans (congrArg some (by kernel_rfl)),
  f264 := Try.func99.trans (congrArg some (by kernel_rfl)),
  f276 := Try.func102.trans (congrArg some (by kernel_rfl)),
  f277 := Try.func103.trans (congrArg some (by kernel_rfl)),
  t0 := Try.underlying0,
  a0 := Try.isAgg0,
  z0 := Try.sizeOf0,
  v0 := Try.zeroValue0,
  t3 := Try.underlying3,
  a3 := Try.isAgg3,
  z3 := Try.sizeOf3,
  v3 := Try.zeroValue3,
  t4 := Try.underlying4,
  a4 := Try.isAgg4,
  z4 := Try.sizeOf4,
  v4 := Try.zeroValue4,
  t5 := Try.underlying5,
  a5 := Try.isAgg5,
  z5 := Try.sizeOf5,
  v5 := Try.zeroValue5,
  t9 := Try.underlying9,
  a9 := Try.isAgg9,
  z9 := Try.sizeOf9,
  v9 := Try.zeroValue9,
  t20 := Try.underlying20,
  a20 := Try.isAgg20,
  z20 := Try.sizeOf20,
  v20 := Try.zeroValue20,
  t37 := Try.underlying131,
  a37 := Try.isAgg131,
  z37 := Try.sizeOf131,
  v37 := Try.zeroValue131,
  t46 := Try.underlying129,
  a46 := Try.isAgg129,
  z46 := Try.sizeOf129,
  v46 := Try.zeroValue129,
  t51 := Try.underlying149,
  a51 := Try.isAgg149,
  z51 := Try.sizeOf149,
  v51 := Try.zeroValue149,
  t53 := Try.underlying152,
  a53 := Try.isAgg152,
  z53 := Try.sizeOf152,
  v53 := Try.zeroValue152,
  t70 := Try.underlying130,
  a70 := Try.isAgg130,
  z70 := Try.sizeOf130,
  v70 := Try.zeroValue130,
  t72 := Try.underlying133,
  a72 := Try.isAgg133,
  z72 := Try.sizeOf133,
  v72 := Try.zeroValue133,
  t75 := Try.underlying135,
  a75 := Try.isAgg135,
  z75 := Try.sizeOf135,
  v75 := Try.zeroValue135,
  t76 := Try.underlying136,
  a76 := Try.isAgg136,
  z76 := Try.sizeOf136,
  v76 := Try.zeroValue136,
  t109 := Try.underlying142,
  a109 := Try.isAgg142,
  z109 := Try.sizeOf142,
  v109 := Try.zeroValue142,
  t127 := Try.underlying148,
  a127 := Try.isAgg148,
  z127 := Try.sizeOf148,
  v127 := Try.zeroValue148,
  t146 := Try.underlying150,
  a146 := Try.isAgg150,
  z146 := Try.sizeOf150,
  v146 := Try.zeroValue150,
  t148 := Try.underlying153,
  a148 := Try.isAgg153,
  z148 := Try.sizeOf153,
  v148 := Try.zeroValue153,
  t164 := Try.underlying155,
  a164 := Try.isAgg155,
  z164 := Try.sizeOf155,
  v164 := Try.zeroValue155 }
end Go.Proofs.Ythihjphcjjpjpaa

/- The errors of a sheet, and the program's first at three errors. -/
namespace Go.Proofs.Ythihjphcjjpjpaa
open Go.RowKit

theorem three_err {w : World} {g : Nat} {a b c : Int} {t : TypeId} (h : w.heap[g]? = some (.cells #[.int .i64 a, .int .i64 b, .int .i64 c] t (0, 0))) : ∀ i (hi : i < [a, b, c].length), w.cell? ⟨g, i, none⟩ = some (.int .i64 [a, b, c][i]) := by
  intro i hi
  have hi' : i = 0 ∨ i = 1 ∨ i = 2 := by simp at hi; omega
  rcases hi' with rfl | rfl | rfl <;> simp [World.cell?, h]
theorem netFirst3 (g d : Nat) (a b c : Int) (t : TypeId) (w : World) (h : w.heap[g]? = some (.cells #[.int .i64 a, .int .i64 b, .int .i64 c] t (0, 0))) :
    Calls Try.prog 27 #[.slice (some ⟨g, 0, none⟩) 3 d] w fun e w' => e = .returned (.int .i64 (firstE [a, b, c])) ∧ w = w' :=
  netFirst g d [a, b, c] w (by simp) (three_err h)
def sideR (n : Int) : Int := if n < 1 ∨ 256 < n then 3 else 0
def sheet1 (x y c r : Int) : Int := firstE [knotE x y, sideR c, sideR r]
def sheetE (x y c r : Int) : Int := if sheet1 x y c r = 0 then (if 4096 < 2 * c * r then 5 else if farB (x + 2 * c) || farB (y + r) then 3 else 0) else sheet1 x y c r
theorem sheet1_zero {x y c r : Int} (h : sheet1 x y c r = 0) : knotE x y = 0 ∧ 1 ≤ c ∧ c ≤ 256 ∧ 1 ≤ r ∧ r ≤ 256 := by
  unfold sheet1 firstE firstE firstE firstE at h
  split at h
  · rename_i h1
    split at h
    · rename_i h2
      split at h
      · rename_i h3
        unfold sideR at h2 h3
        split at h2
        · omega
        · split at h3 <;> omega
      · omega
    · omega
  · omega
theorem sheetE_zero {x y c r : Int} (h : sheetE x y c r = 0) : sheet1 x y c r = 0 ∧ 2 * c * r ≤ 4096 ∧ farB (x + 2 * c) = false ∧ farB (y + r) = false := by
  unfold sheetE at h
  split at h
  · rename_i h1
    split at h
    · omega
    · rename_i h2
      split at h
      · omega
      · rename_i h3
        simp at h3
        exact ⟨h1, by omega, h3.1, h3.2⟩
  · rename_i h1; exact absurd h h1
end Go.Proofs.Ythihjphcjjpjpaa

/- Plain mathematics: what a bar more makes of the knots, the parts and the meshes of a list of bars; no net has fewer than 0 holes. -/
namespace Go.Proofs.Ythihjphcjjpjpaa.Ck

/-! ### one bar more, and what is connected -/
theorem conn_add {l l' : List Bar} {b : Bar} (hm : ∀ x, x ∈ l' ↔ x = b ∨ x ∈ l) {k m : Knot} (h : Conn l' k m) : Conn l k m ∨ (Conn l k b.lo ∧ Conn l b.hi m) ∨ (Conn l k b.hi ∧ Conn l b.lo m) := by
  induction h with
  | refl => exact .inl (.refl _)
  | step x hx ha _ ih =>
    rcases (hm x).1 hx with rfl | hx
    · rcases ha with ⟨rfl, rfl⟩ | ⟨rfl, rfl⟩
      · rcases ih with h | ⟨_, h⟩ | ⟨_, h⟩
        · exact .inr (.inl ⟨.refl _, h⟩)
        · exact .inr (.inl ⟨.refl _, h⟩)
        · exact .inl h
      · rcases ih with h | ⟨_, h⟩ | ⟨_, h⟩
        · exact .inr (.inr ⟨.refl _, h⟩)
        · exact .inl h
        · exact .inr (.inr ⟨.refl _, h⟩)
    · have c := Conn.one hx ha
      rcases ih with h | ⟨h, h'⟩ | ⟨h, h'⟩
      · exact .inl (c.trans h)
      · exact .inr (.inl ⟨c.trans h, h'⟩)
      · exact .inr (.inr ⟨c.trans h, h'⟩)
theorem Conn.eq_of_out {l : List Bar} {k m : Knot} (h : Conn l k m) (hk : k ∉ ends l) : k = m := by
  cases h with
  | refl => rfl
  | step b hb ha _ => exact absurd (ha.ends hb).1 hk

/-- R has one knot of each part. -/
def Rep (l : List Bar) (R : List Knot) : Prop := (∀ r ∈ R, r ∈ ends l) ∧ R.Pairwise (fun a b => ¬ Conn l a b) ∧ ∀ k ∈ ends l, ∃ r ∈ R, Conn l r k
theorem Rep.nodup {l : List Bar} {R : List Knot} (h : Rep l R) : R.Nodup := h.2.1.imp fun {a b} (hn : ¬ Conn l a b) (e : a = b) => hn (by rw [e]; exact .refl _)
theorem Rep.one {l : List Bar} {R : List Knot} (h : Rep l R) {a b : Knot} (ha : a ∈ R) (hb : b ∈ R) (hc : Conn l a b) : a = b := by
  by_cases e : a = b
  · exact e
  · exact absurd hc (List.Pairwise.forall_of_forall_of_flip (R := fun a b => a ≠ b → ¬ Conn l a b) (fun x _ hne => absurd rfl hne) (h.2.1.imp fun {a b} (hn : ¬ Conn l a b) (_ : a ≠ b) => hn) (h.2.1.imp fun {a b} (hn : ¬ Conn l a b) (_ : b ≠ a) (hc : Conn l b a) => hn hc.symm) ha hb e)
theorem Rep.le {l : List Bar} {R R' : List Knot} (h : Rep l R) (h' : Rep l R') : R.length ≤ R'.length := by
  have each : ∀ r, ∃ r', r ∈ R → r' ∈ R' ∧ Conn l r' r := fun r => by
    by_cases hr : r ∈ R
    · obtain ⟨r', h1, h2⟩ := h'.2.2 r (h.1 r hr)
      exact ⟨r', fun _ => ⟨h1, h2⟩⟩
    · exact ⟨r, fun h => absurd h hr⟩
  obtain ⟨f, hf⟩ := Classical.axiomOfChoice each
  have hn : (R.map f).Nodup := by
    rw [List.Nodup, List.pairwise_map]
    refine List.Pairwise.imp_of_mem ?_ h.2.1
    intro a b ha hb hnc e
    exact hnc (((hf a ha).2.symm).trans (e ▸ (hf b hb).2))
  have := hn.length_le_of_subset (l₂ := R') (fun x hx => by
    obtain ⟨r, hr, rfl⟩ := List.mem_map.1 hx
    exact (hf r hr).1)
  rwa [List.length_map] at this
theorem Rep.length {l : List Bar} {R R' : List Knot} (h : Rep l R) (h' : Rep l R') : R.length = R'.length := Nat.le_antisymm (h.le h') (h'.le h)
theorem CntIs.reps {l : List Bar} : ∀ {r : List Bar} {seen : List Knot} {n : Nat}, CntIs l seen r n →
    ∃ R : List Knot, R.length = n ∧ (∀ x ∈ R, ∃ c ∈ r, x = c.lo) ∧ R.Pairwise (fun a b => ¬ Conn l a b) ∧ (∀ x ∈ R, ∀ s ∈ seen, ¬ Conn l s x) ∧ ∀ c ∈ r, (∃ s ∈ seen, Conn l s c.lo) ∨ ∃ x ∈ R, Conn l x c.lo
  | [], _, _, .nil _ => ⟨[], rfl, by simp, .nil, by simp, by simp⟩
  | b :: r, seen, _, .old e h => by
    obtain ⟨R, h1, h2, h3, h4, h5⟩ := h.reps
    refine ⟨R, h1, fun x hx => ?_, h3, fun x hx s hs => h4 x hx s (by simp [hs]), fun c hc => ?_⟩
    · obtain ⟨c, hc, e⟩ := h2 x hx
      exact ⟨c, by simp [hc], e⟩
    · rcases List.mem_cons.1 hc with rfl | hc
      · exact .inl e
      · rcases h5 c hc with ⟨s, hs, hsc⟩ | h
        · rcases List.mem_cons.1 hs with rfl | hs
          · obtain ⟨s0, hs0, h0⟩ := e
            exact .inl ⟨s0, hs0, h0.trans hsc⟩
          · exact .inl ⟨s, hs, hsc⟩
        · exact .inr h
  | b :: r, seen, _, .fresh e h => by
    obtain ⟨R, h1, h2, h3, h4, h5⟩ := h.reps
    refine ⟨b.lo :: R, by simp [h1], fun x hx => ?_, List.pairwise_cons.2 ⟨fun x hx => h4 x hx b.lo (by simp), h3⟩, fun x hx s hs => ?_, fun c hc => ?_⟩
    · rcases List.mem_cons.1 hx with rfl | hx
      · exact ⟨b, by simp, rfl⟩
      · obtain ⟨c, hc, e⟩ := h2 x hx
        exact ⟨c, by simp [hc], e⟩
    · rcases List.mem_cons.1 hx with rfl | hx
      · exact fun hc => e ⟨s, hs, hc⟩
      · exact h4 x hx s (by simp [hs])
    · rcases List.mem_cons.1 hc with rfl | hc
      · exact .inr ⟨_, by simp, .refl _⟩
      · rcases h5 c hc with ⟨s, hs, hsc⟩ | ⟨x, hx, h⟩
        · rcases List.mem_cons.1 hs with rfl | hs
          · exact .inr ⟨_, by simp, hsc⟩
          · exact .inl ⟨s, hs, hsc⟩
        · exact .inr ⟨x, by simp [hx], h⟩
theorem PartsIs.rep {l : List Bar} {p : Nat} (h : PartsIs l p) : ∃ R, Rep l R ∧ R.length = p := by
  obtain ⟨R, h1, h2, h3, _, h5⟩ := CntIs.reps h
  refine ⟨R, ⟨fun r hr => ?_, h3, fun k hk => ?_⟩, h1⟩
  · obtain ⟨c, hc, rfl⟩ := h2 r hr
    exact lo_ends hc
  · obtain ⟨c, hc, e⟩ := mem_ends.1 hk
    rcases h5 c hc with ⟨s, hs, _⟩ | ⟨x, hx, hxc⟩
    · simp at hs
    · rcases e with rfl | rfl
      · exact ⟨x, hx, hxc⟩
      · exact ⟨x, hx, hxc.trans (.one hc (.inl ⟨rfl, rfl⟩))⟩
theorem PartsIs.eq_rep {l : List Bar} {p : Nat} (h : PartsIs l p) {R : List Knot} (hR : Rep l R) : p = R.length := by
  obtain ⟨R', h1, h2⟩ := h.rep
  rw [← h2, h1.length hR]

/-! ### the parts of a list with one bar more -/
theorem ends_add {l l' : List Bar} {b : Bar} (hm : ∀ x, x ∈ l' ↔ x = b ∨ x ∈ l) (k : Knot) : k ∈ ends l' ↔ k = b.lo ∨ k = b.hi ∨ k ∈ ends l := by
  rw [mem_ends, mem_ends]
  constructor
  · rintro ⟨x, hx, h⟩
    rcases (hm x).1 hx with rfl | hx
    · rcases h with h | h
      · exact .inl h
      · exact .inr (.inl h)
    · exact .inr (.inr ⟨x, hx, h⟩)
  · rintro (h | h | ⟨x, hx, h⟩)
    · exact ⟨b, (hm b).2 (.inl rfl), .inl h⟩
    · exact ⟨b, (hm b).2 (.inl rfl), .inr h⟩
    · exact ⟨x, (hm x).2 (.inr hx), h⟩
theorem conn_more {l l' : List Bar} {b : Bar} (hm : ∀ x, x ∈ l' ↔ x = b ∨ x ∈ l) {k m : Knot} (h : Conn l k m) : Conn l' k m := h.mono fun x hx => (hm x).2 (.inr hx)
theorem conn_bar {l l' : List Bar} {b : Bar} (hm : ∀ x, x ∈ l' ↔ x = b ∨ x ∈ l) : Conn l' b.lo b.hi := .one ((hm b).2 (.inl rfl)) (.inl ⟨rfl, rfl⟩)
/-- Both ends were connected: the parts stay. -/
theorem rep_same {l l' : List Bar} {b : Bar} (hm : ∀ x, x ∈ l' ↔ x = b ∨ x ∈ l) (hlo : b.lo ∈ ends l) (hhi : b.hi ∈ ends l) (hc : Conn l b.lo b.hi) {R : List Knot} (h : Rep l R) : Rep l' R := by
  have back : ∀ {k m : Knot}, Conn l' k m → Conn l k m := fun hk => by
    rcases conn_add hm hk with h | ⟨h, h'⟩ | ⟨h, h'⟩
    · exact h
    · exact (h.trans hc).trans h'
    · exact (h.trans hc.symm).trans h'
  refine ⟨fun r hr => (ends_add hm r).2 (.inr (.inr (h.1 r hr))), h.2.1.imp fun hn hc' => hn (back hc'), fun k hk => ?_⟩
  have hk' : k ∈ ends l := by
    rcases (ends_add hm k).1 hk with rfl | rfl | h
    · exact hlo
    · exact hhi
    · exact h
  obtain ⟨r, hr, hrk⟩ := h.2.2 k hk'
  exact ⟨r, hr, conn_more hm hrk⟩
/-- Both ends were knots of different parts: these are one part now. -/
theorem rep_less {l l' : List Bar} {b : Bar} (hm : ∀ x, x ∈ l' ↔ x = b ∨ x ∈ l) (hlo : b.lo ∈ ends l) (hhi : b.hi ∈ ends l) (hc : ¬ Conn l b.lo b.hi) {R : List Knot} (h : Rep l R) : ∃ R', Rep l' R' ∧ R'.length + 1 = R.length := by
  obtain ⟨r1, h1, c1⟩ := h.2.2 _ hlo
  obtain ⟨r2, h2, c2⟩ := h.2.2 _ hhi
  have hne : r1 ≠ r2 := by
    rintro rfl
    exact hc (c1.symm.trans c2)
  have hnd := h.nodup
  have mem : ∀ x, x ∈ R.erase r2 ↔ x ≠ r2 ∧ x ∈ R := fun x => hnd.mem_erase_iff
  refine ⟨R.erase r2, ⟨fun r hr => (ends_add hm r).2 (.inr (.inr (h.1 r ((mem r).1 hr).2))), ?_, fun k hk => ?_⟩, ?_⟩
  · refine List.Pairwise.imp_of_mem ?_ (h.2.1.sublist (List.erase_sublist ..))
    intro a c ha hc' hn hac
    obtain ⟨ha1, ha2⟩ := (mem a).1 ha
    obtain ⟨hc1, hc2⟩ := (mem c).1 hc'
    rcases conn_add hm hac with h' | ⟨_, h'⟩ | ⟨h', _⟩
    · exact hn h'
    · exact hc1 (h.one h2 hc2 (c2.trans h')).symm
    · exact ha1 (h.one ha2 h2 (h'.trans c2.symm))
  · have go : ∀ k ∈ ends l, ∃ r ∈ R.erase r2, Conn l' r k := fun k hk => by
      obtain ⟨r, hr, hrk⟩ := h.2.2 k hk
      by_cases e : r = r2
      · subst e
        exact ⟨r1, (mem r1).2 ⟨hne, h1⟩, ((conn_more hm c1).trans (conn_bar hm)).trans ((conn_more hm c2.symm).trans (conn_more hm hrk))⟩
      · exact ⟨r, (mem r).2 ⟨e, hr⟩, conn_more hm hrk⟩
    rcases (ends_add hm k).1 hk with rfl | rfl | hk
    · exact go _ hlo
    · exact go _ hhi
    · exact go _ hk
  · rw [List.length_erase_of_mem h2]
    have : 0 < R.length := List.length_pos_of_mem h2
    omega
/-- One end was a knot, the other one was none: the parts stay. -/
theorem rep_hang {l l' : List Bar} {b : Bar} (hm : ∀ x, x ∈ l' ↔ x = b ∨ x ∈ l) (hx : b.lo ∈ ends l ∧ b.hi ∉ ends l ∨ b.lo ∉ ends l ∧ b.hi ∈ ends l) {R : List Knot} (h : Rep l R) : Rep l' R := by
  have back : ∀ {k m : Knot}, k ∈ ends l → m ∈ ends l → Conn l' k m → Conn l k m := fun hk hm' hc => by
    rcases conn_add hm hc with h' | ⟨h1, h2⟩ | ⟨h1, h2⟩
    · exact h'
    · rcases hx with ⟨_, hn⟩ | ⟨hn, _⟩
      · exact absurd (h2.eq_of_out hn ▸ hm') hn
      · exact absurd (h1.symm.eq_of_out hn ▸ hk) hn
    · rcases hx with ⟨_, hn⟩ | ⟨hn, _⟩
      · exact absurd (h1.symm.eq_of_out hn ▸ hk) hn
      · exact absurd (h2.eq_of_out hn ▸ hm') hn
  refine ⟨fun r hr => (ends_add hm r).2 (.inr (.inr (h.1 r hr))), List.Pairwise.imp_of_mem (fun {a c} ha hc hn hac => hn (back (h.1 a ha) (h.1 c hc) hac)) h.2.1, fun k hk => ?_⟩
  have go : ∀ k ∈ ends l, ∃ r ∈ R, Conn l' r k := fun k hk => by
    obtain ⟨r, hr, hrk⟩ := h.2.2 k hk
    exact ⟨r, hr, conn_more hm hrk⟩
  rcases (ends_add hm k).1 hk with rfl | rfl | hk
  · rcases hx with ⟨hl, _⟩ | ⟨_, hh⟩
    · exact go _ hl
    · obtain ⟨r, hr, hrk⟩ := go _ hh
      exact ⟨r, hr, hrk.trans (conn_bar hm).symm⟩
  · rcases hx with ⟨hl, _⟩ | ⟨_, hh⟩
    · obtain ⟨r, hr, hrk⟩ := go _ hl
      exact ⟨r, hr, hrk.trans (conn_bar hm)⟩
    · exact go _ hh
  · exact go _ hk
/-- No end was a knot: one part more. -/
theorem rep_more {l l' : List Bar} {b : Bar} (hm : ∀ x, x ∈ l' ↔ x = b ∨ x ∈ l) (hlo : b.lo ∉ ends l) (hhi : b.hi ∉ ends l) {R : List Knot} (h : Rep l R) : Rep l' (b.lo :: R) := by
  have back : ∀ {k m : Knot}, k ∈ ends l → m ∈ ends l → Conn l' k m → Conn l k m := fun hk hm' hc => by
    rcases conn_add hm hc with h' | ⟨h1, h2⟩ | ⟨h1, h2⟩
    · exact h'
    · exact absurd (h2.eq_of_out hhi ▸ hm') hhi
    · exact absurd (h2.eq_of_out hlo ▸ hm') hlo
  refine ⟨fun r hr => ?_, List.pairwise_cons.2 ⟨fun r hr hc => ?_, List.Pairwise.imp_of_mem (fun {a c} ha hc hn hac => hn (back (h.1 a ha) (h.1 c hc) hac)) h.2.1⟩, fun k hk => ?_⟩
  · rcases List.mem_cons.1 hr with rfl | hr
    · exact (ends_add hm _).2 (.inl rfl)
    · exact (ends_add hm r).2 (.inr (.inr (h.1 r hr)))
  · have hr' := h.1 r hr
    rcases conn_add hm hc with h' | ⟨_, h2⟩ | ⟨h1, _⟩
    · exact hlo (h'.eq_of_out hlo ▸ hr')
    · exact hhi (h2.eq_of_out hhi ▸ hr')
    · have e := h1.eq_of_out hlo
      have := congrArg Knot.y e
      simp only [Bar.lo, Bar.hi] at this
      omega
  · rcases (ends_add hm k).1 hk with rfl | rfl | hk
    · exact ⟨_, by simp, .refl _⟩
    · exact ⟨_, by simp, conn_bar hm⟩
    · obtain ⟨r, hr, hrk⟩ := h.2.2 k hk
      exact ⟨r, by simp [hr], conn_more hm hrk⟩

/-! ### the knots of a list with one bar more -/
theorem lo_ne_hi (b : Bar) : b.lo ≠ b.hi := fun e => by
  have := congrArg Knot.y e
  simp only [Bar.lo, Bar.hi] at this
  omega
theorem nK_cons {ks : List Knot} (h : ks.Nodup) {l : List Bar} (hm : ∀ k, k ∈ ks ↔ k ∈ ends l) : nK l = ks.length := (nK_eq h hm).symm
theorem nK_more {l l' : List Bar} {b : Bar} (hm : ∀ x, x ∈ l' ↔ x = b ∨ x ∈ l) : nK l' = nK l + (if b.lo ∈ ends l then 0 else 1) + (if b.hi ∈ ends l then 0 else 1) := by
  have hn := nub_nodup (ends l)
  have hne := lo_ne_hi b
  by_cases h1 : b.lo ∈ ends l <;> by_cases h2 : b.hi ∈ ends l
  · rw [if_pos h1, if_pos h2]
    exact nK_cons hn fun k => by
      rw [mem_nub, ends_add hm]
      constructor
      · exact fun h => .inr (.inr h)
      · rintro (rfl | rfl | h)
        · exact h1
        · exact h2
        · exact h
  · rw [if_pos h1, if_neg h2]
    refine (nK_cons (ks := b.hi :: nub (ends l)) (List.nodup_cons.2 ⟨fun h => h2 (mem_nub.1 h), hn⟩) fun k => ?_).trans (by simp [nK])
    rw [List.mem_cons, mem_nub, ends_add hm]
    constructor
    · rintro (h | h)
      · exact .inr (.inl h)
      · exact .inr (.inr h)
    · rintro (rfl | h | h)
      · exact .inr h1
      · exact .inl h
      · exact .inr h
  · rw [if_neg h1, if_pos h2]
    refine (nK_cons (ks := b.lo :: nub (ends l)) (List.nodup_cons.2 ⟨fun h => h1 (mem_nub.1 h), hn⟩) fun k => ?_).trans (by simp [nK])
    rw [List.mem_cons, mem_nub, ends_add hm]
    constructor
    · rintro (h | h)
      · exact .inl h
      · exact .inr (.inr h)
    · rintro (h | rfl | h)
      · exact .inl h
      · exact .inr h2
      · exact .inr h
  · rw [if_neg h1, if_neg h2]
    refine (nK_cons (ks := b.lo :: b.hi :: nub (ends l)) (List.nodup_cons.2 ⟨fun h => ?_, List.nodup_cons.2 ⟨fun h => h2 (mem_nub.1 h), hn⟩⟩) fun k => ?_).trans (by simp [nK])
    · rcases List.mem_cons.1 h with h | h
      · exact hne h
      · exact h1 (mem_nub.1 h)
    · rw [List.mem_cons, List.mem_cons, mem_nub, ends_add hm]

/-- Bars and parts, less the knots: a bar more between connected knots makes it one more, any other one leaves it. -/
theorem rank_more {l l' : List Bar} {b : Bar} (hm : ∀ x, x ∈ l' ↔ x = b ∨ x ∈ l) {p p' : Nat} (hp : PartsIs l p) (hp' : PartsIs l' p') :
    (b.lo ∈ ends l ∧ b.hi ∈ ends l ∧ Conn l b.lo b.hi ∧ p' = p ∧ nK l' = nK l) ∨ (¬ (b.lo ∈ ends l ∧ b.hi ∈ ends l ∧ Conn l b.lo b.hi) ∧ 1 + p' + nK l = p + nK l') := by
  obtain ⟨R, hR, rfl⟩ := hp.rep
  have hk := nK_more hm
  by_cases h1 : b.lo ∈ ends l <;> by_cases h2 : b.hi ∈ ends l
  · by_cases hc : Conn l b.lo b.hi
    · exact .inl ⟨h1, h2, hc, hp'.eq_rep (rep_same hm h1 h2 hc hR), by rw [hk, if_pos h1, if_pos h2, Nat.add_zero]⟩
    · obtain ⟨R', hR', hl⟩ := rep_less hm h1 h2 hc hR
      have := hp'.eq_rep hR'
      rw [if_pos h1, if_pos h2] at hk
      exact .inr ⟨fun h => hc h.2.2, by omega⟩
  · have := hp'.eq_rep (rep_hang hm (.inl ⟨h1, h2⟩) hR)
    rw [if_pos h1, if_neg h2] at hk
    exact .inr ⟨fun h => h2 h.2.1, by omega⟩
  · have := hp'.eq_rep (rep_hang hm (.inr ⟨h1, h2⟩) hR)
    rw [if_neg h1, if_pos h2] at hk
    exact .inr ⟨fun h => h1 h.1, by omega⟩
  · have := hp'.eq_rep (rep_more hm h1 h2 hR)
    rw [List.length_cons] at this
    rw [if_neg h1, if_neg h2] at hk
    exact .inr ⟨fun h => h1 h.1, by omega⟩

/-! ### no net has fewer than 0 holes -/
theorem countP_one {l : List Bar} (hn : l.Nodup) (P P' : Bar → Bool) (x0 : Bar) (h : ∀ x ∈ l, P' x = true → P x = true ∨ x = x0) : l.countP P' ≤ l.countP P + 1 := by
  induction l with
  | nil => simp
  | cons a r ih =>
    obtain ⟨h1, h2⟩ := List.nodup_cons.1 hn
    by_cases ha : a = x0
    · have : r.countP P' ≤ r.countP P := List.countP_mono_left fun x hx hp => by
        rcases h x (by simp [hx]) hp with h' | h'
        · exact h'
        · subst h'; exact absurd (ha ▸ hx) h1
      rw [List.countP_cons, List.countP_cons]
      split <;> split <;> omega
    · have := ih h2 fun x hx => h x (by simp [hx])
      have hh := h a (by simp)
      rw [List.countP_cons, List.countP_cons]
      by_cases hp : P' a = true
      · rcases hh hp with h' | h'
        · simp [hp, h']; omega
        · exact absurd h' ha
      · simp [hp]
        split <;> omega
theorem euler_snoc {l : List Bar} {b : Bar} (hN : Net (l ++ [b])) : nM (l ++ [b]) ≤ nM l ∨ (nM (l ++ [b]) ≤ nM l + 1 ∧ b.lo ∈ ends l ∧ b.hi ∈ ends l ∧ Conn l b.lo b.hi) := by
  have hlt : ∀ x ∈ l, Blt x b := fun x hx => (List.pairwise_append.1 hN.2).2.2 x hx b (by simp)
  have hnd : l.Nodup := (List.nodup_append.1 hN.nodup).1
  have hin : ∀ x, x ∈ l ++ [b] ↔ x ∈ l ∨ x = b := fun x => by simp
  have hb : isMesh (l ++ [b]) b = false := by
    have hno : (⟨b.x - 1, b.y + 1, 1⟩ : Bar) ∉ l ++ [b] := fun h => by
      rcases (hin _).1 h with h | h
      · have := hlt _ h
        unfold Blt at this
        simp only at this
        omega
      · have := congrArg Bar.y h
        simp only at this
        omega
    simp [isMesh, hno]
  have hcount : nM (l ++ [b]) = l.countP (isMesh (l ++ [b])) := by
    rw [nM, List.countP_append]
    simp [hb]
  have hlast : ∀ x ∈ l, isMesh (l ++ [b]) x = true → isMesh l x = true ∨ (b = ⟨x.x + 1, x.y + 1, -1⟩ ∧ x.s = -1 ∧ (⟨x.x, x.y, 1⟩ : Bar) ∈ l ∧ (⟨x.x - 1, x.y + 1, 1⟩ : Bar) ∈ l) := fun x hx hm => by
    simp only [isMesh, Bool.and_eq_true, decide_eq_true_eq] at hm ⊢
    obtain ⟨m1, m2, m3, m4⟩ := hm
    rcases (hin _).1 m4 with h4 | h4
    · have g4 := hlt _ h4
      have h2 : (⟨x.x, x.y, 1⟩ : Bar) ∈ l := by
        rcases (hin _).1 m2 with h | h
        · exact h
        · rw [← h] at g4; unfold Blt at g4; simp only at g4; omega
      have h3 : (⟨x.x - 1, x.y + 1, 1⟩ : Bar) ∈ l := by
        rcases (hin _).1 m3 with h | h
        · exact h
        · rw [← h] at g4; unfold Blt at g4; simp only at g4; omega
      exact .inl ⟨m1, h2, h3, h4⟩
    · have h2 : (⟨x.x, x.y, 1⟩ : Bar) ∈ l := by
        rcases (hin _).1 m2 with h | h
        · exact h
        · rw [← h] at h4
          have := congrArg Bar.y h4
          simp only at this
          omega
      have h3 : (⟨x.x - 1, x.y + 1, 1⟩ : Bar) ∈ l := by
        rcases (hin _).1 m3 with h | h
        · exact h
        · rw [← h] at h4
          have := congrArg Bar.x h4
          simp only at this
          omega
      exact .inr ⟨h4.symm, m1, h2, h3⟩
  by_cases hnew : ∃ x ∈ l, b = ⟨x.x + 1, x.y + 1, -1⟩ ∧ x.s = -1 ∧ (⟨x.x, x.y, 1⟩ : Bar) ∈ l ∧ (⟨x.x - 1, x.y + 1, 1⟩ : Bar) ∈ l
  · obtain ⟨x, hx, hbx, hs, h2, h3⟩ := hnew
    refine .inr ⟨?_, ?_⟩
    · rw [hcount, nM]
      refine countP_one hnd _ _ x fun z hz hm => ?_
      rcases hlast z hz hm with h | ⟨h, hzs, _, _⟩
      · exact .inl h
      · right
        rw [hbx] at h
        obtain ⟨e1, e2, _⟩ := (Bar.mk.injEq ..).mp h
        exact Bar.ext' (by omega) (by omega) (by omega)
    · have c1 : Conn l ⟨x.x + 1, x.y + 1⟩ ⟨x.x, x.y⟩ := .one h2 (.inr ⟨rfl, rfl⟩)
      have c2 : Conn l ⟨x.x, x.y⟩ ⟨x.x - 1, x.y + 1⟩ := .one hx (.inl ⟨rfl, by simp [Bar.hi, hs]; omega⟩)
      have c3 : Conn l ⟨x.x - 1, x.y + 1⟩ ⟨x.x, x.y + 2⟩ := .one h3 (.inl ⟨rfl, by simp [Bar.hi]; omega⟩)
      have e1 : b.lo = ⟨x.x + 1, x.y + 1⟩ := by rw [hbx]; rfl
      have e2 : b.hi = ⟨x.x, x.y + 2⟩ := by rw [hbx]; simp [Bar.hi]; omega
      rw [e1, e2]
      refine ⟨mem_ends.2 ⟨_, h2, .inr rfl⟩, mem_ends.2 ⟨_, h3, .inr (by simp [Bar.hi]; omega)⟩, (c1.trans c2).trans c3⟩
  · left
    rw [hcount, nM]
    refine List.countP_mono_left fun z hz hm => ?_
    rcases hlast z hz hm with h | h
    · exact h
    · exact absurd ⟨z, hz, h⟩ hnew
theorem euler : ∀ (n : Nat) {l : List Bar}, l.length = n → Net l → ∀ {p : Nat}, PartsIs l p → nM l + nK l ≤ l.length + p
  | 0, l, hl, _, _, _ => by
    have : l = [] := List.eq_nil_of_length_eq_zero hl
    subst this
    simp [nM, nK, ends, nub]
  | n + 1, l, hl, hN, p, hp => by
    have hne : l ≠ [] := fun e => by subst e; simp at hl
    obtain ⟨r, b, rfl⟩ : ∃ r b, l = r ++ [b] := ⟨l.dropLast, l.getLast hne, (List.dropLast_concat_getLast hne).symm⟩
    have hN' : Net r := ⟨fun x hx => hN.1 x (by simp [hx]), (List.pairwise_append.1 hN.2).1⟩
    obtain ⟨q, hq⟩ := CntIs.total (l := r) r []
    have ih := euler n (by simpa using hl) hN' hq
    have hm : ∀ x, x ∈ r ++ [b] ↔ x = b ∨ x ∈ r := fun x => by simp [or_comm]
    have hr := rank_more hm hq hp
    have hs := euler_snoc hN
    rw [List.length_append, List.length_singleton]
    rcases hr with ⟨_, _, _, e1, e2⟩ | ⟨hn, e⟩
    · rcases hs with h | ⟨h, _⟩ <;> omega
    · rcases hs with h | ⟨_, h1, h2, h3⟩
      · omega
      · exact absurd ⟨h1, h2, h3⟩ hn
end Go.Proofs.Ythihjphcjjpjpaa.Ck

/- Edges of tapers: plain mathematics of the bars that a word follows. -/
namespace Go.Proofs.Ythihjphcjjpjpaa
open Ck

def dxL (c : UInt8) : Int := if c = 84 then 2 else if c = 66 then 1 else 0
def dyL (c : UInt8) : Int := if c = 78 then 2 else if c = 66 then 1 else 0
def isL (c : UInt8) : Prop := c = 78 ∨ c = 66 ∨ c = 84
def stepK (σ : Int) (k : Knot) (c : UInt8) : Knot := ⟨k.x + σ * dxL c, k.y + dyL c⟩
def barsP (σ : Int) : Knot → List UInt8 → List Bar
  | _, [] => []
  | k, c :: r => if c = 66 then ⟨k.x, k.y, σ⟩ :: barsP σ (stepK σ k c) r else barsP σ (stepK σ k c) r
/-- Does the word begin with a bar? -/
def headB : List UInt8 → Bool
  | 66 :: _ => true
  | _ => false
/-- The runs of bars, counted at their ends. -/
def endsR : List UInt8 → Nat
  | [] => 0
  | c :: r => (if c = 66 then (if headB r = true then 0 else 1) else 0) + endsR r
def barsN (l : List UInt8) : Nat := l.countP fun c => decide (c = 66)

theorem dyL_nonneg (c : UInt8) : 0 ≤ dyL c := by unfold dyL; split <;> (try split) <;> omega
theorem step_y (σ : Int) (k : Knot) (c : UInt8) : (stepK σ k c).y = k.y + dyL c := rfl
theorem step_B (σ : Int) (k : Knot) : stepK σ k 66 = ⟨k.x + σ, k.y + 1⟩ := by simp [stepK, dxL, dyL]
theorem barsP_cons (σ : Int) (k : Knot) (c : UInt8) (r : List UInt8) : barsP σ k (c :: r) = if c = 66 then ⟨k.x, k.y, σ⟩ :: barsP σ (stepK σ k c) r else barsP σ (stepK σ k c) r := rfl
theorem barsP_ge {σ : Int} : ∀ {l : List UInt8} {k : Knot} {b : Bar}, b ∈ barsP σ k l → k.y ≤ b.y ∧ b.s = σ
  | [], _, _, h => by simp [barsP] at h
  | c :: r, k, b, h => by
    have hd := dyL_nonneg c
    rw [barsP_cons] at h
    split at h
    · rcases List.mem_cons.1 h with rfl | h
      · exact ⟨Int.le_refl _, rfl⟩
      · have := barsP_ge h
        rw [step_y] at this
        exact ⟨by omega, this.2⟩
    · have := barsP_ge h
      rw [step_y] at this
      exact ⟨by omega, this.2⟩
theorem barsP_pair {σ : Int} : ∀ (l : List UInt8) (k : Knot), (barsP σ k l).Pairwise fun a b => a.y < b.y
  | [], _ => by simp [barsP]
  | c :: r, k => by
    rw [barsP_cons]
    split
    · rename_i h
      subst h
      refine List.pairwise_cons.2 ⟨fun b hb => ?_, barsP_pair r _⟩
      have := (barsP_ge hb).1
      rw [step_B] at this
      simp only at this ⊢
      omega
    · exact barsP_pair r _
theorem barsP_length {σ : Int} : ∀ (l : List UInt8) (k : Knot), (barsP σ k l).length = barsN l
  | [], _ => rfl
  | c :: r, k => by
    rw [barsP_cons, barsN, List.countP_cons]
    split
    · rename_i h
      simp [h, barsP_length r, barsN]
    · rename_i h
      simp [h, barsP_length r, barsN]
/-- The height of a knot along the way: each letter adds 2. -/
theorem ends_far {σ : Int} (hσ : σ = 1 ∨ σ = -1) : ∀ {l : List UInt8} {k e : Knot}, (∀ c ∈ l, isL c) → e ∈ ends (barsP σ k l) → σ * k.x + k.y ≤ σ * e.x + e.y
  | [], _, _, _, h => by simp [barsP, ends] at h
  | c :: r, k, e, hl, h => by
    have hc := hl c (by simp)
    have hr : ∀ c ∈ r, isL c := fun c' h' => hl c' (by simp [h'])
    have hs : σ * (stepK σ k c).x + (stepK σ k c).y = σ * k.x + k.y + 2 := by
      rcases hc with rfl | rfl | rfl <;> rcases hσ with rfl | rfl <;> simp [stepK, dxL, dyL] <;> omega
    rw [barsP_cons] at h
    split at h
    · rename_i h66
      rw [mem_ends] at h
      obtain ⟨b, hb, he⟩ := h
      rcases List.mem_cons.1 hb with rfl | hb
      · rcases he with rfl | rfl
        · exact Int.le_refl _
        · rcases hσ with rfl | rfl <;> simp [Bar.hi] <;> omega
      · have := ends_far hσ hr (mem_ends.2 ⟨b, hb, he⟩)
        omega
    · have := ends_far hσ hr h
      omega
theorem start_end {σ : Int} (hσ : σ = 1 ∨ σ = -1) {l : List UInt8} {k : Knot} (hl : ∀ c ∈ l, isL c) : k ∈ ends (barsP σ k l) ↔ headB l = true := by
  match l with
  | [] => simp [barsP, ends, headB]
  | c :: r =>
    have hr : ∀ c ∈ r, isL c := fun c' h' => hl c' (by simp [h'])
    have hs : σ * (stepK σ k c).x + (stepK σ k c).y = σ * k.x + k.y + 2 := by
      rcases hl c (by simp) with rfl | rfl | rfl <;> rcases hσ with rfl | rfl <;> simp [stepK, dxL, dyL] <;> omega
    by_cases h66 : c = 66
    · subst h66
      refine ⟨fun _ => rfl, fun _ => mem_ends.2 ⟨⟨k.x, k.y, σ⟩, by rw [barsP_cons]; simp, .inl rfl⟩⟩
    · have hh : headB (c :: r) = false := by
        unfold headB
        split
        · rename_i h; cases h; exact absurd rfl h66
        · rfl
      rw [hh, barsP_cons, if_neg h66]
      refine ⟨fun h => ?_, fun h => by cases h⟩
      have := ends_far hσ hr h
      omega
/-- Knots and parts of an edge. -/
theorem barsP_parts {σ : Int} (hσ : σ = 1 ∨ σ = -1) : ∀ {l : List UInt8} {k : Knot}, (∀ c ∈ l, isL c) → PartsIs (barsP σ k l) (endsR l) ∧ nK (barsP σ k l) = barsN l + endsR l
  | [], k, _ => ⟨.nil _, by simp [barsP, nK, ends, nub, barsN, endsR]⟩
  | c :: r, k, hl => by
    have hr : ∀ c ∈ r, isL c := fun c' h' => hl c' (by simp [h'])
    obtain ⟨ih1, ih2⟩ := barsP_parts hσ (l := r) (k := stepK σ k c) hr
    by_cases h66 : c = 66
    · subst h66
      rw [barsP_cons, if_pos rfl]
      have hm : ∀ x, x ∈ (⟨k.x, k.y, σ⟩ :: barsP σ (stepK σ k 66) r : List Bar) ↔ x = (⟨k.x, k.y, σ⟩ : Bar) ∨ x ∈ barsP σ (stepK σ k 66) r := fun x => List.mem_cons
      obtain ⟨p', hp'⟩ := CntIs.total (l := ⟨k.x, k.y, σ⟩ :: barsP σ (stepK σ k 66) r) (⟨k.x, k.y, σ⟩ :: barsP σ (stepK σ k 66) r) []
      have hlo : (⟨k.x, k.y, σ⟩ : Bar).lo ∉ ends (barsP σ (stepK σ k 66) r) := fun h => by
        have := ends_far hσ hr h
        rw [step_B] at this
        rcases hσ with rfl | rfl <;> simp [Bar.lo] at this <;> omega
      have hhi : (⟨k.x, k.y, σ⟩ : Bar).hi ∈ ends (barsP σ (stepK σ k 66) r) ↔ headB r = true := by
        rw [← start_end hσ (k := stepK σ k 66) hr, step_B]
        exact Iff.rfl
      have hk := nK_more hm
      rw [if_neg hlo] at hk
      have he : endsR (66 :: r) = (if headB r = true then 0 else 1) + endsR r := by simp [endsR]
      have hn : barsN (66 :: r) = barsN r + 1 := by simp [barsN]
      rcases rank_more hm ih1 hp' with h | ⟨_, h⟩
      · exact absurd h.1 hlo
      · by_cases hb : headB r = true
        · rw [if_pos (hhi.2 hb)] at hk
          rw [if_pos hb] at he
          have : p' = endsR (66 :: r) := by omega
          subst this
          exact ⟨hp', by omega⟩
        · rw [if_neg (fun h' => hb (hhi.1 h'))] at hk
          rw [if_neg hb] at he
          have : p' = endsR (66 :: r) := by omega
          subst this
          exact ⟨hp', by omega⟩
    · have he : endsR (c :: r) = endsR r := by simp [endsR, h66]
      have hn : barsN (c :: r) = barsN r := by simp [barsN, h66]
      rw [barsP_cons, if_neg h66, he, hn]
      exact ⟨ih1, ih2⟩
theorem barsP_meshes {σ : Int} (l : List UInt8) (k : Knot) : nM (barsP σ k l) = 0 := by
  rw [nM, List.countP_eq_zero]
  intro b hb h
  simp only [isMesh, Bool.and_eq_true, decide_eq_true_eq] at h
  have h1 := (barsP_ge hb).2
  have h2 := (barsP_ge h.2.1).2
  simp only at h2
  omega
/-- The runs of bars, counted at their beginnings; the letter before them is known. -/
def startsR : UInt8 → List UInt8 → Nat
  | _, [] => 0
  | a, c :: r => (if c = 66 ∧ a ≠ 66 then 1 else 0) + startsR c r
theorem starts_ends : ∀ (l : List UInt8) (a : UInt8), startsR a l + (if a = 66 ∧ headB l = true then 1 else 0) = endsR l
  | [], a => by simp [startsR, endsR, headB]
  | c :: r, a => by
    have ih := starts_ends r c
    have hh : headB (c :: r) = decide (c = 66) := by
      by_cases h : c = 66
      · subst h; rfl
      · unfold headB
        split
        · rename_i h'; cases h'; exact absurd rfl h
        · simp [h]
    rw [startsR, endsR, hh]
    by_cases h1 : c = 66 <;> by_cases h2 : a = 66 <;> by_cases h3 : headB r = true <;> simp [h1, h2, h3] at ih ⊢ <;> omega
/-- Mirrored and shifted edges. -/
def mirB (b : Bar) : Bar := ⟨-b.x, b.y, -b.s⟩
theorem barsP_mirror (σ : Int) : ∀ (l : List UInt8) (k : Knot), barsP (-σ) ⟨-k.x, k.y⟩ l = (barsP σ k l).map mirB
  | [], _ => rfl
  | c :: r, k => by
    have hs : stepK (-σ) ⟨-k.x, k.y⟩ c = ⟨-(stepK σ k c).x, (stepK σ k c).y⟩ := by
      simp only [stepK, Int.neg_mul, Int.neg_add]
    rw [barsP_cons, barsP_cons, hs, barsP_mirror σ r]
    split <;> simp [mirB]
def shB (dx dy : Int) (b : Bar) : Bar := ⟨b.x + dx, b.y + dy, b.s⟩
theorem barsP_shift (σ dx dy : Int) : ∀ (l : List UInt8) (k : Knot), barsP σ ⟨k.x + dx, k.y + dy⟩ l = (barsP σ k l).map (shB dx dy)
  | [], _ => rfl
  | c :: r, k => by
    have hs : stepK σ ⟨k.x + dx, k.y + dy⟩ c = ⟨(stepK σ k c).x + dx, (stepK σ k c).y + dy⟩ := by
      simp only [stepK, Knot.mk.injEq]
      omega
    rw [barsP_cons, barsP_cons, hs, barsP_shift σ dx dy r]
    split <;> simp [shB]
theorem barsP_lt {σ : Int} (l : List UInt8) (k : Knot) : (barsP σ k l).Pairwise Blt := (barsP_pair l k).imp fun {a b} h => .inl h
/-- How far a word leads. -/
theorem barsP_near {σ : Int} (hσ : σ = 1 ∨ σ = -1) : ∀ {l : List UInt8} {k : Knot} {b : Bar}, b ∈ barsP σ k l → k.x - 2 * (l.length : Int) ≤ b.x ∧ b.x ≤ k.x + 2 * (l.length : Int) ∧ b.y ≤ k.y + 2 * (l.length : Int) ∧ (((k.x + k.y) % 2 = 0 → (∀ c ∈ l, isL c) → (b.x + b.y) % 2 = 0))
  | [], _, _, h => by simp [barsP] at h
  | c :: r, k, b, h => by
    have hd : 0 ≤ dxL c ∧ dxL c ≤ 2 ∧ 0 ≤ dyL c ∧ dyL c ≤ 2 ∧ (isL c → dxL c + dyL c = 2) := by
      refine ⟨?_, ?_, ?_, ?_, fun h => ?_⟩
      · unfold dxL; split <;> (try split) <;> omega
      · unfold dxL; split <;> (try split) <;> omega
      · unfold dyL; split <;> (try split) <;> omega
      · unfold dyL; split <;> (try split) <;> omega
      · rcases h with rfl | rfl | rfl <;> simp [dxL, dyL]
    have hx : (stepK σ k c).x = k.x + σ * dxL c := rfl
    have hrec : b ∈ barsP σ (stepK σ k c) r → k.x - 2 * ((c :: r).length : Int) ≤ b.x ∧ b.x ≤ k.x + 2 * ((c :: r).length : Int) ∧ b.y ≤ k.y + 2 * ((c :: r).length : Int) ∧ (((k.x + k.y) % 2 = 0 → (∀ c' ∈ c :: r, isL c') → (b.x + b.y) % 2 = 0)) := fun hb => by
      obtain ⟨h1, h2, h3, h4⟩ := barsP_near hσ hb
      rw [hx] at h1 h2
      rw [step_y] at h3
      simp only [List.length_cons]
      refine ⟨?_, ?_, ?_, fun he hl => h4 ?_ fun c' h' => hl c' (by simp [h'])⟩
      · rcases hσ with rfl | rfl <;> omega
      · rcases hσ with rfl | rfl <;> omega
      · omega
      · have := hd.2.2.2.2 (hl c (by simp))
        rw [hx, step_y]
        rcases hσ with rfl | rfl <;> omega
    rw [barsP_cons] at h
    split at h
    · rcases List.mem_cons.1 h with rfl | h
      · simp only [List.length_cons]
        exact ⟨by omega, by omega, by omega, fun he _ => he⟩
      · exact hrec h
    · exact hrec h
end Go.Proofs.Ythihjphcjjpjpaa

/- Contracts of the small functions of taper, and of the reference's. -/
namespace Go.Proofs.Ythihjphcjjpjpaa
open Go.RowKit

set_option maxHeartbeats 400000 in
theorem tpCheckRange (n lo hi : Int) (w : World) :
    Calls Try.prog 61 #[.int .i64 n, .int .i64 lo, .int .i64 hi] w fun e w' => e = .returned (.int .i64 (if n < lo ∨ hi < n then 3 else 0)) ∧ w = w' := by
  by_cases h1 : n < lo
  · go_enter Try.func61, Try.ntmps61
    go_wp2
    go_ret
    simp
  · by_cases h2 : hi < n
    all_goals
      go_enter Try.func61, Try.ntmps61
      go_wp2
      go_ret
      simp <;> omega

set_option maxHeartbeats 400000 in
theorem tpFirst (b c : Nat) (es : List Int) (w : World) (hn : es.length ≤ 100) (hc : ∀ i (h : i < es.length), w.cell? ⟨b, i, none⟩ = some (.int .i64 es[i])) :
    Calls Try.prog 60 #[.slice (some ⟨b, 0, none⟩) es.length c] w fun e w' => e = .returned (.int .i64 (firstE es)) ∧ w = w' := by
  have HC := Lib.hid hc
  have hn' : (es.length : Int) ≤ 100 := by omega
  clear hc
  go_enter Try.func60, Try.ntmps60
  go_wp2_with fail
  go_loop [4, 7] (fun _ i => ∃ k : Nat, k ≤ es.length ∧ i = .int .i64 k ∧ firstE es = firstE (es.drop k)) (fun _ i => es.length - (intOf i).toNat)
  case atStart => exact ⟨0, Nat.zero_le _, rfl, rfl⟩
  case round =>
    obtain ⟨k, hk, rfl, he⟩ := hrel
    have HE := Lib.hid he
    clear he
    by_cases hlt : k < es.length
    · have hcell := HC.out k hlt
      by_cases hz : es[k] = 0
      · have HF := Lib.hid (show firstE (es.drop k) = firstE (es.drop (k + 1)) by
          rw [List.drop_eq_getElem_cons hlt]
          simp only [firstE, hz, if_true])
        rw [hz] at hcell
        clear hz
        go_wp2
        go_round
        case rel => exact ⟨k + 1, by omega, by go_num, HE.out.trans HF.out⟩
        case measure => simp [intOf]; omega
      · have HF := Lib.hid (show firstE (es.drop k) = es[k] by
          rw [List.drop_eq_getElem_cons hlt]
          simp only [firstE, if_neg hz])
        have hz1 : (es[k] != 0) = true := by rw [bne_iff_ne]; exact hz
        clear hz
        go_wp2
        go_ret
        exact ⟨ret_i (HE.out.trans HF.out).symm, rfl⟩
    · obtain rfl : k = es.length := by omega
      have HF := Lib.hid (show firstE (es.drop es.length) = 0 by rw [List.drop_length]; rfl)
      go_wp2
      go_ret
      exact ⟨ret_i (HE.out.trans HF.out).symm, rfl⟩

theorem tpFirst2 (g d : Nat) (a b : Int) (t : TypeId) (w : World) (h : w.heap[g]? = some (.cells #[.int .i64 a, .int .i64 b] t (0, 0))) :
    Calls Try.prog 60 #[.slice (some ⟨g, 0, none⟩) 2 d] w fun e w' => e = .returned (.int .i64 (firstE [a, b])) ∧ w = w' :=
  tpFirst g d [a, b] w (by simp) (two_cells h)
theorem tpFirst3 (g d : Nat) (a b c : Int) (t : TypeId) (w : World) (h : w.heap[g]? = some (.cells #[.int .i64 a, .int .i64 b, .int .i64 c] t (0, 0))) :
    Calls Try.prog 60 #[.slice (some ⟨g, 0, none⟩) 3 d] w fun e w' => e = .returned (.int .i64 (firstE [a, b, c])) ∧ w = w' :=
  tpFirst g d [a, b, c] w (by simp) (three_err h)

/-! ### letters -/
def okC (c : UInt8) : Bool := c = 78 || c = 66 || c = 84
theorem okC_iff (c : UInt8) : okC c = true ↔ isL c := by simp [okC, isL, or_assoc]
set_option maxHeartbeats 400000 in
theorem tpIsLetter (c : UInt8) (w : World) (h : isL c) : Calls Try.prog 89 #[.int .i32 c.toNat] w fun e w' => e = .returned (.bool true) ∧ w = w' := by
  rcases h with rfl | rfl | rfl
  all_goals
    go_enter Try.func89, Try.ntmps89
    go_wp2
    go_ret
    exact ⟨rfl, rfl⟩
set_option maxHeartbeats 400000 in
theorem refIsLetter (c : UInt8) (w : World) : Calls Try.prog 53 #[.int .u8 c.toNat] w fun e w' => e = .returned (.bool (okC c)) ∧ w = w' := by
  by_cases h : isL c
  · have hk : okC c = true := (okC_iff c).2 h
    rw [hk]
    clear hk
    rcases h with rfl | rfl | rfl
    all_goals
      go_enter Try.func53, Try.ntmps53
      go_wp2
      go_ret
      exact ⟨rfl, rfl⟩
  · have hk : okC c = false := by rw [Bool.eq_false_iff]; exact fun h' => h ((okC_iff c).1 h')
    have n0 : ¬ (c.toNat : Int) = 78 := fun e => h (.inl (UInt8.toNat.inj (by show c.toNat = 78; omega)))
    have n1 : ¬ (c.toNat : Int) = 66 := fun e => h (.inr (.inl (UInt8.toNat.inj (by show c.toNat = 66; omega))))
    have n2 : ¬ (c.toNat : Int) = 84 := fun e => h (.inr (.inr (UInt8.toNat.inj (by show c.toNat = 84; omega))))
    rw [hk]
    clear h hk
    go_enter Try.func53, Try.ntmps53
    go_wp2
    go_ret
    simp [n0, n1, n2]
set_option maxHeartbeats 400000 in
theorem tpCheckLength (n : Int) (w : World) (h : n ≤ 64) : Calls Try.prog 46 #[.int .i64 n] w fun e w' => e = .returned (.int .i64 0) ∧ w = w' := by
  go_enter Try.func46, Try.ntmps46
  go_wp2
  go_ret
  exact ⟨rfl, rfl⟩
set_option maxHeartbeats 800000 in
theorem refStep (c : UInt8) (w : World) (h : isL c) : Calls Try.prog 26 #[.int .u8 c.toNat] w fun e w' => e = .returned (.agg #[.int .i64 (dxL c), .int .i64 (dyL c)]) ∧ Below w.heap.size w w' := by
  rcases h with rfl | rfl | rfl
  all_goals
    go_enter Try.func26, Try.ntmps26
    go_wp2
    first
    | exact bodyPost_ret (v := .agg #[.int .i64 0, .int .i64 2]) (by simp [results, Try.results26, go_sem]) rfl ⟨rfl, (Below.refl _ _).alloc (Nat.le_refl _) _⟩
    | exact bodyPost_ret (v := .agg #[.int .i64 1, .int .i64 1]) (by simp [results, Try.results26, go_sem]) rfl ⟨rfl, (Below.refl _ _).alloc (Nat.le_refl _) _⟩
    | exact bodyPost_ret (v := .agg #[.int .i64 2, .int .i64 0]) (by simp [results, Try.results26, go_sem]) rfl ⟨rfl, (Below.refl _ _).alloc (Nat.le_refl _) _⟩

/-! ### further -/
set_option maxHeartbeats 1000000 in
theorem tpFurther (x y a b : Int) (o : Bool) (w : World) (hx1 : -200000 ≤ x) (hx2 : x ≤ 200000) (hy1 : -200000 ≤ y) (hy2 : y ≤ 200000) (ha1 : 0 ≤ a) (ha2 : a ≤ 2) (hb1 : 0 ≤ b) (hb2 : b ≤ 2) :
    Calls Try.prog 65 #[.agg #[.int .i64 x, .int .i64 y], .agg #[.int .i64 a, .int .i64 b], .bool o] w fun e w' => e = .returned (.agg #[.int .i64 (if o then x + a else x - a), .int .i64 (y + b)]) ∧ Below w.heap.size w w' := by
  cases o
  · go_enter Try.func65, Try.ntmps65
    go_wp2
    exact bodyPost_ret (v := .agg #[.int .i64 (x - a), .int .i64 (y + b)]) (by simp [results, Try.results65, go_sem]) rfl ⟨by simp, (((Below.refl _ _).alloc (Nat.le_refl _) _).alloc (by simp) _).alloc (by simp; omega) _⟩
  · go_enter Try.func65, Try.ntmps65
    go_wp2
    exact bodyPost_ret (v := .agg #[.int .i64 (x + a), .int .i64 (y + b)]) (by simp [results, Try.results65, go_sem]) rfl ⟨by simp, (((Below.refl _ _).alloc (Nat.le_refl _) _).alloc (by simp) _).alloc (by simp; omega) _⟩

/-! ### the reference's CheckWord -/
def wordE (l : List UInt8) : Int := if l = [] then 12 else if 64 < l.length then 26 else if l.all okC then 0 else 1
theorem byte_at (s : ByteArray) (k : Nat) (h : k < s.size) (h' : k < s.data.toList.length) : s.data.toList[k] = s[k] := by
  rw [Array.getElem_toList]
  rfl
set_option maxHeartbeats 1000000 in
theorem refCheckWord (s : ByteArray) (w : World) (hs : s.size ≤ 1000) :
    Calls Try.prog 23 #[.string s] w fun e w' => e = .returned (.int .i64 (wordE s.data.toList)) ∧ w = w' := by
  go_enter Try.func23, Try.ntmps23
  go_wp2_with fail
  · rename_i h
    go_ret
    have h0 : s.data.toList = [] := by rw [← Lib.toList_data]; exact List.isEmpty_iff.1 h
    exact ⟨by rw [h0]; rfl, rfl⟩
  · rename_i h1 _ _ h2
    go_ret
    rw [Lib.toList_data] at h1
    have h0 : ¬ s.data.toList = [] := fun e => by rw [e] at h1; cases h1
    have h3 : 64 < s.data.toList.length := by rw [← Lib.size_eq]; omega
    exact ⟨ret_i (by rw [wordE, if_neg h0, if_pos h3]), rfl⟩
  · rename_i h1 h2 _ _
    rw [Lib.toList_data] at h1
    have h0 : ¬ s.data.toList = [] := fun e => by rw [e] at h1; cases h1
    have hsz : s.data.toList.length = s.size := (Lib.size_eq s).symm
    have HW := Lib.hid (show wordE s.data.toList = if s.data.toList.all okC then 0 else 1 by simp only [wordE, if_neg h0]; rw [if_neg (by omega)])
    have HZ := Lib.hid hsz
    clear h1 h2 h0 hsz
    go_loop [3] (fun i => ∃ k : Nat, k ≤ s.size ∧ i = .int .i64 k ∧ (s.data.toList.take k).all okC = true) (fun i => s.size - (intOf i).toNat)
    case atStart => exact ⟨0, Nat.zero_le _, rfl, by simp⟩
    case round =>
      obtain ⟨k, hk, rfl, hall⟩ := hrel
      by_cases hlt : k < s.size
      · have b0 : (0 : Int) ≤ (k : Int) := by omega
        have b1 : (k : Int) < (s.size : Int) := by omega
        have HA := Lib.hid hall
        clear hall
        go_wp2_with fail
        refine (refIsLetter (s[k]) _).mono ?_
        rintro e w2 ⟨rfl, rfl⟩
        have hkl : k < s.data.toList.length := by rw [HZ.out]; exact hlt
        have hel : s.data.toList[k] = s[k] := byte_at s k hlt hkl
        by_cases hok : okC (s[k]) = true
        · have HA2 := Lib.hid (show (s.data.toList.take (k + 1)).all okC = true by
            rw [List.take_succ_eq_append_getElem hkl, List.all_append, HA.out, hel]
            simp [hok])
          rw [hok]
          clear hok hel
          go_wp2
          go_round
          case rel => exact ⟨k + 1, by omega, by go_num, HA2.out⟩
          case measure => simp [intOf]; omega
        · have hf : okC (s[k]) = false := by simpa using hok
          have HE := Lib.hid (show wordE s.data.toList = 1 by
            rw [HW.out, if_neg]
            intro h
            rw [List.all_eq_true] at h
            have := h _ (List.getElem_mem hkl)
            rw [hel, hf] at this
            cases this)
          rw [hf]
          clear hok hel hf
          go_wp2
          go_ret
          exact ⟨ret_i HE.out.symm, rfl⟩
      · have HE := Lib.hid (show wordE s.data.toList = 0 by
          rw [HW.out, if_pos]
          rwa [List.take_of_length_le (by rw [HZ.out]; omega)] at hall)
        clear hall
        go_wp2
        go_ret
        exact ⟨ret_i HE.out.symm, rfl⟩
end Go.Proofs.Ythihjphcjjpjpaa

/- Words without an error: checkLetters and CheckWord of taper. -/
namespace Go.Proofs.Ythihjphcjjpjpaa
open Go.RowKit

theorem isL_small {c : UInt8} (h : isL c) : c.toNat < 128 := by rcases h with rfl | rfl | rfl <;> decide
set_option maxHeartbeats 1000000 in
set_option maxRecDepth 100000 in
theorem tpCheckLetters (s : ByteArray) (w : World) (hl : ∀ c ∈ s.data.toList, isL c) :
    Calls Try.prog 78 #[.string s] w fun e w' => e = .returned (.int .i64 0) ∧ Below w.heap.size w w' := by
  have hk0 : (w.iter s 0).heap[w.heap.size]? = some (.stringIter s 0) := by have := World.iter_heap w s 0; simpa using this
  have hb0 : Below w.heap.size w (w.iter s 0) := (Below.refl _ w).alloc (Nat.le_refl _) _
  have HL := Lib.hid hl
  clear hl
  go_enter Try.func78, Try.ntmps78
  go_wp2_with fail
  go_loopw [4] (fun _ wr => ∃ pos : Nat, pos ≤ s.size ∧ wr.heap[w.heap.size]? = some (.stringIter s pos) ∧ Below w.heap.size w wr) (fun _ wr => s.size - wr.iterPos w.heap.size)
  case atStart => exact ⟨0, Nat.zero_le _, hk0, hb0⟩
  case round =>
    obtain ⟨pos, hps, hk, hb⟩ := hrel
    clear hk0 hb0
    by_cases hp : pos < s.size
    · have hkl : pos < s.data.toList.length := by rw [← Lib.size_eq]; exact hp
      have hL : isL (s[pos]) := by rw [← byte_at s pos hp hkl]; exact HL.out _ (List.getElem_mem hkl)
      have hnext : ∀ ty, (Instr.next (.pointer (some ⟨w.heap.size, 0, none⟩)) true ty).run Try.prog wr = _ := fun ty => Lib.run_next_ascii_at wr w.heap.size s pos ty hk hp (isL_small hL)
      have hk1 := Lib.iterAt_heap wr w.heap.size s pos (pos + 1) hk
      have hb1 : Below w.heap.size w (wr.iterAt w.heap.size s (pos + 1)) := Lib.below_iterAt hb (Nat.le_refl _) s (pos + 1)
      have hmu : wr.iterPos w.heap.size = pos := by simp [World.iterPos, hk]
      generalize wr.iterAt w.heap.size s (pos + 1) = W1 at hnext hk1 hb1
      go_wp2_with fail
      refine (tpIsLetter (s[pos]) _ hL).mono ?_
      rintro e w2 ⟨rfl, rfl⟩
      go_wp2
      go_roundw
      case rel => exact ⟨pos + 1, by omega, hk1, hb1⟩
      case measure =>
        have hmu2 : W1.iterPos w.heap.size = pos + 1 := by simp [World.iterPos, hk1]
        rw [hmu, hmu2]
        omega
    · have hnext : ∀ ty, (Instr.next (.pointer (some ⟨w.heap.size, 0, none⟩)) true ty).run Try.prog wr = _ := fun ty => Lib.run_next_end_at wr w.heap.size s pos ty hk hp
      go_wp2
      go_ret
      exact ⟨rfl, hb⟩
/-- A word without an error. -/
def Word (s : ByteArray) : Prop := (∀ c ∈ s.data.toList, isL c) ∧ 1 ≤ s.size ∧ s.size ≤ 64
theorem wordE_zero {s : ByteArray} (h : wordE s.data.toList = 0) : Word s := by
  have hz := Lib.size_eq s
  unfold wordE at h
  split at h
  · cases h
  · rename_i h1
    split at h
    · cases h
    · rename_i h2
      split at h
      · rename_i h3
        rw [List.all_eq_true] at h3
        refine ⟨fun c hc => (okC_iff c).1 (h3 c hc), ?_, by omega⟩
        cases hl : s.data.toList with
        | nil => exact absurd hl h1
        | cons a r => rw [hz, hl]; simp
      · cases h
set_option maxHeartbeats 1000000 in
set_option maxRecDepth 100000 in
theorem tpCheckWord (s : ByteArray) (w : World) (h : Word s) :
    Calls Try.prog 49 #[.string s] w fun e w' => e = .returned (.int .i64 0) ∧ Below w.heap.size w w' := by
  obtain ⟨hl, h1, h2⟩ := h
  have hne : s.toList.isEmpty = false := by
    rw [Lib.toList_data]
    have := Lib.size_eq s
    cases hs : s.data.toList with
    | nil => rw [hs, List.length_nil] at this; omega
    | cons a r => rfl
  have hn64 : (s.size : Int) ≤ 64 := by omega
  go_enter Try.func49, Try.ntmps49
  go_wp2_with fail
  refine (tpCheckLength _ _ hn64).mono ?_
  rintro e w1 ⟨rfl, rfl⟩
  go_wp2_with fail
  refine (tpCheckLetters s _ hl).mono ?_
  rintro e w2 ⟨rfl, hb⟩
  go_wp2_with fail
  refine (tpFirst2 _ _ 0 0 32 _ (by exact heap_alloc_new _ _)).mono ?_
  rintro e w3 ⟨rfl, rfl⟩
  rw [show firstE [0, 0] = 0 from rfl]
  go_wp2
  go_ret
  exact ⟨rfl, hb.alloc hb.size _⟩
end Go.Proofs.Ythihjphcjjpjpaa
