/- Helpers: D3. -/
import Derived.Test.YtdeplhihcifmeaaGreatDoorD2
import Derived.Deep.RegionLaw
import Derived.RangeFuncNested
import Derived.RangeFuncBound
import Derived.RangeFuncCalls
import Derived.RangeFuncLeaves
import Derived.Shelf.Abstract
import Derived.OwnWalkIn
import Derived.TacticsInMore
import Derived.LoopNIn
import Derived.LoopIn
import Derived.Shelf.AbstractIn
import Derived.Test.YtdeplhihcifmeaaGreatDoorRows
import Derived.Shelf.LaysC
import Derived.Shelf.Strings.Cut
import Derived.Shelf.Strings.Split
import Derived.Shelf.Small.Strs
import Derived.Shelf.Small.Wraps
import Derived.Shelf.Strconv.AtoiAll
import Derived.Laws.OwnMore
import Derived.Laws.CopyOwn
/- The contract of partsOf: a slice with as many parts as the net has. -/
namespace Go.Proofs.YtdeplhihcifmeaaGreatDoor
open Go.RowKit

theorem Tryz.info24 : (Tryz.prog.info? 24).map (fun i => (i.zero, i.size, i.bytes)) = some (some (.agg #[.int .i64 0, .int .i64 0, .int .i64 0]), 3, 24) := by kernel_rfl
theorem Tryz.info22 : (Tryz.prog.info? 22).map (fun i => (i.zero, i.size, i.bytes)) = some (some (.slice none 0 0), 1, 24) := by kernel_rfl
def zeros (n : Nat) : Array Value := madeCells (Value.slice none 0 0).cells (n * 1)
theorem Heads.made (w : World) (base n : Nat) (_ : base ≤ w.heap.size) : Heads (w.alloc (.cells (zeros n) 22)) base w.heap.size n 0 (zeros n) where
  blk := heap_alloc_new _ _
  size := by rw [zeros, size_madeCells]; omega
  own j hj := by
    have : (zeros n)[j] = .slice none 0 0 := by simp [zeros, madeCells, Value.cells, Nat.mod_one]
    rw [this]
    exact ⟨0, [], World.ownsRow_nil _ _ _ _, Nat.le_refl _⟩
  apart j j' hj hj' _ := by
    have : (zeros n)[j] = .slice none 0 0 := by simp [zeros, madeCells, Value.cells, Nat.mod_one]
    rw [this]
    exact .inl rfl

theorem three_new (w : World) (a b c : Value) (t : TypeId) : ∀ (j : Nat) (u : Value), [a, b, c][j]? = some u → (w.alloc (.cells #[a, b, c] t)).cell? ((⟨w.heap.size, 0, none⟩ : Addr).add j) = some u := by
  obtain ⟨w1, rfl, h0, h1, h2, _⟩ := box3 w a b c t
  intro j u h
  rw [add0]
  match j, h with
  | 0, h => cases h; exact h0
  | 1, h => cases h; exact h1
  | 2, h => cases h; exact h2

def PartPost (l : List Ck.Bar) (w : World) (e : Ending) (w' : World) : Prop := ∃ n a c, Ck.PartsIs l n ∧ n ≤ l.length ∧ e = .returned (.slice a n c) ∧ Below w.heap.size w w'

set_option maxHeartbeats 4000000 in
set_option maxRecDepth 100000 in
theorem netPartsOf (A : Option Addr) (c : Nat) (l : List Ck.Bar) (w : World) (hl : l.length ≤ 4096) (hs : l.Pairwise Ck.Blt) (hok : ∀ x ∈ l, Ck.okBar x) (h : RB w w.heap.size A l) :
    Calls Tryz.prog 105 #[.slice A l.length c] w (PartPost l w) := by
  have hmm := @run_makeMap Tryz.prog
  have hl' : (l.length : Int) ≤ 4096 := by omega
  have HS := Lib.hid hs
  have HR := Lib.hid h
  have HOK := Lib.hid hok
  clear hs h hok
  go_enter Tryz.func105, Tryz.ntmps105
  go_wp2_with fail
  go_step3
  go_wp2_with fail
  go_step3
  go_wp2_with fail

  go_loopg [4, 5] l.length (fun g cv iv wi => ∃ i n M, g = l.length - i ∧ i ≤ l.length ∧ cv = .int .i64 (n : Nat) ∧ iv = .int .i64 (i : Nat) ∧ Pt l i n M ∧ MIs wi w.heap.size M ∧ Below w.heap.size w wi)
  case atStart => exact ⟨0, 0, [], rfl, Nat.zero_le _, rfl, rfl, Pt.start l, MIs.made _, (Below.refl _ _).alloc (Nat.le_refl _) _⟩
  case round =>
    obtain ⟨i, n, M, hg, hi, rfl, rfl, hpt, hmi, hbi⟩ := hrel
    have HG := Lib.hid hg
    have HPT := Lib.hid hpt
    clear hg hpt
    by_cases hlt : i < l.length
    · have hne : ((i : Int) == (l.length : Int)) = false := by rw [beq_eq_false_iff_ne]; omega
      have hrb := HR.out.below hbi
      have hbz := hbi.size
      obtain ⟨b, off, rfl, hB, hc⟩ := hrb (by omega)
      obtain ⟨c0, c1, c2⟩ := hc i hlt
      clear hc hrb
      have hml := hmi.lt
      by_cases hz : mget M l[i].lo = 0
      · have hzb : (mget M l[i].lo == 0) = true := by rw [hz]; rfl
        have HZ := Lib.hid hz
        have hnl := HPT.out.le
        clear hz
        go_wp2_with fail
        refine (netLower _ _ _ _).mono ?_
        rintro e w2 ⟨rfl, hb2⟩
        have hm2 := hmi.below hb2 hml
        have hz2 : b < wr.heap.size := by omega
        have d0 := (hb2.cell (p := ⟨b, off + i * 3, none⟩) hz2).trans c0
        have d1 := (hb2.cell (p := ⟨b, off + i * 3 + 1, none⟩) hz2).trans c1
        have d2 := (hb2.cell (p := ⟨b, off + i * 3 + 2, none⟩) hz2).trans c2
        clear c0 c1 c2
        go_wp2_with (first
          | (at_lookup; refine wpList_lookup_kn _ rfl _ _ rfl w.heap.size M hm2 l[i].lo rfl rfl ?_)
          | (go_at_call 86; refine (netLower _ _ _ _).mono ?_; rintro e w3 ⟨rfl, hb3⟩)
          | (go_at_call 142; refine (netNumberFrom _ c w.heap.size l l[i].lo ((n : Int) + 1) M _ hl HS.out HOK.out ((HR.out.below ((hbi.trans (hb2.mono hbz)).trans (hb3.mono (by have := hb2.size; omega)))).more (by have := hb2.size; have := hb3.size; omega)) (Ck.lo_ends (List.getElem_mem hlt)) (by omega) (by omega) HZ.out HPT.out.closed (hm2.below hb3 hm2.lt)).mono ?_; rintro e w4 ⟨rfl, M', hnum, hm4, hg4⟩))
        have hb4 : Below w.heap.size w w4 := ((hbi.trans (hb2.mono hbz)).trans (hb3.mono (by have := hb2.size; omega))).grown hg4 (by have := hb2.size; have := hb3.size; omega) (fun q e => by cases e; exact Nat.le_refl _)
        go_roundg (l.length - (i + 1))
        case measure => rw [HG.out]; omega
        case rel => exact ⟨i + 1, n + 1, M', rfl, by omega, by go_num, by go_num, HPT.out.fresh hlt HZ.out (fun k hk => by rw [hnum.1 k hk]; omega) hnum.2, hm4, hb4⟩
      · have hzb : (mget M l[i].lo == 0) = false := by simpa using hz
        have HZ := Lib.hid hz
        clear hz
        go_wp2_with fail
        refine (netLower _ _ _ _).mono ?_
        rintro e w2 ⟨rfl, hb2⟩
        have hm2 := hmi.below hb2 hml
        go_wp2_with (at_lookup; refine wpList_lookup_kn _ rfl _ _ rfl w.heap.size M hm2 l[i].lo rfl rfl ?_)
        go_roundg (l.length - (i + 1))
        case measure => rw [HG.out]; omega
        case rel => exact ⟨i + 1, n, M, rfl, by omega, rfl, by go_num, HPT.out.old hlt HZ.out, hm2, hbi.trans (hb2.mono hbz)⟩
    · obtain rfl : i = l.length := by omega
      obtain ⟨i1, hi1, hz01, hz11, hz21⟩ := info_parts Tryz.info22
      have hnl := HPT.out.le
      have hmk : ∀ W : World, (Instr.makeSlice 82 (.int .i64 (n : Int)) (.int .i64 (n : Int))).run Tryz.prog W = .ok (.slice (some ⟨W.heap.size, 0, none⟩) n n) (W.alloc (.cells (zeros n) 22)) := fun W => by
        have := run_make (P := Tryz.prog) W 82 22 i1 (.slice none 0 0) Tryz.underlying82 hi1 hz01 .i64 .i64 (n : Int) (n : Int) (by omega) (by omega) (by rw [hz21]; omega) (by omega)
        rw [hz11, Int.toNat_natCast] at this
        exact this
      have hbz := hbi.size
      obtain ⟨wo, rfl⟩ : ∃ wo : World, wo = wr := ⟨_, rfl⟩
      have HH := Lib.hid (Heads.made wo w.heap.size n hbz)
      have hm1 := hmi.below ((Below.refl _ _).alloc (Nat.le_refl _) (.cells (zeros n) 22)) hmi.lt
      have hb1 := hbi.alloc hbz (.cells (zeros n) 22)
      obtain ⟨wp, hwp⟩ : ∃ wp, wp = wo.alloc (.cells (zeros n) 22) := ⟨_, rfl⟩
      rw [← hwp] at HH hm1 hb1
      have HWP := Lib.hid hwp
      clear hwp hi1 hz01 hz11 hz21
      go_wp2_with fail
      rw [← HWP.out]
      obtain ⟨ib, hib, hb0, hb01, hb02⟩ := info_parts Tryz.info24
      have HIB := Lib.hid hib
      have HB0 := Lib.hid hb0
      have HB1 := Lib.hid hb01
      have HB2 := Lib.hid hb02
      clear hib hb0 hb01 hb02
      go_loopg [8, 9, 42] l.length (fun g _ _ iv wi => ∃ k cur, g = l.length - k ∧ k ≤ l.length ∧ iv = .int .i64 (k : Nat) ∧ Heads wi w.heap.size wo.heap.size n k cur ∧ MIs wi w.heap.size M ∧ Below w.heap.size w wi)
      case atStart => exact ⟨0, zeros n, rfl, Nat.zero_le _, rfl, HH.out, hm1, hb1⟩
      case round =>
        obtain ⟨k, cur, hg, hk, rfl, hh, hmk2, hbk⟩ := hrel
        have HGK := Lib.hid hg
        have HHK := Lib.hid hh
        clear hg hh
        by_cases hlt : k < l.length
        · have hrb := HR.out.below hbk
          have hbkz := hbk.size
          obtain ⟨b, off, rfl, hB, hc⟩ := hrb (by omega)
          obtain ⟨c0, c1, c2⟩ := hc k hlt
          obtain ⟨hp1, hp2⟩ := HPT.out.pos (List.getElem_mem hlt)
          obtain ⟨q, hq⟩ : ∃ q : Nat, mget M l[k].lo = (q : Int) + 1 := ⟨(mget M l[k].lo - 1).toNat, by omega⟩
          have hqn : q < n := by omega
          have HQ := Lib.hid hq
          clear hc hrb hq hp1 hp2
          go_wp2_with fail
          refine (netLower _ _ _ _).mono ?_
          rintro e w2 ⟨rfl, hb2⟩
          have b0 : w2.cell? ⟨wr.heap.size, 0, none⟩ = some (.int .i64 l[k].x) := by
            rw [hb2.cell (p := ⟨_, _, none⟩) (by simp), World.cell?_alloc_at _ _ _ _ (by simp)]; rfl
          have b1 : w2.cell? ⟨wr.heap.size, 1, none⟩ = some (.int .i64 l[k].y) := by
            rw [hb2.cell (p := ⟨_, _, none⟩) (by simp), World.cell?_alloc_at _ _ _ _ (by simp)]; rfl
          have b2 : w2.cell? ⟨wr.heap.size, 2, none⟩ = some (.int .i64 l[k].s) := by
            rw [hb2.cell (p := ⟨_, _, none⟩) (by simp), World.cell?_alloc_at _ _ _ _ (by simp)]; rfl
          have hq2 : Below wr.heap.size wr w2 := ((Below.refl _ _).alloc (Nat.le_refl _) _).trans (hb2.mono (by simp))
          have hm2 := hmk2.below hq2 hmk2.lt
          have hh2 := HHK.out.below hq2
          have hqs : q < cur.size := by rw [hh2.size]; exact hqn
          have hPc := hh2.cell hqs
          have hPf := hh2.frozen q
          obtain ⟨mq, xq, oq, hmq⟩ := hh2.own q hqs
          have HO := Lib.hid oq
          have HH2 := Lib.hid hh2
          have HPC := Lib.hid hPc
          have HPF := Lib.hid hPf
          have hbq := hbk.trans (hq2.mono hbkz)
          have hbqz := hbq.size
          generalize hcq : cur[q] = vq at hPc oq HO
          have HCQ := Lib.hid hcq
          have hqi0 : (0 : Int) ≤ (q : Int) := by omega
          have hqi1 : (q : Int) < (n : Int) := by omega
          clear oq hh2 hcq c0 c1 c2 hb2
          go_wp2_with (at_lookup; refine wpList_lookup_kn _ rfl _ _ rfl w.heap.size M hm2 l[k].lo rfl rfl ?_; rw [HQ.out])
          have hPlt := HH2.out.lt
          have hPne : vq.ownBlock ≠ some wo.heap.size := own_block_ne HO.out HH2.out.blk (by decide)
          go_region_law (first
            | (refine step_append_lies _ rfl (.tmp 56) (.tmp 58) 22 rfl w.heap.size 24 ib (.agg #[.int .i64 0, .int .i64 0, .int .i64 0]) 3 24 Tryz.underlying22 HIB.out HB0.out HB1.out HB2.out rfl (by decide) vq mq xq (by simp [Act.eval]) (by exact HO.out.alloc _) ⟨w2.heap.size, 0, none⟩ 1 1 [.int .i64 l[k].x, .int .i64 l[k].y, .int .i64 l[k].s] (by simp [Act.eval]) rfl (by exact three_new _ _ _ _ _) (by intro u hu; simp at hu; rcases hu with rfl | rfl | rfl <;> rfl) (by decide) (by unfold maxLen; omega) (by omega) (by simp; omega) (w2.heap.size + 1) (by simp) ?_; intro g cap w5 hown5 hgrow5 hblk5 hg5; have s0 : w5.cell? ⟨wo.heap.size, q, none⟩ = some vq := (World.cell?_of_block (hgrow5.block wo.heap.size (by simp; omega) (fun e => hPne e.symm))).trans (((Below.refl _ w2).alloc (Nat.le_refl _) _).cell (p := ⟨wo.heap.size, q, none⟩) hPlt |>.trans hPc); have sf : w5.frozen? ⟨wo.heap.size, q, none⟩ = false := (World.frozen?_of_block (hgrow5.block wo.heap.size (by simp; omega) (fun e => hPne e.symm))).trans (((Below.refl _ w2).alloc (Nat.le_refl _) _).frozen (p := ⟨wo.heap.size, q, none⟩) hPlt |>.trans hPf)))
          all_goals
            have hW1 : Below w2.heap.size w2 ((w2.alloc (.cells #[.int .i64 l[k].x, .int .i64 l[k].y, .int .i64 l[k].s] 24)).drew) := below_drew ((Below.refl _ _).alloc (Nat.le_refl _) _)
            have hmlt := hmi.lt
            have hm5 : MIs w5 w.heap.size M := (hm2.below hW1 hm2.lt).of_block (hgrow5.block w.heap.size (by have := hm2.lt; simp; omega) (fun e => own_map_ne HO.out hm2 e.symm))
            have hm6 : MIs (w5.setCell ⟨wo.heap.size, q, none⟩ (.slice (some ⟨g, 0, none⟩) (mq + 1) cap)) w.heap.size M := hm5.of_block (Below.heap_setCell _ _ _ _ (by show w.heap.size ≠ wo.heap.size; omega))
            have hb6 : Below w.heap.size w (w5.setCell ⟨wo.heap.size, q, none⟩ (.slice (some ⟨g, 0, none⟩) (mq + 1) cap)) := ((hbq.trans (hW1.mono hbqz)).grown hgrow5 (by simp; omega) (ownsRow_base HO.out)).setCell (by show w.heap.size ≤ wo.heap.size; omega) _
            have HST := Lib.hid (HH2.out.step hW1 hqs hown5 (by omega) (by rw [HCQ.out]; exact hgrow5) (by rw [HCQ.out]; simpa using hblk5))
            have HM6 := Lib.hid hm6
            have HB6 := Lib.hid hb6
            clear hW1 hm5 hm6 hb6 hown5 hgrow5 hblk5 s0 sf hg5
            go_wp2
            go_roundg (l.length - (k + 1))
            case measure => rw [HGK.out]; omega
            case rel => exact ⟨k + 1, _, rfl, by omega, by go_num, HST.out, HM6.out, HB6.out⟩
        · obtain rfl : k = l.length := by omega
          have HD := Lib.hid HPT.out.done
          go_wp2
          go_ret
          exact ⟨n, _, _, HD.out, hnl, rfl, hbk⟩
end Go.Proofs.YtdeplhihcifmeaaGreatDoor

/- The contract of Count at a valid net. -/
namespace Go.Proofs.YtdeplhihcifmeaaGreatDoor
open Go.RowKit

theorem farB_iff (n : Int) : farB n = false ↔ Ck.inPlace n := by simp [farB, Ck.inPlace]
theorem knotE_ok (x y : Int) : knotE x y = 0 ↔ Ck.okKnot ⟨x, y⟩ := by
  unfold knotE Ck.okKnot
  cases hx : farB x
  · cases hy : farB y
    · have h1 := (farB_iff x).1 hx
      have h2 := (farB_iff y).1 hy
      simp [h1, h2, evenB]
    · have h2 : ¬ Ck.inPlace y := fun h => by rw [(farB_iff y).2 h] at hy; cases hy
      simp [h2]
  · have h2 : ¬ Ck.inPlace x := fun h => by rw [(farB_iff x).2 h] at hx; cases hx
    simp [h2]
theorem barE_iff (b : Ck.Bar) : barE b.x b.y b.s = 0 ↔ Ck.okBar b := by
  unfold barE Ck.okBar
  by_cases h1 : knotE b.x b.y = 0
  · by_cases h2 : b.s = 1 ∨ b.s = -1
    · simp only [h1, if_true, if_pos h2, knotE_ok]
      have hk : Ck.okKnot ⟨b.x, b.y⟩ := (knotE_ok _ _).1 h1
      constructor
      · rintro ⟨a, c, _⟩
        exact ⟨hk, h2.symm, a, c⟩
      · rintro ⟨_, _, a, c⟩
        refine ⟨a, c, ?_⟩
        have := hk.2.2
        simp only at this ⊢
        omega
    · simp only [h1, if_true, if_neg h2]
      constructor
      · intro h; omega
      · rintro ⟨_, h, _⟩; exact absurd h.symm h2
  · simp only [if_neg h1]
    constructor
    · intro h; exact absurd h h1
    · rintro ⟨h, _⟩; exact absurd ((knotE_ok _ _).2 h) h1
theorem netFrom_zero : ∀ (l : List Ck.Bar) (p : Option Ck.Bar), netFrom p l = 0 ↔ (∀ b ∈ l, Ck.okBar b) ∧ (match p with | none => l.Pairwise Ck.Blt | some a => (a :: l).Pairwise Ck.Blt)
  | [], none => by simp [netFrom]
  | [], some a => by simp [netFrom]
  | b :: r, none => by
    unfold netFrom
    by_cases h : barE b.x b.y b.s = 0
    · rw [if_pos h, netFrom_zero r (some b)]
      simp only [List.mem_cons, forall_eq_or_imp, (barE_iff b).1 h, true_and]
    · rw [if_neg h]
      constructor
      · intro h'; exact absurd h' h
      · intro h'; exact absurd ((barE_iff b).2 (h'.1 b (by simp))) h
  | b :: r, some a => by
    unfold netFrom
    by_cases h : barE b.x b.y b.s = 0
    · rw [if_pos h]
      by_cases hl : lessB a.x a.y a.s b.x b.y b.s = true
      · have hab := (lessB_iff a b).1 hl
        rw [if_pos hl, netFrom_zero r (some b)]
        simp only [List.mem_cons, forall_eq_or_imp, (barE_iff b).1 h, true_and]
        constructor
        · rintro ⟨h1, h2⟩
          exact ⟨h1, List.pairwise_cons.2 ⟨fun c hc => by
            rcases List.mem_cons.1 hc with rfl | hc
            · exact hab
            · exact hab.trans ((List.pairwise_cons.1 h2).1 c hc), h2⟩⟩
        · rintro ⟨h1, h2⟩
          exact ⟨h1, (List.pairwise_cons.1 h2).2⟩
      · rw [if_neg hl]
        constructor
        · intro h'; omega
        · rintro ⟨_, h2⟩
          exact absurd ((lessB_iff a b).2 ((List.pairwise_cons.1 h2).1 b (by simp))) hl
    · rw [if_neg h]
      constructor
      · intro h'; exact absurd h' h
      · intro h'; exact absurd ((barE_iff b).2 (h'.1 b (by simp))) h
theorem netE_zero (l : List Ck.Bar) : netE l = 0 ↔ l.length ≤ 4096 ∧ Ck.Net l := by
  unfold netE
  split
  · constructor
    · intro h; omega
    · rintro ⟨h, _⟩; omega
  · rw [netFrom_zero]
    constructor
    · rintro ⟨h1, h2⟩; exact ⟨by omega, h1, h2⟩
    · rintro ⟨_, h1, h2⟩; exact ⟨h1, h2⟩

theorem mput_keys (m : List (Ck.Knot × Int)) (k k' : Ck.Knot) (v : Int) : k' ∈ (mput m k v).map (·.1) ↔ k' = k ∨ k' ∈ m.map (·.1) := by
  induction m with
  | nil => simp [mput]
  | cons p r ih =>
    by_cases h : k = p.1
    · rw [show mput (p :: r) k v = (k, v) :: r from by simp [mput, h]]
      simp only [List.map_cons, List.mem_cons, ← h]
      constructor
      · rintro (h1 | h1)
        · exact .inl h1
        · exact .inr (.inr h1)
      · rintro (h1 | h1 | h1)
        · exact .inl h1
        · exact .inl h1
        · exact .inr h1
    · simp only [mput, if_neg h, List.map_cons, List.mem_cons, ih]
      constructor
      · rintro (h1 | h1 | h1)
        · exact .inr (.inl h1)
        · exact .inl h1
        · exact .inr (.inr h1)
      · rintro (h1 | h1 | h1)
        · exact .inr (.inl h1)
        · exact .inl h1
        · exact .inr (.inr h1)
theorem degs_keys (ks : List Ck.Knot) : ∀ (m : List (Ck.Knot × Int)) (k : Ck.Knot), k ∈ (ks.foldl incr m).map (·.1) ↔ k ∈ ks ∨ k ∈ m.map (·.1) := by
  induction ks with
  | nil => intro m k; simp
  | cons a r ih =>
    intro m k
    rw [List.foldl_cons, ih, incr, mput_keys, List.mem_cons]
    constructor
    · rintro (h | h | h)
      · exact .inl (.inr h)
      · exact .inl (.inl h)
      · exact .inr h
    · rintro ((h | h) | h)
      · exact .inr (.inl h)
      · exact .inl h
      · exact .inr (.inr h)
theorem MIs.keys_nodup {w : World} {b : Nat} {m : List (Ck.Knot × Int)} (h : MIs w b m) : (m.map (·.1)).Nodup := by
  obtain ⟨_, _, _, _, h3, _⟩ := h
  exact h3
theorem degs_length {w : World} {b : Nat} {l : List Ck.Bar} (h : MIs w b (degsL (Ck.ends l))) : (degsL (Ck.ends l)).length = Ck.nK l := by
  rw [← Ck.nK_eq h.keys_nodup (fun k => by rw [degsL, degs_keys]; simp), List.length_map]
theorem MIs.size {w : World} {b : Nat} {m : List (Ck.Knot × Int)} (h : MIs w b m) : ∃ es clock, w.heap[b]? = some (.map es clock) ∧ es.size = m.length := by
  obtain ⟨es, clock, h1, h2, _⟩ := h
  refine ⟨es, clock, h1, ?_⟩
  have := congrArg List.length h2
  simpa using this
theorem nK_le (l : List Ck.Bar) : Ck.nK l ≤ 2 * l.length := by
  rw [← ends_length l]
  exact (Ck.nub_nodup _).length_le_of_subset (fun k hk => Ck.mem_nub.1 hk)
theorem meshL_nM (l : List Ck.Bar) : (meshL l l).length = Ck.nM l := by
  rw [meshL, ← List.countP_eq_length_filter, Ck.nM]
  refine List.countP_congr fun b hb => ?_
  obtain ⟨x, y, s⟩ := b
  simp only [isM, Ck.isMesh, allIn, meshBars4, List.all_cons, List.all_nil, Bool.and_true, Bool.and_eq_true, decide_eq_true_eq]
  rw [show y + 1 - 1 = y from by omega]
  constructor
  · rintro ⟨h1, _, h2, h3, h4⟩; exact ⟨h1, h2, h3, h4⟩
  · rintro ⟨h1, h2, h3, h4⟩
    subst h1
    exact ⟨rfl, hb, h2, h3, h4⟩

theorem MIs.len {w : World} {b : Nat} {m : List (Ck.Knot × Int)} (h : MIs w b m) : (Builtin.len_ #[139] 3 #[.map (some b)]).run Tryz.prog w = .ok (.int .i64 (m.length : Nat)) w := by
  obtain ⟨es, clock, h1, h2⟩ := h.size
  simp [Builtin.len_, run_underlying Tryz.underlying139, MapKept.run_getObj_map h1, goInt, h2, Result.andThen]
theorem five_of_block {w : World} {g : Nat} {a b c d e : Value} {t : TypeId} (h : w.heap[g]? = some (.cells #[a, b, c, d, e] t (0, 0))) : w.cell? ⟨g, 0, none⟩ = some a ∧ w.cell? ⟨g, 1, none⟩ = some b ∧ w.cell? ⟨g, 2, none⟩ = some c ∧ w.cell? ⟨g, 3, none⟩ = some d ∧ w.cell? ⟨g, 4, none⟩ = some e ∧ ∀ i, w.frozen? ⟨g, i, none⟩ = false := by
  refine ⟨?_, ?_, ?_, ?_, ?_, fun i => ?_⟩ <;> simp [World.cell?, World.frozen?, h]
def CountPost (l : List Ck.Bar) (w : World) (e : Ending) (w' : World) : Prop :=
  ∃ p : Nat, Ck.PartsIs l p ∧ e = .returned (.tuple #[.agg #[.int .i64 (Ck.nK l : Nat), .int .i64 (l.length : Nat), .int .i64 (Ck.nM l : Nat), .int .i64 p, .int .i64 ((l.length : Int) - (Ck.nK l : Nat) + p - (Ck.nM l : Nat))], .int .i64 0]) ∧ Below w.heap.size w w'

set_option maxHeartbeats 2000000 in
set_option maxRecDepth 100000 in
theorem netCount (A : Option Addr) (c : Nat) (l : List Ck.Bar) (w : World) (hl : l.length ≤ 4096) (hcap : l.length ≤ c) (hcm : c ≤ maxLen) (hN : Ck.Net l) (h : RB w w.heap.size A l) :
    Calls Tryz.prog 53 #[.slice A l.length c] w (CountPost l w) := by
  have HR := Lib.hid h
  have HN := Lib.hid hN
  have HE := Lib.hid ((netE_zero l).2 ⟨hl, hN⟩)
  have hnk := nK_le l
  have hnm : (meshL l l).length ≤ l.length := by have := meshL_le l l.length; rwa [List.take_length] at this
  clear h hN
  go_enter Tryz.func53, Tryz.ntmps53
  obtain ⟨w0, hw0⟩ : ∃ w0, w0 = w.alloc (.cells #[.int .i64 0, .int .i64 0, .int .i64 0, .int .i64 0, .int .i64 0] 86) := ⟨_, rfl⟩
  have hr0 : w0.heap[w.heap.size]? = some (.cells #[.int .i64 0, .int .i64 0, .int .i64 0, .int .i64 0, .int .i64 0] 86 (0, 0)) := by rw [hw0]; exact heap_alloc_new _ _
  have hb0 : Below w.heap.size w w0 := by rw [hw0]; exact (Below.refl _ _).alloc (Nat.le_refl _) _
  have hz0 : w.heap.size < w0.heap.size := by rw [hw0]; simp
  have HW := Lib.hid hw0
  have HR0 := Lib.hid hr0
  clear hw0 hr0
  go_wp2_with fail
  rw [← HW.out]
  refine (netCheckNet A c l _ hl hcap hcm ((HR.out.below hb0).more hb0.size)).mono ?_
  rintro e w1 ⟨rfl, hb1⟩
  rw [HE.out]
  have hc1 := hb0.trans (hb1.mono hb0.size)
  have hz1 := Nat.lt_of_lt_of_le hz0 hb1.size
  go_wp2_with fail
  refine (netDegrees A c l _ hl HN.out.1 ((HR.out.below hc1).more hc1.size)).mono ?_
  rintro e w2 ⟨b, rfl, hbz, hm2, hb2⟩
  have hc2 := hc1.trans (hb2.mono hc1.size)
  have hz2 := Nat.lt_of_lt_of_le hz1 hb2.size
  have hlen := hm2.len
  rw [degs_length hm2] at hlen
  have hms := meshL_nM l
  rw [hms] at hnm
  have HMS := Lib.hid hms
  clear hms
  go_wp2_with fail
  refine (netMeshesOf A c l _ hl HN.out.2 HN.out.1 ((HR.out.below hc2).more hc2.size)).mono ?_
  rintro e w3 ⟨v, rfl, hown, hb3⟩
  rw [HMS.out] at hown
  have hc3 := hc2.trans (hb3.mono hc2.size)
  have hz3 := Nat.lt_of_lt_of_le hz2 hb3.size
  have hlv : ∃ a cv, v = .slice a (Ck.nM l) cv := by
    rcases hown.2 with ⟨h1, h2⟩ | ⟨g, cap, cur, h1, _⟩
    · exact ⟨none, 0, by rw [h1, h2]⟩
    · exact ⟨_, _, h1⟩
  obtain ⟨av, cv, rfl⟩ := hlv
  clear hown
  go_wp2_with fail
  refine (netPartsOf A c l _ hl HN.out.2 HN.out.1 ((HR.out.below hc3).more hc3.size)).mono ?_
  rintro e w4 ⟨p, ap, cp, hp, hpl, rfl, hb4⟩
  have hc4 := hc3.trans (hb4.mono hc3.size)
  have hz4 := Nat.lt_of_lt_of_le hz3 hb4.size
  have hr4 := (hb4.block _ hz3).trans ((hb3.block _ hz2).trans ((hb2.block _ hz1).trans ((hb1.block _ hz0).trans HR0.out)))
  obtain ⟨r0, r1, r2, r3, r4, rf⟩ := five_of_block hr4
  have HR4 := Lib.hid hr4
  have HP := Lib.hid hp
  clear hr4 hp
  generalize hgk : Ck.nK l = nk at *
  generalize hgm : Ck.nM l = nm at *
  have HK := Lib.hid hgk
  have HM := Lib.hid hgm
  clear hgk hgm
  go_wp2
  exact bodyPost_ret (v := .tuple #[.agg #[.int .i64 (nk : Int), .int .i64 (l.length : Int), .int .i64 (nm : Int), .int .i64 (p : Int), .int .i64 ((l.length : Int) - nk + p - nm)], .int .i64 0]) (by simp [results, Tryz.results53, go_sem, r0, r1, r2, r3, r4, hz4]) rfl
    ⟨p, HP.out, by rw [HK.out, HM.out], (((((hc4.setCell (Nat.le_refl _) _).setCell (Nat.le_refl _) _).setCell (Nat.le_refl _) _).setCell (Nat.le_refl _) _).setCell (Nat.le_refl _) _).alloc (by simp; omega) _⟩
end Go.Proofs.YtdeplhihcifmeaaGreatDoor

/- Rows of bars in memory: what a slice of bars of the call's own holds. -/
namespace Go.Proofs.YtdeplhihcifmeaaGreatDoor
open Go.RowKit Ck

theorem RB.nil (w : World) (B : Nat) (A : Option Addr) : RB w B A [] := fun h => by simp at h

def bcellsL (l : List Ck.Bar) : List Value := l.flatMap fun b => [.int .i64 b.x, .int .i64 b.y, .int .i64 b.s]
theorem bcellsL_snoc (l : List Ck.Bar) (b : Ck.Bar) : bcellsL (l ++ [b]) = bcellsL l ++ [.int .i64 b.x, .int .i64 b.y, .int .i64 b.s] := by simp [bcellsL]
theorem three_of_block {w : World} {g : Nat} {a b c : Value} {t : TypeId} (h : w.heap[g]? = some (.cells #[a, b, c] t (0, 0))) : w.cell? ⟨g, 0, none⟩ = some a ∧ w.cell? ⟨g, 1, none⟩ = some b ∧ w.cell? ⟨g, 2, none⟩ = some c ∧ ∀ i, w.frozen? ⟨g, i, none⟩ = false := by
  refine ⟨?_, ?_, ?_, fun i => ?_⟩ <;> simp [World.cell?, World.frozen?, h]
theorem ownsRow_mono {w : World} {base base' : Nat} {e : TypeId} {size n : Nat} {v : Value} {xs : List Value} (h : w.ownsRow base e size v n xs) (hb : base' ≤ base) : w.ownsRow base' e size v n xs := by
  refine ⟨h.1, ?_⟩
  rcases h.2 with h2 | ⟨g, cap, cur, h1, h2, h3⟩
  · exact .inl h2
  · exact .inr ⟨g, cap, cur, h1, by omega, h3⟩
theorem own_slice {w : World} {base : Nat} {e : TypeId} {size n : Nat} {v : Value} {xs : List Value} (h : w.ownsRow base e size v n xs) : ∃ a c, v = .slice a n c ∧ n ≤ c ∧ c ≤ maxLen := by
  rcases h.2 with ⟨rfl, rfl⟩ | ⟨g, cap, cur, rfl, _, _, h1, h2, _⟩
  · exact ⟨none, 0, rfl, Nat.le_refl _, by unfold maxLen; omega⟩
  · exact ⟨_, _, rfl, h1, h2⟩
theorem bcellsL_at (l : List Ck.Bar) : ∀ (i : Nat) (h : i < l.length), (bcellsL l)[i * 3]? = some (.int .i64 l[i].x) ∧ (bcellsL l)[i * 3 + 1]? = some (.int .i64 l[i].y) ∧ (bcellsL l)[i * 3 + 2]? = some (.int .i64 l[i].s) := by
  induction l with
  | nil => intro i h; simp at h
  | cons a r ih =>
    intro i h
    have e : bcellsL (a :: r) = [.int .i64 a.x, .int .i64 a.y, .int .i64 a.s] ++ bcellsL r := by simp [bcellsL]
    rw [e]
    cases i with
    | zero => exact ⟨rfl, rfl, rfl⟩
    | succ i =>
      have := ih i (by simpa using h)
      rw [show (i + 1) * 3 = i * 3 + 3 from by omega]
      simpa using this
theorem bcellsL_length (l : List Ck.Bar) : (bcellsL l).length = l.length * 3 := by
  induction l with
  | nil => rfl
  | cons a r ih => simp [bcellsL] at ih ⊢; omega
/-- A row of the call's own that holds the cells of bars reads as these bars. -/
theorem RB.of_own {w : World} {base c : Nat} {A : Option Addr} {l : List Ck.Bar} {n : Nat} (h : w.ownsRow base 24 3 (.slice A n c) l.length (bcellsL l)) : RB w w.heap.size A l := fun hl => by
  obtain ⟨g, cap, hv, _, _, _, hg⟩ := own_form h hl
  injection hv with hA _ _
  subst hA
  have hc := h.cells (g := g) rfl
  refine ⟨g, 0, rfl, hg, fun i hi => ?_⟩
  obtain ⟨h0, h1, h2⟩ := bcellsL_at l i hi
  have k0 := hc _ _ h0
  have k1 := hc _ _ h1
  have k2 := hc _ _ h2
  rw [add0] at k0 k1 k2
  simp only [Nat.zero_add]
  exact ⟨k0, k1, k2⟩
theorem empty_row (w : World) (base : Nat) (hb : base ≤ w.heap.size) (t : TypeId) (size : Nat) : (w.alloc (.cells #[] t)).ownsRow base t size (.slice (some ⟨w.heap.size, 0, none⟩) 0 0) 0 [] :=
  ⟨by simp, .inr ⟨_, _, _, rfl, hb, heap_alloc_new _ _, Nat.le_refl _, by unfold maxLen; omega, by simp, by simp⟩⟩
theorem RB.news {w : World} {B : Nat} {b off : Nat} {l : List Ck.Bar} (h : RB w B (some ⟨b, off, none⟩) l) (hl : 0 < l.length) : ∀ (j : Nat) (u : Value), (bcellsL l)[j]? = some u → w.cell? ((⟨b, off, none⟩ : Addr).add j) = some u := by
  intro j u hu
  obtain ⟨b', off', e, _, hc⟩ := h hl
  cases e
  have hj : j < (bcellsL l).length := (List.getElem?_eq_some_iff.1 hu).1
  rw [bcellsL_length] at hj
  have hi : j / 3 < l.length := by omega
  obtain ⟨k0, k1, k2⟩ := hc (j / 3) hi
  obtain ⟨h0, h1, h2⟩ := bcellsL_at l (j / 3) hi
  have hadd : (⟨b, off, none⟩ : Addr).add j = ⟨b, off + j, none⟩ := by
    unfold Addr.add
    split
    · rename_i e; simp
    · rfl
  rw [hadd]
  have hm : j % 3 = 0 ∨ j % 3 = 1 ∨ j % 3 = 2 := by omega
  rcases hm with hm | hm | hm
  · have e : j = j / 3 * 3 := by omega
    rw [← e] at h0 k0
    rw [k0, ← hu, h0]
  · have e : j = j / 3 * 3 + 1 := by omega
    rw [← e] at h1
    rw [Nat.add_assoc, ← e] at k1
    rw [k1, ← hu, h1]
  · have e : j = j / 3 * 3 + 2 := by omega
    rw [← e] at h2
    rw [Nat.add_assoc, ← e] at k2
    rw [k2, ← hu, h2]
theorem bcellsL_one (l : List Ck.Bar) : ∀ u ∈ bcellsL l, u.oneCell' = true := by
  intro u hu
  simp only [bcellsL, List.mem_flatMap] at hu
  obtain ⟨b, _, hu⟩ := hu
  simp at hu
  rcases hu with rfl | rfl | rfl <;> rfl
theorem cmpB_lt_iff (a b : Bar) : cmpB a b < 0 ↔ Blt a b := by
  rw [← lessB_iff, ← cmpB_neg, decide_eq_true_eq]
/-- The slice is of the call's own, or reads so. -/
def OKS (w : World) (a : Option Addr) (c : Nat) (l : List Bar) : Prop := l.length ≤ c ∧ c ≤ maxLen ∧ (a = none → c = 0) ∧ RB w w.heap.size a l
theorem OKS.below {w w' : World} {a : Option Addr} {c : Nat} {l : List Bar} (h : OKS w a c l) (hb : Below w.heap.size w w') : OKS w' a c l := ⟨h.1, h.2.1, h.2.2.1, (h.2.2.2.below hb).more hb.size⟩
theorem own_oks {w : World} {base : Nat} {v : Value} {l : List Bar} (h : w.ownsRow base 24 3 v l.length (bcellsL l)) : ∃ a c, v = .slice a l.length c ∧ OKS w a c l := by
  rcases h.2 with ⟨rfl, hz⟩ | ⟨g, cap, cur, rfl, _, _, h1, h2, _⟩
  · have : l = [] := List.eq_nil_of_length_eq_zero hz
    subst this
    exact ⟨none, 0, rfl, Nat.zero_le _, by unfold maxLen; omega, fun _ => rfl, RB.nil _ _ _⟩
  · exact ⟨_, _, rfl, h1, h2, (fun e => by cases e), RB.of_own h⟩
def SlicePost (l : List Bar) (w : World) (e : Ending) (w' : World) : Prop := ∃ a c, e = .returned (.slice a l.length c) ∧ OKS w' a c l ∧ Below w.heap.size w w'
def PairPost (l : List Bar) (w : World) (e : Ending) (w' : World) : Prop := ∃ a c, e = .returned (.tuple #[.slice a l.length c, .int .i64 0]) ∧ OKS w' a c l ∧ Below w.heap.size w w'
end Go.Proofs.YtdeplhihcifmeaaGreatDoor

/- A sheet's bars: plain mathematics, the bars of a cell, the iterator. -/
namespace Go.Proofs.YtdeplhihcifmeaaGreatDoor
open Go.RowKit Go.Shelf Ck

def cel0 (x y : Int) (o : Bool) : Bar := if o then ⟨x + 1, y, -1⟩ else ⟨x, y, 1⟩
def cel1 (x y : Int) (o : Bool) : Bar := if o then ⟨x + 1, y, 1⟩ else ⟨x + 2, y, -1⟩
def oddB (r : Nat) : Bool := decide (r % 2 = 1)
def cellL (x y : Int) (r c : Nat) : List Bar := [cel0 (x + 2 * (c : Int)) (y + (r : Int)) (oddB r), cel1 (x + 2 * (c : Int)) (y + (r : Int)) (oddB r)]
/-- The first k cells of the row r. -/
def rowL (x y : Int) (r k : Nat) : List Bar := (List.range k).flatMap (cellL x y r)
/-- The first r rows. -/
def sheetP (x y : Int) (cols r : Nat) : List Bar := (List.range r).flatMap fun q => rowL x y q cols
theorem rowL_succ (x y : Int) (r k : Nat) : rowL x y r (k + 1) = rowL x y r k ++ cellL x y r k := by simp [rowL, List.range_succ]
theorem sheetP_succ (x y : Int) (cols r : Nat) : sheetP x y cols (r + 1) = sheetP x y cols r ++ rowL x y r cols := by simp [sheetP, List.range_succ]
theorem rowL_length (x y : Int) (r : Nat) : ∀ k, (rowL x y r k).length = 2 * k
  | 0 => rfl
  | k + 1 => by rw [rowL_succ, List.length_append, rowL_length x y r k]; simp [cellL]; omega
theorem sheetP_length (x y : Int) (cols : Nat) : ∀ r, (sheetP x y cols r).length = 2 * (cols * r)
  | 0 => by simp [sheetP]
  | r + 1 => by rw [sheetP_succ, List.length_append, sheetP_length x y cols r, rowL_length, Nat.mul_succ]; omega
theorem pre_short (x y : Int) {cols rows r c i : Nat} (hc : cols ≤ 256) (hr : rows ≤ 256) (h1 : r < rows) (h2 : c < cols) (h3 : i ≤ 2) : (sheetP x y cols r ++ rowL x y r c ++ (cellL x y r c).take i).length < 200000 := by
  rw [List.length_append, List.length_append, sheetP_length, rowL_length, List.length_take]
  have : cols * r ≤ 256 * 256 := Nat.mul_le_mul hc (by omega)
  omega

set_option maxHeartbeats 1000000 in
set_option maxRecDepth 100000 in
theorem netCellBars (x y : Int) (o : Bool) (w : World) (hx1 : -200000 ≤ x) (hx2 : x ≤ 200000) (_ : -200000 ≤ y) (_ : y ≤ 200000) :
    Calls Tryz.prog 134 #[.int .i64 x, .int .i64 y, .bool o] w fun e w' => e = .returned (.agg #[.int .i64 (cel0 x y o).x, .int .i64 (cel0 x y o).y, .int .i64 (cel0 x y o).s, .int .i64 (cel1 x y o).x, .int .i64 (cel1 x y o).y, .int .i64 (cel1 x y o).s]) ∧ Below w.heap.size w w' := by
  cases o
  · go_enter Tryz.func134, Tryz.ntmps134
    go_wp2
    exact bodyPost_ret (v := .agg #[.int .i64 x, .int .i64 y, .int .i64 1, .int .i64 (x + 2), .int .i64 y, .int .i64 (-1)]) (by simp [results, Tryz.results134, go_sem]) rfl ⟨rfl, by
      first
      | exact ((Below.refl _ _).alloc (Nat.le_refl _) _)
      | exact ((((((((Below.refl _ _).alloc (Nat.le_refl _) _).setCell (by simp) _).setCell (by simp) _).setCell (by simp) _).setCell (by simp) _).setCell (by simp) _).setCell (by simp) _)⟩
  · go_enter Tryz.func134, Tryz.ntmps134
    go_wp2
    exact bodyPost_ret (v := .agg #[.int .i64 (x + 1), .int .i64 y, .int .i64 (-1), .int .i64 (x + 1), .int .i64 y, .int .i64 1]) (by simp [results, Tryz.results134, go_sem]) rfl ⟨rfl, by
      first
      | exact ((Below.refl _ _).alloc (Nat.le_refl _) _)
      | exact ((((((((Below.refl _ _).alloc (Nat.le_refl _) _).setCell (by simp) _).setCell (by simp) _).setCell (by simp) _).setCell (by simp) _).setCell (by simp) _).setCell (by simp) _)⟩
theorem idxB0 (a b c d e f : Value) (w : World) : (Instr.index 178 (.agg #[a, b, c, d, e, f]) (.int .i64 0)).run Tryz.prog w = .ok (.agg #[a, b, c]) w := by kernel_rfl
theorem idxB1 (a b c d e f : Value) (w : World) : (Instr.index 178 (.agg #[a, b, c, d, e, f]) (.int .i64 1)).run Tryz.prog w = .ok (.agg #[d, e, f]) w := by kernel_rfl

/-- The blocks from B1 to below B2 are as they were. -/
def KR (B1 B2 : Nat) (W W' : World) : Prop := W.heap.size ≤ W'.heap.size ∧ ∀ b, B1 ≤ b → b < B2 → W'.heap[b]? = W.heap[b]?
theorem KR.refl (B1 B2 : Nat) (W : World) : KR B1 B2 W W := ⟨Nat.le_refl _, fun _ _ _ => rfl⟩
theorem KR.trans {B1 B2 : Nat} {A B C : World} (h : KR B1 B2 A B) (k : KR B1 B2 B C) : KR B1 B2 A C := ⟨Nat.le_trans h.1 k.1, fun b h1 h2 => (k.2 b h1 h2).trans (h.2 b h1 h2)⟩
theorem KR.of_below {B1 B2 : Nat} {W W' : World} (h : Below W.heap.size W W') (hB : B2 ≤ W.heap.size) : KR B1 B2 W W' := ⟨h.size, fun b _ h2 => h.block b (by omega)⟩
theorem KR.cell {B1 B2 : Nat} {W W' : World} (h : KR B1 B2 W W') {b o : Nat} (h1 : B1 ≤ b) (h2 : b < B2) : W'.cell? ⟨b, o, none⟩ = W.cell? ⟨b, o, none⟩ := World.cell?_of_block (h.2 b h1 h2)
theorem KR.put {B1 B2 : Nat} {w : World} (hB : B2 ≤ w.heap.size) (W : World) (l : Nat) (o o' : Obj) (hl : w.heap.size ≤ l) (_ : W.heap[l]? = some o) (_ : o.isCells = false) (_ : o.isWalk = false) : KR B1 B2 W (W.putObj l o') :=
  ⟨by simp, fun b _ h2 => World.putObj_heap_other (by omega)⟩
def barArr (b : Bar) : Array Value := #[.agg #[.int .i64 b.x, .int .i64 b.y, .int .i64 b.s]]
theorem grown_below {W W' : World} (hb : Below W.heap.size W W') : W.grownBy W' none := ⟨hb.os, hb.tape, hb.output, hb.size, fun i hi _ => hb.block i hi⟩

set_option maxRecDepth 100000 in
set_option maxHeartbeats 4000000 in
theorem sheet1_in (l Br Bc Ba B1 B2 n : Nat) (hn : 2 ≤ n) (x y : Int) (cols rows : Nat) (hc1 : cols ≤ 256) (hr1 : rows ≤ 256) (hx1 : -100000 ≤ x) (hx2 : x ≤ 100000) (hy1 : -100000 ≤ y) (hy2 : y ≤ 100000) (J Jx : List Bar → World → Prop)
    (hY : ∀ pre b W, J pre W → pre.length < 200000 → YieldAt Fence.wide (n - 1) Tryz.prog l (barArr b) W fun e W' =>
      (e = .returned (.bool true) ∧ J (pre ++ [b]) W' ∧ KR B1 B2 W W') ∨ (e = .returned (.bool false) ∧ Jx (pre ++ [b]) W'))
    (W : World) (hJ : AbidesFrom W.heap.size J) (hB : B2 ≤ W.heap.size) (_ : B1 ≤ Br) (_ : Br < B2) (hBc : B1 ≤ Bc) (hBc' : Bc < B2) (hBa : B1 ≤ Ba) (hBa' : Ba < B2)
    (mr : W.cell? ⟨Br, 0, none⟩ = some (.int .i64 rows)) (mc : W.cell? ⟨Bc, 0, none⟩ = some (.int .i64 cols)) (mx : W.cell? ⟨Ba, 0, none⟩ = some (.int .i64 x)) (my : W.cell? ⟨Ba, 1, none⟩ = some (.int .i64 y)) (h0 : J [] W) :
    CallsIn Fence.wide n Tryz.prog 133 #[.func (.yield l) #[] #[], .pointer (some ⟨Br, 0, none⟩), .pointer (some ⟨Bc, 0, none⟩), .pointer (some ⟨Ba, 0, none⟩)] W fun e W' => (∃ v, e = .returned v) ∧
      ((∃ ss : List Bar, ss = sheetP x y cols rows ∧ J ss W') ∨ (∃ pre : List Bar, True ∧ Jx pre W')) := by
  have hJn : ∀ {s : List Bar} {A B : World}, J s A → Below A.heap.size A B → J s B := fun hs hb => hJ _ _ _ none hs (grown_below hb) (fun r e => by cases e)
  have hf60 : Fence.wide.fn 134 := trivial
  have h1n : 1 ≤ n := by omega
  refine callsIn_of_wp Tryz.func133 rfl trivial ?_ rfl
  simp only [Tryz.ntmps133, List.size_toArray, List.length_cons, List.length_nil, Nat.reduceAdd, Nat.reduceSub, Array.replicate_succ, Array.replicate_zero, List.push_toArray, List.append_toArray, List.nil_append, List.cons_append]
  gi_wp2
  gi_loopw [10] (fun v wr => ∃ r : Nat, r ≤ rows ∧ v = .int .i64 r ∧ J (sheetP x y cols r) wr ∧ KR B1 B2 W wr) (fun v _ => rows - (intOf v).toNat)
  case atStart => exact ⟨0, Nat.zero_le _, rfl, h0, KR.refl _ _ _⟩
  case round =>
    obtain ⟨r, hr, rfl, hJr, hK⟩ := hrel
    by_cases hlt : r < rows
    · have nc := (hK.cell (o := 0) hBc hBc').trans mc
      gi_wp2
      gi_loopw [14] (fun v wr => ∃ c : Nat, c ≤ cols ∧ v = .int .i64 c ∧ J (sheetP x y cols r ++ rowL x y r c) wr ∧ KR B1 B2 W wr) (fun v _ => cols - (intOf v).toNat)
      case atStart => exact ⟨0, Nat.zero_le _, rfl, by simpa [rowL] using hJr, hK⟩
      case round =>
        obtain ⟨c, hc, rfl, hJc, hK2⟩ := hrel
        by_cases hltc : c < cols
        · have nx := (hK2.cell (o := 0) hBa hBa').trans mx
          have ny := (hK2.cell (o := 1) hBa hBa').trans my
          obtain ⟨o, ho⟩ : ∃ o, oddB r = o := ⟨_, rfl⟩
          have hoq : ((r : Int) % 2 == 1) = o := by
            rw [← ho, oddB, Bool.eq_iff_iff, beq_iff_eq, decide_eq_true_eq]; omega
          have HO := Lib.hid ho
          clear ho
          gi_wp2_with (gi_at_call 134; refine (callsIn_wide.2 (netCellBars (x + 2 * (c : Int)) (y + (r : Int)) o _ (by omega) (by omega) (by omega) (by omega))).mono ?_; rintro e w2 ⟨rfl, hb2⟩)
          have hBr2 : B2 ≤ wr.heap.size := Nat.le_trans hB hK2.1
          have hJ2 := hJn hJc hb2
          have hK3 := hK2.trans (KR.of_below hb2 hBr2)
          have HC0 := Lib.hid (show cellL x y r c = [cel0 (x + 2 * (c : Int)) (y + (r : Int)) o, cel1 (x + 2 * (c : Int)) (y + (r : Int)) o] by rw [cellL, HO.out])
          generalize cel0 (x + 2 * (c : Int)) (y + (r : Int)) o = p0 at *
          generalize cel1 (x + 2 * (c : Int)) (y + (r : Int)) o = p1 at *
          have hp0 := pre_short x y hc1 hr1 (i := 0) hlt hltc (by omega)
          have hp1 := pre_short x y hc1 hr1 (i := 1) hlt hltc (by omega)
          rw [HC0.out] at hp0 hp1
          have hlt' := Lib.hid hlt
          have hltc' := Lib.hid hltc
          clear nx ny hJc
          gi_loopw [30] (fun v wi => ∃ i : Nat, i ≤ 2 ∧ v = .int .i64 i ∧ J (sheetP x y cols r ++ rowL x y r c ++ [p0, p1].take i) wi ∧ KR B1 B2 W wi) (fun v _ => 2 - (intOf v).toNat)
          case atStart => exact ⟨0, Nat.zero_le _, rfl, by simpa using hJ2, hK3⟩
          case round =>
            obtain ⟨i, hi, rfl, hJi, hKi⟩ := hrel
            have hi3 : i = 0 ∨ i = 1 ∨ i = 2 := by omega
            rcases hi3 with rfl | rfl | rfl
            · have ix := idxB0 (.int .i64 p0.x) (.int .i64 p0.y) (.int .i64 p0.s) (.int .i64 p1.x) (.int .i64 p1.y) (.int .i64 p1.s)
              have hJ3 : J (sheetP x y cols r ++ rowL x y r c ++ [p0, p1].take 0) (wr.alloc (.cells #[.int .i64 p0.x, .int .i64 p0.y, .int .i64 p0.s] 24)) := hJn hJi ((Below.refl _ _).alloc (Nat.le_refl _) _)
              have hK4 : KR B1 B2 W (wr.alloc (.cells #[.int .i64 p0.x, .int .i64 p0.y, .int .i64 p0.s] 24)) := hKi.trans (KR.of_below ((Below.refl _ _).alloc (Nat.le_refl _) _) (Nat.le_trans hB hKi.1))
              obtain ⟨fn, tmps, assign, body, hy, hR⟩ := hY _ p0 _ hJ3 hp0
              dsimp only [barArr] at hy
              gi_wp2
              refine hR.mono ?_
              rintro e W3 (⟨rfl, hJ4, hk3⟩ | ⟨rfl, hJx3⟩)
              · gi_wp2
                go_roundw
                case rel => exact ⟨1, by omega, rfl, by simpa using hJ4, hK4.trans hk3⟩
                case measure => simp [intOf]
              · gi_wp2
                refine bodyPost_ret (results_none rfl _ _ _) rfl ?_
                exact ⟨⟨_, rfl⟩, .inr ⟨_, trivial, hJx3⟩⟩
            · have ix := idxB1 (.int .i64 p0.x) (.int .i64 p0.y) (.int .i64 p0.s) (.int .i64 p1.x) (.int .i64 p1.y) (.int .i64 p1.s)
              have hJ3 : J (sheetP x y cols r ++ rowL x y r c ++ [p0, p1].take 1) (wr.alloc (.cells #[.int .i64 p1.x, .int .i64 p1.y, .int .i64 p1.s] 24)) := hJn hJi ((Below.refl _ _).alloc (Nat.le_refl _) _)
              have hK4 : KR B1 B2 W (wr.alloc (.cells #[.int .i64 p1.x, .int .i64 p1.y, .int .i64 p1.s] 24)) := hKi.trans (KR.of_below ((Below.refl _ _).alloc (Nat.le_refl _) _) (Nat.le_trans hB hKi.1))
              obtain ⟨fn, tmps, assign, body, hy, hR⟩ := hY _ p1 _ hJ3 hp1
              dsimp only [barArr] at hy
              gi_wp2
              refine hR.mono ?_
              rintro e W3 (⟨rfl, hJ4, hk3⟩ | ⟨rfl, hJx3⟩)
              · gi_wp2
                go_roundw
                case rel => exact ⟨2, by omega, rfl, by simpa using hJ4, hK4.trans hk3⟩
                case measure => simp [intOf]
              · gi_wp2
                refine bodyPost_ret (results_none rfl _ _ _) rfl ?_
                exact ⟨⟨_, rfl⟩, .inr ⟨_, trivial, hJx3⟩⟩
            · gi_wp2
              go_roundw
              case rel => exact ⟨c + 1, by have := hltc'.out; omega, by go_num, by rw [rowL_succ, HC0.out, ← List.append_assoc]; simpa using hJi, hKi⟩
              case measure => have := hltc'.out; simp [intOf]; omega
        · have e : c = cols := by omega
          subst e
          gi_wp2
          go_roundw
          case rel => exact ⟨r + 1, by omega, by go_num, by rw [sheetP_succ]; exact hJc, hK2⟩
          case measure => simp [intOf]; omega
    · have e : r = rows := by omega
      subst e
      gi_wp2
      go_end0
      exact ⟨⟨_, rfl⟩, .inl ⟨_, rfl, hJr⟩⟩
end Go.Proofs.YtdeplhihcifmeaaGreatDoor

/- A loop over a function that keeps a variable of its own in a box of the type e: the body never leaves the loop. -/
namespace Go.Proofs.YtdeplhihcifmeaaGreatDoor
open Go.RowKit Go.Shelf

/-- J holds on where memory grows, and where one block from B on is written that is no cells, or two cells of the type e. -/
def Bides {β : Type} (B : Nat) (e : TypeId) (J : β → World → Prop) : Prop :=
  ∀ s W W' r, J s W → W.grownBy W' r → (∀ b, r = some b → B ≤ b ∧ ∃ o, W.heap[b]? = some o ∧ (o.isCells = false ∨ ∃ cs f, o = .cells cs e f ∧ cs.size = 2)) → J s W'
theorem Bides.below {β : Type} {B : Nat} {e : TypeId} {J : β → World → Prop} (h : Bides B e J) {s : β} {W W' : World} (hs : J s W) (hb : Below W.heap.size W W') : J s W' :=
  h s W W' none hs ⟨hb.os, hb.tape, hb.output, hb.size, fun i hi _ => hb.block i hi⟩ (fun _ e => by cases e)
theorem Bides.put {β : Type} {B : Nat} {e : TypeId} {J : β → World → Prop} (h : Bides B e J) {s : β} {W : World} {l : Nat} {o : Obj} (o' : Obj) (hs : J s W) (hB : B ≤ l) (hl : W.heap[l]? = some o) (ho : o.isCells = false) : J s (W.putObj l o') :=
  h s W _ (some l) hs (grownBy_putObj' W l o') (fun b e => by cases e; exact ⟨hB, o, hl, .inl ho⟩)
theorem Bides.and {β : Type} {B : Nat} {e : TypeId} {J K : β → World → Prop} (h : Bides B e J) (k : Bides B e K) : Bides B e (fun s W => J s W ∧ K s W) := fun s W W' r hs hg hr => ⟨h s W W' r hs.1 hg hr, k s W W' r hs.2 hg hr⟩
/-- The loop's two blocks lie as they lay. -/
def Book (B : Nat) (W W' : World) : Prop := W'.heap[B]? = W.heap[B]? ∧ W'.heap[B + 1]? = W.heap[B + 1]? ∧ W.heap.size ≤ W'.heap.size
theorem Book.trans {B : Nat} {X Y Z : World} (h : Book B X Y) (k : Book B Y Z) : Book B X Z := ⟨k.1.trans h.1, k.2.1.trans h.2.1, Nat.le_trans h.2.2 k.2.2⟩
theorem Book.below {B : Nat} {W W' : World} (hB : B + 2 ≤ W.heap.size) (h : Below W.heap.size W W') : Book B W W' := ⟨h.block _ (by omega), h.block _ (by omega), h.size⟩
theorem Book.others {B : Nat} {W W' : World} (h : KeepsOthers W W') (h0 : ∃ o, W.heap[B]? = some o ∧ o.isCells = false) (h1 : ∃ o, W.heap[B + 1]? = some o ∧ o.isCells = false) : Book B W W' := by
  obtain ⟨o0, a0, b0⟩ := h0
  obtain ⟨o1, a1, b1⟩ := h1
  exact ⟨(h.same _ _ a0 b0).trans a0.symm, (h.same _ _ a1 b1).trans a1.symm, h.size⟩
def RoundEnd {α : Type} (B : Nat) (Kp : World → World → Prop) (I : List α → World → Prop) (xs : List α) (W : World) : Exit → Act → World → Prop
  | .normal, _, W' => Book B W W' ∧ Kp W W' ∧ I xs W'
  | _, _, _ => False

/-- What the loop asks of the function over which it goes. -/
def Visits {α : Type} (P : Program) (n : Nat) (e : TypeId) (gf : Nat) (lb : Array Value) (encs : α → Array Value) (Kp : World → World → Prop) (S : List α → Prop) (G : List α → α → Prop) (w : World) : Prop :=
  ∀ (l : Nat) (J : List α → World → Prop) (W : World), Below w.heap.size w W → Bides W.heap.size e J →
    (∀ pre x W1, J pre W1 → G pre x → YieldAt Fence.wide (n - 1) P l (encs x) W1 fun en W' => en = .returned (.bool true) ∧ J (pre ++ [x]) W' ∧ Kp W1 W') →
    J [] W → CallsIn Fence.wide n P gf (#[.func (.yield l) #[] #[]] ++ lb) W fun en W' => (∃ v, en = .returned v) ∧ ∃ xs, S xs ∧ J xs W'

theorem wpIn_visits {α : Type} {P : Program} {n : Nat} {e : TypeId} {g : Operand} {ps : Array Tmp} {assign body : Code} {Q : Exit → Act → World → Prop} {a : Act} {w : World} (h1 : 1 ≤ n)
    {gf : Nat} {lb : Array Value} (hg : a.eval g = .func (.func gf) #[] lb) (eg : ∀ args w, (callFunc gf args).run P w = .ok (.enter gf args) w)
    {encs : α → Array Value} {Kp : World → World → Prop} {S : List α → Prop} {G : List α → α → Prop} (hseq : Visits P (n - 1) e gf lb encs Kp S G w)
    (hKt : ∀ {A B C : World}, Kp A B → Kp B C → Kp A C) (hKb : ∀ (W : World) (l : Nat) (o o' : Obj), w.heap.size ≤ l → W.heap[l]? = some o → o.isCells = false → o.isWalk = false → Kp W (W.putObj l o')) (hps : ∀ x, (encs x).size = ps.size)
    (I : List α → World → Prop) (hI : Bides w.heap.size e I) (h0 : I [] w)
    (hround : ∀ (l : Nat) (pre : List α) (x : α) (W : World), w.heap.size + 2 ≤ W.heap.size → I pre W → G pre x →
      assign.wpIn (Fence.wide.inRound l) (n - 1 - 1) P (Exit.then (fun a' Wa => Book w.heap.size W Wa ∧ Kp W Wa ∧
        ∀ Wb, Wa.grownBy Wb (some (w.heap.size + 1)) → (∃ o, Wa.heap[w.heap.size + 1]? = some o ∧ o.isCells = false) → ((∃ o, Wb.heap[w.heap.size]? = some o ∧ o.isCells = false) ∧ ∃ o, Wb.heap[w.heap.size + 1]? = some o ∧ o.isCells = false) → body.wpIn (Fence.wide.inRound l) (n - 1 - 1) P (RoundEnd w.heap.size Kp I (pre ++ [x]) Wb) a' Wb) (fun _ _ _ => False))
        { tmps := (ps.zip (encs x)).foldl (fun t (p, v) => t.setIfInBounds p v) a.tmps, defers := [] } W)
    (hdone : ∀ (D : Nat) (xs : List α) (W : World), w.heap.size ≤ D → S xs → I xs W → W.heap[D]? = some (.deferred (some [])) → Q .normal { a with defers := { target := .collected D, args := #[] } :: a.defers } W) :
    (Code.rangeFunc g ps assign body).wpIn Fence.wide n P Q a w := by
  refine wpIn_rangeFunc fun fn _ => ?_
  obtain ⟨L, hL⟩ : ∃ L : LoopState → Option Code → Loop, L = fun s j => { state := s, pending := j, fn, tmps := a.tmps, params := ps, assign, body, defers := w.heap.size } := ⟨_, rfl⟩
  obtain ⟨W1, hW1⟩ : ∃ W1, W1 = (w.alloc (.deferred (some []))).alloc (.loop (L .ready none)) := ⟨_, rfl⟩
  have s1 : W1.heap.size = w.heap.size + 2 := by rw [hW1]; simp
  have b1 : Below w.heap.size w W1 := by rw [hW1]; exact ((Below.refl _ _).alloc (Nat.le_refl _) _).alloc (by simp) _
  have r1 : W1.heap[w.heap.size + 1]? = some (.loop (L .ready none)) := by
    rw [hW1]
    have := World.alloc_heap_new (w.alloc (.deferred (some []))) (.loop (L .ready none))
    rwa [World.size_alloc] at this
  have d1 : W1.heap[w.heap.size]? = some (.deferred (some [])) := by
    rw [hW1, Below.heap_alloc _ _ _ (by simp)]
    exact World.alloc_heap_new w _
  refine ⟨w.heap.size + 1, [{ target := .collected w.heap.size, args := #[] }], W1, { target := .fn (.func gf) lb, args := #[.func (.yield (w.heap.size + 1)) #[] #[]] }, W1, gf,
    #[.func (.yield (w.heap.size + 1)) #[] #[]] ++ lb, W1, by rw [hW1, hL]; exact run_enterLoop_outer _ _ _ _ _, ?_, fun _ _ => trivial, by simp [invoke, go_sem, eg], fun _ => h1, ?_⟩
  · simp only [resolve, hg]
    simp [go_sem]
  refine (hseq (w.heap.size + 1) (fun pre W => I pre W ∧ (W.heap[w.heap.size]? = some (.deferred (some [])) ∧ W.heap[w.heap.size + 1]? = some (.loop (L .ready none)))) W1 b1 ?bid ?yields ⟨hI.below h0 b1, d1, r1⟩).mono ?after
  case bid =>
    intro s X Y r hs hgr hr
    refine ⟨hI s X Y r hs.1 hgr fun b hb => ?_, ?_, ?_⟩
    · obtain ⟨h, o, ho⟩ := hr b hb
      exact ⟨by omega, o, ho⟩
    · exact (hgr.block _ (Array.getElem?_eq_some_iff.1 hs.2.1).1 (fun h => by have := (hr _ h.symm).1; omega)).trans hs.2.1
    · exact (hgr.block _ (Array.getElem?_eq_some_iff.1 hs.2.2).1 (fun h => by have := (hr _ h.symm).1; omega)).trans hs.2.2
  case yields =>
    rintro pre x W ⟨hi, hd, hl⟩ hlen
    have hz := (Array.getElem?_eq_some_iff.1 hl).1
    have hy := run_yield (P := P) (args := encs x) hl (by rw [hL]; exact hps x)
    rw [hL] at hy
    refine ⟨fn, _, assign, body, hy, roundIn_of_wpIn trivial (wpIn_mono (hround _ pre x W (by omega) hi hlen) ?_)⟩
    rintro en a' Wa hp
    cases en with
    | normal =>
      obtain ⟨⟨k1, k2, k3⟩, kp, hbody⟩ := hp
      have hla := k2.trans hl
      have hza := (Array.getElem?_eq_some_iff.1 hla).1
      refine ⟨_, run_beginRound hla (by rw [hL]), ?_⟩
      have hlb : (Wa.putObj (w.heap.size + 1) (.loop { L .ready none with state := .busy })).heap[w.heap.size + 1]? = some (.loop { L .ready none with state := .busy }) := World.putObj_heap_same hza
      have hdb : (Wa.putObj (w.heap.size + 1) (.loop { L .ready none with state := .busy })).heap[w.heap.size]? = some (.deferred (some [])) := (World.putObj_heap_other (by omega)).trans (k1.trans hd)
      have kb : Kp Wa (Wa.putObj (w.heap.size + 1) (.loop { L .ready none with state := .busy })) := hKb _ _ _ _ (by omega) hla rfl rfl
      refine wpIn_mono (hbody _ (grownBy_putObj' _ _ _) ⟨_, hla, rfl⟩ ⟨⟨_, hdb, rfl⟩, ⟨_, hlb, rfl⟩⟩) ?_
      rintro e3 a3 W3 hp3
      cases e3 with
      | normal =>
        obtain ⟨⟨m1, m2, m3⟩, kp3, hi3⟩ := hp3
        have hl3 := m2.trans hlb
        have hz3 := (Array.getElem?_eq_some_iff.1 hl3).1
        refine ⟨_, _, run_endRound none hl3, rfl, ⟨hI.put _ hi3 (by omega) hl3 rfl, (World.putObj_heap_other (by omega)).trans (m1.trans hdb), ?_⟩, hKt kp (hKt (hKt kb kp3) (hKb _ _ _ _ (by omega) hl3 rfl rfl))⟩
        rw [World.putObj_heap_same hz3, hL]
        rfl
      | _ => exact hp3.elim
    | _ => exact hp.elim
  case after =>
    rintro en W2 ⟨⟨v, rfl⟩, xs, hS, hi, hd, hl⟩
    exact ⟨none, _, by have := run_endLoop (P := P) hl (by rw [hL]; simp); rw [hL] at this; exact this, hdone _ xs _ (Nat.le_refl _) hS (hI.put _ hi (by omega) hl rfl) ((World.putObj_heap_other (by omega)).trans hd)⟩
end Go.Proofs.YtdeplhihcifmeaaGreatDoor

/- As RfT, where the variable of the function's own is one cell of the type e, in a block from B0 on. -/
namespace Go.Proofs.YtdeplhihcifmeaaGreatDoor
open Go.RowKit Go.Shelf

/-- J holds on where memory grows, where one block from B on is written that is no cells, or one from B0 on that is one cell of the type e. -/
def Bides1 {β : Type} (B0 B : Nat) (e : TypeId) (J : β → World → Prop) : Prop :=
  ∀ s W W' r, J s W → W.grownBy W' r → (∀ b, r = some b → ∃ o, W.heap[b]? = some o ∧ ((o.isCells = false ∧ B ≤ b) ∨ (∃ cs f, o = .cells cs e f ∧ cs.size = 1 ∧ B0 ≤ b))) → J s W'
theorem Bides1.below {β : Type} {B0 B : Nat} {e : TypeId} {J : β → World → Prop} (h : Bides1 B0 B e J) {s : β} {W W' : World} (hs : J s W) (hb : Below W.heap.size W W') : J s W' :=
  h s W W' none hs ⟨hb.os, hb.tape, hb.output, hb.size, fun i hi _ => hb.block i hi⟩ (fun _ e => by cases e)
theorem Bides1.put {β : Type} {B0 B : Nat} {e : TypeId} {J : β → World → Prop} (h : Bides1 B0 B e J) {s : β} {W : World} {l : Nat} {o : Obj} (o' : Obj) (hs : J s W) (hB : B ≤ l) (hl : W.heap[l]? = some o) (ho : o.isCells = false) : J s (W.putObj l o') :=
  h s W _ (some l) hs (grownBy_putObj' W l o') (fun b e => by cases e; exact ⟨o, hl, .inl ⟨ho, hB⟩⟩)

/-- What the loop asks of the function over which it goes. -/
def Visits1 {α : Type} (P : Program) (B0 n : Nat) (e : TypeId) (gf : Nat) (lb : Array Value) (encs : α → Array Value) (Kp : World → World → Prop) (S : List α → Prop) (G : List α → α → Prop) (w : World) : Prop :=
  ∀ (l : Nat) (J : List α → World → Prop) (W : World), Below w.heap.size w W → Bides1 B0 W.heap.size e J →
    (∀ pre x W1, J pre W1 → G pre x → YieldAt Fence.wide (n - 1) P l (encs x) W1 fun en W' => en = .returned (.bool true) ∧ J (pre ++ [x]) W' ∧ Kp W1 W') →
    J [] W → CallsIn Fence.wide n P gf (#[.func (.yield l) #[] #[]] ++ lb) W fun en W' => (∃ v, en = .returned v) ∧ ∃ xs, S xs ∧ J xs W'

theorem wpIn_visits1 {α : Type} {P : Program} {B0 n : Nat} {e : TypeId} {g : Operand} {ps : Array Tmp} {assign body : Code} {Q : Exit → Act → World → Prop} {a : Act} {w : World} (h1 : 1 ≤ n)
    {gf : Nat} {lb : Array Value} (hg : a.eval g = .func (.func gf) #[] lb) (eg : ∀ args w, (callFunc gf args).run P w = .ok (.enter gf args) w)
    {encs : α → Array Value} {Kp : World → World → Prop} {S : List α → Prop} {G : List α → α → Prop} (hseq : Visits1 P B0 (n - 1) e gf lb encs Kp S G w)
    (hKt : ∀ {A B C : World}, Kp A B → Kp B C → Kp A C) (hKb : ∀ (W : World) (l : Nat) (o o' : Obj), w.heap.size ≤ l → W.heap[l]? = some o → o.isCells = false → o.isWalk = false → Kp W (W.putObj l o')) (hps : ∀ x, (encs x).size = ps.size)
    (I : List α → World → Prop) (hI : Bides1 B0 w.heap.size e I) (h0 : I [] w)
    (hround : ∀ (l : Nat) (pre : List α) (x : α) (W : World), w.heap.size + 2 ≤ W.heap.size → I pre W → G pre x →
      assign.wpIn (Fence.wide.inRound l) (n - 1 - 1) P (Exit.then (fun a' Wa => Book w.heap.size W Wa ∧ Kp W Wa ∧
        ∀ Wb, Wa.grownBy Wb (some (w.heap.size + 1)) → (∃ o, Wa.heap[w.heap.size + 1]? = some o ∧ o.isCells = false) → ((∃ o, Wb.heap[w.heap.size]? = some o ∧ o.isCells = false) ∧ ∃ o, Wb.heap[w.heap.size + 1]? = some o ∧ o.isCells = false) → body.wpIn (Fence.wide.inRound l) (n - 1 - 1) P (RoundEnd w.heap.size Kp I (pre ++ [x]) Wb) a' Wb) (fun _ _ _ => False))
        { tmps := (ps.zip (encs x)).foldl (fun t (p, v) => t.setIfInBounds p v) a.tmps, defers := [] } W)
    (hdone : ∀ (D : Nat) (xs : List α) (W : World), w.heap.size ≤ D → S xs → I xs W → W.heap[D]? = some (.deferred (some [])) → Q .normal { a with defers := { target := .collected D, args := #[] } :: a.defers } W) :
    (Code.rangeFunc g ps assign body).wpIn Fence.wide n P Q a w := by
  refine wpIn_rangeFunc fun fn _ => ?_
  obtain ⟨L, hL⟩ : ∃ L : LoopState → Option Code → Loop, L = fun s j => { state := s, pending := j, fn, tmps := a.tmps, params := ps, assign, body, defers := w.heap.size } := ⟨_, rfl⟩
  obtain ⟨W1, hW1⟩ : ∃ W1, W1 = (w.alloc (.deferred (some []))).alloc (.loop (L .ready none)) := ⟨_, rfl⟩
  have s1 : W1.heap.size = w.heap.size + 2 := by rw [hW1]; simp
  have b1 : Below w.heap.size w W1 := by rw [hW1]; exact ((Below.refl _ _).alloc (Nat.le_refl _) _).alloc (by simp) _
  have r1 : W1.heap[w.heap.size + 1]? = some (.loop (L .ready none)) := by
    rw [hW1]
    have := World.alloc_heap_new (w.alloc (.deferred (some []))) (.loop (L .ready none))
    rwa [World.size_alloc] at this
  have d1 : W1.heap[w.heap.size]? = some (.deferred (some [])) := by
    rw [hW1, Below.heap_alloc _ _ _ (by simp)]
    exact World.alloc_heap_new w _
  refine ⟨w.heap.size + 1, [{ target := .collected w.heap.size, args := #[] }], W1, { target := .fn (.func gf) lb, args := #[.func (.yield (w.heap.size + 1)) #[] #[]] }, W1, gf,
    #[.func (.yield (w.heap.size + 1)) #[] #[]] ++ lb, W1, by rw [hW1, hL]; exact run_enterLoop_outer _ _ _ _ _, ?_, fun _ _ => trivial, by simp [invoke, go_sem, eg], fun _ => h1, ?_⟩
  · simp only [resolve, hg]
    simp [go_sem]
  refine (hseq (w.heap.size + 1) (fun pre W => I pre W ∧ (W.heap[w.heap.size]? = some (.deferred (some [])) ∧ W.heap[w.heap.size + 1]? = some (.loop (L .ready none)))) W1 b1 ?bid ?yields ⟨hI.below h0 b1, d1, r1⟩).mono ?after
  case bid =>
    intro s X Y r hs hgr hr
    have hno : ∀ k o, X.heap[k]? = some o → o.isCells = false → k < w.heap.size + 2 → some k ≠ r := by
      intro k o ho hc hk e
      obtain ⟨o', ho', h1⟩ := hr k e.symm
      rw [ho] at ho'
      injection ho' with ho'
      subst ho'
      rcases h1 with ⟨-, h1⟩ | ⟨cs, f, rfl, -, -⟩
      · omega
      · cases hc
    refine ⟨hI s X Y r hs.1 hgr fun b hb => ?_, ?_, ?_⟩
    · obtain ⟨o, ho, h⟩ := hr b hb
      exact ⟨o, ho, h.imp (fun h => ⟨h.1, by omega⟩) id⟩
    · exact (hgr.block _ (Array.getElem?_eq_some_iff.1 hs.2.1).1 (hno _ _ hs.2.1 rfl (by omega))).trans hs.2.1
    · exact (hgr.block _ (Array.getElem?_eq_some_iff.1 hs.2.2).1 (hno _ _ hs.2.2 rfl (by omega))).trans hs.2.2
  case yields =>
    rintro pre x W ⟨hi, hd, hl⟩ hlen
    have hz := (Array.getElem?_eq_some_iff.1 hl).1
    have hy := run_yield (P := P) (args := encs x) hl (by rw [hL]; exact hps x)
    rw [hL] at hy
    refine ⟨fn, _, assign, body, hy, roundIn_of_wpIn trivial (wpIn_mono (hround _ pre x W (by omega) hi hlen) ?_)⟩
    rintro en a' Wa hp
    cases en with
    | normal =>
      obtain ⟨⟨k1, k2, k3⟩, kp, hbody⟩ := hp
      have hla := k2.trans hl
      have hza := (Array.getElem?_eq_some_iff.1 hla).1
      refine ⟨_, run_beginRound hla (by rw [hL]), ?_⟩
      have hlb : (Wa.putObj (w.heap.size + 1) (.loop { L .ready none with state := .busy })).heap[w.heap.size + 1]? = some (.loop { L .ready none with state := .busy }) := World.putObj_heap_same hza
      have hdb : (Wa.putObj (w.heap.size + 1) (.loop { L .ready none with state := .busy })).heap[w.heap.size]? = some (.deferred (some [])) := (World.putObj_heap_other (by omega)).trans (k1.trans hd)
      have kb : Kp Wa (Wa.putObj (w.heap.size + 1) (.loop { L .ready none with state := .busy })) := hKb _ _ _ _ (by omega) hla rfl rfl
      refine wpIn_mono (hbody _ (grownBy_putObj' _ _ _) ⟨_, hla, rfl⟩ ⟨⟨_, hdb, rfl⟩, ⟨_, hlb, rfl⟩⟩) ?_
      rintro e3 a3 W3 hp3
      cases e3 with
      | normal =>
        obtain ⟨⟨m1, m2, m3⟩, kp3, hi3⟩ := hp3
        have hl3 := m2.trans hlb
        have hz3 := (Array.getElem?_eq_some_iff.1 hl3).1
        refine ⟨_, _, run_endRound none hl3, rfl, ⟨hI.put _ hi3 (by omega) hl3 rfl, (World.putObj_heap_other (by omega)).trans (m1.trans hdb), ?_⟩, hKt kp (hKt (hKt kb kp3) (hKb _ _ _ _ (by omega) hl3 rfl rfl))⟩
        rw [World.putObj_heap_same hz3, hL]
        rfl
      | _ => exact hp3.elim
    | _ => exact hp.elim
  case after =>
    rintro en W2 ⟨⟨v, rfl⟩, xs, hS, hi, hd, hl⟩
    exact ⟨none, _, by have := run_endLoop (P := P) hl (by rw [hL]; simp); rw [hL] at this; exact this, hdone _ xs _ (Nat.le_refl _) hS (hI.put _ hi (by omega) hl rfl) ((World.putObj_heap_other (by omega)).trans hd)⟩
end Go.Proofs.YtdeplhihcifmeaaGreatDoor

/- CutSuffix, Cut, Split, IndexByte, Atoi of the library laid at this program. -/
namespace Go.Proofs.YtdeplhihcifmeaaGreatDoor
open Go.RowKit Go.Shelf
def Tryz.ly104_ren : Go.Shelf.Ren := ⟨fun | 104 => 156 | 211 => 174 | 207 => 201 | n => n, fun | 9 => 9 | 4 => 4 | 24 => 192 | 3 => 3 | n => n, fun | n => n⟩
theorem Tryz.ly104 : Go.Proofs.Lays.n104 Tryz.prog Tryz.ly104_ren := {
  mixed := by kernel_rfl
  f104 := Tryz.func156.trans (congrArg some (by kernel_rfl))
  f207 := Tryz.func201.trans (congrArg some (by kernel_rfl))
  f211 := Tryz.func174.trans (congrArg some (by kernel_rfl))
  t3 := Tryz.underlying3
  a3 := Tryz.isAgg3
  z3 := Tryz.sizeOf3
  v3 := Tryz.zeroValue3
  t4 := Tryz.underlying4
  a4 := Tryz.isAgg4
  z4 := Tryz.sizeOf4
  v4 := Tryz.zeroValue4
  t9 := Tryz.underlying9
  a9 := Tryz.isAgg9
  z9 := Tryz.sizeOf9
  v9 := Tryz.zeroValue9
  t24 := Tryz.underlying192
  a24 := Tryz.isAgg192
  z24 := Tryz.sizeOf192
  v24 := Tryz.zeroValue192 }
def Tryz.ly145_ren : Go.Shelf.Ren := ⟨fun | 145 => 157 | 220 => 175 | 219 => 202 | 217 => 173 | 225 => 220 | 224 => 221 | 267 => 222 | 266 => 200 | 314 => 235 | n => n, fun | 9 => 9 | 4 => 4 | 59 => 194 | 3 => 3 | 5 => 5 | 46 => 202 | 146 => 263 | 51 => 222 | n => n, fun | 1 => 1 | n => n⟩
theorem Tryz.ly145 : Go.Proofs.Lays.n145 Tryz.prog Tryz.ly145_ren := {
  mixed := by kernel_rfl
  f145 := Tryz.func157.trans (congrArg some (by kernel_rfl))
  f217 := Tryz.func173.trans (congrArg some (by kernel_rfl))
  f219 := Tryz.func202.trans (congrArg some (by kernel_rfl))
  f220 := Tryz.func175.trans (congrArg some (by kernel_rfl))
  f224 := Tryz.func221.trans (congrArg some (by kernel_rfl))
  f225 := Tryz.func220.trans (congrArg some (by kernel_rfl))
  f266 := Tryz.func200.trans (congrArg some (by kernel_rfl))
  f267 := Tryz.func222.trans (congrArg some (by kernel_rfl))
  f314 := Tryz.func235.trans (congrArg some (by kernel_rfl))
  t3 := Tryz.underlying3
  a3 := Tryz.isAgg3
  z3 := Tryz.sizeOf3
  v3 := Tryz.zeroValue3
  t4 := Tryz.underlying4
  a4 := Tryz.isAgg4
  z4 := Tryz.sizeOf4
  v4 := Tryz.zeroValue4
  t5 := Tryz.underlying5
  a5 := Tryz.isAgg5
  z5 := Tryz.sizeOf5
  v5 := Tryz.zeroValue5
  t9 := Tryz.underlying9
  a9 := Tryz.isAgg9
  z9 := Tryz.sizeOf9
  v9 := Tryz.zeroValue9
  t46 := Tryz.underlying202
  a46 := Tryz.isAgg202
  z46 := Tryz.sizeOf202
  v46 := Tryz.zeroValue202
  t51 := Tryz.underlying222
  a51 := Tryz.isAgg222
  z51 := Tryz.sizeOf222
  v51 := Tryz.zeroValue222
  t59 := Tryz.underlying194
  a59 := Tryz.isAgg194
  z59 := Tryz.sizeOf194
  v59 := Tryz.zeroValue194
  t146 := Tryz.underlying263
  a146 := Tryz.isAgg263
  z146 := Tryz.sizeOf263
  v146 := Tryz.zeroValue263
  g1 := by kernel_rfl }
def Tryz.ly146_ren : Go.Shelf.Ren := ⟨fun | 146 => 159 | 221 => 177 | 268 => 205 | 138 => 206 | 143 => 207 | 195 => 228 | 197 => 229 | 218 => 230 | 219 => 202 | 260 => 239 | 217 => 173 | 225 => 220 | 224 => 221 | 267 => 222 | 266 => 200 | 314 => 235 | n => n, fun | 9 => 9 | 31 => 197 | 3 => 3 | 4 => 4 | 0 => 0 | 105 => 257 | 21 => 21 | 5 => 5 | 46 => 202 | 119 => 277 | 139 => 280 | 138 => 279 | 146 => 263 | 51 => 222 | n => n, fun | 1 => 1 | 3 => 6 | 4 => 7 | n => n⟩
theorem Tryz.ly146 : Go.Proofs.Lays.n146 Tryz.prog Tryz.ly146_ren := {
  mixed := by kernel_rfl
  f138 := Tryz.func206.trans (congrArg some (by kernel_rfl))
  f143 := Tryz.func207.trans (congrArg some (by kernel_rfl))
  f146 := Tryz.func159.trans (congrArg some (by kernel_rfl))
  f195 := Tryz.func228.trans (congrArg some (by kernel_rfl))
  f197 := Tryz.func229.trans (congrArg some (by kernel_rfl))
  f217 := Tryz.func173.trans (congrArg some (by kernel_rfl))
  f218 := Tryz.func230.trans (congrArg some (by kernel_rfl))
  f219 := Tryz.func202.trans (congrArg some (by kernel_rfl))
  f221 := Tryz.func177.trans (congrArg some (by kernel_rfl))
  f224 := Tryz.func221.trans (congrArg some (by kernel_rfl))
  f225 := Tryz.func220.trans (congrArg some (by kernel_rfl))
  f260 := Tryz.func239.trans (congrArg some (by kernel_rfl))
  f266 := Tryz.func200.trans (congrArg some (by kernel_rfl))
  f267 := Tryz.func222.trans (congrArg some (by kernel_rfl))
  f268 := Tryz.func205.trans (congrArg some (by kernel_rfl))
  f314 := Tryz.func235.trans (congrArg some (by kernel_rfl))
  t0 := Tryz.underlying0
  a0 := Tryz.isAgg0
  z0 := Tryz.sizeOf0
  v0 := Tryz.zeroValue0
  t3 := Tryz.underlying3
  a3 := Tryz.isAgg3
  z3 := Tryz.sizeOf3
  v3 := Tryz.zeroValue3
  t4 := Tryz.underlying4
  a4 := Tryz.isAgg4
  z4 := Tryz.sizeOf4
  v4 := Tryz.zeroValue4
  t5 := Tryz.underlying5
  a5 := Tryz.isAgg5
  z5 := Tryz.sizeOf5
  v5 := Tryz.zeroValue5
  t9 := Tryz.underlying9
  a9 := Tryz.isAgg9
  z9 := Tryz.sizeOf9
  v9 := Tryz.zeroValue9
  t21 := Tryz.underlying21
  a21 := Tryz.isAgg21
  z21 := Tryz.sizeOf21
  v21 := Tryz.zeroValue21
  t31 := Tryz.underlying197
  a31 := Tryz.isAgg197
  z31 := Tryz.sizeOf197
  v31 := Tryz.zeroValue197
  t46 := Tryz.underlying202
  a46 := Tryz.isAgg202
  z46 := Tryz.sizeOf202
  v46 := Tryz.zeroValue202
  t51 := Tryz.underlying222
  a51 := Tryz.isAgg222
  z51 := Tryz.sizeOf222
  v51 := Tryz.zeroValue222
  t105 := Tryz.underlying257
  a105 := Tryz.isAgg257
  z105 := Tryz.sizeOf257
  v105 := Tryz.zeroValue257
  t119 := Tryz.underlying277
  a119 := Tryz.isAgg277
  z119 := Tryz.sizeOf277
  t138 := Tryz.underlying279
  a138 := Tryz.isAgg279
  z138 := Tryz.sizeOf279
  v138 := Tryz.zeroValue279
  t139 := Tryz.underlying280
  a139 := Tryz.isAgg280
  z139 := Tryz.sizeOf280
  v139 := Tryz.zeroValue280
  t146 := Tryz.underlying263
  a146 := Tryz.isAgg263
  z146 := Tryz.sizeOf263
  v146 := Tryz.zeroValue263
  g1 := by kernel_rfl
  g3 := by kernel_rfl
  g4 := by kernel_rfl }
def Tryz.ly137_ren : Go.Shelf.Ren := ⟨fun | 137 => 155 | 217 => 173 | 266 => 200 | n => n, fun | 9 => 9 | 5 => 5 | 3 => 3 | n => n, fun | n => n⟩
theorem Tryz.ly137 : Go.Proofs.Lays.n137 Tryz.prog Tryz.ly137_ren := {
  mixed := by kernel_rfl
  f137 := Tryz.func155.trans (congrArg some (by kernel_rfl))
  f217 := Tryz.func173.trans (congrArg some (by kernel_rfl))
  f266 := Tryz.func200.trans (congrArg some (by kernel_rfl))
  t3 := Tryz.underlying3
  a3 := Tryz.isAgg3
  z3 := Tryz.sizeOf3
  v3 := Tryz.zeroValue3
  t5 := Tryz.underlying5
  a5 := Tryz.isAgg5
  z5 := Tryz.sizeOf5
  v5 := Tryz.zeroValue5
  t9 := Tryz.underlying9
  a9 := Tryz.isAgg9
  z9 := Tryz.sizeOf9
  v9 := Tryz.zeroValue9 }
def Tryz.ly172_ren : Go.Shelf.Ren := ⟨fun | 172 => 176 | 244 => 203 | 245 => 204 | 247 => 223 | 279 => 224 | 280 => 225 | 281 => 226 | 282 => 227 | 287 => 236 | 316 => 237 | 171 => 124 | 205 => 238 | 321 => 240 | 322 => 241 | 243 => 153 | 246 => 172 | 283 => 196 | 284 => 197 | 285 => 198 | 286 => 199 | 129 => 187 | 317 => 216 | 318 => 217 | 319 => 218 | 320 => 219 | 337 => 233 | 338 => 234 | n => n, fun | 9 => 9 | 3 => 3 | 75 => 163 | 76 => 164 | 4 => 4 | 5 => 5 | 167 => 250 | 37 => 159 | 0 => 0 | 85 => 251 | 2 => 2 | 168 => 253 | 53 => 224 | 175 => 265 | 46 => 202 | 210 => 269 | 127 => 190 | 145 => 276 | 143 => 274 | 21 => 21 | 171 => 230 | 173 => 232 | 212 => 248 | 51 => 222 | 20 => 20 | 213 => 249 | 232 => 271 | 233 => 272 | 80 => 168 | n => n, fun | 15 => 2 | 16 => 3 | 17 => 0 | 18 => 4 | 19 => 5 | n => n⟩
theorem Tryz.ly172 : Go.Proofs.LaysC.n172 Tryz.prog Tryz.ly172_ren := {
  mixed := by kernel_rfl
  f129 := Tryz.func187.trans (congrArg some (by kernel_rfl))
  f171 := Tryz.func124.trans (congrArg some (by kernel_rfl))
  f172 := Tryz.func176.trans (congrArg some (by kernel_rfl))
  f205 := Tryz.func238.trans (congrArg some (by kernel_rfl))
  f243 := Tryz.func153.trans (congrArg some (by kernel_rfl))
  f244 := Tryz.func203.trans (congrArg some (by kernel_rfl))
  f245 := Tryz.func204.trans (congrArg some (by kernel_rfl))
  f246 := Tryz.func172.trans (congrArg some (by kernel_rfl))
  f247 := Tryz.func223.trans (congrArg some (by kernel_rfl))
  f279 := Tryz.func224.trans (congrArg some (by kernel_rfl))
  f280 := Tryz.func225.trans (congrArg some (by kernel_rfl))
  f281 := Tryz.func226.trans (congrArg some (by kernel_rfl))
  f282 := Tryz.func227.trans (congrArg some (by kernel_rfl))
  f283 := Tryz.func196.trans (congrArg some (by kernel_rfl))
  f284 := Tryz.func197.trans (congrArg some (by kernel_rfl))
  f285 := Tryz.func198.trans (congrArg some (by kernel_rfl))
  f286 := Tryz.func199.trans (congrArg some (by kernel_rfl))
  f287 := Tryz.func236.trans (congrArg some (by kernel_rfl))
  f316 := Tryz.func237.trans (congrArg some (by kernel_rfl))
  f317 := Tryz.func216.trans (congrArg some (by kernel_rfl))
  f318 := Tryz.func217.trans (congrArg some (by kernel_rfl))
  f319 := Tryz.func218.trans (congrArg some (by kernel_rfl))
  f320 := Tryz.func219.trans (congrArg some (by kernel_rfl))
  f321 := Tryz.func240.trans (congrArg some (by kernel_rfl))
  f322 := Tryz.func241.trans (congrArg some (by kernel_rfl))
  f337 := Tryz.func233.trans (congrArg some (by kernel_rfl))
  f338 := Tryz.func234.trans (congrArg some (by kernel_rfl))
  t0 := Tryz.underlying0
  a0 := Tryz.isAgg0
  z0 := Tryz.sizeOf0
  v0 := Tryz.zeroValue0
  t2 := Tryz.underlying2
  a2 := Tryz.isAgg2
  z2 := Tryz.sizeOf2
  v2 := Tryz.zeroValue2
  t3 := Tryz.underlying3
  a3 := Tryz.isAgg3
  z3 := Tryz.sizeOf3
  v3 := Tryz.zeroValue3
  t4 := Tryz.underlying4
  a4 := Tryz.isAgg4
  z4 := Tryz.sizeOf4
  v4 := Tryz.zeroValue4
  t5 := Tryz.underlying5
  a5 := Tryz.isAgg5
  z5 := Tryz.sizeOf5
  v5 := Tryz.zeroValue5
  t9 := Tryz.underlying9
  a9 := Tryz.isAgg9
  z9 := Tryz.sizeOf9
  v9 := Tryz.zeroValue9
  t20 := Tryz.underlying20
  a20 := Tryz.isAgg20
  z20 := Tryz.sizeOf20
  v20 := Tryz.zeroValue20
  t21 := Tryz.underlying21
  a21 := Tryz.isAgg21
  z21 := Tryz.sizeOf21
  v21 := Tryz.zeroValue21
  t37 := Tryz.underlying159
  a37 := Tryz.isAgg159
  z37 := Tryz.sizeOf159
  v37 := Tryz.zeroValue159
  t46 := Tryz.underlying202
  a46 := Tryz.isAgg202
  z46 := Tryz.sizeOf202
  v46 := Tryz.zeroValue202
  t51 := Tryz.underlying222
  a51 := Tryz.isAgg222
  z51 := Tryz.sizeOf222
  v51 := Tryz.zeroValue222
  t53 := Tryz.underlying224
  a53 := Tryz.isAgg224
  z53 := Tryz.sizeOf224
  v53 := Tryz.zeroValue224
  t75 := Tryz.underlying163
  a75 := Tryz.isAgg163
  z75 := Tryz.sizeOf163
  v75 := Tryz.zeroValue163
  t76 := Tryz.underlying164
  a76 := Tryz.isAgg164
  z76 := Tryz.sizeOf164
  v76 := Tryz.zeroValue164
  t85 := Tryz.underlying251
  a85 := Tryz.isAgg251
  z85 := Tryz.sizeOf251
  v85 := Tryz.zeroValue251
  t127 := Tryz.underlying190
  a127 := Tryz.isAgg190
  z127 := Tryz.sizeOf190
  v127 := Tryz.zeroValue190
  t143 := Tryz.underlying274
  a143 := Tryz.isAgg274
  z143 := Tryz.sizeOf274
  v143 := Tryz.zeroValue274
  t145 := Tryz.underlying276
  a145 := Tryz.isAgg276
  z145 := Tryz.sizeOf276
  v145 := Tryz.zeroValue276
  t167 := Tryz.underlying250
  a167 := Tryz.isAgg250
  z167 := Tryz.sizeOf250
  v167 := Tryz.zeroValue250
  t168 := Tryz.underlying253
  a168 := Tryz.isAgg253
  z168 := Tryz.sizeOf253
  v168 := Tryz.zeroValue253
  t171 := Tryz.underlying230
  a171 := Tryz.isAgg230
  z171 := Tryz.sizeOf230
  v171 := Tryz.zeroValue230
  t173 := Tryz.underlying232
  a173 := Tryz.isAgg232
  z173 := Tryz.sizeOf232
  v173 := Tryz.zeroValue232
  t175 := Tryz.underlying265
  a175 := Tryz.isAgg265
  z175 := Tryz.sizeOf265
  v175 := Tryz.zeroValue265
  t210 := Tryz.underlying269
  a210 := Tryz.isAgg269
  z210 := Tryz.sizeOf269
  v210 := Tryz.zeroValue269
  t212 := Tryz.underlying248
  a212 := Tryz.isAgg248
  z212 := Tryz.sizeOf248
  v212 := Tryz.zeroValue248
  t213 := Tryz.underlying249
  a213 := Tryz.isAgg249
  z213 := Tryz.sizeOf249
  t232 := Tryz.underlying271
  a232 := Tryz.isAgg271
  z232 := Tryz.sizeOf271
  v232 := Tryz.zeroValue271
  t233 := Tryz.underlying272
  a233 := Tryz.isAgg272
  z233 := Tryz.sizeOf272
  v233 := Tryz.zeroValue272
  g15 := by kernel_rfl
  g16 := by kernel_rfl
  g17 := by kernel_rfl
  g18 := by kernel_rfl
  g19 := by kernel_rfl
  t80 := Tryz.underlying168
  a80 := Tryz.isAgg168
  z80 := Tryz.sizeOf168
  v80 := Tryz.zeroValue168
  i0 := by kernel_rfl
  i2 := by kernel_rfl
  i3 := by kernel_rfl
  i4 := by kernel_rfl
  i5 := by kernel_rfl
  i9 := by kernel_rfl
  i20 := by kernel_rfl
  i21 := by kernel_rfl
  i37 := by kernel_rfl
  i46 := by kernel_rfl
  i51 := by kernel_rfl
  i53 := by kernel_rfl
  i75 := by kernel_rfl
  i76 := by kernel_rfl
  i80 := by kernel_rfl
  i85 := by kernel_rfl
  i127 := by kernel_rfl
  i143 := by kernel_rfl
  i145 := by kernel_rfl
  i167 := by kernel_rfl
  i168 := by kernel_rfl
  i171 := by kernel_rfl
  i173 := by kernel_rfl
  i175 := by kernel_rfl
  i210 := by kernel_rfl
  i212 := by kernel_rfl
  i232 := by kernel_rfl
  i233 := by kernel_rfl
  m15 := by kernel_rfl
  m16 := by kernel_rfl
  m17 := by kernel_rfl
  m18 := by kernel_rfl
  m19 := by kernel_rfl
  c0 := by kernel_rfl
  c2 := by kernel_rfl
  c3 := by kernel_rfl
  c4 := by kernel_rfl
  c5 := by kernel_rfl
  c9 := by kernel_rfl
  c20 := by kernel_rfl
  c21 := by kernel_rfl
  c37 := by kernel_rfl
  c46 := by kernel_rfl
  c51 := by kernel_rfl
  c53 := by kernel_rfl
  c75 := by kernel_rfl
  c76 := by kernel_rfl
  c80 := by kernel_rfl
  c85 := by kernel_rfl
  c127 := by kernel_rfl
  c143 := by kernel_rfl
  c145 := by kernel_rfl
  c167 := by kernel_rfl
  c168 := by kernel_rfl
  c171 := by kernel_rfl
  c173 := by kernel_rfl
  c175 := by kernel_rfl
  c210 := by kernel_rfl
  c212 := by kernel_rfl
  c213 := by kernel_rfl
  c232 := by kernel_rfl
  c233 := by kernel_rfl }
end Go.Proofs.YtdeplhihcifmeaaGreatDoor

/- Plain mathematics: what a bar more makes of the knots, the parts and the meshes of a list of bars; no net has fewer than 0 holes. -/
namespace Go.Proofs.YtdeplhihcifmeaaGreatDoor.Ck

/-! ### one bar more, and what is connected -/
theorem conn_add {l l' : List Bar} {b : Bar} (hm : ∀ x, x ∈ l' ↔ x = b ∨ x ∈ l) {k m : Knot} (h : Conn l' k m) : Conn l k m ∨ (Conn l k b.lo ∧ Conn l b.hi m) ∨ (Conn l k b.hi ∧ Conn l b.lo m) := by
  induction h with
  | refl => exact .inl (.refl _)
  | step x hx ha _ ih =>
    rcases (hm x).1 hx with rfl | hx
    · rcases ha with ⟨rfl, rfl⟩ | ⟨rfl, rfl⟩
      · rcases ih with h | ⟨_, h⟩ | ⟨_, h⟩
        · exact .inr (.inl ⟨.refl _, h⟩)
        · exact .inr (.inl ⟨.refl _, h⟩)
        · exact .inl h
      · rcases ih with h | ⟨_, h⟩ | ⟨_, h⟩
        · exact .inr (.inr ⟨.refl _, h⟩)
        · exact .inl h
        · exact .inr (.inr ⟨.refl _, h⟩)
    · have c := Conn.one hx ha
      rcases ih with h | ⟨h, h'⟩ | ⟨h, h'⟩
      · exact .inl (c.trans h)
      · exact .inr (.inl ⟨c.trans h, h'⟩)
      · exact .inr (.inr ⟨c.trans h, h'⟩)
theorem Conn.eq_of_out {l : List Bar} {k m : Knot} (h : Conn l k m) (hk : k ∉ ends l) : k = m := by
  cases h with
  | refl => rfl
  | step b hb ha _ => exact absurd (ha.ends hb).1 hk

/-- R has one knot of each part. -/
def Rep (l : List Bar) (R : List Knot) : Prop := (∀ r ∈ R, r ∈ ends l) ∧ R.Pairwise (fun a b => ¬ Conn l a b) ∧ ∀ k ∈ ends l, ∃ r ∈ R, Conn l r k
theorem Rep.nodup {l : List Bar} {R : List Knot} (h : Rep l R) : R.Nodup := h.2.1.imp fun {a b} (hn : ¬ Conn l a b) (e : a = b) => hn (by rw [e]; exact .refl _)
theorem Rep.one {l : List Bar} {R : List Knot} (h : Rep l R) {a b : Knot} (ha : a ∈ R) (hb : b ∈ R) (hc : Conn l a b) : a = b := by
  by_cases e : a = b
  · exact e
  · exact absurd hc (List.Pairwise.forall_of_forall_of_flip (R := fun a b => a ≠ b → ¬ Conn l a b) (fun x _ hne => absurd rfl hne) (h.2.1.imp fun {a b} (hn : ¬ Conn l a b) (_ : a ≠ b) => hn) (h.2.1.imp fun {a b} (hn : ¬ Conn l a b) (_ : b ≠ a) (hc : Conn l b a) => hn hc.symm) ha hb e)
theorem Rep.le {l : List Bar} {R R' : List Knot} (h : Rep l R) (h' : Rep l R') : R.length ≤ R'.length := by
  have each : ∀ r, ∃ r', r ∈ R → r' ∈ R' ∧ Conn l r' r := fun r => by
    by_cases hr : r ∈ R
    · obtain ⟨r', h1, h2⟩ := h'.2.2 r (h.1 r hr)
      exact ⟨r', fun _ => ⟨h1, h2⟩⟩
    · exact ⟨r, fun h => absurd h hr⟩
  obtain ⟨f, hf⟩ := Classical.axiomOfChoice each
  have hn : (R.map f).Nodup := by
    rw [List.Nodup, List.pairwise_map]
    refine List.Pairwise.imp_of_mem ?_ h.2.1
    intro a b ha hb hnc e
    exact hnc (((hf a ha).2.symm).trans (e ▸ (hf b hb).2))
  have := hn.length_le_of_subset (l₂ := R') (fun x hx => by
    obtain ⟨r, hr, rfl⟩ := List.mem_map.1 hx
    exact (hf r hr).1)
  rwa [List.length_map] at this
theorem Rep.length {l : List Bar} {R R' : List Knot} (h : Rep l R) (h' : Rep l R') : R.length = R'.length := Nat.le_antisymm (h.le h') (h'.le h)
theorem CntIs.reps {l : List Bar} : ∀ {r : List Bar} {seen : List Knot} {n : Nat}, CntIs l seen r n →
    ∃ R : List Knot, R.length = n ∧ (∀ x ∈ R, ∃ c ∈ r, x = c.lo) ∧ R.Pairwise (fun a b => ¬ Conn l a b) ∧ (∀ x ∈ R, ∀ s ∈ seen, ¬ Conn l s x) ∧ ∀ c ∈ r, (∃ s ∈ seen, Conn l s c.lo) ∨ ∃ x ∈ R, Conn l x c.lo
  | [], _, _, .nil _ => ⟨[], rfl, by simp, .nil, by simp, by simp⟩
  | b :: r, seen, _, .old e h => by
    obtain ⟨R, h1, h2, h3, h4, h5⟩ := h.reps
    refine ⟨R, h1, fun x hx => ?_, h3, fun x hx s hs => h4 x hx s (by simp [hs]), fun c hc => ?_⟩
    · obtain ⟨c, hc, e⟩ := h2 x hx
      exact ⟨c, by simp [hc], e⟩
    · rcases List.mem_cons.1 hc with rfl | hc
      · exact .inl e
      · rcases h5 c hc with ⟨s, hs, hsc⟩ | h
        · rcases List.mem_cons.1 hs with rfl | hs
          · obtain ⟨s0, hs0, h0⟩ := e
            exact .inl ⟨s0, hs0, h0.trans hsc⟩
          · exact .inl ⟨s, hs, hsc⟩
        · exact .inr h
  | b :: r, seen, _, .fresh e h => by
    obtain ⟨R, h1, h2, h3, h4, h5⟩ := h.reps
    refine ⟨b.lo :: R, by simp [h1], fun x hx => ?_, List.pairwise_cons.2 ⟨fun x hx => h4 x hx b.lo (by simp), h3⟩, fun x hx s hs => ?_, fun c hc => ?_⟩
    · rcases List.mem_cons.1 hx with rfl | hx
      · exact ⟨b, by simp, rfl⟩
      · obtain ⟨c, hc, e⟩ := h2 x hx
        exact ⟨c, by simp [hc], e⟩
    · rcases List.mem_cons.1 hx with rfl | hx
      · exact fun hc => e ⟨s, hs, hc⟩
      · exact h4 x hx s (by simp [hs])
    · rcases List.mem_cons.1 hc with rfl | hc
      · exact .inr ⟨_, by simp, .refl _⟩
      · rcases h5 c hc with ⟨s, hs, hsc⟩ | ⟨x, hx, h⟩
        · rcases List.mem_cons.1 hs with rfl | hs
          · exact .inr ⟨_, by simp, hsc⟩
          · exact .inl ⟨s, hs, hsc⟩
        · exact .inr ⟨x, by simp [hx], h⟩
theorem PartsIs.rep {l : List Bar} {p : Nat} (h : PartsIs l p) : ∃ R, Rep l R ∧ R.length = p := by
  obtain ⟨R, h1, h2, h3, _, h5⟩ := CntIs.reps h
  refine ⟨R, ⟨fun r hr => ?_, h3, fun k hk => ?_⟩, h1⟩
  · obtain ⟨c, hc, rfl⟩ := h2 r hr
    exact lo_ends hc
  · obtain ⟨c, hc, e⟩ := mem_ends.1 hk
    rcases h5 c hc with ⟨s, hs, _⟩ | ⟨x, hx, hxc⟩
    · simp at hs
    · rcases e with rfl | rfl
      · exact ⟨x, hx, hxc⟩
      · exact ⟨x, hx, hxc.trans (.one hc (.inl ⟨rfl, rfl⟩))⟩
theorem PartsIs.eq_rep {l : List Bar} {p : Nat} (h : PartsIs l p) {R : List Knot} (hR : Rep l R) : p = R.length := by
  obtain ⟨R', h1, h2⟩ := h.rep
  rw [← h2, h1.length hR]

/-! ### the parts of a list with one bar more -/
theorem ends_add {l l' : List Bar} {b : Bar} (hm : ∀ x, x ∈ l' ↔ x = b ∨ x ∈ l) (k : Knot) : k ∈ ends l' ↔ k = b.lo ∨ k = b.hi ∨ k ∈ ends l := by
  rw [mem_ends, mem_ends]
  constructor
  · rintro ⟨x, hx, h⟩
    rcases (hm x).1 hx with rfl | hx
    · rcases h with h | h
      · exact .inl h
      · exact .inr (.inl h)
    · exact .inr (.inr ⟨x, hx, h⟩)
  · rintro (h | h | ⟨x, hx, h⟩)
    · exact ⟨b, (hm b).2 (.inl rfl), .inl h⟩
    · exact ⟨b, (hm b).2 (.inl rfl), .inr h⟩
    · exact ⟨x, (hm x).2 (.inr hx), h⟩
theorem conn_more {l l' : List Bar} {b : Bar} (hm : ∀ x, x ∈ l' ↔ x = b ∨ x ∈ l) {k m : Knot} (h : Conn l k m) : Conn l' k m := h.mono fun x hx => (hm x).2 (.inr hx)
theorem conn_bar {l l' : List Bar} {b : Bar} (hm : ∀ x, x ∈ l' ↔ x = b ∨ x ∈ l) : Conn l' b.lo b.hi := .one ((hm b).2 (.inl rfl)) (.inl ⟨rfl, rfl⟩)
/-- Both ends were connected: the parts stay. -/
theorem rep_same {l l' : List Bar} {b : Bar} (hm : ∀ x, x ∈ l' ↔ x = b ∨ x ∈ l) (hlo : b.lo ∈ ends l) (hhi : b.hi ∈ ends l) (hc : Conn l b.lo b.hi) {R : List Knot} (h : Rep l R) : Rep l' R := by
  have back : ∀ {k m : Knot}, Conn l' k m → Conn l k m := fun hk => by
    rcases conn_add hm hk with h | ⟨h, h'⟩ | ⟨h, h'⟩
    · exact h
    · exact (h.trans hc).trans h'
    · exact (h.trans hc.symm).trans h'
  refine ⟨fun r hr => (ends_add hm r).2 (.inr (.inr (h.1 r hr))), h.2.1.imp fun hn hc' => hn (back hc'), fun k hk => ?_⟩
  have hk' : k ∈ ends l := by
    rcases (ends_add hm k).1 hk with rfl | rfl | h
    · exact hlo
    · exact hhi
    · exact h
  obtain ⟨r, hr, hrk⟩ := h.2.2 k hk'
  exact ⟨r, hr, conn_more hm hrk⟩
/-- Both ends were knots of different parts: these are one part now. -/
theorem rep_less {l l' : List Bar} {b : Bar} (hm : ∀ x, x ∈ l' ↔ x = b ∨ x ∈ l) (hlo : b.lo ∈ ends l) (hhi : b.hi ∈ ends l) (hc : ¬ Conn l b.lo b.hi) {R : List Knot} (h : Rep l R) : ∃ R', Rep l' R' ∧ R'.length + 1 = R.length := by
  obtain ⟨r1, h1, c1⟩ := h.2.2 _ hlo
  obtain ⟨r2, h2, c2⟩ := h.2.2 _ hhi
  have hne : r1 ≠ r2 := by
    rintro rfl
    exact hc (c1.symm.trans c2)
  have hnd := h.nodup
  have mem : ∀ x, x ∈ R.erase r2 ↔ x ≠ r2 ∧ x ∈ R := fun x => hnd.mem_erase_iff
  refine ⟨R.erase r2, ⟨fun r hr => (ends_add hm r).2 (.inr (.inr (h.1 r ((mem r).1 hr).2))), ?_, fun k hk => ?_⟩, ?_⟩
  · refine List.Pairwise.imp_of_mem ?_ (h.2.1.sublist (List.erase_sublist ..))
    intro a c ha hc' hn hac
    obtain ⟨ha1, ha2⟩ := (mem a).1 ha
    obtain ⟨hc1, hc2⟩ := (mem c).1 hc'
    rcases conn_add hm hac with h' | ⟨_, h'⟩ | ⟨h', _⟩
    · exact hn h'
    · exact hc1 (h.one h2 hc2 (c2.trans h')).symm
    · exact ha1 (h.one ha2 h2 (h'.trans c2.symm))
  · have go : ∀ k ∈ ends l, ∃ r ∈ R.erase r2, Conn l' r k := fun k hk => by
      obtain ⟨r, hr, hrk⟩ := h.2.2 k hk
      by_cases e : r = r2
      · subst e
        exact ⟨r1, (mem r1).2 ⟨hne, h1⟩, ((conn_more hm c1).trans (conn_bar hm)).trans ((conn_more hm c2.symm).trans (conn_more hm hrk))⟩
      · exact ⟨r, (mem r).2 ⟨e, hr⟩, conn_more hm hrk⟩
    rcases (ends_add hm k).1 hk with rfl | rfl | hk
    · exact go _ hlo
    · exact go _ hhi
    · exact go _ hk
  · rw [List.length_erase_of_mem h2]
    have : 0 < R.length := List.length_pos_of_mem h2
    omega
/-- One end was a knot, the other one was none: the parts stay. -/
theorem rep_hang {l l' : List Bar} {b : Bar} (hm : ∀ x, x ∈ l' ↔ x = b ∨ x ∈ l) (hx : b.lo ∈ ends l ∧ b.hi ∉ ends l ∨ b.lo ∉ ends l ∧ b.hi ∈ ends l) {R : List Knot} (h : Rep l R) : Rep l' R := by
  have back : ∀ {k m : Knot}, k ∈ ends l → m ∈ ends l → Conn l' k m → Conn l k m := fun hk hm' hc => by
    rcases conn_add hm hc with h' | ⟨h1, h2⟩ | ⟨h1, h2⟩
    · exact h'
    · rcases hx with ⟨_, hn⟩ | ⟨hn, _⟩
      · exact absurd (h2.eq_of_out hn ▸ hm') hn
      · exact absurd (h1.symm.eq_of_out hn ▸ hk) hn
    · rcases hx with ⟨_, hn⟩ | ⟨hn, _⟩
      · exact absurd (h1.symm.eq_of_out hn ▸ hk) hn
      · exact absurd (h2.eq_of_out hn ▸ hm') hn
  refine ⟨fun r hr => (ends_add hm r).2 (.inr (.inr (h.1 r hr))), List.Pairwise.imp_of_mem (fun {a c} ha hc hn hac => hn (back (h.1 a ha) (h.1 c hc) hac)) h.2.1, fun k hk => ?_⟩
  have go : ∀ k ∈ ends l, ∃ r ∈ R, Conn l' r k := fun k hk => by
    obtain ⟨r, hr, hrk⟩ := h.2.2 k hk
    exact ⟨r, hr, conn_more hm hrk⟩
  rcases (ends_add hm k).1 hk with rfl | rfl | hk
  · rcases hx with ⟨hl, _⟩ | ⟨_, hh⟩
    · exact go _ hl
    · obtain ⟨r, hr, hrk⟩ := go _ hh
      exact ⟨r, hr, hrk.trans (conn_bar hm).symm⟩
  · rcases hx with ⟨hl, _⟩ | ⟨_, hh⟩
    · obtain ⟨r, hr, hrk⟩ := go _ hl
      exact ⟨r, hr, hrk.trans (conn_bar hm)⟩
    · exact go _ hh
  · exact go _ hk
/-- No end was a knot: one part more. -/
theorem rep_more {l l' : List Bar} {b : Bar} (hm : ∀ x, x ∈ l' ↔ x = b ∨ x ∈ l) (hlo : b.lo ∉ ends l) (hhi : b.hi ∉ ends l) {R : List Knot} (h : Rep l R) : Rep l' (b.lo :: R) := by
  have back : ∀ {k m : Knot}, k ∈ ends l → m ∈ ends l → Conn l' k m → Conn l k m := fun hk hm' hc => by
    rcases conn_add hm hc with h' | ⟨h1, h2⟩ | ⟨h1, h2⟩
    · exact h'
    · exact absurd (h2.eq_of_out hhi ▸ hm') hhi
    · exact absurd (h2.eq_of_out hlo ▸ hm') hlo
  refine ⟨fun r hr => ?_, List.pairwise_cons.2 ⟨fun r hr hc => ?_, List.Pairwise.imp_of_mem (fun {a c} ha hc hn hac => hn (back (h.1 a ha) (h.1 c hc) hac)) h.2.1⟩, fun k hk => ?_⟩
  · rcases List.mem_cons.1 hr with rfl | hr
    · exact (ends_add hm _).2 (.inl rfl)
    · exact (ends_add hm r).2 (.inr (.inr (h.1 r hr)))
  · have hr' := h.1 r hr
    rcases conn_add hm hc with h' | ⟨_, h2⟩ | ⟨h1, _⟩
    · exact hlo (h'.eq_of_out hlo ▸ hr')
    · exact hhi (h2.eq_of_out hhi ▸ hr')
    · have e := h1.eq_of_out hlo
      have := congrArg Knot.y e
      simp only [Bar.lo, Bar.hi] at this
      omega
  · rcases (ends_add hm k).1 hk with rfl | rfl | hk
    · exact ⟨_, by simp, .refl _⟩
    · exact ⟨_, by simp, conn_bar hm⟩
    · obtain ⟨r, hr, hrk⟩ := h.2.2 k hk
      exact ⟨r, by simp [hr], conn_more hm hrk⟩

/-! ### the knots of a list with one bar more -/
theorem lo_ne_hi (b : Bar) : b.lo ≠ b.hi := fun e => by
  have := congrArg Knot.y e
  simp only [Bar.lo, Bar.hi] at this
  omega
theorem nK_cons {ks : List Knot} (h : ks.Nodup) {l : List Bar} (hm : ∀ k, k ∈ ks ↔ k ∈ ends l) : nK l = ks.length := (nK_eq h hm).symm
theorem nK_more {l l' : List Bar} {b : Bar} (hm : ∀ x, x ∈ l' ↔ x = b ∨ x ∈ l) : nK l' = nK l + (if b.lo ∈ ends l then 0 else 1) + (if b.hi ∈ ends l then 0 else 1) := by
  have hn := nub_nodup (ends l)
  have hne := lo_ne_hi b
  by_cases h1 : b.lo ∈ ends l <;> by_cases h2 : b.hi ∈ ends l
  · rw [if_pos h1, if_pos h2]
    exact nK_cons hn fun k => by
      rw [mem_nub, ends_add hm]
      constructor
      · exact fun h => .inr (.inr h)
      · rintro (rfl | rfl | h)
        · exact h1
        · exact h2
        · exact h
  · rw [if_pos h1, if_neg h2]
    refine (nK_cons (ks := b.hi :: nub (ends l)) (List.nodup_cons.2 ⟨fun h => h2 (mem_nub.1 h), hn⟩) fun k => ?_).trans (by simp [nK])
    rw [List.mem_cons, mem_nub, ends_add hm]
    constructor
    · rintro (h | h)
      · exact .inr (.inl h)
      · exact .inr (.inr h)
    · rintro (rfl | h | h)
      · exact .inr h1
      · exact .inl h
      · exact .inr h
  · rw [if_neg h1, if_pos h2]
    refine (nK_cons (ks := b.lo :: nub (ends l)) (List.nodup_cons.2 ⟨fun h => h1 (mem_nub.1 h), hn⟩) fun k => ?_).trans (by simp [nK])
    rw [List.mem_cons, mem_nub, ends_add hm]
    constructor
    · rintro (h | h)
      · exact .inl h
      · exact .inr (.inr h)
    · rintro (h | rfl | h)
      · exact .inl h
      · exact .inr h2
      · exact .inr h
  · rw [if_neg h1, if_neg h2]
    refine (nK_cons (ks := b.lo :: b.hi :: nub (ends l)) (List.nodup_cons.2 ⟨fun h => ?_, List.nodup_cons.2 ⟨fun h => h2 (mem_nub.1 h), hn⟩⟩) fun k => ?_).trans (by simp [nK])
    · rcases List.mem_cons.1 h with h | h
      · exact hne h
      · exact h1 (mem_nub.1 h)
    · rw [List.mem_cons, List.mem_cons, mem_nub, ends_add hm]

/-- Bars and parts, less the knots: a bar more between connected knots makes it one more, any other one leaves it. -/
theorem rank_more {l l' : List Bar} {b : Bar} (hm : ∀ x, x ∈ l' ↔ x = b ∨ x ∈ l) {p p' : Nat} (hp : PartsIs l p) (hp' : PartsIs l' p') :
    (b.lo ∈ ends l ∧ b.hi ∈ ends l ∧ Conn l b.lo b.hi ∧ p' = p ∧ nK l' = nK l) ∨ (¬ (b.lo ∈ ends l ∧ b.hi ∈ ends l ∧ Conn l b.lo b.hi) ∧ 1 + p' + nK l = p + nK l') := by
  obtain ⟨R, hR, rfl⟩ := hp.rep
  have hk := nK_more hm
  by_cases h1 : b.lo ∈ ends l <;> by_cases h2 : b.hi ∈ ends l
  · by_cases hc : Conn l b.lo b.hi
    · exact .inl ⟨h1, h2, hc, hp'.eq_rep (rep_same hm h1 h2 hc hR), by rw [hk, if_pos h1, if_pos h2, Nat.add_zero]⟩
    · obtain ⟨R', hR', hl⟩ := rep_less hm h1 h2 hc hR
      have := hp'.eq_rep hR'
      rw [if_pos h1, if_pos h2] at hk
      exact .inr ⟨fun h => hc h.2.2, by omega⟩
  · have := hp'.eq_rep (rep_hang hm (.inl ⟨h1, h2⟩) hR)
    rw [if_pos h1, if_neg h2] at hk
    exact .inr ⟨fun h => h2 h.2.1, by omega⟩
  · have := hp'.eq_rep (rep_hang hm (.inr ⟨h1, h2⟩) hR)
    rw [if_neg h1, if_pos h2] at hk
    exact .inr ⟨fun h => h1 h.1, by omega⟩
  · have := hp'.eq_rep (rep_more hm h1 h2 hR)
    rw [List.length_cons] at this
    rw [if_neg h1, if_neg h2] at hk
    exact .inr ⟨fun h => h1 h.1, by omega⟩

/-! ### no net has fewer than 0 holes -/
theorem countP_one {l : List Bar} (hn : l.Nodup) (P P' : Bar → Bool) (x0 : Bar) (h : ∀ x ∈ l, P' x = true → P x = true ∨ x = x0) : l.countP P' ≤ l.countP P + 1 := by
  induction l with
  | nil => simp
  | cons a r ih =>
    obtain ⟨h1, h2⟩ := List.nodup_cons.1 hn
    by_cases ha : a = x0
    · have : r.countP P' ≤ r.countP P := List.countP_mono_left fun x hx hp => by
        rcases h x (by simp [hx]) hp with h' | h'
        · exact h'
        · subst h'; exact absurd (ha ▸ hx) h1
      rw [List.countP_cons, List.countP_cons]
      split <;> split <;> omega
    · have := ih h2 fun x hx => h x (by simp [hx])
      have hh := h a (by simp)
      rw [List.countP_cons, List.countP_cons]
      by_cases hp : P' a = true
      · rcases hh hp with h' | h'
        · simp [hp, h']; omega
        · exact absurd h' ha
      · simp [hp]
        split <;> omega
theorem euler_snoc {l : List Bar} {b : Bar} (hN : Net (l ++ [b])) : nM (l ++ [b]) ≤ nM l ∨ (nM (l ++ [b]) ≤ nM l + 1 ∧ b.lo ∈ ends l ∧ b.hi ∈ ends l ∧ Conn l b.lo b.hi) := by
  have hlt : ∀ x ∈ l, Blt x b := fun x hx => (List.pairwise_append.1 hN.2).2.2 x hx b (by simp)
  have hnd : l.Nodup := (List.nodup_append.1 hN.nodup).1
  have hin : ∀ x, x ∈ l ++ [b] ↔ x ∈ l ∨ x = b := fun x => by simp
  have hb : isMesh (l ++ [b]) b = false := by
    have hno : (⟨b.x - 1, b.y + 1, 1⟩ : Bar) ∉ l ++ [b] := fun h => by
      rcases (hin _).1 h with h | h
      · have := hlt _ h
        unfold Blt at this
        simp only at this
        omega
      · have := congrArg Bar.y h
        simp only at this
        omega
    simp [isMesh, hno]
  have hcount : nM (l ++ [b]) = l.countP (isMesh (l ++ [b])) := by
    rw [nM, List.countP_append]
    simp [hb]
  have hlast : ∀ x ∈ l, isMesh (l ++ [b]) x = true → isMesh l x = true ∨ (b = ⟨x.x + 1, x.y + 1, -1⟩ ∧ x.s = -1 ∧ (⟨x.x, x.y, 1⟩ : Bar) ∈ l ∧ (⟨x.x - 1, x.y + 1, 1⟩ : Bar) ∈ l) := fun x hx hm => by
    simp only [isMesh, Bool.and_eq_true, decide_eq_true_eq] at hm ⊢
    obtain ⟨m1, m2, m3, m4⟩ := hm
    rcases (hin _).1 m4 with h4 | h4
    · have g4 := hlt _ h4
      have h2 : (⟨x.x, x.y, 1⟩ : Bar) ∈ l := by
        rcases (hin _).1 m2 with h | h
        · exact h
        · rw [← h] at g4; unfold Blt at g4; simp only at g4; omega
      have h3 : (⟨x.x - 1, x.y + 1, 1⟩ : Bar) ∈ l := by
        rcases (hin _).1 m3 with h | h
        · exact h
        · rw [← h] at g4; unfold Blt at g4; simp only at g4; omega
      exact .inl ⟨m1, h2, h3, h4⟩
    · have h2 : (⟨x.x, x.y, 1⟩ : Bar) ∈ l := by
        rcases (hin _).1 m2 with h | h
        · exact h
        · rw [← h] at h4
          have := congrArg Bar.y h4
          simp only at this
          omega
      have h3 : (⟨x.x - 1, x.y + 1, 1⟩ : Bar) ∈ l := by
        rcases (hin _).1 m3 with h | h
        · exact h
        · rw [← h] at h4
          have := congrArg Bar.x h4
          simp only at this
          omega
      exact .inr ⟨h4.symm, m1, h2, h3⟩
  by_cases hnew : ∃ x ∈ l, b = ⟨x.x + 1, x.y + 1, -1⟩ ∧ x.s = -1 ∧ (⟨x.x, x.y, 1⟩ : Bar) ∈ l ∧ (⟨x.x - 1, x.y + 1, 1⟩ : Bar) ∈ l
  · obtain ⟨x, hx, hbx, hs, h2, h3⟩ := hnew
    refine .inr ⟨?_, ?_⟩
    · rw [hcount, nM]
      refine countP_one hnd _ _ x fun z hz hm => ?_
      rcases hlast z hz hm with h | ⟨h, hzs, _, _⟩
      · exact .inl h
      · right
        rw [hbx] at h
        obtain ⟨e1, e2, _⟩ := (Bar.mk.injEq ..).mp h
        exact Bar.ext' (by omega) (by omega) (by omega)
    · have c1 : Conn l ⟨x.x + 1, x.y + 1⟩ ⟨x.x, x.y⟩ := .one h2 (.inr ⟨rfl, rfl⟩)
      have c2 : Conn l ⟨x.x, x.y⟩ ⟨x.x - 1, x.y + 1⟩ := .one hx (.inl ⟨rfl, by simp [Bar.hi, hs]; omega⟩)
      have c3 : Conn l ⟨x.x - 1, x.y + 1⟩ ⟨x.x, x.y + 2⟩ := .one h3 (.inl ⟨rfl, by simp [Bar.hi]; omega⟩)
      have e1 : b.lo = ⟨x.x + 1, x.y + 1⟩ := by rw [hbx]; rfl
      have e2 : b.hi = ⟨x.x, x.y + 2⟩ := by rw [hbx]; simp [Bar.hi]; omega
      rw [e1, e2]
      refine ⟨mem_ends.2 ⟨_, h2, .inr rfl⟩, mem_ends.2 ⟨_, h3, .inr (by simp [Bar.hi]; omega)⟩, (c1.trans c2).trans c3⟩
  · left
    rw [hcount, nM]
    refine List.countP_mono_left fun z hz hm => ?_
    rcases hlast z hz hm with h | h
    · exact h
    · exact absurd ⟨z, hz, h⟩ hnew
theorem euler : ∀ (n : Nat) {l : List Bar}, l.length = n → Net l → ∀ {p : Nat}, PartsIs l p → nM l + nK l ≤ l.length + p
  | 0, l, hl, _, _, _ => by
    have : l = [] := List.eq_nil_of_length_eq_zero hl
    subst this
    simp [nM, nK, ends, nub]
  | n + 1, l, hl, hN, p, hp => by
    have hne : l ≠ [] := fun e => by subst e; simp at hl
    obtain ⟨r, b, rfl⟩ : ∃ r b, l = r ++ [b] := ⟨l.dropLast, l.getLast hne, (List.dropLast_concat_getLast hne).symm⟩
    have hN' : Net r := ⟨fun x hx => hN.1 x (by simp [hx]), (List.pairwise_append.1 hN.2).1⟩
    obtain ⟨q, hq⟩ := CntIs.total (l := r) r []
    have ih := euler n (by simpa using hl) hN' hq
    have hm : ∀ x, x ∈ r ++ [b] ↔ x = b ∨ x ∈ r := fun x => by simp [or_comm]
    have hr := rank_more hm hq hp
    have hs := euler_snoc hN
    rw [List.length_append, List.length_singleton]
    rcases hr with ⟨_, _, _, e1, e2⟩ | ⟨hn, e⟩
    · rcases hs with h | ⟨h, _⟩ <;> omega
    · rcases hs with h | ⟨_, h1, h2, h3⟩
      · omega
      · exact absurd ⟨h1, h2, h3⟩ hn
end Go.Proofs.YtdeplhihcifmeaaGreatDoor.Ck

/- The examples of chapter 1: plain mathematics. -/
namespace Go.Proofs.YtdeplhihcifmeaaGreatDoor
open Ck

/-- The knots that are reached from some in so many rounds. -/
def reachL (l : List Bar) : Nat → List Knot → List Knot
  | 0, s => s
  | n + 1, s => reachL l n (s ++ l.flatMap fun b => (if b.lo ∈ s then [b.hi] else []) ++ (if b.hi ∈ s then [b.lo] else []))
theorem reach_conn {l : List Bar} {r : Knot} : ∀ (n : Nat) (s : List Knot), (∀ k ∈ s, Conn l r k) → ∀ k ∈ reachL l n s, Conn l r k
  | 0, _, h, k, hk => h k hk
  | n + 1, s, h, k, hk => by
    refine reach_conn n _ (fun q hq => ?_) k hk
    rw [List.mem_append, List.mem_flatMap] at hq
    rcases hq with hq | ⟨b, hb, hq⟩
    · exact h q hq
    rw [List.mem_append] at hq
    rcases hq with hq | hq
    · split at hq
      · rename_i hs
        rw [List.mem_singleton] at hq
        subst hq
        exact (h _ hs).trans (.one hb (.inl ⟨rfl, rfl⟩))
      · simp at hq
    · split at hq
      · rename_i hs
        rw [List.mem_singleton] at hq
        subst hq
        exact (h _ hs).trans (.one hb (.inr ⟨rfl, rfl⟩))
      · simp at hq
/-- A net all of whose knots are reached from one has one part. -/
theorem parts_one {l : List Bar} {r : Knot} {p : Nat} (n : Nat) (hr : r ∈ ends l) (h : ∀ k ∈ ends l, k ∈ reachL l n [r]) (hp : PartsIs l p) : p = 1 :=
  hp.eq_rep (R := [r]) ⟨fun q hq => by rw [List.mem_singleton] at hq; subst hq; exact hr, List.pairwise_singleton _ _, fun k hk => ⟨r, List.mem_singleton.2 rfl, reach_conn n [r] (fun q hq => by rw [List.mem_singleton] at hq; subst hq; exact .refl _) k (h k hk)⟩⟩
theorem conn_side {l : List Bar} {P : Knot → Prop} (h : ∀ b ∈ l, P b.lo ↔ P b.hi) {a k : Knot} (hc : Conn l a k) : P a ↔ P k := by
  induction hc with
  | refl => exact Iff.rfl
  | step b hb ha _ ih =>
    rcases ha with ⟨rfl, rfl⟩ | ⟨rfl, rfl⟩
    · exact (h b hb).trans ih
    · exact (h b hb).symm.trans ih
/-- The sheet S of the examples. -/
def S8 : List Bar := [⟨0, 0, 1⟩, ⟨2, 0, -1⟩, ⟨2, 0, 1⟩, ⟨4, 0, -1⟩, ⟨1, 1, -1⟩, ⟨1, 1, 1⟩, ⟨3, 1, -1⟩, ⟨3, 1, 1⟩]
/-- A ring of bars. -/
def R12 : List Bar := [⟨0, 0, 1⟩, ⟨2, 0, -1⟩, ⟨2, 0, 1⟩, ⟨4, 0, -1⟩, ⟨1, 1, -1⟩, ⟨3, 1, 1⟩, ⟨0, 2, 1⟩, ⟨4, 2, -1⟩, ⟨1, 3, -1⟩, ⟨1, 3, 1⟩, ⟨3, 3, -1⟩, ⟨3, 3, 1⟩]
def U2 : List Bar := [⟨0, 0, 1⟩, ⟨4, 0, 1⟩]
theorem S8_nK : nK S8 = 8 := by decide +kernel
theorem S8_nM : nM S8 = 1 := by decide +kernel
theorem R12_nK : nK R12 = 12 := by decide +kernel
theorem R12_nM : nM R12 = 0 := by decide +kernel
theorem S8_parts {p : Nat} (h : PartsIs S8 p) : p = 1 := parts_one (r := ⟨0, 0⟩) 8 (by decide +kernel) (by decide +kernel) h
theorem R12_parts {p : Nat} (h : PartsIs R12 p) : p = 1 := parts_one (r := ⟨0, 0⟩) 12 (by decide +kernel) (by decide +kernel) h
theorem U2_parts {p : Nat} (h : PartsIs U2 p) : p = 2 :=
  h.eq_rep (R := [⟨0, 0⟩, ⟨4, 0⟩]) ⟨by decide +kernel, by
    rw [List.pairwise_pair]
    intro hc
    exact absurd ((conn_side (P := fun k => k.x < 2) (by decide +kernel) hc).1 (by decide)) (by decide), fun k hk => by
    have h1 : k ∈ reachL U2 1 [⟨0, 0⟩] ∨ k ∈ reachL U2 1 [⟨4, 0⟩] := (show ∀ k ∈ ends U2, k ∈ reachL U2 1 [⟨0, 0⟩] ∨ k ∈ reachL U2 1 [⟨4, 0⟩] by decide +kernel) k hk
    rcases h1 with h1 | h1
    · exact ⟨⟨0, 0⟩, by simp, reach_conn 1 _ (fun q hq => by rw [List.mem_singleton] at hq; subst hq; exact .refl _) k h1⟩
    · exact ⟨⟨4, 0⟩, by simp, reach_conn 1 _ (fun q hq => by rw [List.mem_singleton] at hq; subst hq; exact .refl _) k h1⟩⟩
end Go.Proofs.YtdeplhihcifmeaaGreatDoor

/- Draw of the reference: the very list. -/
namespace Go.Proofs.YtdeplhihcifmeaaGreatDoor
open Go.RowKit

def icells (p : List Nat) : List Value := p.map fun (i : Nat) => Value.int .i64 (i : Int)
theorem infoI : (Tryz.prog.info? 3).map (fun i => (i.zero, i.size, i.bytes)) = some (some (.int .i64 0), 1, 8) := by kernel_rfl
theorem one_new (w : World) (a : Value) (t : TypeId) : ∀ (j : Nat) (u : Value), [a][j]? = some u → (w.alloc (.cells #[a] t)).cell? ((⟨w.heap.size, 0, none⟩ : Addr).add j) = some u :=
  World.news_of_block (heap_alloc_new _ _)
theorem icells_range_succ (k : Nat) : icells (List.range (k + 1)) = icells (List.range k) ++ [.int .i64 (k : Int)] := by simp [icells, List.range_succ]
theorem icells_set (p : List Nat) (i a : Nat) : icells (p.set i a) = (icells p).set i (.int .i64 (a : Int)) := by simp [icells, List.map_set]
/-- The exchanges that are still to come. -/
def shufF : Nat → Int → List Nat → List Nat
  | 0, _, p => p
  | j + 1, K, p => shufF j (39373 * K % 2147483647) ((p.set (j + 1) (p.getD (39373 * K % 2147483647 % ((j : Int) + 2)).toNat 0)).set (39373 * K % 2147483647 % ((j : Int) + 2)).toNat (p.getD (j + 1) 0))
theorem shufF_pos {i : Nat} (h : 0 < i) (K : Int) (p : List Nat) : shufF i K p = shufF (i - 1) (39373 * K % 2147483647) ((p.set i (p.getD (39373 * K % 2147483647 % ((i : Int) + 1)).toNat 0)).set (39373 * K % 2147483647 % ((i : Int) + 1)).toNat (p.getD i 0)) := by
  obtain ⟨j, rfl⟩ : ∃ j, i = j + 1 := ⟨i - 1, by omega⟩
  rw [shufF, Nat.add_sub_cancel, show (((j + 1 : Nat) : Int) + 1) = (j : Int) + 2 by omega]
def drawL (key : Int) (n : Nat) : List Nat := shufF (n - 1) key (List.range n)
theorem shufF_length : ∀ (j : Nat) (K : Int) (p : List Nat), (shufF j K p).length = p.length
  | 0, _, _ => rfl
  | j + 1, K, p => by rw [shufF, shufF_length]; simp
theorem drawL_length (key : Int) (n : Nat) : (drawL key n).length = n := by rw [drawL, shufF_length, List.length_range]
def IntsPost (l : List Nat) (w : World) (e : Ending) (w' : World) : Prop :=
  ∃ v, e = .returned v ∧ w'.ownsRow w.heap.size 3 1 v l.length (icells l) ∧ Below w.heap.size w w'
theorem shuf_swap {w : World} {B g cap k i q : Nat} {p : List Nat} (h : w.ownsRow B 3 1 (.slice (some ⟨g, 0, none⟩) k cap) k (icells p)) {pi pq : Nat} (e1 : p.getD i 0 = pi) (e2 : p.getD q 0 = pq) :
    ((w.setCell ⟨g, i, none⟩ (.int .i64 pq)).setCell ⟨g, q, none⟩ (.int .i64 pi)).drew.ownsRow B 3 1 (.slice (some ⟨g, 0, none⟩) k cap) k (icells ((p.set i (p.getD q 0)).set q (p.getD i 0))) := by
  subst e1; subst e2
  rw [icells_set, icells_set]
  exact (((h.stored i (.int .i64 (p.getD q 0 : Nat))).1.stored q (.int .i64 (p.getD i 0 : Nat))).1).drew

set_option maxHeartbeats 4000000 in
set_option maxRecDepth 100000 in
theorem refDrawX (key : Int) (n : Nat) (w : World) (hk0 : 0 ≤ key) (hk1 : key < 2147483647) (hn : n ≤ 4096) :
    Calls Tryz.prog 34 #[.int .i64 key, .int .i64 n] w (IntsPost (drawL key n) w) := by
  obtain ⟨i0, hi, hz0, hz1, hz2⟩ := info_parts infoI
  have HI := Lib.hid hi
  have HZ0 := Lib.hid hz0
  have HZ1 := Lib.hid hz1
  have HZ2 := Lib.hid hz2
  clear hi hz0 hz1 hz2
  go_enter Tryz.func34, Tryz.ntmps34
  go_wp2_with fail
  go_loopw [5, 6] (fun v i wr => ∃ k : Nat, k ≤ n ∧ i = .int .i64 k ∧ Hid (wr.ownsRow w.heap.size 3 1 v k (icells (List.range k))) ∧ Below w.heap.size w wr) (fun _ i _ => n - (intOf i).toNat)
  case atStart => exact ⟨0, Nat.zero_le _, rfl, World.ownsRow_nil _ _ _ _, Below.refl _ _⟩
  case round =>
    obtain ⟨k, hk, rfl, hown, hb⟩ := hrel
    by_cases hlt : k < n
    · have hki : (k : Int) < (n : Int) := by omega
      have hbz := hb.size
      go_wp2_with (at_builtin; refine wpList_append_own _ rfl _ _ 50 rfl w.heap.size 3 i0 (.int .i64 0) 1 8 Tryz.underlying50 HI.out HZ0.out HZ1.out HZ2.out rfl (by decide) _ _ _ rfl (hown.out.alloc _) ⟨wr.heap.size, 0, none⟩ 1 1 [.int .i64 k] rfl rfl (one_new _ _ _) ?c2 ?c3 ?c4 ?c5 ?_)
      case c2 => intro u hu; simp at hu; subst hu; rfl
      case c3 => unfold maxLen; omega
      case c4 => omega
      case c5 => simp; omega
      intro v' w4 hown4 hgrow4 _
      have hq4 : Below w.heap.size w w4 := (hb.alloc hbz (.cells #[.int .i64 (k : Int)] 3)).grown hgrow4 (by simp; omega) (ownsRow_base hown.out)
      have HO4 := Lib.hid hown4
      clear hown4 hgrow4
      go_wp2
      go_roundw
      case rel => exact ⟨k + 1, by omega, by go_num, by rw [icells_range_succ]; exact HO4.out, hq4⟩
      case measure => simp [intOf]; omega
    · have e : k = n := by omega
      subst e
      have HD : Hid (∃ p, p.length = k ∧ shufF (k - 1) key p = drawL key k ∧ wr.ownsRow w.heap.size 3 1 u5 k (icells p)) := ⟨List.range k, List.length_range, rfl, hown.out⟩
      clear hown hlt hk
      generalize wr = wo at *
      go_wp2_with fail
      go_loopw [0, 7, 8] (fun kv iv _ wr => ∃ (K j : Int), kv = .int .i64 K ∧ iv = .int .i64 j ∧ 0 ≤ K ∧ K < 2147483647 ∧ -1 ≤ j ∧ j < k ∧ Hid (∃ p, p.length = k ∧ shufF j.toNat K p = drawL key k ∧ wr.ownsRow w.heap.size 3 1 u5 k (icells p)) ∧ Below w.heap.size w wr) (fun _ iv _ _ => (intOf iv).toNat)
      case atStart => exact ⟨key, (k : Int) - 1, rfl, rfl, hk0, hk1, by omega, by omega, by rw [show ((k : Int) - 1).toNat = k - 1 by omega]; exact HD, hb⟩
      case round =>
        obtain ⟨K, j, rfl, rfl, hK0, hK1, hj0, hj1, hd, hbr⟩ := hrel
        by_cases hj : 0 < j
        · obtain ⟨i, rfl⟩ : ∃ i : Nat, j = (i : Int) := ⟨j.toNat, by omega⟩
          obtain ⟨p, hpl, hp, hown⟩ := hd.out
          obtain ⟨g, cap, hv, hc1, hc2, hgb, hgz⟩ := own_form hown (by omega)
          subst hv
          have hi1 : (0 : Int) < (i : Int) + 1 := by omega
          have hi2 : ¬ ((i : Int) + 1 = 0) := by omega
          go_wp2_with fail
          rw [Int.toNat_natCast, shufF_pos (by omega)] at hp
          obtain ⟨K', hK'⟩ : ∃ K', K' = 39373 * K % 2147483647 := ⟨_, rfl⟩
          have hK0' : 0 ≤ K' := by omega
          have hK1' : K' < 2147483647 := by omega
          rw [← hK']
          rw [← hK'] at hp
          clear hK'
          obtain ⟨q, hq⟩ : ∃ q : Nat, (q : Int) = K' % ((i : Int) + 1) := ⟨(K' % ((i : Int) + 1)).toNat, by have := Int.emod_nonneg K' hi2; omega⟩
          have hqi : q ≤ i := by have := Int.emod_lt_of_pos K' hi1; omega
          rw [← hq]
          rw [← hq, Int.toNat_natCast] at hp
          clear hq
          have hik : i < k := by omega
          have hqk : q < k := by omega
          have hipl : i < p.length := by omega
          have hqpl : q < p.length := by omega
          have gi : wr.cell? ⟨g, i, none⟩ = some (.int .i64 (p.getD i 0 : Nat)) := by
            rw [hown.cellAt i (by omega)]; simp [icells, List.getElem?_eq_getElem hipl, List.getD]
          have gq : wr.cell? ⟨g, q, none⟩ = some (.int .i64 (p.getD q 0 : Nat)) := by
            rw [hown.cellAt q (by omega)]; simp [icells, List.getElem?_eq_getElem hqpl, List.getD]
          have fi := hown.frozenAt i
          have fq := hown.frozenAt q
          have hlx : (icells p).length = p.length := by simp [icells]
          obtain ⟨z, gz⟩ : ∃ z, (wr.setCell ⟨g, i, none⟩ (.int .i64 (p.getD q 0 : Nat))).cell? ⟨g, q, none⟩ = some z := by
            rw [(hown.stored i (.int .i64 (p.getD q 0 : Nat))).1.cellAt q (by omega)]
            exact ⟨_, List.getElem?_eq_getElem (by rw [List.length_set]; omega)⟩
          have fz := (hown.stored i (.int .i64 (p.getD q 0 : Nat))).1.frozenAt q
          have b1 : (0 : Int) ≤ (i : Int) := by omega
          have b2 : (i : Int) < (k : Int) := by omega
          have b3 : (0 : Int) ≤ (q : Int) := by omega
          have b4 : (q : Int) < (k : Int) := by omega
          have HP := Lib.hid hp
          have HOW := Lib.hid hown
          clear hp hown hd hj1 hj0 hi1 hi2 HD
          generalize hpi : p.getD i 0 = pi at gi
          generalize hpq : p.getD q 0 = pq at gq gz fz
          have HPI := Lib.hid hpi
          have HPQ := Lib.hid hpq
          clear hpi hpq
          go_region
          go_wp2_with fail
          go_roundw
          case rel => exact ⟨K', (i : Int) - 1, rfl, rfl, hK0', hK1', by omega, by omega, Lib.hid ⟨_, by simp [hpl], by rw [show ((i : Int) - 1).toNat = i - 1 by omega]; exact HP.out, shuf_swap HOW.out HPI.out HPQ.out⟩, below_drew ((hbr.setCell (p := ⟨g, i, none⟩) hc1 _).setCell (p := ⟨g, q, none⟩) hc1 _)⟩
          case measure => simp [intOf]; omega
        · go_wp2_with fail
          go_ret
          obtain ⟨p, hpl, hp, hown⟩ := hd.out
          rw [show j.toNat = 0 by omega, shufF] at hp
          subst hp
          exact ⟨_, rfl, by rw [drawL_length]; exact hown, hbr⟩
end Go.Proofs.YtdeplhihcifmeaaGreatDoor

/- Draw of netting: the very list. -/
namespace Go.Proofs.YtdeplhihcifmeaaGreatDoor
open Go.RowKit

theorem icells_length (p : List Nat) : (icells p).length = p.length := by simp [icells]
theorem copied_ints (w : World) (A : Addr) (k cc B : Nat) (p : List Nat) (hp : p.length = k) (hk : k ≤ 4096) (h : w.ownsRow B 3 1 (.slice (some A) k cc) k (icells p)) : ∃ W2 : World,
    (Builtin.copy_ #[50, 50] 3 #[.slice (some ⟨w.heap.size, 0, none⟩) k k, .slice (some A) k cc]).run Tryz.prog (w.alloc (.cells (madeCells #[Value.int .i64 0] k) 3)) = .ok (.int .i64 (k : Int)) W2 ∧
    W2.ownsRow w.heap.size 3 1 (.slice (some ⟨w.heap.size, 0, none⟩) k k) k (icells p) ∧ Below w.heap.size w W2 := by
  obtain ⟨i0, hi, hz0, hz1, hz2⟩ := info_parts infoI
  have hs : (Tryz.prog.info? 3).map (·.size) = some 1 := by rw [hi, Option.map_some, hz1]
  have hl : (icells p).length = k := by rw [icells_length, hp]
  have hA : ∃ g, A = ⟨g, 0, none⟩ := by
    rcases h.2 with ⟨e, -⟩ | ⟨g, cap, cur, e, -⟩
    · cases e
    · injection e with e _ _
      injection e with e
      exact ⟨g, e⟩
  obtain ⟨g, rfl⟩ := hA
  have hb0 : Below w.heap.size w (w.alloc (.cells (madeCells #[Value.int .i64 0] k) 3)) := (Below.refl _ _).alloc (Nat.le_refl _) _
  have hr := run_copy_row (P := Tryz.prog) (w.alloc (.cells (madeCells #[Value.int .i64 0] k) 3)) 50 50 3 3 w.heap.size 0 k k ⟨g, 0, none⟩ k cc (madeCells #[Value.int .i64 0] k) 3 (icells p) Tryz.underlying50 hs (heap_alloc_new _ _) (by rw [hl]; simp) ((h.alloc _).cells (g := g) rfl) (by rw [hl, size_madeCells]; omega) (by intro v hv; simp only [icells, List.mem_map] at hv; obtain ⟨i, -, rfl⟩ := hv; rfl)
  have e1 : goInt (icells p).length = .int .i64 (k : Int) := by rw [hl]; rfl
  rw [e1] at hr
  refine ⟨_, hr, ⟨hl.trans (Nat.mul_one k).symm, .inr ⟨w.heap.size, k, _, rfl, Nat.le_refl _, setRow_heap _ _ _ _ _ _ (heap_alloc_new _ _), Nat.le_refl _, by unfold maxLen; omega, ?_, ?_⟩⟩, below_setRow hb0 (Nat.le_refl _) _⟩
  · simp [hl, size_madeCells]
  · simp
    rw [List.take_append_of_le_length (by omega), List.take_of_length_le (by omega)]
set_option maxHeartbeats 4000000 in
set_option maxRecDepth 100000 in
theorem netShuffled (key : Int) (A : Addr) (k cc B : Nat) (w : World) (hk0 : 0 ≤ key) (hk1 : key < 2147483647) (hk : k ≤ 4096) (h : w.ownsRow B 3 1 (.slice (some A) k cc) k (icells (List.range k))) :
    Calls Tryz.prog 95 #[.slice (some A) k cc, .int .i64 key] w (IntsPost (drawL key k) w) := by
  obtain ⟨i0, hi, hz0, hz1, hz2⟩ := info_parts infoI
  have hmk : ∀ W : World, (Instr.makeSlice 50 (.int .i64 (k : Int)) (.int .i64 (k : Int))).run Tryz.prog W = .ok (.slice (some ⟨W.heap.size, 0, none⟩) k k) (W.alloc (.cells (madeCells #[Value.int .i64 0] k) 3)) := fun W => by
    have := run_make (P := Tryz.prog) W 50 3 i0 _ Tryz.underlying50 hi hz0 .i64 .i64 (k : Int) (k : Int) (by omega) (by omega) (by rw [hz2]; omega) (by omega)
    rw [hz1, Int.toNat_natCast, Nat.mul_one] at this
    exact this
  obtain ⟨W2, hcp, ho2, B2⟩ := copied_ints w A k cc B _ List.length_range hk h
  have HO2 := Lib.hid ho2
  have hki : (k : Int) ≤ 4096 := by omega
  clear hi hz0 hz1 hz2 h ho2
  go_enter Tryz.func95, Tryz.ntmps95
  go_wp2_with fail
  go_loopw [6, 7, 8] (fun kv iv _ wr => ∃ (K j : Int), kv = .int .i64 K ∧ iv = .int .i64 j ∧ 0 ≤ K ∧ K < 2147483647 ∧ -1 ≤ j ∧ j < k ∧ Hid (∃ p, p.length = k ∧ shufF j.toNat K p = drawL key k ∧ wr.ownsRow w.heap.size 3 1 (.slice (some ⟨w.heap.size, 0, none⟩) k k) k (icells p)) ∧ Below w.heap.size w wr) (fun _ iv _ _ => (intOf iv).toNat)
  case atStart => exact ⟨key, (k : Int) - 1, rfl, rfl, hk0, hk1, by omega, by omega, Lib.hid ⟨List.range k, List.length_range, by rw [show ((k : Int) - 1).toNat = k - 1 by omega]; rfl, HO2.out⟩, B2⟩
  case round =>
    obtain ⟨K, j, rfl, rfl, hK0, hK1, hj0, hj1, hd, hbr⟩ := hrel
    by_cases hj : 1 ≤ j
    · obtain ⟨i, rfl⟩ : ∃ i : Nat, j = (i : Int) := ⟨j.toNat, by omega⟩
      obtain ⟨p, hpl, hp, hown⟩ := hd.out
      obtain ⟨g, cap, hv, hc1, hc2, hgb, hgz⟩ := own_form hown (by omega)
      injection hv with e1 _ e3
      injection e1 with e1
      injection e1 with e1 _ _
      subst e1
      subst e3
      have hi1 : (0 : Int) < (i : Int) + 1 := by omega
      have hi2 : ¬ ((i : Int) + 1 = 0) := by omega
      go_wp2_with fail
      rw [Int.toNat_natCast, shufF_pos (by omega)] at hp
      obtain ⟨K', hK'⟩ : ∃ K', K' = 39373 * K % 2147483647 := ⟨_, rfl⟩
      have hK0' : 0 ≤ K' := by omega
      have hK1' : K' < 2147483647 := by omega
      rw [← hK']
      rw [← hK'] at hp
      clear hK'
      obtain ⟨q, hq⟩ : ∃ q : Nat, (q : Int) = K' % ((i : Int) + 1) := ⟨(K' % ((i : Int) + 1)).toNat, by have := Int.emod_nonneg K' hi2; omega⟩
      have hqi : q ≤ i := by have := Int.emod_lt_of_pos K' hi1; omega
      rw [← hq]
      rw [← hq, Int.toNat_natCast] at hp
      clear hq
      have hik : i < k := by omega
      have hqk : q < k := by omega
      have hipl : i < p.length := by omega
      have hqpl : q < p.length := by omega
      have gi : wr.cell? ⟨w.heap.size, i, none⟩ = some (.int .i64 (p.getD i 0 : Nat)) := by
        rw [hown.cellAt i (by omega)]; simp [icells, List.getElem?_eq_getElem hipl, List.getD]
      have gq : wr.cell? ⟨w.heap.size, q, none⟩ = some (.int .i64 (p.getD q 0 : Nat)) := by
        rw [hown.cellAt q (by omega)]; simp [icells, List.getElem?_eq_getElem hqpl, List.getD]
      have fi := hown.frozenAt i
      have fq := hown.frozenAt q
      have hlx : (icells p).length = p.length := by simp [icells]
      obtain ⟨z, gz⟩ : ∃ z, (wr.setCell ⟨w.heap.size, i, none⟩ (.int .i64 (p.getD q 0 : Nat))).cell? ⟨w.heap.size, q, none⟩ = some z := by
        rw [(hown.stored i (.int .i64 (p.getD q 0 : Nat))).1.cellAt q (by omega)]
        exact ⟨_, List.getElem?_eq_getElem (by rw [List.length_set]; omega)⟩
      have fz := (hown.stored i (.int .i64 (p.getD q 0 : Nat))).1.frozenAt q
      have b1 : (0 : Int) ≤ (i : Int) := by omega
      have b2 : (i : Int) < (k : Int) := by omega
      have b3 : (0 : Int) ≤ (q : Int) := by omega
      have b4 : (q : Int) < (k : Int) := by omega
      have HP := Lib.hid hp
      have HOW := Lib.hid hown
      clear hp hown hd hj1 hj0 hi1 hi2
      generalize hpi : p.getD i 0 = pi at gi
      generalize hpq : p.getD q 0 = pq at gq gz fz
      have HPI := Lib.hid hpi
      have HPQ := Lib.hid hpq
      clear hpi hpq
      go_region
      go_wp2_with fail
      go_roundw
      case rel => exact ⟨K', (i : Int) - 1, rfl, rfl, hK0', hK1', by omega, by omega, Lib.hid ⟨_, by simp [hpl], by rw [show ((i : Int) - 1).toNat = i - 1 by omega]; exact HP.out, shuf_swap HOW.out HPI.out HPQ.out⟩, below_drew ((hbr.setCell (p := ⟨w.heap.size, i, none⟩) hc1 _).setCell (p := ⟨w.heap.size, q, none⟩) hc1 _)⟩
      case measure => simp [intOf]; omega
    · go_wp2_with fail
      go_ret
      obtain ⟨p, hpl, hp, hown⟩ := hd.out
      rw [show j.toNat = 0 by omega, shufF] at hp
      subst hp
      exact ⟨_, rfl, by rw [drawL_length]; exact hown, hbr⟩
theorem made_ints (w : World) (base n : Nat) (hb : base ≤ w.heap.size) (hn : n ≤ 256) : (w.alloc (.cells (madeCells #[Value.int .i64 0] n) 3)).ownsRow base 3 1 (.slice (some ⟨w.heap.size, 0, none⟩) 0 n) 0 [] :=
  World.ownsRow_made w _ n hb (by unfold maxLen; omega) (by rw [size_madeCells, Nat.mul_one])
set_option maxHeartbeats 4000000 in
set_option maxRecDepth 100000 in
theorem netDraw (key : Int) (n : Nat) (w : World) (hk0 : 1 ≤ key) (hk1 : key < 2147483647) (hn : n ≤ 256) :
    Calls Tryz.prog 32 #[.int .i64 key, .int .i64 n] w fun e w' => ∃ v, e = .returned (.tuple #[v, .int .i64 0]) ∧ w'.ownsRow w.heap.size 3 1 v (drawL key n).length (icells (drawL key n)) ∧ Below w.heap.size w w' := by
  obtain ⟨i0, hi, hz0, hz1, hz2⟩ := info_parts infoI
  have hmk : ∀ W : World, (Instr.makeSlice 50 (.int .i64 0) (.int .i64 (n : Int))).run Tryz.prog W = .ok (.slice (some ⟨W.heap.size, 0, none⟩) 0 n) (W.alloc (.cells (madeCells #[Value.int .i64 0] n) 3)) := fun W => by
    have := run_make (P := Tryz.prog) W 50 3 i0 _ Tryz.underlying50 hi hz0 .i64 .i64 0 (n : Int) (by omega) (by omega) (by rw [hz2]; omega) (by omega)
    rw [hz1, Int.toNat_natCast, Nat.mul_one] at this
    exact this
  have HI := Lib.hid hi
  have HZ0 := Lib.hid hz0
  have HZ1 := Lib.hid hz1
  have HZ2 := Lib.hid hz2
  have HE1 := Lib.hid (show (if key < 1 ∨ 2147483646 < key then (3 : Int) else 0) = 0 by rw [if_neg (by omega)])
  have HE2 := Lib.hid (show (if (n : Int) < 0 ∨ 256 < (n : Int) then (3 : Int) else 0) = 0 by rw [if_neg (by omega)])
  have HF := Lib.hid (show firstE [0, 0] = 0 from rfl)
  have hni : (n : Int) ≤ 256 := by omega
  clear hi hz0 hz1 hz2
  go_enter Tryz.func32, Tryz.ntmps32
  go_wp2_with fail
  refine (netCheckRange key 1 2147483646 _).mono ?_
  rintro e w1 ⟨rfl, rfl⟩
  rw [HE1.out]
  go_wp2_with fail
  refine (netCheckRange (n : Int) 0 256 _).mono ?_
  rintro e w1 ⟨rfl, rfl⟩
  rw [HE2.out]
  have hb0 : Below w.heap.size w (w.alloc (.cells #[.int .i64 0, .int .i64 0] 32)) := (Below.refl _ _).alloc (Nat.le_refl _) _
  go_wp2_with fail
  refine (netFirst2 w.heap.size _ 0 0 32 _ (by exact heap_alloc_new _ _)).mono ?_
  rintro e w1 ⟨rfl, rfl⟩
  rw [HF.out]
  obtain ⟨w2, hw2⟩ : ∃ w2, w.alloc (.cells #[.int .i64 0, .int .i64 0] 32) = w2 := ⟨_, rfl⟩
  rw [hw2] at hb0 ⊢
  clear hw2
  have hz2 := hb0.size
  have hrow := made_ints w2 w.heap.size n hz2 hn
  have hb1 : Below w.heap.size w (w2.alloc (.cells (madeCells #[Value.int .i64 0] n) 3)) := hb0.alloc hz2 _
  go_wp2_with fail
  go_loopw [7, 8, 21] (fun v _ i wr => ∃ k : Nat, k ≤ n ∧ i = .int .i64 k ∧ Hid (wr.ownsRow w.heap.size 3 1 v k (icells (List.range k))) ∧ (∃ A cc, v = .slice (some A) k cc) ∧ Below w.heap.size w wr) (fun _ _ i _ => n - (intOf i).toNat)
  case atStart => exact ⟨0, Nat.zero_le _, rfl, Lib.hid hrow, ⟨_, _, rfl⟩, hb1⟩
  case round =>
    obtain ⟨k, hk, rfl, hown, ⟨A, cc, rfl⟩, hb⟩ := hrel
    by_cases hlt : k < n
    · have hki : (k : Int) < (n : Int) := by omega
      have hbz := hb.size
      go_wp2_with (at_builtin; refine wpList_append_own _ rfl _ _ 50 rfl w.heap.size 3 i0 (.int .i64 0) 1 8 Tryz.underlying50 HI.out HZ0.out HZ1.out HZ2.out rfl (by decide) _ _ _ rfl (hown.out.alloc _) ⟨wr.heap.size, 0, none⟩ 1 1 [.int .i64 k] rfl rfl (one_new _ _ _) ?c2 ?c3 ?c4 ?c5 ?_)
      case c2 => intro u hu; simp at hu; subst hu; rfl
      case c3 => unfold maxLen; omega
      case c4 => omega
      case c5 => simp; omega
      intro v' w4 hown4 hgrow4 _
      have hq4 : Below w.heap.size w w4 := (hb.alloc hbz (.cells #[.int .i64 (k : Int)] 3)).grown hgrow4 (by simp; omega) (ownsRow_base hown.out)
      have HO4 := Lib.hid hown4
      obtain ⟨g4, c4, rfl, -⟩ := own_form hown4 (by omega)
      clear hown4 hgrow4
      go_wp2
      go_roundw
      case rel => exact ⟨k + 1, by omega, by go_num, Lib.hid (by rw [icells_range_succ]; exact HO4.out), ⟨_, _, rfl⟩, hq4⟩
      case measure => simp [intOf]; omega
    · obtain rfl : k = n := by omega
      go_wp2_with fail
      refine (netShuffled key A k cc w.heap.size _ (by omega) hk1 (by omega) hown.out).mono ?_
      rintro e w5 ⟨v5, rfl, hr5, hb5⟩
      have HO5 := Lib.hid (ownsRow_mono hr5 hb.size)
      have b5 := hb.trans (hb5.mono hb.size)
      clear hr5 hb5
      go_wp2
      go_ret2
      exact ⟨_, rfl, HO5.out, b5⟩
end Go.Proofs.YtdeplhihcifmeaaGreatDoor

/- Lists of integers in memory; SameInts of the reference; Parts of netting. -/
namespace Go.Proofs.YtdeplhihcifmeaaGreatDoor
open Go.RowKit

def RI (w : World) (B : Nat) (A : Option Addr) (l : List Nat) : Prop :=
  0 < l.length → ∃ b off, A = some ⟨b, off, none⟩ ∧ b < B ∧ ∀ i (h : i < l.length), w.cell? ⟨b, off + i, none⟩ = some (.int .i64 (l[i] : Int))
theorem RI.below {w w' : World} {B : Nat} {A : Option Addr} {l : List Nat} (h : RI w B A l) (hb : Below B w w') : RI w' B A l := fun hl => by
  obtain ⟨b, off, rfl, hB, hc⟩ := h hl
  exact ⟨b, off, rfl, hB, fun i hi => (hb.cell (p := ⟨b, _, none⟩) hB).trans (hc i hi)⟩
theorem RI.more {w : World} {B B' : Nat} {A : Option Addr} {l : List Nat} (h : RI w B A l) (hB : B ≤ B') : RI w B' A l := fun hl => by
  obtain ⟨b, off, h1, h2, hc⟩ := h hl
  exact ⟨b, off, h1, by omega, hc⟩
theorem own_ri {w : World} {base : Nat} {v : Value} {l : List Nat} (h : w.ownsRow base 3 1 v l.length (icells l)) : ∃ a c, v = .slice a l.length c ∧ RI w w.heap.size a l := by
  rcases h.2 with ⟨rfl, hz⟩ | ⟨g, cap, cur, rfl, _, hgb, h1, h2, _⟩
  · have : l = [] := List.eq_nil_of_length_eq_zero hz
    subst this
    exact ⟨none, 0, rfl, fun hl => by simp at hl⟩
  · refine ⟨_, _, rfl, fun _ => ⟨g, 0, rfl, (Array.getElem?_eq_some_iff.1 hgb).1, fun i hi => ?_⟩⟩
    have := h.cells (g := g) rfl i (.int .i64 (l[i] : Int)) (by simp [icells, List.getElem?_eq_getElem hi])
    rcases Nat.eq_zero_or_pos i with h0 | h0
    · subst h0
      simpa [Addr.add] using this
    · simpa [Addr.add, Nat.ne_of_gt h0] using this
set_option maxHeartbeats 1000000 in
set_option maxRecDepth 100000 in
theorem refSameInts (A A' : Option Addr) (c c' : Nat) (l : List Nat) (w : World) (hl : l.length ≤ 4096) (h : RI w w.heap.size A l) (h' : RI w w.heap.size A' l) :
    Calls Tryz.prog 79 #[.slice A l.length c, .slice A' l.length c'] w fun e w' => e = .returned (.bool true) ∧ Below w.heap.size w w' := by
  have HR := Lib.hid h
  have HR' := Lib.hid h'
  clear h h'
  have hne : ((l.length : Int) != (l.length : Int)) = false := by simp
  go_enter Tryz.func79, Tryz.ntmps79
  go_wp2_with fail
  go_loopw [5] (fun i wr => ∃ k : Nat, k ≤ l.length ∧ i = .int .i64 k ∧ Below w.heap.size w wr) (fun i _ => l.length - (intOf i).toNat)
  case atStart => exact ⟨0, Nat.zero_le _, rfl, Below.refl _ _⟩
  case round =>
    obtain ⟨k, hk, rfl, hb⟩ := hrel
    by_cases hlt : k < l.length
    · have h := HR.out.below hb
      have h' := HR'.out.below hb
      obtain ⟨b, off, rfl, hB, hc⟩ := h (by omega)
      obtain ⟨b', off', rfl, hB', hc'⟩ := h' (by omega)
      have c0 := hc k hlt
      have d0 := hc' k hlt
      clear hc hc' h h'
      have b1 : (0 : Int) ≤ (k : Int) := by omega
      have b2 : (k : Int) < (l.length : Int) := by omega
      generalize (l[k] : Int) = x at c0 d0
      go_wp2_with fail
      go_region
      go_wp2_with fail
      go_roundw
      case rel => exact ⟨k + 1, by omega, by go_num, below_drew hb⟩
      case measure => simp [intOf]; omega
    · have e : k = l.length := by omega
      subst e
      go_wp2_with fail
      go_ret
      exact ⟨rfl, hb⟩
set_option maxHeartbeats 1000000 in
set_option maxRecDepth 100000 in
theorem netPartsAll (A : Option Addr) (c : Nat) (l : List Ck.Bar) (w : World) (hl : l.length ≤ 4096) (hcap : l.length ≤ c) (hcm : c ≤ maxLen) (hN : Ck.Net l) (h : RB w w.heap.size A l) :
    Calls Tryz.prog 52 #[.slice A l.length c] w fun e w' => ∃ n a c', Ck.PartsIs l n ∧ e = .returned (.tuple #[.slice a n c', .int .i64 0]) ∧ Below w.heap.size w w' := by
  have HE := Lib.hid ((netE_zero l).2 ⟨hl, hN⟩)
  have HR := Lib.hid h
  have HN := Lib.hid hN
  clear h hN
  go_enter Tryz.func52, Tryz.ntmps52
  go_wp2_with fail
  refine (netCheckNet A c l _ hl hcap hcm HR.out).mono ?_
  rintro e w1 ⟨rfl, hb1⟩
  rw [HE.out]
  go_wp2_with fail
  refine (netPartsOf A c l _ hl HN.out.2 HN.out.1 ((HR.out.below hb1).more hb1.size)).mono ?_
  rintro e w2 ⟨n, a, c', hp, -, rfl, hb2⟩
  have HP := Lib.hid hp
  clear hp
  go_wp2
  go_ret2
  exact ⟨n, a, c', HP.out, rfl, hb1.trans (hb2.mono hb1.size)⟩
end Go.Proofs.YtdeplhihcifmeaaGreatDoor

/- Equality of counts. -/
namespace Go.Proofs.YtdeplhihcifmeaaGreatDoor
open Go.RowKit

theorem eqCounts (a b c d e a' b' c' d' e' : Int) (r : Bool) (hr : decide (a = a' ∧ b = b' ∧ c = c' ∧ d = d' ∧ e = e') = r) (w : World) :
    (Op.equalIn 10000 86 (.agg #[.int .i64 a, .int .i64 b, .int .i64 c, .int .i64 d, .int .i64 e]) (.agg #[.int .i64 a', .int .i64 b', .int .i64 c', .int .i64 d', .int .i64 e'])).run Tryz.prog w = .ok r w := by
  have u3 := Tryz.underlying3
  have a3 := Tryz.isAgg3
  have z3 := Tryz.sizeOf3
  have hS : Tryz.prog.underlying 86 = some (.struct (Tryz.prog.fieldsOf 86)) := by kernel_rfl
  have hp : Tryz.prog.stoodInHeld 86 = false := by kernel_rfl
  subst hr
  rw [show (10000 : Nat) = 9999 + 1 from rfl, run_equalIn_struct w 9999 86 _ _ hS hp]
  simp only [Program.fieldsOf, Tryz.underlying86]
  go_simp
  by_cases h1 : a = a' <;> by_cases h2 : b = b' <;> by_cases h3 : c = c' <;> by_cases h4 : d = d' <;> by_cases h5 : e = e' <;> simp [h1, h2, h3, h4, h5]
theorem guardCounts : Tryz.prog.eqGuardType Tryz.prog.depth 86 = false := by kernel_rfl
end Go.Proofs.YtdeplhihcifmeaaGreatDoor
