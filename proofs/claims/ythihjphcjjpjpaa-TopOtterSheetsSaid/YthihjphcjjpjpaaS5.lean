/- TopOtterSheets returns true for every knot and every edging. Conditions: none. -/
import Derived.Test.YthihjphcjjpjpaaS4
import Derived.MapKept
import Derived.Laws.StructEq
import Derived.ChangeMaps5
import Derived.Deep.RegionHeld3
import Derived.Deep.AppendLies
import Derived.ProofKit
import Derived.Deep.Slices
import Derived.Deep.Fields
/- Meshes and Has of the program at valid nets. -/
namespace Go.Proofs.Ythihjphcjjpjpaa
open Go.RowKit Go.Shelf Ck

def MeshesPost (l : List Bar) (w : World) (e : Ending) (w' : World) : Prop :=
  ∃ v, e = .returned (.tuple #[v, .int .i64 0]) ∧ w'.ownsRow w.heap.size 46 2 v (meshL l l).length (meshCells (meshL l l)) ∧ Below w.heap.size w w'
set_option maxHeartbeats 1000000 in
set_option maxRecDepth 100000 in
theorem netMeshesAll (A : Option Addr) (c : Nat) (l : List Bar) (w : World) (hl : l.length ≤ 4096) (hc : l.length ≤ c) (hcm : c ≤ maxLen) (hN : Net l) (h : RB w w.heap.size A l) :
    Calls Try.prog 15 #[.slice A l.length c] w (MeshesPost l w) := by
  have HR := Lib.hid h
  have HE := Lib.hid ((netE_zero l).2 ⟨hl, hN⟩)
  have HN := Lib.hid hN
  clear h hN
  go_enter Try.func15, Try.ntmps15
  go_wp2_with fail
  refine (netCheckNet A c l _ hl hc hcm HR.out).mono ?_
  rintro e w1 ⟨rfl, hb1⟩
  rw [HE.out]
  go_wp2_with fail
  refine (netMeshesOf A c l _ hl HN.out.2 HN.out.1 ((HR.out.below hb1).more hb1.size)).mono ?_
  rintro e w2 ⟨v, rfl, hown, hb2⟩
  have HO := Lib.hid (ownsRow_mono hown hb1.size)
  clear hown
  go_wp2
  go_ret2
  exact ⟨v, rfl, HO.out, hb1.trans (hb2.mono hb1.size)⟩

set_option maxHeartbeats 2000000 in
set_option maxRecDepth 100000 in
theorem netHas (A : Option Addr) (c : Nat) (l : List Bar) (b : Bar) (w : World) (hl : l.length ≤ 4096) (hc : l.length ≤ c) (hcm : c ≤ maxLen) (hN : Net l) (hb : barE b.x b.y b.s = 0) (h : RB w w.heap.size A l) :
    Calls Try.prog 17 #[.slice A l.length c, .agg #[.int .i64 b.x, .int .i64 b.y, .int .i64 b.s]] w fun e w' => e = .returned (.tuple #[.bool (decide (b ∈ l)), .int .i64 0]) ∧ Below w.heap.size w w' := by
  have HR := Lib.hid h
  have HE := Lib.hid ((netE_zero l).2 ⟨hl, hN⟩)
  have HN := Lib.hid hN
  have HBE := Lib.hid hb
  clear h hN hb
  obtain ⟨w1, hw1, e0, e1, e2, hb1, hz1⟩ := box3 w (.int .i64 b.x) (.int .i64 b.y) (.int .i64 b.s) 48
  have HW1 := Lib.hid hw1
  clear hw1
  go_enter Try.func17, Try.ntmps17
  go_wp2_with fail
  rw [← HW1.out]
  go_region_held3 (fun w' => w'.cell? ⟨w.heap.size, 0, none⟩ = some (.int .i64 b.x) ∧ w'.cell? ⟨w.heap.size, 1, none⟩ = some (.int .i64 b.y) ∧ w'.cell? ⟨w.heap.size, 2, none⟩ = some (.int .i64 b.s) ∧ Below w.heap.size w w' ∧ w.heap.size < w'.heap.size)
    (first | exact ⟨e0, e1, e2, below_drew hb1, hz1⟩ | exact keep3 (by assumption) (by assumption) | exact keep3 (by assumption) ((Below.refl _ _).alloc (Nat.le_refl _) _) | assumption | (refine ⟨?_, ?_, ?_, ?_, ?_⟩ <;> first | assumption | (simp at *; omega)) | exact keep3 (by assumption) (below_drew (Below.refl _ _)) | go_keep)
    (first
      | (go_at_call 39; refine (netCheckNet A c l _ hl hc hcm ((HR.out.below (belowOf3 (by assumption))).more (belowOf3 (by assumption)).size)).mono ?_; rintro e w' ⟨rfl, hbq⟩; rw [HE.out])
      | (go_at_call 41; refine (netCheckBar _ _ _ _).mono ?_; rintro e w' ⟨rfl, hbq⟩; rw [HBE.out])
      | (go_at_call 27; refine (netFirst2 _ _ 0 0 32 _ (by exact heap_alloc_new _ _)).mono ?_; rintro e w' ⟨rfl, rfl⟩; rw [show firstE [0, 0] = 0 from rfl]))
  all_goals
    rename_i hS
    obtain ⟨c0, c1, c2, hbs, hzs⟩ := hS
    generalize World.alloc _ _ = w5 at c0 c1 c2 hbs hzs ⊢
    go_wp2_with fail
    refine (netHasBar A c l b.x b.y b.s _ hl HN.out.2 ((HR.out.below hbs).more hbs.size)).mono ?_
    rintro e w6 ⟨rfl, hb6⟩
    have hbf := hbs.trans (hb6.mono hbs.size)
    clear c0 c1 c2 e0 e1 e2
    go_wp2
    go_ret2
    exact ⟨rfl, hbf⟩
end Go.Proofs.Ythihjphcjjpjpaa

/- The reference's Power and Vector at words without an error. -/
namespace Go.Proofs.Ythihjphcjjpjpaa
open Go.RowKit Go.Shelf Ck

theorem repeat_comm (l : List UInt8) : ∀ c, Lib.repeatL l c ++ l = l ++ Lib.repeatL l c
  | 0 => by simp [Lib.repeatL]
  | c + 1 => by rw [Lib.repeatL, List.append_assoc, repeat_comm l c]
def strL (l : List UInt8) : ByteArray := ⟨l.toArray⟩
theorem strL_data (l : List UInt8) : (strL l).data.toList = l := rfl
theorem strL_size (l : List UInt8) : (strL l).size = l.length := by simp [strL, ByteArray.size]
set_option maxHeartbeats 1000000 in
theorem refPower (s : ByteArray) (c : Nat) (w : World) (hc : c ≤ 256) (hs : s.size ≤ 64) :
    Calls Try.prog 8 #[.string s, .int .i64 c] w fun e w' => e = .returned (.string (strL (Lib.repeatL s.data.toList c))) ∧ w = w' := by
  go_enter Try.func8, Try.ntmps8
  go_wp2_with fail
  go_loop [5, 6] (fun t i => ∃ k : Nat, k ≤ c ∧ i = .int .i64 k ∧ t = .string (strL (Lib.repeatL s.data.toList k))) (fun _ i => c - (intOf i).toNat)
  case atStart => exact ⟨0, Nat.zero_le _, rfl, rfl⟩
  case round =>
    obtain ⟨k, hk, rfl, rfl⟩ := hrel
    by_cases hlt : k < c
    · have hcat : strL (Lib.repeatL s.data.toList k) ++ s = strL (Lib.repeatL s.data.toList (k + 1)) := by
        have h : (strL (Lib.repeatL s.data.toList k) ++ s).data.toList = (strL (Lib.repeatL s.data.toList (k + 1))).data.toList := by
          rw [strL_data, Lib.repeatL, ← repeat_comm]
          simp [strL]
        have e1 := congrArg (fun l => strL l) h
        exact e1
      have HC := Lib.hid hcat
      have hts : (strL (Lib.repeatL s.data.toList k)).size ≤ 20000 := by
        rw [strL_size, Lib.repeatL_length, ← Lib.size_eq]
        exact Nat.le_trans (Nat.mul_le_mul (show k ≤ 256 by omega) hs) (by decide)
      clear hcat
      generalize strL (Lib.repeatL s.data.toList k) = t at *
      go_wp2
      go_round
      case rel => exact ⟨k + 1, by omega, by go_num, by rw [← HC.out]⟩
      case measure => simp [intOf]; omega
    · obtain rfl : k = c := by omega
      go_wp2
      go_ret
      exact ⟨rfl, rfl⟩

def vecL (l : List UInt8) : Int × Int := ((l.map dxL).sum, (l.map dyL).sum)
theorem vecL_snoc (l : List UInt8) (c : UInt8) : vecL (l ++ [c]) = ((vecL l).1 + dxL c, (vecL l).2 + dyL c) := by simp [vecL]
theorem vecL_near : ∀ (l : List UInt8), 0 ≤ (vecL l).1 ∧ (vecL l).1 ≤ 2 * (l.length : Int) ∧ 0 ≤ (vecL l).2 ∧ (vecL l).2 ≤ 2 * (l.length : Int)
  | [] => by simp [vecL]
  | c :: r => by
    have ih := vecL_near r
    have h1 : (vecL (c :: r)).1 = dxL c + (vecL r).1 := by simp [vecL]
    have h2 : (vecL (c :: r)).2 = dyL c + (vecL r).2 := by simp [vecL]
    have hx : 0 ≤ dxL c ∧ dxL c ≤ 2 := by unfold dxL; split <;> (try split) <;> omega
    have hy : 0 ≤ dyL c ∧ dyL c ≤ 2 := by unfold dyL; split <;> (try split) <;> omega
    rw [h1, h2]
    simp only [List.length_cons]
    omega
set_option maxHeartbeats 2000000 in
set_option maxRecDepth 100000 in
theorem refVector (L : List UInt8) (w : World) (hl : ∀ c ∈ L, isL c) (hn : L.length ≤ 1000) :
    Calls Try.prog 7 #[.string (strL L)] w fun e w' => e = .returned (.agg #[.int .i64 (vecL L).1, .int .i64 (vecL L).2]) ∧ Below w.heap.size w w' := by
  have HL := Lib.hid hl
  have hsz := strL_size L
  have hsd := strL_data L
  generalize strL L = s at hsz hsd ⊢
  have HSZ := Lib.hid hsz
  have HSD := Lib.hid hsd
  have hs1 : (s.size : Int) ≤ 1000 := by omega
  clear hl hsz hsd
  go_enter Try.func7, Try.ntmps7
  go_wp2_with fail
  obtain ⟨w1, hw1⟩ : ∃ w1, w1 = (w.alloc (.cells #[.int .i64 0, .int .i64 0] 28)).alloc (.cells #[.int .i64 0, .int .i64 0] 28) := ⟨_, rfl⟩
  have g0 : w1.heap[w.heap.size]? = some (.cells #[.int .i64 0, .int .i64 0] 28 (0, 0)) := by
    rw [hw1, Below.heap_alloc _ _ _ (by simp)]
    exact heap_alloc_new _ _
  have g1 : w1.heap[w.heap.size + 1]? = some (.cells #[.int .i64 0, .int .i64 0] 28 (0, 0)) := by
    rw [hw1]
    have := heap_alloc_new (w.alloc (.cells #[.int .i64 0, .int .i64 0] 28)) (.cells #[.int .i64 0, .int .i64 0] 28)
    rwa [World.size_alloc] at this
  have b0 : Below w.heap.size w w1 := by rw [hw1]; exact ((Below.refl _ _).alloc (Nat.le_refl _) _).alloc (by simp) _
  rw [← hw1]
  clear hw1
  go_loopw [4] (fun i wr => ∃ k : Nat, k ≤ s.size ∧ i = .int .i64 k ∧ wr.heap[w.heap.size]? = some (.cells #[.int .i64 0, .int .i64 0] 28 (0, 0)) ∧ wr.heap[w.heap.size + 1]? = some (.cells #[.int .i64 (vecL (L.take k)).1, .int .i64 (vecL (L.take k)).2] 28 (0, 0)) ∧ Below w.heap.size w wr) (fun i _ => s.size - (intOf i).toNat)
  case atStart => exact ⟨0, Nat.zero_le _, rfl, g0, g1, b0⟩
  case round =>
    obtain ⟨k, hk, rfl, h0, h1, hb⟩ := hrel
    clear g0 g1 b0
    have hz0 := (Array.getElem?_eq_some_iff.1 h0).1
    have hz1 := (Array.getElem?_eq_some_iff.1 h1).1
    have hvn := vecL_near (L.take k)
    by_cases hlt : k < s.size
    · have c0 : (0 : Int) ≤ (k : Int) := by omega
      have c1 : (k : Int) < (s.size : Int) := by omega
      have hkL : k < L.length := by rw [← HSZ.out]; exact hlt
      have hkl : k < s.data.toList.length := by rw [HSD.out]; exact hkL
      have hel : s[k] = L[k] := by rw [← byte_at s k hlt hkl]; simp only [HSD.out]
      have hLk := HL.out _ (List.getElem_mem hkL)
      have HV := Lib.hid (show vecL (L.take (k + 1)) = ((vecL (L.take k)).1 + dxL L[k], (vecL (L.take k)).2 + dyL L[k]) by rw [List.take_succ_eq_append_getElem hkL, vecL_snoc])
      have hx : 0 ≤ dxL L[k] ∧ dxL L[k] ≤ 2 := by unfold dxL; split <;> (try split) <;> omega
      have hy : 0 ≤ dyL L[k] ∧ dyL L[k] ≤ 2 := by unfold dyL; split <;> (try split) <;> omega
      have hlen : ((L.take k).length : Int) ≤ 1000 := by rw [List.length_take]; omega
      generalize L[k] = q at *
      generalize (vecL (L.take k)).1 = vx at *
      generalize (vecL (L.take k)).2 = vy at *
      obtain ⟨a0, a1⟩ := hx
      obtain ⟨a2, a3⟩ := hy
      obtain ⟨d0, d1, d2, d3⟩ := hvn
      go_wp2_with fail
      refine (refStep q _ hLk).mono ?_
      rintro e w2 ⟨rfl, hb2⟩
      obtain ⟨w3, hw3, n0, n1, hb3, hz3⟩ := box2 w2 (.int .i64 (dxL q)) (.int .i64 (dyL q)) 28
      have b23 := hb2.trans (hb3.mono hb2.size)
      have h0' := (b23.block _ hz0).trans h0
      have h1' := (b23.block _ hz1).trans h1
      obtain ⟨p0, p1, p2, p3⟩ := two_cell h1'
      obtain ⟨s1, s2⟩ := two_set h1' (.int .i64 (vx + dxL q)) (.int .i64 (vy + dyL q))
      have hbw := (hb.trans (b23.mono hb.size)).grown s2 (by have := b23.size; omega) (fun j e => by cases e; omega)
      have h0'' := (s2.block _ (Array.getElem?_eq_some_iff.1 h0').1 (fun e => by injection e; omega)).trans h0'
      have hw3' := hw3.symm
      have hlc := HSZ.out
      clear hw3 hel hlc h0 h1 hb2 hb3 hb
      go_wp2
      go_roundw
      case rel => exact ⟨k + 1, by omega, by go_num, h0'', by rw [HV.out]; exact s1, hbw⟩
      case measure => simp [intOf]; omega
    · obtain rfl : k = s.size := by omega
      have HT := Lib.hid (show L.take s.size = L by rw [HSZ.out, List.take_length])
      rw [HT.out] at h1 hvn
      obtain ⟨p0, p1, -, -⟩ := two_cell h1
      obtain ⟨o0, o1, o2, o3⟩ := two_cell h0
      obtain ⟨s1, s2⟩ := two_set h0 (.int .i64 (vecL L).1) (.int .i64 (vecL L).2)
      obtain ⟨t0, t1, -, -⟩ := two_cell s1
      have hbw := hb.grown s2 (by have := hb.size; omega) (fun j e => by cases e; omega)
      clear h0 h1
      go_wp2
      exact bodyPost_ret (v := .agg #[.int .i64 (vecL L).1, .int .i64 (vecL L).2]) (by simp [results, Try.results7, go_sem, t0, t1]) rfl ⟨rfl, hbw⟩
end Go.Proofs.Ythihjphcjjpjpaa

/- Slices that the call owns, or that read so; Union. -/
namespace Go.Proofs.Ythihjphcjjpjpaa
open Go.RowKit Ck

/-- The slice is of the call's own, or reads so. -/
def OKS (w : World) (a : Option Addr) (c : Nat) (l : List Bar) : Prop := l.length ≤ c ∧ c ≤ maxLen ∧ (a = none → c = 0) ∧ RB w w.heap.size a l
theorem OKS.below {w w' : World} {a : Option Addr} {c : Nat} {l : List Bar} (h : OKS w a c l) (hb : Below w.heap.size w w') : OKS w' a c l := ⟨h.1, h.2.1, h.2.2.1, (h.2.2.2.below hb).more hb.size⟩
theorem own_oks {w : World} {base : Nat} {v : Value} {l : List Bar} (h : w.ownsRow base 48 3 v l.length (bcellsL l)) : ∃ a c, v = .slice a l.length c ∧ OKS w a c l := by
  rcases h.2 with ⟨rfl, hz⟩ | ⟨g, cap, cur, rfl, _, _, h1, h2, _⟩
  · have : l = [] := List.eq_nil_of_length_eq_zero hz
    subst this
    exact ⟨none, 0, rfl, Nat.zero_le _, by unfold maxLen; omega, fun _ => rfl, RB.nil _ _ _⟩
  · exact ⟨_, _, rfl, h1, h2, (fun e => by cases e), RB.of_own h⟩
def SlicePost (l : List Bar) (w : World) (e : Ending) (w' : World) : Prop := ∃ a c, e = .returned (.slice a l.length c) ∧ OKS w' a c l ∧ Below w.heap.size w w'
def PairPost (l : List Bar) (w : World) (e : Ending) (w' : World) : Prop := ∃ a c, e = .returned (.tuple #[.slice a l.length c, .int .i64 0]) ∧ OKS w' a c l ∧ Below w.heap.size w w'
theorem unionS (A A' : Option Addr) (c c' : Nat) (l l' u : List Bar) (w : World) (hu : mergeU l l' = u) (hl : l.length ≤ 2000) (hl' : l'.length ≤ 2000) (hN : Net l) (hN' : Net l') (h : OKS w A c l) (h' : OKS w A' c' l') :
    Calls Try.prog 14 #[.slice A l.length c, .slice A' l'.length c'] w (PairPost u w) :=
  (netUnion A A' c c' l l' w (by omega) (by omega) h.1 h.2.1 h'.1 h'.2.1 hN hN' h.2.2.2 h'.2.2.2 (by have := mergeU_length l l'; omega)).mono fun e w' ⟨v, he, hrow, hb⟩ => by
    subst hu
    obtain ⟨a, c', rfl, hok⟩ := own_oks hrow
    exact ⟨a, c', he, hok, hb⟩
end Go.Proofs.Ythihjphcjjpjpaa

/- Minus, of slices that the call owns or that read so. -/
namespace Go.Proofs.Ythihjphcjjpjpaa
open Go.RowKit Ck

theorem minusS (A A' : Option Addr) (c c' : Nat) (l l' u : List Bar) (w : World) (hu : mergeM l l' = u) (hl : l.length ≤ 2000) (hl' : l'.length ≤ 2000) (hN : Net l) (hN' : Net l') (h : OKS w A c l) (h' : OKS w A' c' l') :
    Calls Try.prog 13 #[.slice A l.length c, .slice A' l'.length c'] w (PairPost u w) :=
  (netMinus A A' c c' l l' w (by omega) (by omega) h.1 h.2.1 h'.1 h'.2.1 hN hN' h.2.2.2 h'.2.2.2).mono fun e w' ⟨v, he, hrow, hb⟩ => by
    subst hu
    obtain ⟨a, c', rfl, hok⟩ := own_oks hrow
    exact ⟨a, c', he, hok, hb⟩
end Go.Proofs.Ythihjphcjjpjpaa

/- Equality of counts. -/
namespace Go.Proofs.Ythihjphcjjpjpaa
open Go.RowKit

theorem eqCounts (a b c d e a' b' c' d' e' : Int) (r : Bool) (hr : decide (a = a' ∧ b = b' ∧ c = c' ∧ d = d' ∧ e = e') = r) (w : World) :
    (Op.equalIn 10000 66 (.agg #[.int .i64 a, .int .i64 b, .int .i64 c, .int .i64 d, .int .i64 e]) (.agg #[.int .i64 a', .int .i64 b', .int .i64 c', .int .i64 d', .int .i64 e'])).run Try.prog w = .ok r w := by
  have u3 := Try.underlying3
  have a3 := Try.isAgg3
  have z3 := Try.sizeOf3
  have hS : Try.prog.underlying 66 = some (.struct (Try.prog.fieldsOf 66)) := by kernel_rfl
  have hp : Try.prog.stoodInHeld 66 = false := by kernel_rfl
  subst hr
  rw [show (10000 : Nat) = 9999 + 1 from rfl, run_equalIn_struct w 9999 66 _ _ hS hp]
  simp only [Program.fieldsOf, Try.underlying66]
  go_simp
  by_cases h1 : a = a' <;> by_cases h2 : b = b' <;> by_cases h3 : c = c' <;> by_cases h4 : d = d' <;> by_cases h5 : e = e' <;> simp [h1, h2, h3, h4, h5]
theorem guardCounts : Try.prog.eqGuardType Try.prog.depth 66 = false := by kernel_rfl
end Go.Proofs.Ythihjphcjjpjpaa

/- The fixed example of the statements on edges: otterEdge. -/
namespace Go.Proofs.Ythihjphcjjpjpaa
open Go.RowKit Go.Shelf Ck

theorem barsS (x y : Int) (s : ByteArray) (c : Nat) (o : Bool) (w : World) (h : EdgeOk x y s c) :
    Calls Try.prog 10 #[.agg #[.int .i64 x, .int .i64 y], .string s, .int .i64 c, .bool o] w (PairPost (barsP (sg o) ⟨x, y⟩ (Lib.repeatL s.data.toList c)) w) :=
  (tpBars x y s c o w h).mono fun e w' ⟨v, he, hrow, hb⟩ => by
    obtain ⟨a, c', rfl, hok⟩ := own_oks hrow
    exact ⟨a, c', he, hok, hb⟩
theorem sheetS' (x y : Int) (c r : Nat) (w : World) (hE : sheetE x y c r = 0) :
    Calls Try.prog 9 #[.agg #[.int .i64 x, .int .i64 y], .int .i64 c, .int .i64 r] w (PairPost (sheetP x y c r) w) :=
  (netSheet x y c r w hE).mono fun e w' ⟨v, he, hrow, hb⟩ => by
    obtain ⟨a, c', rfl, hok⟩ := own_oks hrow
    exact ⟨a, c', he, hok, hb⟩
theorem edge_net {x y : Int} {s : ByteArray} {c : Nat} (h : EdgeOk x y s c) (o : Bool) : Net (barsP (sg o) ⟨x, y⟩ (Lib.repeatL s.data.toList c)) := by
  obtain ⟨hs, h1, h2, x1, x2, y1, y2, hp⟩ := h
  refine ⟨fun b hb => ?_, barsP_lt _ _⟩
  obtain ⟨n1, n2, n3, n4⟩ := barsP_near (sg_or o) hb
  obtain ⟨g1, g2⟩ := barsP_ge hb
  have hl : ((Lib.repeatL s.data.toList c).length : Int) ≤ 256 := by rw [rep_len]; omega
  have he := n4 hp (rep_letters hs c)
  simp only at n1 n2 n3 g1
  have hs' : b.s = 1 ∨ b.s = -1 := by rw [g2]; exact sg_or o
  simp only [okBar, okKnot, Bar.lo, Bar.hi, inPlace]
  rcases hs' with h | h <;> rw [h] <;> omega
def nbb : ByteArray := ⟨#[78, 66, 66]⟩
theorem nbb_ok : EdgeOk 0 0 nbb 2 := ⟨⟨by intro c hc; simp [nbb] at hc; rcases hc with rfl | rfl <;> simp [isL], by decide, by decide⟩, by decide, by decide, by decide, by decide, by decide, by decide, by decide⟩
theorem nbb_runs : endsR (Lib.repeatL nbb.data.toList 2) = 2 := by decide +kernel
theorem nbb_bars : barsN (Lib.repeatL nbb.data.toList 2) = 4 := by decide +kernel
theorem four_facts : ∃ l, barsP (sg true) ⟨0, 0⟩ (Lib.repeatL nbb.data.toList 2) = l ∧ l.length = 4 ∧ PartsIs l 2 ∧ nK l = 6 ∧ nM l = 0 ∧ Net l := by
  have hp := barsP_parts (sg_or true) (k := ⟨0, 0⟩) (rep_letters nbb_ok.1 2)
  have hm := barsP_meshes (σ := sg true) (Lib.repeatL nbb.data.toList 2) ⟨0, 0⟩
  have hn := edge_net nbb_ok true
  have hl := barsP_length (σ := sg true) (Lib.repeatL nbb.data.toList 2) ⟨0, 0⟩
  rw [nbb_runs, nbb_bars] at hp
  rw [nbb_bars] at hl
  generalize barsP (sg true) ⟨0, 0⟩ (Lib.repeatL nbb.data.toList 2) = l at *
  exact ⟨l, rfl, hl, hp.1, hp.2, hm, hn⟩
theorem sheet_facts : ∃ S, S = sheetP (-2) (-2) 4 12 ∧ Net S ∧ S.length ≤ 200 ∧ (⟨1, 3, 1⟩ : Bar) ∈ S := by
  refine ⟨_, rfl, sheet_net (x := -2) (y := -2) (cols := 4) (rows := 12) ((knotE_ok (-2) (-2)).1 (by decide)) (by unfold inPlace; omega) (by unfold inPlace; omega), by rw [sheetP_length]; decide, ?_⟩
  refine List.mem_flatMap.2 ⟨5, by decide, List.mem_flatMap.2 ⟨1, by decide, ?_⟩⟩
  decide
theorem nbbBars (l : List Bar) (hl : barsP (sg true) ⟨0, 0⟩ (Lib.repeatL nbb.data.toList 2) = l) (w : World) :
    Calls Try.prog 10 #[.agg #[.int .i64 0, .int .i64 0], .string nbb, .int .i64 ((2 : Nat) : Int), .bool true] w (PairPost l w) := by
  have h := barsS 0 0 nbb 2 true w nbb_ok
  rw [hl] at h
  exact h
theorem two_cast : ((2 : Nat) : Int) = 2 := rfl
theorem nbbBars' (l : List Bar) (hl : barsP (sg true) ⟨0, 0⟩ (Lib.repeatL nbb.data.toList 2) = l) (w : World) :
    Calls Try.prog 10 #[.agg #[.int .i64 0, .int .i64 0], .string ⟨#[78, 66, 66]⟩, .int .i64 2, .bool true] w (PairPost l w) := by
  have h := nbbBars l hl w
  rw [two_cast] at h
  exact h
theorem sheetO4 (S : List Bar) (hS : S = sheetP (-2) (-2) 4 12) (w : World) : Calls Try.prog 9 #[.agg #[.int .i64 (-2), .int .i64 (-2)], .int .i64 4, .int .i64 12] w (PairPost S w) := by
  have h := sheetS' (-2) (-2) 4 12 w (by decide)
  rw [← hS] at h
  exact h
theorem hasO4 (A : Option Addr) (c : Nat) (S : List Bar) (w : World) (h : OKS w A c S) (hl : S.length ≤ 200) (hN : Net S) (hm : (⟨1, 3, 1⟩ : Bar) ∈ S) :
    Calls Try.prog 17 #[.slice A S.length c, .agg #[.int .i64 1, .int .i64 3, .int .i64 1]] w fun e w' => e = .returned (.tuple #[.bool true, .int .i64 0]) ∧ Below w.heap.size w w' := by
  have h' := netHas A c S ⟨1, 3, 1⟩ w (by omega) h.1 h.2.1 hN ((barE_iff _).2 (hN.1 _ hm)) h.2.2.2
  rw [decide_eq_true hm] at h'
  exact h'
def OtterYes : Prop := ∀ w : World, Calls Try.prog 6 #[] w fun e w' => e = .returned (.bool true) ∧ Below w.heap.size w w'
set_option maxHeartbeats 4000000 in
set_option maxRecDepth 100000 in
theorem otterEdge : OtterYes := by
  intro w
  have ex0 : ∀ (a b : Value) (w : World), (Instr.extract (.tuple #[a, b]) 0).run Try.prog w = .ok a w := fun _ _ _ => by kernel_rfl
  have ex1 : ∀ (a b : Value) (w : World), (Instr.extract (.tuple #[a, b]) 1).run Try.prog w = .ok b w := fun _ _ _ => by kernel_rfl
  obtain ⟨l, hl, hlen, hp, hk, hm, hN⟩ := four_facts
  have HL := Lib.hid hl
  have HP := Lib.hid hp
  have HLE := Lib.hid hlen
  have HKK := Lib.hid hk
  have HMM := Lib.hid hm
  clear hlen hk hm
  have HN := Lib.hid hN
  obtain ⟨S, hSS, hSN, hSl, hSm⟩ := sheet_facts
  have HS := Lib.hid hSS
  have HSN := Lib.hid hSN
  have HSM := Lib.hid hSm
  clear hl hp hN hSS hSN hSm
  go_enter Try.func6, Try.ntmps6
  go_wp2_with fail
  refine (nbbBars' l HL.out _).mono ?_
  rintro e w1 ⟨a1, c1, rfl, hk1, hb1⟩
  have K1 := Lib.hid hk1
  clear hk1
  go_wp2_with fail
  refine (netCount a1 c1 l _ (by have := HLE.out; omega) K1.out.1 K1.out.2.1 HN.out K1.out.2.2.2).mono ?_
  rintro e w2 ⟨p, hpp, rfl, hb2⟩
  obtain rfl : p = 2 := hpp.det HP.out
  rw [HLE.out, HKK.out, HMM.out]
  obtain ⟨wx, hwx, kx, bx, zx⟩ : ∃ w1, w1 = w2.alloc (.cells #[.int .i64 6, .int .i64 4, .int .i64 0, .int .i64 2, .int .i64 0] 66) ∧ w1.heap[w2.heap.size]? = some (.cells #[.int .i64 6, .int .i64 4, .int .i64 0, .int .i64 2, .int .i64 0] 66 (0, 0)) ∧ Below w2.heap.size w2 w1 ∧ w2.heap.size < w1.heap.size :=
    ⟨_, rfl, heap_alloc_new _ _, (Below.refl _ _).alloc (Nat.le_refl _) _, by simp⟩
  have b2 := hb1.trans (hb2.mono hb1.size)
  have b3 := b2.trans (bx.mono b2.size)
  have HWX := Lib.hid hwx
  have KX := Lib.hid kx
  clear hwx kx
  simp only [show ((6 : Nat) : Int) = 6 from rfl, show ((4 : Nat) : Int) = 4 from rfl, show ((0 : Nat) : Int) = 0 from rfl, show ((2 : Nat) : Int) = 2 from rfl, show (4 : Int) - 6 + 2 - 0 = 0 from rfl]
  go_wp2_with fail
  rw [← HWX.out]
  refine (sheetO4 S HS.out _).mono ?_
  rintro e w4 ⟨a4, c4, rfl, hk4, hb4⟩
  have K4 := Lib.hid hk4
  clear hk4
  go_wp2_with fail
  refine (hasO4 a4 c4 S _ K4.out (by omega) HSN.out HSM.out).mono ?_
  rintro e w5 ⟨rfl, hb5⟩
  have b35 := hb4.trans (hb5.mono hb4.size)
  obtain ⟨r0, r1, r2, r3, r4, rf⟩ := five_of_block ((b35.block _ zx).trans KX.out)
  have b5 := b3.trans (b35.mono b3.size)
  have hqz := eqCounts 6 4 0 2 0 6 4 0 2 0 true (by decide)
  have hgd := guardCounts
  clear rf
  go_wp2
  go_ret
  exact ⟨rfl, b5⟩
end Go.Proofs.Ythihjphcjjpjpaa

/- Which edges the statements take: otterShort. -/
namespace Go.Proofs.Ythihjphcjjpjpaa
open Go.RowKit Go.Shelf Ck

/-- What otterShort asks. -/
def Short (x y : Int) (s : ByteArray) (n : Int) : Prop := s.size ≤ 6 ∧ Word s ∧ 1 ≤ n ∧ n ≤ 4 ∧ okKnot ⟨x, y⟩ ∧ -1000 ≤ x ∧ x ≤ 1000 ∧ -1000 ≤ y ∧ y ≤ 1000
def ShortPost (x y : Int) (s : ByteArray) (n : Int) (w : World) (e : Ending) (w' : World) : Prop := ∃ b : Bool, e = .returned (.bool b) ∧ (b = true → Short x y s n) ∧ Below w.heap.size w w'
set_option maxHeartbeats 4000000 in
set_option maxRecDepth 100000 in
theorem otterShort (x y : Int) (s : ByteArray) (n : Int) (w : World) :
    Calls Try.prog 5 #[.agg #[.int .i64 x, .int .i64 y], .agg #[.string s, .int .i64 n]] w (ShortPost x y s n w) := by
  obtain ⟨w1, hw1, hb1, hz1, ex, er⟩ : ∃ w1, w1 = (w.alloc (.cells #[.int .i64 x, .int .i64 y] 23)).alloc (.cells #[.string s, .int .i64 n] 25) ∧ Below w.heap.size w w1 ∧ w1.heap.size = w.heap.size + 2 ∧ w1.heap[w.heap.size]? = some (.cells #[.int .i64 x, .int .i64 y] 23 (0, 0)) ∧ w1.heap[w.heap.size + 1]? = some (.cells #[.string s, .int .i64 n] 25 (0, 0)) := by
    refine ⟨_, rfl, ((Below.refl _ _).alloc (Nat.le_refl _) _).alloc (by simp) _, by simp, ?_, ?_⟩
    · rw [Below.heap_alloc _ _ _ (by simp)]
      exact heap_alloc_new _ _
    · have := heap_alloc_new (w.alloc (.cells #[.int .i64 x, .int .i64 y] 23)) (.cells #[.string s, .int .i64 n] 25)
      rwa [World.size_alloc] at this
  have HW1 := Lib.hid hw1
  have HZ1 := Lib.hid hz1
  clear hw1 hz1
  obtain ⟨e0, e1, -, -⟩ := two_cell ex
  obtain ⟨e2, e3, -, -⟩ := two_cell er
  by_cases h6 : s.size ≤ 6
  · have h6i : (s.size : Int) ≤ 6 := by omega
    go_enter Try.func5, Try.ntmps5
    go_wp2_with fail
    rw [← HW1.out]
    refine (refCheckWord s _ (by omega)).mono ?_
    rintro e w2 ⟨rfl, rfl⟩
    obtain ⟨er', her⟩ : ∃ z, wordE s.data.toList = z := ⟨_, rfl⟩
    rw [her]
    have HER := Lib.hid her
    clear her
    go_wp2_with fail
    all_goals first
      | (go_ret; exact ⟨_, rfl, (fun h => by first | (cases h; done) | (simp at h; omega)), hb1⟩)
      | (refine (refCheckKnot x y _).mono ?_
         rintro e w3 ⟨rfl, hb3⟩
         have hbf := hb1.trans (hb3.mono hb1.size)
         have hz := HZ1.out
         replace e0 := (hb3.cell (p := ⟨w.heap.size, 0, none⟩) (by show w.heap.size < _; omega)).trans e0
         replace e1 := (hb3.cell (p := ⟨w.heap.size, 1, none⟩) (by show w.heap.size < _; omega)).trans e1
         obtain ⟨zk, hzk⟩ : ∃ z, knotE x y = z := ⟨_, rfl⟩
         rw [hzk]
         have HKZ := Lib.hid hzk
         clear hzk
         go_wp2
         all_goals first
           | (go_ret; exact ⟨false, rfl, (fun h => by cases h), hbf⟩)
           | (go_ret; refine ⟨_, rfl, (fun h => ?_), hbf⟩; (try simp only [decide_eq_true_eq, beq_iff_eq] at h); first | exact absurd h (by assumption) | exact ⟨h6, wordE_zero (HER.out.trans (by assumption)), by assumption, by assumption, (knotE_ok x y).1 (HKZ.out.trans (by assumption)), by omega, by omega, by omega, by omega⟩))
  · have h6i : ¬ ((s.size : Int) ≤ 6) := by omega
    go_enter Try.func5, Try.ntmps5
    go_wp2_with (rw [← HW1.out])
    go_ret
    exact ⟨false, rfl, (fun h => by cases h), hb1⟩
end Go.Proofs.Ythihjphcjjpjpaa

/- An edge within a sheet around it: plain mathematics. -/
namespace Go.Proofs.Ythihjphcjjpjpaa
open Ck

theorem vecL_cons (c : UInt8) (r : List UInt8) : (vecL (c :: r)).1 = dxL c + (vecL r).1 ∧ (vecL (c :: r)).2 = dyL c + (vecL r).2 := by simp [vecL]
theorem d_nonneg (c : UInt8) : 0 ≤ dxL c ∧ dxL c ≤ 2 ∧ 0 ≤ dyL c ∧ dyL c ≤ 2 := by
  refine ⟨?_, ?_, ?_, ?_⟩
  · unfold dxL; split <;> (try split) <;> omega
  · unfold dxL; split <;> (try split) <;> omega
  · unfold dyL; split <;> (try split) <;> omega
  · unfold dyL; split <;> (try split) <;> omega
theorem step1 (k : Knot) (c : UInt8) : (stepK 1 k c).x = k.x + dxL c ∧ (stepK 1 k c).y = k.y + dyL c := by simp [stepK]
theorem bars_box : ∀ {L : List UInt8} {k : Knot} {b : Bar}, (∀ c ∈ L, isL c) → (k.x + k.y) % 2 = 0 → b ∈ barsP 1 k L → k.x ≤ b.x ∧ b.x + 1 ≤ k.x + (vecL L).1 ∧ k.y ≤ b.y ∧ b.y + 1 ≤ k.y + (vecL L).2 ∧ (b.x + b.y) % 2 = 0
  | [], _, _, _, _, h => by simp [barsP] at h
  | c :: r, k, b, hL, hp, h => by
    obtain ⟨v1, v2⟩ := vecL_cons c r
    obtain ⟨d1, d2, d3, d4⟩ := d_nonneg c
    obtain ⟨s1, s2⟩ := step1 k c
    obtain ⟨n1, _, n3, _⟩ := vecL_near r
    have hc : dxL c + dyL c = 2 := by rcases hL c (by simp) with rfl | rfl | rfl <;> simp [dxL, dyL]
    have hrec : b ∈ barsP 1 (stepK 1 k c) r → k.x ≤ b.x ∧ b.x + 1 ≤ k.x + (vecL (c :: r)).1 ∧ k.y ≤ b.y ∧ b.y + 1 ≤ k.y + (vecL (c :: r)).2 ∧ (b.x + b.y) % 2 = 0 := fun hb => by
      have := bars_box (fun c' h' => hL c' (by simp [h'])) (by omega) hb
      omega
    rw [barsP_cons] at h
    split at h
    · rename_i h66
      rcases List.mem_cons.1 h with rfl | h
      · subst h66
        have e1 : dxL 66 = 1 := by simp [dxL]
        have e2 : dyL 66 = 1 := by simp [dyL]
        simp only
        omega
      · exact hrec h
    · exact hrec h
theorem mids_box : ∀ {L : List UInt8} {k m : Knot}, (∀ c ∈ L, isL c) → (k.x + k.y) % 2 = 0 → m ∈ midsP 1 k L → k.x ≤ m.x ∧ m.x ≤ k.x + (vecL L).1 ∧ k.y ≤ m.y ∧ m.y ≤ k.y + (vecL L).2 ∧ (m.x + m.y) % 2 = 1
  | [], _, _, _, _, h => by simp [midsP] at h
  | c :: r, k, m, hL, hp, h => by
    obtain ⟨v1, v2⟩ := vecL_cons c r
    obtain ⟨d1, d2, d3, d4⟩ := d_nonneg c
    obtain ⟨s1, s2⟩ := step1 k c
    obtain ⟨n1, _, n3, _⟩ := vecL_near r
    have hc : dxL c + dyL c = 2 := by rcases hL c (by simp) with rfl | rfl | rfl <;> simp [dxL, dyL]
    have hrec : m ∈ midsP 1 (stepK 1 k c) r → k.x ≤ m.x ∧ m.x ≤ k.x + (vecL (c :: r)).1 ∧ k.y ≤ m.y ∧ m.y ≤ k.y + (vecL (c :: r)).2 ∧ (m.x + m.y) % 2 = 1 := fun hb => by
      have := mids_box (fun c' h' => hL c' (by simp [h'])) (by omega) hb
      omega
    rw [midsP] at h
    split at h
    · exact hrec h
    · rename_i h66
      rcases List.mem_cons.1 h with rfl | h
      · rcases hL c (by simp) with rfl | rfl | rfl
        · have e1 : dxL 78 = 0 := by simp [dxL]
          have e2 : dyL 78 = 2 := by simp [dyL]
          simp [midK]
          omega
        · exact absurd rfl h66
        · have e1 : dxL 84 = 2 := by simp [dxL]
          have e2 : dyL 84 = 0 := by simp [dyL]
          simp [midK]
          omega
      · exact hrec h
theorem bars_mids : ∀ (L : List UInt8) (k : Knot) (σ : Int), (barsP σ k L).length + (midsP σ k L).length = L.length
  | [], _, _ => rfl
  | c :: r, k, σ => by
    have ih := bars_mids r (stepK σ k c) σ
    rw [barsP_cons, midsP]
    split <;> simp <;> omega
/-- The centres of the meshes of a net. -/
def cenL (S : List Bar) : List Knot := (meshL S S).map fun b => ⟨b.x, b.y + 1⟩
theorem in_cen {S : List Bar} {m : Knot} (h : ∀ b ∈ meshBars4 m.x m.y, b ∈ S) : m ∈ cenL S := by
  refine List.mem_map.2 ⟨⟨m.x, m.y - 1, -1⟩, List.mem_filter.2 ⟨h _ (by simp [meshBars4]), ?_⟩, ?_⟩
  · simp only [isM, allIn, Bool.and_eq_true, decide_eq_true_eq, List.all_eq_true]
    refine ⟨trivial, fun b hb => h b ?_⟩
    have : m.y - 1 + 1 = m.y := by omega
    rw [this] at hb
    exact hb
  · show (⟨m.x, m.y - 1 + 1⟩ : Knot) = m
    have : m.y - 1 + 1 = m.y := by omega
    rw [this]

/-- The sheet around an edge. -/
structure Around (x y : Int) (L : List UInt8) (l S : List Bar) (ms : List Knot) (cols rows : Nat) : Prop where
  net : Net S
  edge : Net l
  sub : ∀ b ∈ l, b ∈ S
  mid : ∀ m ∈ ms, m ∈ cenL S
  num : l.length + ms.length = L.length
  err : sheetE (x - 2) (y - 2) cols rows = 0
  short : S.length ≤ 4096 ∧ l.length ≤ 24 ∧ ms.length ≤ 24
  cols' : ((vecL L).1 + 5) / 2 = (cols : Int)
  rows' : (vecL L).2 + 4 = (rows : Int)
theorem around {x y : Int} {s : ByteArray} {n : Int} (h : Short x y s n) : ∃ (c cols rows : Nat), n = (c : Int) ∧ EdgeOk x y s c ∧ (Lib.repeatL s.data.toList c).length = s.size * c ∧ (Lib.repeatL s.data.toList c).length ≤ 24 ∧
    Around x y (Lib.repeatL s.data.toList c) (barsP 1 ⟨x, y⟩ (Lib.repeatL s.data.toList c)) (sheetP (x - 2) (y - 2) cols rows) (midsP 1 ⟨x, y⟩ (Lib.repeatL s.data.toList c)) cols rows := by
  obtain ⟨h6, hw, n1, n4, hk, x1, x2, y1, y2⟩ := h
  obtain ⟨c, rfl⟩ : ∃ c : Nat, n = (c : Int) := ⟨n.toNat, by omega⟩
  have hc4 : c ≤ 4 := by omega
  have hcs : c * s.size ≤ 24 := Nat.le_trans (Nat.mul_le_mul hc4 h6) (by decide)
  have hlen : (Lib.repeatL s.data.toList c).length = c * s.size := rep_len
  have hp : (x + y) % 2 = 0 := hk.2.2
  have hE : EdgeOk x y s c := ⟨hw, by omega, by omega, by omega, by omega, by omega, by omega, hp⟩
  obtain ⟨v1, v2, v3, v4⟩ := vecL_near (Lib.repeatL s.data.toList c)
  have hL := rep_letters hw c
  obtain ⟨L, hLe⟩ : ∃ L, Lib.repeatL s.data.toList c = L := ⟨_, rfl⟩
  have hEN := edge_net hE true
  have hsg : sg true = 1 := rfl
  rw [hsg] at hEN
  rw [hLe] at hlen v1 v2 v3 v4 hL hEN
  obtain ⟨cols, hcols⟩ : ∃ cols : Nat, ((vecL L).1 + 5) / 2 = (cols : Int) := ⟨(((vecL L).1 + 5) / 2).toNat, by omega⟩
  obtain ⟨rows, hrows⟩ : ∃ rows : Nat, (vecL L).2 + 4 = (rows : Int) := ⟨((vecL L).2 + 4).toNat, by omega⟩
  have hc26 : cols ≤ 26 := by omega
  have hr52 : rows ≤ 52 := by omega
  have hcr : cols * rows ≤ 1352 := Nat.le_trans (Nat.mul_le_mul hc26 hr52) (by decide)
  have hk2 : okKnot ⟨x - 2, y - 2⟩ := ⟨⟨by simp; omega, by simp; omega⟩, ⟨by simp; omega, by simp; omega⟩, by simp; omega⟩
  have hbm := bars_mids L ⟨x, y⟩ 1
  have hsub : ∀ b ∈ barsP 1 ⟨x, y⟩ L, b ∈ sheetP (x - 2) (y - 2) cols rows := fun b hb => by
    obtain ⟨b1, b2, b3, b4, b5⟩ := bars_box hL hp hb
    have bs := (barsP_ge hb).2
    simp only at b1 b2 b3 b4
    exact in_sheet (.inl bs) (by omega) (by omega) (by omega) (by omega) (by omega) (by omega) (by omega)
  refine ⟨c, cols, rows, rfl, hE, ?_⟩
  rw [hLe]
  refine ⟨by rw [hlen, Nat.mul_comm], by omega, ⟨sheet_net hk2 (by unfold inPlace; omega) (by unfold inPlace; omega), hEN, hsub, fun m hm => ?_, hbm, ?_, ⟨by rw [sheetP_length]; omega, by omega, by omega⟩, hcols, hrows⟩⟩
  · obtain ⟨m1, m2, m3, m4, m5⟩ := mids_box hL hp hm
    simp only at m1 m2 m3 m4
    refine in_cen fun b hb => ?_
    simp only [meshBars4, List.mem_cons, List.not_mem_nil, or_false] at hb
    rcases hb with rfl | rfl | rfl | rfl
    · exact in_sheet (.inr rfl) (by simp; omega) (by simp; omega) (by simp; omega) (by simp; omega) (by simp; omega) (by simp; omega) (by simp; omega)
    · exact in_sheet (.inl rfl) (by simp; omega) (by simp; omega) (by simp; omega) (by simp; omega) (by simp; omega) (by simp; omega) (by simp; omega)
    · exact in_sheet (.inl rfl) (by simp; omega) (by simp; omega) (by simp; omega) (by simp; omega) (by simp; omega) (by simp; omega) (by simp; omega)
    · exact in_sheet (.inr rfl) (by simp; omega) (by simp; omega) (by simp; omega) (by simp; omega) (by simp; omega) (by simp; omega) (by simp; omega)
  · have e1 : sheet1 (x - 2) (y - 2) cols rows = 0 := by
      unfold sheet1 firstE firstE firstE firstE
      have a1 : knotE (x - 2) (y - 2) = 0 := (knotE_ok _ _).2 hk2
      have a2 : sideR cols = 0 := by unfold sideR; rw [if_neg]; omega
      have a3 : sideR rows = 0 := by unfold sideR; rw [if_neg]; omega
      simp [a1, a2, a3]
    have e2 : ¬ (4096 < 2 * (cols : Int) * (rows : Int)) := by
      have : ((cols * rows : Nat) : Int) ≤ 1352 := by omega
      rw [Int.natCast_mul] at this
      rw [Int.mul_assoc]
      omega
    have e3 : farB (x - 2 + 2 * (cols : Int)) = false := by unfold farB; simp; omega
    have e4 : farB (y - 2 + (rows : Int)) = false := by unfold farB; simp; omega
    unfold sheetE
    rw [if_pos e1, if_neg e2, e3, e4]
    rfl
end Go.Proofs.Ythihjphcjjpjpaa

/- A map from pairs of ints to truths that the call itself has made: what its block holds, and what its operations do (made from Map). -/
namespace Go.Proofs.Ythihjphcjjpjpaa
open Go.RowKit Go.ChangeMaps Go.MapKept

def mgetS : List (Ck.Knot × Bool) → Ck.Knot → Bool
  | [], _ => false
  | p :: r, k => if k = p.1 then p.2 else mgetS r k
def mputS : List (Ck.Knot × Bool) → Ck.Knot → Bool → List (Ck.Knot × Bool)
  | [], k, v => [(k, v)]
  | p :: r, k, v => if k = p.1 then (k, v) :: r else p :: mputS r k v
def fndS : List (Ck.Knot × Bool) → Ck.Knot → Nat → Option (Nat × Value)
  | [], _, _ => none
  | p :: r, k, i => if k = p.1 then some (i, .bool p.2) else fndS r k (i + 1)

set_option maxRecDepth 100000 in
theorem eqKnotS (a b : Ck.Knot) (w : World) : (Op.equal 28 (kvv a) (kvv b)).run Try.prog w = .ok (decide (a = b)) w := by
  have u3 := Try.underlying3
  have a3 := Try.isAgg3
  have z3 := Try.sizeOf3
  have hu : Try.prog.underlying 28 = some (.array 2 3) := by kernel_rfl
  have hC : Try.prog.cellsOf 3 = 1 := by kernel_rfl
  have hs : (Try.prog.info? 3).isSome = true := by kernel_rfl
  obtain ⟨i, hi⟩ := Option.isSome_iff_exists.1 hs
  obtain ⟨x, y⟩ := a
  obtain ⟨x', y'⟩ := b
  simp only [kvv, Op.equal]
  rw [show Op.maxDepth = 9999 + 1 from rfl, run_equalIn_array w 9999 _ _ hu hi, hC]
  simp only [show List.range 2 = [0, 1] from rfl, Op.eqItems]
  go_simp
  by_cases h1 : x = x' <;> by_cases h2 : y = y' <;> simp [h1, h2]

/-- The entries es hold the pairs m. -/
def EntsS (es : Array MapEntry) (m : List (Ck.Knot × Bool)) : Prop := es.toList.map (fun e => (e.key, e.val)) = m.map fun p => (kvv p.1, Value.bool p.2)
theorem run_findAskingS (k : Ck.Knot) (w : World) : ∀ (l : List MapEntry) (m : List (Ck.Knot × Bool)) (i : Nat), l.map (fun e => (e.key, e.val)) = m.map (fun p => (kvv p.1, Value.bool p.2)) →
    (Instr.findAsking 28 (kvv k) l i).run Try.prog w = .ok (fndS m k i) w
  | [], [], _, _ => rfl
  | [], _ :: _, _, h => by simp at h
  | _ :: _, [], _, h => by simp at h
  | e :: l, p :: m, i, h => by
    simp only [List.map_cons, List.cons.injEq, Prod.mk.injEq] at h
    obtain ⟨⟨h1, h2⟩, h3⟩ := h
    simp only [Instr.findAsking, Sem.run_bind, h1, eqKnotS, Result.andThen, fndS, h2]
    by_cases hk : k = p.1
    · simp [hk]
    · simp [hk, run_findAskingS k w l m (i + 1) h3]
theorem run_findKeyS (k : Ck.Knot) (w : World) (es : Array MapEntry) (m : List (Ck.Knot × Bool)) (h : EntsS es m) : (Instr.findKey 28 (kvv k) es.toList).run Try.prog w = .ok (fndS m k 0) w := by
  have hu := Try.underlying28
  unfold EntsS at h
  simp only [Instr.findKey, Sem.run_bind, run_underlying hu, Result.andThen]
  cases hl : es.toList with
  | nil =>
    rw [hl] at h
    cases m with
    | nil => rfl
    | cons _ _ => simp at h
  | cons e l =>
    rw [hl] at h
    have hn : ∀ n t, Instr.findNow (.array n t) (kvv k) (e :: l) 0 = none := fun n t => by
      unfold Instr.findNow Instr.sameNow
      rfl
    simp only [hn]
    exact run_findAskingS k w (e :: l) m 0 h
theorem run_checkKnotS (b : Bool) (k : Ck.Knot) (w : World) : (Instr.checkKey b 10000 28 (kvv k)).run Try.prog w = .ok () w := by
  obtain ⟨x, y⟩ := k
  cases b <;> kernel_rfl

theorem fnd_specS (k : Ck.Knot) : ∀ (m : List (Ck.Knot × Bool)) (i : Nat), (fndS m k i = none ∧ k ∉ m.map (·.1) ∧ mgetS m k = false ∧ ∀ v, mputS m k v = m ++ [(k, v)]) ∨
    ∃ j, fndS m k i = some (i + j, .bool (mgetS m k)) ∧ m[j]? = some (k, mgetS m k) ∧ ∀ v, mputS m k v = m.set j (k, v)
  | [], i => .inl ⟨rfl, by simp, rfl, fun _ => rfl⟩
  | p :: m, i => by
    by_cases hk : k = p.1
    · refine .inr ⟨0, by simp [fndS, mgetS, hk], by simp [mgetS, hk], fun v => by simp [mputS, hk]⟩
    · rcases fnd_specS k m (i + 1) with ⟨h1, h2, h3, h4⟩ | ⟨j, h1, h2, h3⟩
      · refine .inl ⟨by simp [fndS, hk, h1], by simp only [List.map_cons, List.mem_cons, not_or]; exact ⟨hk, h2⟩, by simp [mgetS, hk, h3], fun v => by simp [mputS, hk, h4]⟩
      · refine .inr ⟨j + 1, by simp [fndS, hk, h1, mgetS]; omega, by simp [h2, mgetS, hk], fun v => by simp [mputS, hk, h3]⟩

/-- Block b of w is a map that holds the pairs m, each key once. -/
def MIsS (w : World) (b : Nat) (m : List (Ck.Knot × Bool)) : Prop :=
  ∃ es clock, w.heap[b]? = some (.map es clock) ∧ EntsS es m ∧ (m.map (·.1)).Nodup ∧ (es.toList.map (·.born)).Nodup ∧ ∀ e ∈ es.toList, e.born < clock
theorem MIsS.made (w : World) : MIsS (w.alloc (.map #[] 0)) w.heap.size [] := ⟨#[], 0, heap_alloc_new _ _, rfl, by simp, by simp, by simp⟩
theorem MIsS.of_block {w w' : World} {b : Nat} {m : List (Ck.Knot × Bool)} (h : MIsS w b m) (hb : w'.heap[b]? = w.heap[b]?) : MIsS w' b m := by
  obtain ⟨es, clock, h1, h2⟩ := h
  exact ⟨es, clock, hb.trans h1, h2⟩
theorem MIsS.below {w w' : World} {b B : Nat} {m : List (Ck.Knot × Bool)} (h : MIsS w b m) (hb : Below B w w') (hB : b < B) : MIsS w' b m := h.of_block (hb.block b hB)
theorem MIsS.drew {w : World} {b : Nat} {m : List (Ck.Knot × Bool)} (h : MIsS w b m) : MIsS w.drew b m := h
theorem MIsS.lt {w : World} {b : Nat} {m : List (Ck.Knot × Bool)} (h : MIsS w b m) : b < w.heap.size := by
  obtain ⟨_, _, h1, _⟩ := h
  exact (Array.getElem?_eq_some_iff.1 h1).1

theorem MIsS.lookup {w : World} {b : Nat} {m : List (Ck.Knot × Bool)} (h : MIsS w b m) (k : Ck.Knot) : (Instr.lookup 45 (.map (some b)) (kvv k) false).run Try.prog w = .ok (.bool (mgetS m k)) w := by
  obtain ⟨es, clock, h1, h2, _⟩ := h
  have hz : (zeroValue 4).run Try.prog w = .ok (.bool false) w := by kernel_rfl
  rcases fnd_specS k m 0 with ⟨g1, _, g3, _⟩ | ⟨j, g1, _⟩
  · simp [Instr.lookup, run_underlying Try.underlying45, MapKept.run_getObj_map h1, run_checkKnotS, run_findKeyS k w es m h2, g1, g3, hz, Result.andThen]
  · simp [Instr.lookup, run_underlying Try.underlying45, MapKept.run_getObj_map h1, run_checkKnotS, run_findKeyS k w es m h2, g1, Result.andThen]

theorem staysS (k : Ck.Knot) (w : World) (old : Value) (h : old = kvv k) : (Instr.keyThatStays old (kvv k)).run Try.prog w = .ok (kvv k) w := by
  have hs : Instr.sameBits 10000 (kvv k) (kvv k) = true := by
    rw [show (10000 : Nat) = 9998 + 1 + 1 from rfl]
    simp [Instr.sameBits, kvv]
  subst h
  simp [Instr.keyThatStays, hs]
theorem EntsS.key {es : Array MapEntry} {m : List (Ck.Knot × Bool)} (h : EntsS es m) {j : Nat} {p : Ck.Knot × Bool} (hj : m[j]? = some p) : ∃ e, es.toList[j]? = some e ∧ e.key = kvv p.1 ∧ e.val = .bool p.2 := by
  have h' := congrArg (fun l => l[j]?) h
  simp only [List.getElem?_map, hj, Option.map_some] at h'
  cases he : es.toList[j]? with
  | none => rw [he] at h'; simp at h'
  | some e =>
    rw [he] at h'
    simp at h'
    exact ⟨e, rfl, h'.1, h'.2⟩
theorem EntsS.set {es es' : Array MapEntry} {m : List (Ck.Knot × Bool)} (h : EntsS es m) {j : Nat} {p : Ck.Knot × Bool} {e : MapEntry} (he : es'.toList = es.toList.set j e) (hk : e.key = kvv p.1) (hv : e.val = .bool p.2) : EntsS es' (m.set j p) := by
  unfold EntsS at h ⊢
  rw [he, List.map_set, List.map_set, h, hk, hv]
theorem modify_setS (es : Array MapEntry) (j : Nat) (e : MapEntry) (f : MapEntry → MapEntry) (h : es.toList[j]? = some e) : (es.modify j f).toList = es.toList.set j (f e) := by
  rw [Array.toList_modify]
  have hj : j < es.toList.length := (List.getElem?_eq_some_iff.1 h).1
  apply List.ext_getElem?
  intro i
  rw [List.getElem?_modify, List.getElem?_set]
  by_cases hi : j = i
  · subst hi
    simp only [if_true, h]
    rw [if_pos hj]
    rfl
  · simp [hi]

theorem MIsS.update {w : World} {b : Nat} {m : List (Ck.Knot × Bool)} (h : MIsS w b m) (k : Ck.Knot) (v : Bool) :
    ∃ w', (Instr.mapUpdate 45 (.map (some b)) (kvv k) (.bool v)).run Try.prog w = .ok () w' ∧ MIsS w' b (mputS m k v) ∧ w.grownBy w' (some b) := by
  obtain ⟨es, clock, h1, h2, h3, h4, h5⟩ := h
  have grown : ∀ o, w.grownBy (setBlock w b o) (some b) := fun o => ⟨rfl, rfl, rfl, by simp [setBlock], fun i _ hi => heap_setBlock_other h1 _ (fun e => hi (by rw [e]))⟩
  rcases fnd_specS k m 0 with ⟨g1, g2, g3, g4⟩ | ⟨j, g1, g2, g3⟩
  · refine ⟨setBlock w b (.map (es.push { key := kvv k, val := .bool v, born := clock }) (clock + 1)), ?_, ?_, grown _⟩
    · simp [Instr.mapUpdate, run_underlying Try.underlying45, MapKept.run_getObj_map h1, run_checkKnotS, run_findKeyS k w es m h2, g1, MapKept.run_setObj_map _ h1, Result.andThen, setBlock]
    · refine ⟨_, _, heap_setBlock_same h1 _, ?_, ?_, ?_, ?_⟩
      · rw [g4]; unfold EntsS at h2 ⊢; simp [h2]
      · rw [g4, List.map_append]
        exact List.nodup_append.2 ⟨h3, by simp, fun x hx y hy e => g2 (by simp at hy; rw [← hy, ← e]; exact hx)⟩
      · simp only [Array.toList_push, List.map_append]
        exact List.nodup_append.2 ⟨h4, by simp, fun x hx y hy e => by
          simp at hy
          obtain ⟨e', he', rfl⟩ := List.mem_map.1 hx
          have := h5 e' he'
          omega⟩
      · intro e he
        simp at he
        rcases he with he | rfl
        · have := h5 e (by simpa using he); omega
        · simp
  · obtain ⟨e, he, hek, hev⟩ := h2.key g2
    have he' : es[j]? = some e := by simpa using he
    have hm := modify_setS es j e (fun e => { e with key := kvv k, val := .bool v }) he
    refine ⟨setBlock w b (.map (es.modify j fun e => { e with key := kvv k, val := .bool v }) clock), ?_, ?_, grown _⟩
    · simp [Instr.mapUpdate, run_underlying Try.underlying45, MapKept.run_getObj_map h1, run_checkKnotS, run_findKeyS k w es m h2, g1, MapKept.run_setObj_map _ h1, Result.andThen, setBlock, he', staysS k w e.key hek]
    · refine ⟨_, _, heap_setBlock_same h1 _, ?_, ?_, ?_, ?_⟩
      · rw [g3]; exact h2.set hm rfl rfl
      · rw [g3, List.map_set]
        have : (m.map (·.1)).set j k = m.map (·.1) := by
          apply List.ext_getElem?
          intro i
          rw [List.getElem?_set]
          split
          · rename_i hi
            subst hi
            simp [g2]
            exact (List.getElem?_eq_some_iff.1 g2).1
          · rfl
        simp only [this]
        exact h3
      · rw [hm, List.map_set]
        have : (es.toList.map (·.born)).set j e.born = es.toList.map (·.born) := by
          apply List.ext_getElem?
          intro i
          rw [List.getElem?_set]
          split
          · rename_i hi
            subst hi
            simp [he']
            exact (Array.getElem?_eq_some_iff.1 he').1
          · rfl
        simp only [this]
        exact h4
      · intro x hx
        rw [hm] at hx
        rcases List.mem_or_eq_of_mem_set hx with hx | rfl
        · exact h5 x hx
        · exact h5 e (List.mem_of_getElem? he)
end Go.Proofs.Ythihjphcjjpjpaa

/- Appending nothing, at a step of a region that draws its order. -/
namespace Go.Proofs.Ythihjphcjjpjpaa
open Go.RowKit

variable {P : Program} {w : World} {ops : Array Oper} {o : Oper} {a : Act} {K : Act → World → Prop} {Q : Exit → Act → World → Prop} {E : Prop}
theorem run_append_zero (base : Nat) (t ty e : TypeId) (i : TypeInfo) (size : Nat) (ht : P.underlying t = some (.slice e)) (hi : P.info? e = some i) (v : Value) (n : Nat) (xs : List Value) (hown : w.ownsRow base e size v n xs) (ad : Addr) (c : Nat) :
    (Builtin.append_ #[t, t] ty #[v, .slice (some ad) 0 c]).run P w = .ok v w := by
  rcases hown.2 with ⟨rfl, rfl⟩ | ⟨g, cap, cur, rfl, _, _, hnc, _⟩
  · simp [Builtin.append_, run_underlying ht, sizeOf, typeInfo, hi, Builtin.lenOf, Builtin.firstCells, loadCells, loadCellsFrom, Result.andThen]
  · simp [Builtin.append_, run_underlying ht, sizeOf, typeInfo, hi, Builtin.lenOf, Builtin.firstCells, hnc, storeCells, loadCells, loadCellsFrom, Result.andThen]
theorem step_append_zero (hgd : o.guard = none) (s x : Operand) (t : TypeId) (ho : o.op = .call { callee := .builtin .append, args := #[s, x], argTypes := #[t, t] })
    (base : Nat) (e : TypeId) (i : TypeInfo) (size : Nat) (ht : P.underlying t = some (.slice e)) (hi : P.info? e = some i) (v : Value) (n : Nat) (xs : List Value) (hs : a.eval s = v) (hown : w.ownsRow base e size v n xs)
    (ad : Addr) (c : Nat) (hx : a.eval x = .slice (some ad) 0 c) (h : K (a.put o.dst v) w) :
    if Region.wanted o (yielded ops a.tmps) = true then Oper.wp P o a w K Q else E := by
  have hw : Region.wanted o (yielded ops a.tmps) = true := by simp [Region.wanted, hgd]
  rw [if_pos hw]
  have hr := run_append_zero (P := P) base t o.type e i size ht hi v n xs hown ad c
  unfold Oper.wp execOp
  simp only [ho, resolve, invoke, builtin, Sem.run_bind, Sem.run_pure, Result.andThen_ok, List.map_toArray, List.map_cons, List.map_nil, hs, hx, hr]
  exact h
theorem step_append_zeroA (hgd : o.guard = none) (s x : Operand) (t : TypeId) (ho : o.op = .call { callee := .builtin .append, args := #[s, x], argTypes := #[t, t] })
    (base : Nat) (e : TypeId) (i : TypeInfo) (size : Nat) (ht : P.underlying t = some (.slice e)) (hi : P.info? e = some i) (v : Value) (n : Nat) (xs : List Value) (hs : a.eval s = v) (hown : w.ownsRow base e size v n xs)
    (A : Option Addr) (c : Nat) (hx : a.eval x = .slice A 0 c) (hA : ∃ ad, A = some ad) (h : K (a.put o.dst v) w) :
    if Region.wanted o (yielded ops a.tmps) = true then Oper.wp P o a w K Q else E := by
  obtain ⟨ad, rfl⟩ := hA
  exact step_append_zero hgd s x t ho base e i size ht hi v n xs hs hown ad c hx h
theorem step_append_none (hgd : o.guard = none) (s x : Operand) (t : TypeId) (ho : o.op = .call { callee := .builtin .append, args := #[s, x], argTypes := #[t, t] })
    (base : Nat) (e : TypeId) (i : TypeInfo) (size : Nat) (ht : P.underlying t = some (.slice e)) (hi : P.info? e = some i) (v : Value) (n : Nat) (xs : List Value) (hs : a.eval s = v) (hown : w.ownsRow base e size v n xs)
    (hx : a.eval x = .slice none 0 0) (h : K (a.put o.dst v) w) :
    if Region.wanted o (yielded ops a.tmps) = true then Oper.wp P o a w K Q else E := by
  have hw : Region.wanted o (yielded ops a.tmps) = true := by simp [Region.wanted, hgd]
  rw [if_pos hw]
  have hr := run_append_owned_none (P := P) (w := w) base t o.type e i size ht hi v n xs hown
  unfold Oper.wp execOp
  simp only [ho, resolve, invoke, builtin, Sem.run_bind, Sem.run_pure, Result.andThen_ok, List.map_toArray, List.map_cons, List.map_nil, hs, hx, hr]
  exact h
end Go.Proofs.Ythihjphcjjpjpaa

/- The contract of the reference's SameNet at two slices with the same bars, and of CheckSheet. -/
namespace Go.Proofs.Ythihjphcjjpjpaa
open Go.RowKit

set_option maxHeartbeats 1000000 in
set_option maxRecDepth 100000 in
theorem refSameNet (A A' : Option Addr) (c c' : Nat) (l : List Ck.Bar) (w : World) (hl : l.length ≤ 4096) (h : RB w w.heap.size A l) (h' : RB w w.heap.size A' l) :
    Calls Try.prog 16 #[.slice A l.length c, .slice A' l.length c'] w fun e w' => e = .returned (.bool true) ∧ Below w.heap.size w w' := by
  have HR := Lib.hid h
  have HR' := Lib.hid h'
  clear h h'
  have hne : ((l.length : Int) != (l.length : Int)) = false := by simp
  go_enter Try.func16, Try.ntmps16
  go_wp2_with fail
  go_loopw [5] (fun i wr => ∃ k : Nat, k ≤ l.length ∧ i = .int .i64 k ∧ Below w.heap.size w wr) (fun i _ => l.length - (intOf i).toNat)
  case atStart => exact ⟨0, Nat.zero_le _, rfl, Below.refl _ _⟩
  case round =>
    obtain ⟨k, hk, rfl, hb⟩ := hrel
    by_cases hlt : k < l.length
    · have h := HR.out.below hb
      have h' := HR'.out.below hb
      obtain ⟨b, off, rfl, hB, hc⟩ := h (by omega)
      obtain ⟨b', off', rfl, hB', hc'⟩ := h' (by omega)
      obtain ⟨c0, c1, c2⟩ := hc k hlt
      obtain ⟨d0, d1, d2⟩ := hc' k hlt
      clear hc hc' h h'
      have b1 : (0 : Int) ≤ (k : Int) := by omega
      have b2 : (k : Int) < (l.length : Int) := by omega
      generalize l[k] = x at c0 c1 c2 d0 d1 d2
      go_wp2_with fail
      go_region
      go_wp2_with fail
      go_roundw
      case rel => exact ⟨k + 1, by omega, by go_num, below_drew hb⟩
      case measure => simp [intOf]; omega
    · have e : k = l.length := by omega
      subst e
      go_wp2_with fail
      go_ret
      exact ⟨rfl, hb⟩
end Go.Proofs.Ythihjphcjjpjpaa

/- What the walk of TopOtterSheets calls, and what is kept on its way. -/
namespace Go.Proofs.Ythihjphcjjpjpaa
open Go.RowKit Go.Shelf Ck Go.ChangeMaps Go.MapKept

def Stab (P : World → Prop) : Prop := ∀ w w', P w → Below w.heap.size w w' → P w'
theorem Stab.and {P Q : World → Prop} (h : Stab P) (k : Stab Q) : Stab (fun w => P w ∧ Q w) := fun w w' hp hb => ⟨h w w' hp.1 hb, k w w' hp.2 hb⟩
theorem stab_oks (a : Option Addr) (c : Nat) (l : List Bar) : Stab (fun w => OKS w a c l) := fun _ _ h hb => h.below hb
theorem stab_rk (a : Option Addr) (l : List Knot) : Stab (fun w => RK w w.heap.size a l) := fun _ _ h hb => (h.below hb).more hb.size
theorem stab_block (b : Nat) (o : Obj) : Stab (fun w => w.heap[b]? = some o) := fun _ _ h hb => (hb.block b (Array.getElem?_eq_some_iff.1 h).1).trans h
theorem kcellsL_at' (l : List Knot) : ∀ (i : Nat) (h : i < l.length), (kcellsL l)[i * 2]? = some (.int .i64 l[i].x) ∧ (kcellsL l)[i * 2 + 1]? = some (.int .i64 l[i].y) := by
  induction l with
  | nil => intro i h; simp at h
  | cons a r ih =>
    intro i h
    have e : kcellsL (a :: r) = [.int .i64 a.x, .int .i64 a.y] ++ kcellsL r := by simp [kcellsL]
    rw [e]
    cases i with
    | zero => exact ⟨rfl, rfl⟩
    | succ i =>
      have := ih i (by simpa using h)
      rw [show (i + 1) * 2 = i * 2 + 2 from by omega]
      simpa using this
theorem own_rkT {w : World} {base : Nat} {v : Value} {t : TypeId} {l : List Knot} (h : w.ownsRow base t 2 v l.length (kcellsL l)) : ∃ a c, v = .slice a l.length c ∧ RK w w.heap.size a l := by
  rcases h.2 with ⟨rfl, hz⟩ | ⟨g, cap, cur, rfl, _, hgb, h1, h2, _⟩
  · have : l = [] := List.eq_nil_of_length_eq_zero hz
    subst this
    exact ⟨none, 0, rfl, fun hl => by simp at hl⟩
  · refine ⟨_, _, rfl, fun hl => ⟨g, 0, rfl, (Array.getElem?_eq_some_iff.1 hgb).1, fun i hi => ?_⟩⟩
    have hc := h.cells (g := g) rfl
    obtain ⟨k0, k1⟩ := kcellsL_at' l i hi
    have q0 := hc _ _ k0
    have q1 := hc _ _ k1
    rw [add0] at q0 q1
    simp only [Nat.zero_add]
    exact ⟨q0, q1⟩
def PtsPost (l : List Knot) (w : World) (e : Ending) (w' : World) : Prop := ∃ a c, e = .returned (.tuple #[.slice a l.length c, .int .i64 0]) ∧ RK w' w'.heap.size a l ∧ Below w.heap.size w w'
theorem midsS (x y : Int) (s : ByteArray) (c : Nat) (o : Bool) (ms : List Knot) (w : World) (hm : midsP (sg o) ⟨x, y⟩ (Lib.repeatL s.data.toList c) = ms) (h : EdgeOk x y s c) :
    Calls Try.prog 11 #[.agg #[.int .i64 x, .int .i64 y], .string s, .int .i64 c, .bool o] w (PtsPost ms w) :=
  (tpMeshes x y s c o w h).mono fun e w' ⟨v, he, hrow, hb⟩ => by
    rw [hm] at hrow
    obtain ⟨a, c', rfl, hok⟩ := own_rkT hrow
    exact ⟨a, c', he, hok, hb⟩
theorem meshCells_cen (l : List Bar) : meshCells l = kcellsL (l.map fun b => ⟨b.x, b.y + 1⟩) := by
  induction l with
  | nil => rfl
  | cons a r ih => simp [meshCells, kcellsL] at ih ⊢; exact ih
theorem cenS (A : Option Addr) (c : Nat) (l : List Bar) (ks : List Knot) (w : World) (hk : cenL l = ks) (hl : l.length ≤ 4096) (hN : Net l) (h : OKS w A c l) :
    Calls Try.prog 15 #[.slice A l.length c] w (PtsPost ks w) :=
  (netMeshesAll A c l w hl h.1 h.2.1 hN h.2.2.2).mono fun e w' ⟨v, he, hrow, hb⟩ => by
    have hlen : (meshL l l).length = (cenL l).length := by simp [cenL]
    rw [meshCells_cen, hlen] at hrow
    have hrow' : w'.ownsRow w.heap.size 46 2 v (cenL l).length (kcellsL (cenL l)) := hrow
    rw [hk] at hrow'
    obtain ⟨a, c', rfl, hok⟩ := own_rkT hrow'
    exact ⟨a, c', he, hok, hb⟩
theorem minusS2 (A A' : Option Addr) (c c' : Nat) (l l' u : List Bar) (w : World) (hu : mergeM l l' = u) (hl : l.length ≤ 4096) (hl' : l'.length ≤ 4096) (hN : Net l) (hN' : Net l') (h : OKS w A c l) (h' : OKS w A' c' l') :
    Calls Try.prog 13 #[.slice A l.length c, .slice A' l'.length c'] w (PairPost u w) :=
  (netMinus A A' c c' l l' w hl hl' h.1 h.2.1 h'.1 h'.2.1 hN hN' h.2.2.2 h'.2.2.2).mono fun e w' ⟨v, he, hrow, hb⟩ => by
    subst hu
    obtain ⟨a, c', rfl, hok⟩ := own_oks hrow
    exact ⟨a, c', he, hok, hb⟩
theorem unionS2 (A A' : Option Addr) (c c' : Nat) (l l' u : List Bar) (w : World) (hu : mergeU l l' = u) (hm : u.length ≤ 4096) (hl : l.length ≤ 4096) (hl' : l'.length ≤ 4096) (hN : Net l) (hN' : Net l') (h : OKS w A c l) (h' : OKS w A' c' l') :
    Calls Try.prog 14 #[.slice A l.length c, .slice A' l'.length c'] w (PairPost u w) :=
  (netUnion A A' c c' l l' w hl hl' h.1 h.2.1 h'.1 h'.2.1 hN hN' h.2.2.2 h'.2.2.2 (by rw [hu]; exact hm)).mono fun e w' ⟨v, he, hrow, hb⟩ => by
    subst hu
    obtain ⟨a, c', rfl, hok⟩ := own_oks hrow
    exact ⟨a, c', he, hok, hb⟩
theorem hasS (A : Option Addr) (c : Nat) (S : List Bar) (b : Bar) (w : World) (h : OKS w A c S) (hl : S.length ≤ 4096) (hN : Net S) (hm : b ∈ S) :
    Calls Try.prog 17 #[.slice A S.length c, .agg #[.int .i64 b.x, .int .i64 b.y, .int .i64 b.s]] w fun e w' => e = .returned (.tuple #[.bool true, .int .i64 0]) ∧ Below w.heap.size w w' := by
  have h' := netHas A c S b w hl h.1 h.2.1 hN ((barE_iff _).2 (hN.1 _ hm)) h.2.2.2
  rw [decide_eq_true hm] at h'
  exact h'
/-- A set of pairs, as a map from them to truths. -/
def SetIs (w : World) (b : Nat) (ks : List Knot) : Prop := ∃ m, MIsS w b m ∧ ∀ p, mgetS m p = decide (p ∈ ks)
theorem SetIs.below {w w' : World} {b B : Nat} {ks : List Knot} (h : SetIs w b ks) (hb : Below B w w') (hB : b < B) : SetIs w' b ks := by
  obtain ⟨m, h1, h2⟩ := h
  exact ⟨m, h1.below hb hB, h2⟩
theorem SetIs.lt {w : World} {b : Nat} {ks : List Knot} (h : SetIs w b ks) : b < w.heap.size := by
  obtain ⟨m, h1, _⟩ := h
  exact h1.lt
theorem SetIs.made (w : World) : SetIs (w.alloc (.map #[] 0)) w.heap.size [] := ⟨[], MIsS.made w, fun p => by simp [mgetS]⟩
theorem mgetS_put (p k : Knot) (v : Bool) : ∀ m : List (Knot × Bool), mgetS (mputS m k v) p = if p = k then v else mgetS m p
  | [] => by simp [mputS, mgetS]
  | q :: r => by
    have ih := mgetS_put p k v r
    by_cases h1 : k = q.1
    · by_cases h2 : p = k
      · simp [mputS, mgetS, h1, h2]
      · have h3 : ¬ p = q.1 := fun e => h2 (e.trans h1.symm)
        simp [mputS, mgetS, h1, h3]
    · by_cases h2 : p = q.1
      · have h3 : ¬ p = k := fun e => h1 (e.symm.trans h2)
        simp only [mputS, if_neg h1, mgetS, if_pos h2, if_neg h3]
      · simp only [mputS, if_neg h1, mgetS, if_neg h2, ih]
theorem SetIs.put {w : World} {b : Nat} {ks : List Knot} (h : SetIs w b ks) (k : Knot) :
    ∃ w', (Instr.mapUpdate 45 (.map (some b)) (.agg #[.int .i64 k.x, .int .i64 k.y]) (.bool true)).run Try.prog w = .ok () w' ∧ SetIs w' b (ks ++ [k]) ∧ w.grownBy w' (some b) := by
  obtain ⟨m, h1, h2⟩ := h
  obtain ⟨w', e1, e2, e3⟩ := h1.update k true
  refine ⟨w', e1, ⟨_, e2, fun p => ?_⟩, e3⟩
  rw [mgetS_put, h2]
  by_cases hp : p = k <;> simp [hp]
theorem SetIs.look {w : World} {b : Nat} {ks : List Knot} (h : SetIs w b ks) (k : Knot) :
    (Instr.lookup 45 (.map (some b)) (.agg #[.int .i64 k.x, .int .i64 k.y]) false).run Try.prog w = .ok (.bool (decide (k ∈ ks))) w := by
  obtain ⟨m, h1, h2⟩ := h
  rw [← h2]
  exact h1.lookup k
theorem below_grown {B b : Nat} {W w w' : World} (h : Below B W w) (hg : w.grownBy w' (some b)) (hB : B ≤ b) (hz : B ≤ w.heap.size) : Below B W w' := h.grown hg hz (fun k e => by cases e; exact hB)
end Go.Proofs.Ythihjphcjjpjpaa

/- The walk of TopOtterSheets. -/
namespace Go.Proofs.Ythihjphcjjpjpaa
open Go.RowKit Go.Shelf Ck

def YesT (w : World) (e : Ending) (w' : World) : Prop := e = .returned (.bool true) ∧ Below w.heap.size w w'
theorem ed_boxes (w : World) (x y n : Int) (s : ByteArray) : ∃ w1, w1 = (w.alloc (.cells #[.int .i64 x, .int .i64 y] 23)).alloc (.cells #[.string s, .int .i64 n] 25) ∧ Below w.heap.size w w1 ∧ w1.heap[w.heap.size]? = some (.cells #[.int .i64 x, .int .i64 y] 23 (0, 0)) ∧ w1.heap[w.heap.size + 1]? = some (.cells #[.string s, .int .i64 n] 25 (0, 0)) := by
  refine ⟨_, rfl, ((Below.refl _ _).alloc (Nat.le_refl _) _).alloc (by simp) _, ?_, ?_⟩
  · rw [Below.heap_alloc _ _ _ (by simp)]
    exact heap_alloc_new _ _
  · have := heap_alloc_new (w.alloc (.cells #[.int .i64 x, .int .i64 y] 23)) (.cells #[.string s, .int .i64 n] 25)
    rwa [World.size_alloc] at this

theorem guardMesh : Try.prog.eqGuardType Try.prog.depth 46 = false := by kernel_rfl
theorem eqMesh (a : Knot) (w : World) : (Op.equalIn 10000 46 (.agg #[.int .i64 a.x, .int .i64 a.y]) (.agg #[.int .i64 a.x, .int .i64 a.y])).run Try.prog w = .ok true w := by
  have u3 := Try.underlying3
  have a3 := Try.isAgg3
  have z3 := Try.sizeOf3
  have hS : Try.prog.underlying 46 = some (.struct (Try.prog.fieldsOf 46)) := by kernel_rfl
  have hp : Try.prog.stoodInHeld 46 = false := by kernel_rfl
  obtain ⟨x, y⟩ := a
  rw [show (10000 : Nat) = 9999 + 1 from rfl, run_equalIn_struct w 9999 46 _ _ hS hp]
  simp only [Program.fieldsOf, Try.underlying46]
  go_simp

set_option maxHeartbeats 8000000 in
set_option maxRecDepth 100000 in
theorem otterSheets (x y : Int) (s : ByteArray) (n : Int) (w : World) :
    Calls Try.prog 3 #[.agg #[.int .i64 x, .int .i64 y], .agg #[.string s, .int .i64 n]] w (YesT w) := by
  obtain ⟨w1, hw1, hb1, ex, er⟩ := ed_boxes w x y n s
  have HW1 := Lib.hid hw1
  clear hw1
  obtain ⟨e0, e1, -, -⟩ := two_cell ex
  obtain ⟨e2, e3, -, -⟩ := two_cell er
  go_enter Try.func3, Try.ntmps3
  go_wp2_with fail
  rw [← HW1.out]
  refine (otterShort x y s n _).mono ?_
  rintro e w2 ⟨b, rfl, hsh, hb2⟩
  have p2 := hb1.trans (hb2.mono hb1.size)
  cases b
  · clear hsh e0 e1 e2 e3 ex er
    go_wp2_with fail
    refine (otterEdge _).mono ?_
    rintro e w3 ⟨rfl, hb3⟩
    go_wp2
    go_ret
    exact ⟨rfl, p2.trans (hb3.mono p2.size)⟩
  have hS := hsh rfl
  clear hsh e0 e1 e2 e3
  obtain ⟨c, cols, rows, rfl, hE, hLl, hL24, hA⟩ := around hS
  have HSH := Lib.hid hS
  have HE := Lib.hid hE
  have hw := hE.1
  have hrl := rep_letters hw c
  have hc256 : c ≤ 256 := by have := hS.2.2.2.1; omega
  have hs6 : s.size ≤ 6 := hS.1
  have hx := hS.2.2.2.2.2
  obtain ⟨x1, x2, y1, y2⟩ := hx
  obtain ⟨L, hL⟩ : ∃ L, Lib.repeatL s.data.toList c = L := ⟨_, rfl⟩
  rw [hL] at hLl hL24 hA hrl
  obtain ⟨l, hl⟩ : ∃ l, barsP 1 ⟨x, y⟩ L = l := ⟨_, rfl⟩
  obtain ⟨ms, hms⟩ : ∃ ms, midsP 1 ⟨x, y⟩ L = ms := ⟨_, rfl⟩
  obtain ⟨S, hSS⟩ : ∃ S, sheetP (x - 2) (y - 2) cols rows = S := ⟨_, rfl⟩
  rw [hl, hms, hSS] at hA
  have hlb : ∀ b ∈ l, b.s = 1 ∨ b.s = -1 := fun b hb => (hA.edge.1 b hb).2.1.symm
  obtain ⟨R, hR⟩ : ∃ R, S.filter (fun b => decide (b ∉ l)) = R := ⟨_, rfl⟩
  have HRN := Lib.hid (show Net R by rw [← hR]; exact ⟨fun b hb => hA.net.1 b (List.mem_filter.1 hb).1, hA.net.2.filter _⟩)
  have HMM := Lib.hid (show mergeM S l = R by rw [← hR]; exact mergeM_filter _ rfl hA.net.2 hA.edge.2)
  have HUU := Lib.hid (show mergeU R l = S by rw [← hR]; exact mergeU_back hA.net hA.edge hA.sub)
  have HLR := Lib.hid (show R.length + l.length = S.length by rw [← hR]; exact filter_rest hA.net.nodup hA.edge.nodup hA.sub)
  obtain ⟨WH, hWH⟩ : ∃ WH, cenL S = WH := ⟨_, rfl⟩
  obtain ⟨LE, hLE⟩ : ∃ LE, cenL R = LE := ⟨_, rfl⟩
  have HLEF := Lib.hid (show LE = WH.filter (fun m => decide (m ∉ l.flatMap sides)) by
    rw [← hLE, ← hWH, ← hR, cenL, meshes_left hlb, cenL, List.filter_map]
    rfl)
  have HRL : R.length ≤ 4096 := by have := HLR.out; have := hA.short.1; omega
  have HWL : WH.length ≤ 4096 := by rw [← hWH, cenL, List.length_map, meshL]; exact Nat.le_trans (List.length_filter_le _ _) hA.short.1
  have HA := Lib.hid hA
  have HL := Lib.hid hL
  have HLB := Lib.hid (show barsP (sg true) ⟨x, y⟩ (Lib.repeatL s.data.toList c) = l by rw [hL]; exact hl)
  have HMS := Lib.hid (show midsP (sg true) ⟨x, y⟩ (Lib.repeatL s.data.toList c) = ms by rw [hL]; exact hms)
  have HSS := Lib.hid hSS
  have HWH := Lib.hid hWH
  have HLE := Lib.hid hLE
  have HRL' := Lib.hid hrl
  obtain ⟨v1, v2, v3, v4⟩ := vecL_near L
  have hq1 := hA.cols'
  have hq2 := hA.rows'
  have HNUM := Lib.hid (show ((l.length : Int) + (ms.length : Int) == (s.size : Int) * (c : Int)) = true by
    rw [beq_iff_eq, ← Int.natCast_mul, ← Int.natCast_add, hA.num, hLl])
  have hmul1 : (s.size : Int) * (c : Int) ≤ 24 := by rw [← Int.natCast_mul]; omega
  have hmul0 : 0 ≤ (s.size : Int) * (c : Int) := by rw [← Int.natCast_mul]; omega
  have hSl := hA.short.1
  have hll := hA.short.2.1
  have hml := hA.short.2.2
  have HLL := Lib.hid hLl
  clear hS hE hw hrl hA hL hl hms hSS hR hWH hLE hLl hlb
  have PST : Stab (fun w' => w'.heap[w.heap.size]? = some (.cells #[.int .i64 x, .int .i64 y] 23 (0, 0)) ∧ w'.heap[w.heap.size + 1]? = some (.cells #[.string s, .int .i64 c] 25 (0, 0))) := Stab.and (stab_block _ _) (stab_block _ _)
  have P2 := Lib.hid (PST _ _ ⟨ex, er⟩ hb2)
  clear ex er
  obtain ⟨a0, a1, -, -⟩ := two_cell P2.out.1
  obtain ⟨a2, a3, -, -⟩ := two_cell P2.out.2
  go_wp2_with fail
  refine (refPower s c _ hc256 (by omega)).mono ?_
  rintro e w3 ⟨rfl, rfl⟩
  rw [HL.out]
  go_wp2_with fail
  refine (refVector L _ HRL'.out (by omega)).mono ?_
  rintro e w3 ⟨rfl, hb3⟩
  generalize (vecL L).1 = va at *
  generalize (vecL L).2 = vb at *
  obtain ⟨w4, hw4, c0, c1, hb4, hz4⟩ := box2 w3 (.int .i64 va) (.int .i64 vb) 28
  have b24 := hb3.trans (hb4.mono hb3.size)
  have P4 := Lib.hid (PST _ _ P2.out b24)
  have p4 := p2.trans (b24.mono p2.size)
  obtain ⟨d0, d1, -, -⟩ := two_cell P4.out.1
  obtain ⟨d2, d3, -, -⟩ := two_cell P4.out.2
  have hw4' := hw4.symm
  have htd : (va + 5).tdiv 2 = (cols : Int) := by rw [Int.tdiv_eq_ediv_of_nonneg (by omega)]; exact hq1
  clear hw4 a0 a1 a2 a3 hb3 hb4 b24
  go_wp2_with fail
  clear htd hq1 hq2 v1 v2 v3 v4 hw4' c0 c1 d0 d1 d2 d3 hz4
  refine (sheetS' (x - 2) (y - 2) cols rows _ HA.out.err).mono ?_
  rw [HSS.out]
  rintro e w5 ⟨aS, cS, rfl, hk5, hb5⟩
  have P5 := Lib.hid (PST _ _ P4.out hb5)
  have p5 := p4.trans (hb5.mono p4.size)
  have KS5 := Lib.hid hk5
  obtain ⟨a0, a1, -, -⟩ := two_cell P5.out.1
  obtain ⟨a2, a3, -, -⟩ := two_cell P5.out.2
  clear hk5
  go_wp2_with fail
  refine (barsS x y s c true _ HE.out).mono ?_
  rw [HLB.out]
  rintro e w6 ⟨aL, cL, rfl, hk6, hb6⟩
  have P6 := Lib.hid (PST _ _ P5.out hb6)
  have p6 := p5.trans (hb6.mono p5.size)
  have KS6 := Lib.hid (KS5.out.below hb6)
  have KL6 := Lib.hid hk6
  clear hk6 a0 a1 a2 a3
  obtain ⟨a0, a1, -, -⟩ := two_cell P6.out.1
  obtain ⟨a2, a3, -, -⟩ := two_cell P6.out.2
  go_wp2_with fail
  refine (midsS x y s c true ms _ HMS.out HE.out).mono ?_
  rintro e w7 ⟨aM, cM, rfl, hk7, hb7⟩
  have P7 := Lib.hid (PST _ _ P6.out hb7)
  have p7 := p6.trans (hb7.mono p6.size)
  have KS7 := Lib.hid (KS6.out.below hb7)
  have KL7 := Lib.hid (KL6.out.below hb7)
  have KM7 := Lib.hid hk7
  clear hk7 a0 a1 a2 a3
  go_wp2_with fail
  refine (refCheckNet aL cL l _ (by omega) KL7.out.2.2.2).mono ?_
  rintro e w8 ⟨rfl, hb8⟩
  rw [(netE_zero l).2 ⟨by omega, HA.out.edge⟩]
  have P8 := Lib.hid (PST _ _ P7.out hb8)
  have p8 := p7.trans (hb8.mono p7.size)
  have KS8 := Lib.hid (KS7.out.below hb8)
  have KL8 := Lib.hid (KL7.out.below hb8)
  have KM8 := Lib.hid (stab_rk _ _ _ _ KM7.out hb8)
  obtain ⟨a2, a3, -, -⟩ := two_cell P8.out.2
  have hnum := HNUM.out
  go_wp2_with fail
  clear hnum a2 a3
  refine (minusS2 aS aL cS cL S l R _ HMM.out (by omega) (by omega) HA.out.net HA.out.edge KS8.out KL8.out).mono ?_
  rintro e w9 ⟨aR, cR, rfl, hk9, hb9⟩
  have p9 := p8.trans (hb9.mono p8.size)
  have KS9 := Lib.hid (KS8.out.below hb9)
  have KL9 := Lib.hid (KL8.out.below hb9)
  have KM9 := Lib.hid (stab_rk _ _ _ _ KM8.out hb9)
  have KR9 := Lib.hid hk9
  clear hk9
  go_wp2_with fail
  refine (unionS2 aR aL cR cL R l S _ HUU.out (by omega) HRL (by omega) HRN.out HA.out.edge KR9.out KL9.out).mono ?_
  rintro e w10 ⟨aB, cB, rfl, hk10, hb10⟩
  have p10 := p9.trans (hb10.mono p9.size)
  have KS10 := Lib.hid (KS9.out.below hb10)
  have KL10 := Lib.hid (KL9.out.below hb10)
  have KM10 := Lib.hid (stab_rk _ _ _ _ KM9.out hb10)
  have KR10 := Lib.hid (KR9.out.below hb10)
  have KB10 := Lib.hid hk10
  clear hk10
  go_wp2_with fail
  refine (cenS aS cS S WH _ HWH.out (by omega) HA.out.net KS10.out).mono ?_
  rintro e w11 ⟨aW, cW, rfl, hk11, hb11⟩
  have p11 := p10.trans (hb11.mono p10.size)
  have KS11 := Lib.hid (KS10.out.below hb11)
  have KL11 := Lib.hid (KL10.out.below hb11)
  have KM11 := Lib.hid (stab_rk _ _ _ _ KM10.out hb11)
  have KR11 := Lib.hid (KR10.out.below hb11)
  have KB11 := Lib.hid (KB10.out.below hb11)
  have KW11 := Lib.hid hk11
  clear hk11
  go_wp2_with fail
  refine (cenS aR cR R LE _ HLE.out HRL HRN.out KR11.out).mono ?_
  rintro e w12 ⟨aE, cE, rfl, hk12, hb12⟩
  have p12 := p11.trans (hb12.mono p11.size)
  have KS12 := Lib.hid (KS11.out.below hb12)
  have KL12 := Lib.hid (KL11.out.below hb12)
  have KM12 := Lib.hid (stab_rk _ _ _ _ KM11.out hb12)
  have KB12 := Lib.hid (KB11.out.below hb12)
  have KW12 := Lib.hid (stab_rk _ _ _ _ KW11.out hb12)
  have KE12 := Lib.hid hk12
  clear hk12
  have hdl : (R.length : Int) = (S.length : Int) - (l.length : Int) := by
    have := HLR.out
    omega
  have hRi : (R.length : Int) ≤ 4096 := by omega
  have hSi : (S.length : Int) ≤ 4096 := by omega
  have hli : (l.length : Int) ≤ 24 := by omega
  go_wp2_with fail
  refine (refSameNet aB aS cB cS S _ (by omega) KB12.out.2.2.2 KS12.out.2.2.2).mono ?_
  rintro e w13 ⟨rfl, hb13⟩
  have p13 := p12.trans (hb13.mono p12.size)
  have KS13 := Lib.hid (KS12.out.below hb13)
  have KL13 := Lib.hid (KL12.out.below hb13)
  have KM13 := Lib.hid (stab_rk _ _ _ _ KM12.out hb13)
  have KW13 := Lib.hid (stab_rk _ _ _ _ KW12.out hb13)
  have KE13 := Lib.hid (stab_rk _ _ _ _ KE12.out hb13)
  have hmm := @run_makeMap Try.prog
  have SM0 := SetIs.made w13
  have bm0 : Below w13.heap.size w13 (w13.alloc (.map #[] 0)) := (Below.refl _ _).alloc (Nat.le_refl _) _
  obtain ⟨w14, hw14⟩ : ∃ w14, w13.alloc (.map #[] 0) = w14 := ⟨_, rfl⟩
  rw [hw14] at SM0 bm0
  clear hdl hRi hSi hli
  have KL14 := Lib.hid (KL13.out.below bm0)
  have KS14 := Lib.hid (KS13.out.below bm0)
  have KM14 := Lib.hid (stab_rk _ _ _ _ KM13.out bm0)
  have KW14 := Lib.hid (stab_rk _ _ _ _ KW13.out bm0)
  have KE14 := Lib.hid (stab_rk _ _ _ _ KE13.out bm0)
  have hWi : (WH.length : Int) ≤ 4096 := by omega
  have HW14 := Lib.hid hw14
  clear hw14
  go_wp2_with fail
  rw [HW14.out]
  go_loopw [164] (fun i wi => ∃ k : Nat, k ≤ WH.length ∧ i = .int .i64 k ∧ SetIs wi w13.heap.size (WH.take k) ∧ Below w13.heap.size w13 wi) (fun i _ => WH.length - (intOf i).toNat)
  case atStart => exact ⟨0, Nat.zero_le _, rfl, SM0, bm0⟩
  case round =>
    obtain ⟨k, hk, rfl, hset, hbi⟩ := hrel
    by_cases hlt : k < WH.length
    · obtain ⟨bq, oq, hqa, hqb, hqc⟩ := (stab_rk _ _ _ _ KW13.out hbi) (by omega)
      obtain ⟨m0, m1⟩ := hqc k hlt
      have hk0 : (0 : Int) ≤ (k : Int) := by omega
      have hk1 : (k : Int) < (WH.length : Int) := by omega
      have HTK := Lib.hid (show WH.take (k + 1) = WH.take k ++ [WH[k]] from List.take_succ_eq_append_getElem hlt)
      obtain ⟨q, hq⟩ : ∃ q, WH[k] = q := ⟨_, rfl⟩
      rw [hq] at m0 m1 HTK
      obtain ⟨wa, hwa, n0, n1, hba, hza⟩ := box2 wr (.int .i64 q.x) (.int .i64 q.y) 46
      have hseta := hset.below hba hset.lt
      obtain ⟨wb, hu, hsetb, hgb⟩ := hseta.put q
      have hbb := below_grown (hbi.trans (hba.mono hbi.size)) hgb (Nat.le_refl _) (by have := hbi.size; have := hba.size; omega)
      have hwa' := hwa.symm
      subst hqa
      clear hwa hqc hq
      go_wp2
      go_roundw
      case rel => exact ⟨k + 1, by omega, by go_num, by rw [HTK.out]; exact hsetb, hbb⟩
      case measure => simp [intOf]; omega
    · obtain rfl : k = WH.length := by omega
      have HTK := Lib.hid (show WH.take WH.length = WH from List.take_length)
      rw [HTK.out] at hset
      have p15 := p13.trans (hbi.mono p13.size)
      have KS15 := Lib.hid (KS13.out.below hbi)
      have KL15 := Lib.hid (KL13.out.below hbi)
      have KM15 := Lib.hid (stab_rk _ _ _ _ KM13.out hbi)
      have KW15 := Lib.hid (stab_rk _ _ _ _ KW13.out hbi)
      have KE15 := Lib.hid (stab_rk _ _ _ _ KE13.out hbi)
      have HSET := Lib.hid hset
      clear hset hlt hbi hk
      generalize wr = w15 at *
      have hmi : (ms.length : Int) ≤ 24 := by omega
      go_wp2_with fail
      go_loopw [177] (fun i wi => ∃ k : Nat, k ≤ ms.length ∧ i = .int .i64 k ∧ Below w15.heap.size w15 wi) (fun i _ => ms.length - (intOf i).toNat)
      case atStart => exact ⟨0, Nat.zero_le _, rfl, Below.refl _ _⟩
      case round =>
        obtain ⟨k, hk, rfl, hbi⟩ := hrel
        by_cases hlt : k < ms.length
        · obtain ⟨bq, oq, hqa, hqb, hqc⟩ := (stab_rk _ _ _ _ KM15.out hbi) (by omega)
          obtain ⟨m0, m1⟩ := hqc k hlt
          have hk0 : (0 : Int) ≤ (k : Int) := by omega
          have hk1 : (k : Int) < (ms.length : Int) := by omega
          have hin : ms[k] ∈ WH := by rw [← HWH.out]; exact HA.out.mid _ (List.getElem_mem hlt)
          obtain ⟨q, hq⟩ : ∃ q, ms[k] = q := ⟨_, rfl⟩
          rw [hq] at m0 m1 hin
          obtain ⟨wa, hwa, n0, n1, hba, hza⟩ := box2 wr (.int .i64 q.x) (.int .i64 q.y) 28
          have hbb := hbi.trans (hba.mono hbi.size)
          have hlk := (HSET.out.below hbb HSET.out.lt).look q
          rw [decide_eq_true hin] at hlk
          have hwa' := hwa.symm
          subst hqa
          clear hwa hqc hq
          go_wp2
          go_roundw
          case rel => exact ⟨k + 1, by omega, by go_num, hbb⟩
          case measure => simp [intOf]; omega
        · obtain rfl : k = ms.length := by omega
          have p16 := p15.trans (hbi.mono p15.size)
          have KS16 := Lib.hid (KS15.out.below hbi)
          have KL16 := Lib.hid (KL15.out.below hbi)
          have KW16 := Lib.hid (stab_rk _ _ _ _ KW15.out hbi)
          have KE16 := Lib.hid (stab_rk _ _ _ _ KE15.out hbi)
          clear hbi hk hlt
          generalize wr = w16 at *
          have SM0 := SetIs.made w16
          have bm0 : Below w16.heap.size w16 (w16.alloc (.map #[] 0)) := (Below.refl _ _).alloc (Nat.le_refl _) _
          obtain ⟨w17, hw17⟩ : ∃ w17, w16.alloc (.map #[] 0) = w17 := ⟨_, rfl⟩
          rw [hw17] at SM0 bm0
          have KS17 := Lib.hid (KS16.out.below bm0)
          have KL17 := Lib.hid (KL16.out.below bm0)
          have KW17 := Lib.hid (stab_rk _ _ _ _ KW16.out bm0)
          have KE17 := Lib.hid (stab_rk _ _ _ _ KE16.out bm0)
          have hli : (l.length : Int) ≤ 24 := by omega
          have HW17 := Lib.hid hw17
          clear hw17
          go_wp2_with fail
          rw [HW17.out]
          go_loopw [189] (fun i wi => ∃ k : Nat, k ≤ l.length ∧ i = .int .i64 k ∧ SetIs wi w16.heap.size ((l.take k).flatMap sides) ∧ Below w16.heap.size w16 wi) (fun i _ => l.length - (intOf i).toNat)
          case atStart => exact ⟨0, Nat.zero_le _, rfl, SM0, bm0⟩
          case round =>
            obtain ⟨k, hk, rfl, hset, hbi⟩ := hrel
            by_cases hlt : k < l.length
            · have hro := KL16.out.below hbi
              obtain ⟨bq, oq, hqa, hqb, hqc⟩ := hro.2.2.2 (by omega)
              obtain ⟨m0, m1, m2⟩ := hqc k hlt
              have hk0 : (0 : Int) ≤ (k : Int) := by omega
              have hk1 : (k : Int) < (l.length : Int) := by omega
              have HTK := Lib.hid (show (l.take (k + 1)).flatMap sides = (l.take k).flatMap sides ++ [⟨l[k].x, l[k].y + 1⟩] ++ [⟨l[k].x + l[k].s, l[k].y⟩] by
                rw [List.take_succ_eq_append_getElem hlt, List.flatMap_append]
                simp [sides])
              have hmem : l[k] ∈ S := HA.out.sub _ (List.getElem_mem hlt)
              obtain ⟨q, hq⟩ : ∃ q, l[k] = q := ⟨_, rfl⟩
              rw [hq] at m0 m1 m2 HTK hmem
              have hbar := HA.out.net.1 _ hmem
              obtain ⟨wa, hwa, n0, n1, n2, hba, hza⟩ := box3 wr (.int .i64 q.x) (.int .i64 q.y) (.int .i64 q.s) 48
              have hba' := hbi.trans (hba.mono hbi.size)
              have KSa := KS16.out.below hba'
              have hwa' := hwa.symm
              subst hqa
              clear hwa hqc hq hro
              go_wp2_with fail
              refine (hasS aS cS S q _ KSa (by omega) HA.out.net hmem).mono ?_
              rintro e wb ⟨rfl, hbb⟩
              have hab := hba.trans (hbb.mono hba.size)
              have hib := hbi.trans (hab.mono hbi.size)
              obtain ⟨wc, hu1, hsc, hgc⟩ := (hset.below hab hset.lt).put ⟨q.x, q.y + 1⟩
              obtain ⟨wd, hu2, hsd, hgd⟩ := hsc.put ⟨q.x + q.s, q.y⟩
              have hlt2 : w16.heap.size < wr.heap.size := hset.lt
              have hic := below_grown hib hgc (Nat.le_refl _) (by have := hib.size; omega)
              have hid := below_grown hic hgd (Nat.le_refl _) (by have := hic.size; omega)
              have n0b := (hbb.cell (p := ⟨wr.heap.size, 0, none⟩) hza).trans n0
              have n1b := (hbb.cell (p := ⟨wr.heap.size, 1, none⟩) hza).trans n1
              have n2b := (hbb.cell (p := ⟨wr.heap.size, 2, none⟩) hza).trans n2
              have hzb : wr.heap.size < wb.heap.size := Nat.lt_of_lt_of_le hza hbb.size
              have hkc : wc.heap[wr.heap.size]? = wb.heap[wr.heap.size]? := hgc.block _ hzb (fun e => by have e2 : wr.heap.size = w16.heap.size := Option.some.inj e; omega)
              have n0c := (World.cell?_of_block (a := ⟨wr.heap.size, 0, none⟩) hkc).trans n0b
              have n1c := (World.cell?_of_block (a := ⟨wr.heap.size, 1, none⟩) hkc).trans n1b
              have n2c := (World.cell?_of_block (a := ⟨wr.heap.size, 2, none⟩) hkc).trans n2b
              obtain ⟨⟨⟨r1, r2⟩, ⟨r3, r4⟩, -⟩, rs, ⟨r5, r6⟩, ⟨r7, r8⟩⟩ := hbar
              simp only [Bar.lo, Bar.hi] at r1 r2 r3 r4 r5 r6 r7 r8
              rw [← HTK.out] at hsd
              clear hkc hgc hgd hab hib hba hbb hba' n0 n1 n2
              go_wp2
              go_roundw
              case rel => exact ⟨k + 1, by omega, by go_num, hsd, hid⟩
              case measure => simp [intOf]; omega
            · obtain rfl : k = l.length := by omega
              have HTK := Lib.hid (show l.take l.length = l from List.take_length)
              rw [HTK.out] at hset
              have p18 := p16.trans (hbi.mono p16.size)
              have KW18 := Lib.hid (stab_rk _ _ _ _ KW16.out hbi)
              have KE18 := Lib.hid (stab_rk _ _ _ _ KE16.out hbi)
              obtain ⟨G, hG⟩ : ∃ G, l.flatMap sides = G := ⟨_, rfl⟩
              rw [hG] at hset HLEF
              have HG := Lib.hid hG
              have HSET2 := Lib.hid hset
              clear hset hlt hbi hk hG
              generalize wr = w18 at *
              go_wp2_with fail
              go_loopw [30, 224] (fun c i wi => ∃ k : Nat, k ≤ WH.length ∧ i = .int .i64 k ∧ c = .int .i64 (((WH.take k).filter (fun m => decide (m ∉ G))).length : Nat) ∧ Below w18.heap.size w18 wi) (fun _ i _ => WH.length - (intOf i).toNat)
              case atStart => exact ⟨0, Nat.zero_le _, rfl, rfl, Below.refl _ _⟩
              case round =>
                obtain ⟨k, hk, rfl, rfl, hbi⟩ := hrel
                by_cases hlt : k < WH.length
                · obtain ⟨bq, oq, hqa, hqb, hqc⟩ := (stab_rk _ _ _ _ KW18.out hbi) (by omega)
                  obtain ⟨m0, m1⟩ := hqc k hlt
                  have hk0 : (0 : Int) ≤ (k : Int) := by omega
                  have hk1 : (k : Int) < (WH.length : Int) := by omega
                  have HTK := Lib.hid (show WH.take (k + 1) = WH.take k ++ [WH[k]] from List.take_succ_eq_append_getElem hlt)
                  have HSP := Lib.hid (show WH = WH.take k ++ WH[k] :: WH.drop (k + 1) by rw [List.getElem_cons_drop, List.take_append_drop])
                  obtain ⟨q, hq⟩ : ∃ q, WH[k] = q := ⟨_, rfl⟩
                  rw [hq] at m0 m1 HTK HSP
                  obtain ⟨wa, hwa, n0, n1, hba, hza⟩ := box2 wr (.int .i64 q.x) (.int .i64 q.y) 46
                  have hbb := hbi.trans (hba.mono hbi.size)
                  have hlk := (HSET2.out.below hbb HSET2.out.lt).look q
                  have KEa := Lib.hid (stab_rk _ _ _ _ KE18.out hbb)
                  have hwa' := hwa.symm
                  subst hqa
                  clear hwa hqc hq
                  by_cases hin : q ∈ G
                  · rw [decide_eq_true hin] at hlk
                    have HCN := Lib.hid (show ((WH.take (k + 1)).filter (fun m => decide (m ∉ G))).length = ((WH.take k).filter (fun m => decide (m ∉ G))).length by
                      rw [HTK.out, List.filter_append, List.length_append]
                      simp [hin])
                    generalize ((WH.take k).filter (fun m => decide (m ∉ G))).length = j at *
                    go_wp2
                    go_roundw
                    case rel => exact ⟨k + 1, by omega, by go_num, by rw [HCN.out], hbb⟩
                    case measure => simp [intOf]; omega
                  · rw [decide_eq_false hin] at hlk
                    have HCN := Lib.hid (show ((WH.take (k + 1)).filter (fun m => decide (m ∉ G))).length = ((WH.take k).filter (fun m => decide (m ∉ G))).length + 1 by
                      rw [HTK.out, List.filter_append, List.length_append]
                      simp [hin])
                    have hAT : ∃ h : ((WH.take k).filter (fun m => decide (m ∉ G))).length < LE.length, LE[((WH.take k).filter (fun m => decide (m ∉ G))).length]'h = q := by
                      have e : LE = (WH.take k).filter (fun m => decide (m ∉ G)) ++ q :: (WH.drop (k + 1)).filter (fun m => decide (m ∉ G)) := by
                        rw [HLEF.out]
                        conv => lhs; rw [HSP.out]
                        rw [List.filter_append, List.filter_cons_of_pos (by simpa using hin)]
                      subst e
                      exact ⟨by simp, by simp⟩
                    generalize ((WH.take k).filter (fun m => decide (m ∉ G))).length = j at *
                    obtain ⟨hj, hje⟩ := hAT
                    obtain ⟨be, oe, hea, heb, hec⟩ := KEa.out (by omega)
                    obtain ⟨l0, l1⟩ := hec j hj
                    rw [hje] at l0 l1
                    have hj0 : (0 : Int) ≤ (j : Int) := by omega
                    have hj1 : (j : Int) < (LE.length : Int) := by omega
                    have hjl : (LE.length : Int) ≤ 4096 := by
                      have : LE.length ≤ WH.length := by rw [HLEF.out]; exact List.length_filter_le _ _
                      omega
                    have hqe := eqMesh q
                    subst hea
                    clear hec hje
                    have hgd := guardMesh
                    go_wp2_with fail
                    go_quiet (fail)
                    go_wp2
                    go_roundw
                    case rel => exact ⟨k + 1, by omega, by go_num, by rw [HCN.out]; go_num, below_drewN hbb _⟩
                    case measure => simp [intOf]; omega
                · obtain rfl : k = WH.length := by omega
                  have hlen : ((WH.take WH.length).filter (fun m => decide (m ∉ G))).length = LE.length := by rw [List.take_length, HLEF.out]
                  rw [hlen]
                  have p20 := p18.trans (hbi.mono p18.size)
                  clear hlen hbi hk hlt
                  go_wp2_with fail
                  refine (otterEdge _).mono ?_
                  rintro e w3 ⟨rfl, hb3⟩
                  go_wp2
                  go_ret
                  exact ⟨rfl, p20.trans (hb3.mono p20.size)⟩
end Go.Proofs.Ythihjphcjjpjpaa

/- An argument that is a list of bars, opened. -/
namespace Go.Proofs.Ythihjphcjjpjpaa
open Go.ChangeShapes Go.WideShapes Go.ChangeAt Go.RowKit Go.Deep

variable {H : Type} {enc : TypeId × Value → H} {w : World} {spare : Nat → Bool} {held : Bool}
set_option maxRecDepth 100000 in
theorem bar_cells {n : Nat} {cs : List Value} {x : DataW H × List MemPlace} (h : DataW.trod enc Try.prog w 0 spare held n 48 cs = some x) : ∃ b : Ck.Bar, cs = bcells b := by
  obtain ⟨xs, m, _, _, hl, hx, hf⟩ := DataW.trod_struct Try.underlying48 h
  have hC : Try.prog.cellsOf 48 = 3 := by kernel_rfl
  have c3 : Try.prog.cellsOf 3 = 1 := by kernel_rfl
  rw [hC] at hl
  match cs, hl, xs, hx with
  | [c0, c1, c2], _, [x0, x1, x2], _ =>
    have h0 := hf 0 _ rfl
    have h1 := hf 1 _ rfl
    have h2 := hf 2 _ rfl
    simp [c3] at h0 h1 h2
    obtain ⟨n0, e0, _⟩ := DataW.trod_int Try.underlying3 h0
    obtain ⟨n1, e1, _⟩ := DataW.trod_int Try.underlying3 h1
    obtain ⟨n2, e2, _⟩ := DataW.trod_int Try.underlying3 h2
    simp only [List.cons.injEq, and_true] at e0 e1 e2
    exact ⟨⟨n0, n1, n2⟩, by rw [e0, e1, e2]; rfl⟩
set_option maxRecDepth 100000 in
/-- The argument is nil, or a slice that reads as bars. -/
theorem open_bars {v : Value} {d : DataW H} {p : List MemPlace} {r : Reach} {b0 : Nat} (hv : Value.okWide Try.prog w r b0 31 v) (h : DataW.Trod enc Try.prog w 0 spare held 31 v d p) (_ : ∀ x ∈ p, x.block < w.heap.size) :
    ∃ (A : Option Addr) (c : Nat) (l : List Ck.Bar), v = .slice A l.length c ∧ (A = none → c = 0) ∧ l.length ≤ c ∧ c ≤ maxLen ∧ RB w w.heap.size A l := by
  obtain ⟨a, len, cap, rfl⟩ := okWide_slice Try.underlying31 hv
  obtain ⟨fuel, hf⟩ := h
  have hC : Try.prog.cellsOf 48 = 3 := by kernel_rfl
  rcases open_slice Try.underlying31 hf with ⟨hcs, _⟩ | ⟨a', len', cap', m, n, D, Pl, hcs, hb, hl, hm, hmm, hx, hi⟩
  · simp [Value.cells] at hcs
    obtain ⟨rfl, rfl, rfl⟩ := hcs
    exact ⟨none, 0, [], rfl, fun _ => rfl, Nat.zero_le _, by unfold maxLen; omega, fun h => by simp at h⟩
  · simp [Value.cells] at hcs
    obtain ⟨rfl, rfl, rfl⟩ := hcs
    rw [hC] at hi hx
    have hle : len ≤ m := by rw [hmm]; split <;> omega
    have each : ∀ i, ∃ b : Ck.Bar, i < len → w.cell? (a'.add (i * 3)) = some (.int .i64 b.x) ∧ w.cell? ((a'.add (i * 3)).add 1) = some (.int .i64 b.y) ∧ w.cell? ((a'.add (i * 3)).add 2) = some (.int .i64 b.s) := fun i => by
      by_cases hi' : i < len
      · obtain ⟨cs', h1, h2⟩ := hi i (by omega)
        obtain ⟨b, rfl⟩ := bar_cells h2
        obtain ⟨_, _, h3⟩ := World.cells?_some h1
        exact ⟨b, fun _ => ⟨h3 0 (by omega), h3 1 (by omega), h3 2 (by omega)⟩⟩
      · exact ⟨⟨0, 0, 0⟩, fun h => absurd h hi'⟩
    obtain ⟨f, hf'⟩ := Classical.axiomOfChoice each
    have hlen : ((List.range len).map f).length = len := by simp
    refine ⟨some a', cap, (List.range len).map f, by rw [hlen], (fun h => by cases h), by rw [hlen]; exact hl, hm, fun hpos => ?_⟩
    rw [hlen] at hpos
    obtain ⟨blk, off, spot⟩ := a'
    have h0 := (hf' 0 hpos).1
    have hspot : spot = none := by
      cases spot with
      | none => rfl
      | some s =>
        simp [Addr.add, World.cell?] at h0
        split at h0 <;> simp at h0
    subst hspot
    have hadd : ∀ k, (⟨blk, off, none⟩ : Addr).add k = ⟨blk, off + k, none⟩ := fun k => by
      unfold Addr.add
      split
      · simp
      · rfl
    have hblk : blk < w.heap.size := by
      rw [hadd] at h0
      unfold World.cell? at h0
      cases hh : w.heap[blk]? with
      | none => simp [hh] at h0
      | some o => exact (Array.getElem?_eq_some_iff.1 hh).1
    refine ⟨blk, off, rfl, hblk, fun i hi' => ?_⟩
    rw [hlen] at hi'
    obtain ⟨k0, k1, k2⟩ := hf' i hi'
    rw [hadd] at k0 k1 k2
    have hadd2 : ∀ k j, (⟨blk, k, none⟩ : Addr).add j = ⟨blk, k + j, none⟩ := fun k j => by
      unfold Addr.add
      split
      · simp
      · rfl
    rw [hadd2] at k1 k2
    have hg : ((List.range len).map f)[i]'(by simpa using hi') = f i := by simp
    rw [hg]
    exact ⟨k0, k1, k2⟩
end Go.Proofs.Ythihjphcjjpjpaa

namespace Go.Proofs.Ythihjphcjjpjpaa
open Go.ChangeShapes Go.WideShapes Go.ChangeAt Go.RowKit

set_option maxRecDepth 100000 in
theorem cell_intO {w : World} {r : Reach} {b0 : Nat} {k : IntKind} {t : TypeId} {v : Value} (ht : Try.prog.underlying t = some (.int k)) (h : Cell.okWide Try.prog w r b0 t v) : ∃ n, v = .int k n ∧ k.has n := by
  simp only [Cell.okWide, ht] at h
  cases v <;> simp_all [Cell.ok]
set_option maxRecDepth 100000 in
theorem cell_strO {w : World} {r : Reach} {b0 : Nat} {v : Value} (h : Cell.okWide Try.prog w r b0 9 v) : ∃ s, v = .string s := by
  have ht := Try.underlying9
  simp only [Cell.okWide, ht] at h
  cases v <;> simp_all [Cell.ok]
set_option maxRecDepth 100000 in
theorem open_edging {w : World} {r : Reach} {b0 : Nat} {v : Value} (h : Value.okWide Try.prog w r b0 25 v) : ∃ s n, v = .agg #[.string s, .int .i64 n] := by
  have hS : Try.prog.underlying 25 = some (.struct (Try.prog.fieldsOf 25)) := by kernel_rfl
  have hC : Try.prog.cellsOf 25 = 2 := by kernel_rfl
  simp only [Value.okWide, hS] at h
  obtain ⟨cs, rfl, hsz, hr⟩ := h
  rw [hC] at hsz
  obtain ⟨ts, hts, -, hrow⟩ := hr
  have ht : Try.prog.cellTypes Try.prog.depth 25 = some [9, 3] := by kernel_rfl
  rw [ht] at hts
  cases hts
  obtain ⟨l⟩ := cs
  match l, hsz with
  | [c0, c1], _ =>
    obtain ⟨u0, hu0, h0⟩ := hrow 0 c0 rfl
    obtain ⟨u1, hu1, h1⟩ := hrow 1 c1 rfl
    simp at hu0 hu1
    subst hu0 hu1
    obtain ⟨a, rfl⟩ := cell_strO h0
    obtain ⟨b, rfl, hb⟩ := cell_intO Try.underlying3 h1
    exact ⟨a, b, rfl⟩
set_option maxRecDepth 100000 in
theorem open_knotO {w : World} {r : Reach} {b0 : Nat} {v : Value} (h : Value.okWide Try.prog w r b0 23 v) : ∃ x y, v = .agg #[.int .i64 x, .int .i64 y] := by
  have hS : Try.prog.underlying 23 = some (.struct (Try.prog.fieldsOf 23)) := by kernel_rfl
  have hC : Try.prog.cellsOf 23 = 2 := by kernel_rfl
  simp only [Value.okWide, hS] at h
  obtain ⟨cs, rfl, hsz, hr⟩ := h
  rw [hC] at hsz
  obtain ⟨ts, hts, -, hrow⟩ := hr
  have ht : Try.prog.cellTypes Try.prog.depth 23 = some [3, 3] := by kernel_rfl
  rw [ht] at hts
  cases hts
  obtain ⟨l⟩ := cs
  match l, hsz with
  | [c0, c1], _ =>
    obtain ⟨u0, hu0, h0⟩ := hrow 0 c0 rfl
    obtain ⟨u1, hu1, h1⟩ := hrow 1 c1 rfl
    simp at hu0 hu1
    subst hu0 hu1
    obtain ⟨a, rfl, ha⟩ := cell_intO Try.underlying3 h0
    obtain ⟨b, rfl, hb⟩ := cell_intO Try.underlying3 h1
    exact ⟨a, b, rfl⟩

theorem Try.ownO : ownKnob Try.prog.godebug = none := by kernel_rfl
theorem Try.laidOutO : laidOutB Try.prog = true := by kernel_rfl

set_option maxRecDepth 100000 in
theorem sheets_lifted (os : Os) (started : os.Started) (H : Type) (enc : TypeId × Value → H) :
    ReturnsInHanded {} Try.checked os 3 .any (Rows.topOtterSheetsSpec.pre6 enc Try.prog Try.f3 Rows.topOtterSheetsRow.domain false) (Rows.topOtterSheetsSpec.post enc Try.prog Try.f3 false true false false) := by
  refine returnsInHanded_of_change (C := Try.checked) Try.ownO started (by kernel_rfl) Try.func3
    (ChangeSpec.witness6 (enc := enc) (C := Try.checked) false ⟨#[], #[.agg #[.int .i64 0, .int .i64 0], .agg #[.string ByteArray.empty, .int .i64 0]], []⟩ 8 (by kernel_rfl) (by kernel_rfl) (by kernel_rfl) (by kernel_rfl)) ?_
  intro W base args ds gs before hval0 hW _ _
  have hval : ∀ (j : Nat) t v, Try.f3.params[j]? = some t → args[j]? = some v → Value.okWide Try.prog W .any base t v := hval0
  have hW' := hW
  obtain ⟨p, q, hA0, hV, rfl, _, _⟩ := hW
  have hA : DataW.TrodAll enc Try.prog W 0 (fun _ => true) true Try.f3.params.toList args.toList ds p := hA0
  rw [Try.params3] at hA hval
  obtain ⟨v0, v1, d0, d1, p0, p1, rfl, rfl, rfl, h0, h1⟩ := trodAll_two hA
  obtain ⟨rfl, rfl⟩ := trodVars_none hV
  clear hA0 hval0
  simp only [List.append_nil] at hW'
  have hlt : ∀ x ∈ p0 ++ p1, x.block < W.heap.size := fun x hx => by simpa using hW'.lt x hx
  obtain ⟨x, y, rfl⟩ := open_knotO (hval 0 23 v0 rfl rfl)
  obtain ⟨s, n, rfl⟩ := open_edging (hval 1 25 v1 rfl rfl)
  have harg0 : ∀ (W' : World), Below W.heap.size W W' → DataW.Trod enc Try.prog W' 0 (fun b => decide (b < W.heap.size)) true 23 (.agg #[.int .i64 x, .int .i64 y]) d0 p0 :=
    fun W' hn => Below.trod Try.laidOutO (by kernel_rfl) (of_decide_eq_true (by kernel_rfl)) h0 hn (fun x hx => hlt x (List.mem_append_left _ hx))
  have harg1 : ∀ (W' : World), Below W.heap.size W W' → DataW.Trod enc Try.prog W' 0 (fun b => decide (b < W.heap.size)) true 25 (.agg #[.string s, .int .i64 n]) d1 p1 :=
    fun W' hn => Below.trod Try.laidOutO (by kernel_rfl) (of_decide_eq_true (by kernel_rfl)) h1 hn (fun x hx => hlt x (List.mem_append_right _ hx))
  refine (otterSheets x y s n W).mono fun e W' ⟨he, hb⟩ => ?_
  subst he
  refine ⟨_, rfl, _, _, _, [], p0 ++ p1, [], hW', ?_, trodAll_mk2 (harg0 W' hb) (harg1 W' hb), rfl, hb.frame _, fun h => by cases h⟩
  exact trodAll_mk1 (shut_bool Try.underlying4 true)

theorem sheets_holds : Rows.TopOtterSheetsSaid :=
  OpenClaim.holds_of_wide 3 Try.f3 rfl rfl rfl rfl rfl rfl rfl ⟨rfl, rfl, rfl, rfl, rfl⟩ rfl rfl rfl rfl rfl (by kernel_rfl) Try.func3 (by kernel_rfl)
    (of_decide_eq_true (by kernel_rfl)) (by unfold Func.isWrapper; first | (rw [if_pos (by decide +kernel)]; kernel_rfl) | (rw [if_neg (by decide +kernel)]; exact ⟨rfl, rfl⟩))
    (fun os started H enc _ => sheets_lifted os started H enc)
#print axioms sheets_holds
end Go.Proofs.Ythihjphcjjpjpaa
