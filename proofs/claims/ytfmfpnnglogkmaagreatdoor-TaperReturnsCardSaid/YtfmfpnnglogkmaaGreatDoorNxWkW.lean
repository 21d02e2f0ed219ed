/- Helpers: NxWkW. -/
import Derived.Test.YtfmfpnnglogkmaaGreatDoorN7
import Derived.BigQuiet
/- Edges all of whose knots are in place: plain mathematics. -/
namespace Go.Proofs.YtfmfpnnglogkmaaGreatDoor
open Go.RowKit Go.Shelf Ck

def EdgeG (x y : Int) (s : ByteArray) (c : Nat) (o : Bool) : Prop := Word s ∧ 1 ≤ c ∧ c * s.size ≤ 256 ∧ okKnot ⟨x, y⟩ ∧ ∀ q ∈ legsL (sg o) ⟨x, y⟩ (Lib.repeatL s.data.toList c), okKnot q.2.2
theorem legs_from (σ : Int) : ∀ (L : List UInt8) (k : Knot), okKnot k → (∀ q ∈ legsL σ k L, okKnot q.2.2) → ∀ q ∈ legsL σ k L, q.1 ∈ L ∧ q.2.2 = stepK σ q.2.1 q.1 ∧ okKnot q.2.1
  | [], _, _, _, q, hq => by simp [legsL] at hq
  | c :: r, k, hk, h, q, hq => by
    have hs : okKnot (stepK σ k c) := h (c, k, stepK σ k c) (by simp [legsL])
    rw [legsL, List.mem_cons] at hq
    rcases hq with rfl | hq
    · exact ⟨by simp, rfl, hk⟩
    · obtain ⟨h1, h2, h3⟩ := legs_from σ r (stepK σ k c) hs (fun q' hq' => h q' (by rw [legsL]; exact List.mem_cons_of_mem _ hq')) q hq
      exact ⟨List.mem_cons_of_mem _ h1, h2, h3⟩
theorem EdgeG.legs {x y : Int} {s : ByteArray} {c : Nat} {o : Bool} (h : EdgeG x y s c o) : ∀ q ∈ legsL (sg o) ⟨x, y⟩ (Lib.repeatL s.data.toList c), isL q.1 ∧ q.2.2 = stepK (sg o) q.2.1 q.1 ∧ okKnot q.2.1 ∧ okKnot q.2.2 := fun q hq => by
  obtain ⟨hs, -, -, hk, hq2⟩ := h
  obtain ⟨h1, h2, h3⟩ := legs_from _ _ _ hk hq2 q hq
  exact ⟨rep_letters hs c _ h1, h2, h3, hq2 q hq⟩
theorem EdgeOk.toG {x y : Int} {s : ByteArray} {c : Nat} (h : EdgeOk x y s c) (o : Bool) : EdgeG x y s c o := by
  have hl := h.legs o
  obtain ⟨hs, h1, h2, x1, x2, y1, y2, hp⟩ := h
  exact ⟨hs, h1, h2, ⟨⟨by simp; omega, by simp; omega⟩, ⟨by simp; omega, by simp; omega⟩, hp⟩, fun q hq => (hl q hq).2.2.2⟩
theorem walkK_snoc (σ : Int) (k : Knot) (L : List UInt8) (c : UInt8) : walkK σ k (L ++ [c]) = walkK σ k L ++ [posK σ k (L ++ [c])] := by
  rw [walkK, legsL_snoc, walkOf_snoc, posK_snoc]
  rfl
theorem walkK_mem {σ : Int} {k q : Knot} {L : List UInt8} : q ∈ walkK σ k L ↔ q = k ∨ ∃ p ∈ legsL σ k L, q = p.2.2 := by
  simp only [walkK, walkOf, List.mem_cons, List.mem_map]
  constructor
  · rintro (h | ⟨p, hp, rfl⟩)
    · exact .inl h
    · exact .inr ⟨p, hp, rfl⟩
  · rintro (h | ⟨p, hp, rfl⟩)
    · exact .inl h
    · exact .inr ⟨p, hp, rfl⟩
theorem dL_near (c : UInt8) : 0 ≤ dxL c ∧ dxL c ≤ 2 ∧ 0 ≤ dyL c ∧ dyL c ≤ 2 := by
  unfold dxL dyL
  split <;> (try split) <;> (try split) <;> omega
theorem stepK_near (o : Bool) (k : Knot) (c : UInt8) : k.x - 2 ≤ (stepK (sg o) k c).x ∧ (stepK (sg o) k c).x ≤ k.x + 2 ∧ k.y ≤ (stepK (sg o) k c).y ∧ (stepK (sg o) k c).y ≤ k.y + 2 := by
  have := dL_near c
  cases o <;> simp [stepK, sg] <;> omega
theorem posK_near (o : Bool) : ∀ (L : List UInt8) (k : Knot), k.x - 2 * (L.length : Int) ≤ (posK (sg o) k L).x ∧ (posK (sg o) k L).x ≤ k.x + 2 * (L.length : Int) ∧ k.y ≤ (posK (sg o) k L).y ∧ (posK (sg o) k L).y ≤ k.y + 2 * (L.length : Int)
  | [], k => by simp [posK]
  | c :: r, k => by
    have ih := posK_near o r (stepK (sg o) k c)
    have h := stepK_near o k c
    have e : posK (sg o) k (c :: r) = posK (sg o) (stepK (sg o) k c) r := rfl
    rw [e]
    simp only [List.length_cons]
    omega
theorem stepK_even (o : Bool) (k : Knot) {c : UInt8} (hc : isL c) : ((stepK (sg o) k c).x + (stepK (sg o) k c).y) % 2 = (k.x + k.y) % 2 := by
  rcases hc with rfl | rfl | rfl <;> cases o <;> simp [stepK, sg, dxL, dyL] <;> omega
/-- Is a knot beyond the place? (Upwards or sideways: an edge does not go down.) -/
def outK (q : Knot) : Bool := decide (q.x < -100000 ∨ 100000 < q.x ∨ 100000 < q.y)
theorem legs_in (o : Bool) : ∀ (L : List UInt8) (k : Knot), (∀ c ∈ L, isL c) → okKnot k → (∀ q ∈ legsL (sg o) k L, outK q.2.2 = false) → ∀ q ∈ legsL (sg o) k L, okKnot q.2.2
  | [], _, _, _, _, q, hq => by simp [legsL] at hq
  | c :: r, k, hL, hk, h, q, hq => by
    have h0 := h (c, k, stepK (sg o) k c) (by simp [legsL])
    have hn := stepK_near o k c
    have he := stepK_even o k (hL c (by simp))
    obtain ⟨⟨a1, a2⟩, ⟨b1, b2⟩, hp⟩ := hk
    simp only [outK, decide_eq_false_iff_not] at h0
    have hs : okKnot (stepK (sg o) k c) := ⟨⟨by omega, by omega⟩, ⟨by omega, by omega⟩, by omega⟩
    rw [legsL, List.mem_cons] at hq
    rcases hq with rfl | hq
    · exact hs
    · exact legs_in o r (stepK (sg o) k c) (fun c' hc' => hL c' (by simp [hc'])) hs (fun q' hq' => h q' (by rw [legsL]; exact List.mem_cons_of_mem _ hq')) q hq
/-- CheckWalk's error for the reference. -/
def wlk0 (x y : Int) (s : ByteArray) (t : Int) : Int := firstE [knotE x y, wordE s.data.toList, (if t < 1 ∨ 256 < t then 3 else 0)]
def wlkE (x y : Int) (s : ByteArray) (t : Int) (o : Bool) : Int :=
  if wlk0 x y s t = 0 then (if 256 < (s.size : Int) * t then 26 else if (walkK (sg o) ⟨x, y⟩ (Lib.repeatL s.data.toList t.toNat)).any outK then 32 else 0) else wlk0 x y s t
theorem wlk0_zero {x y : Int} {s : ByteArray} {t : Int} (h : wlk0 x y s t = 0) : okKnot ⟨x, y⟩ ∧ Word s ∧ ∃ c : Nat, t = (c : Int) ∧ 1 ≤ c ∧ c ≤ 256 := by
  simp only [wlk0, firstE] at h
  by_cases h1 : knotE x y = 0
  · rw [if_pos h1] at h
    by_cases h2 : wordE s.data.toList = 0
    · rw [if_pos h2] at h
      by_cases h3 : t < 1 ∨ 256 < t
      · rw [if_pos h3, if_neg (by decide)] at h
        cases h
      · exact ⟨(knotE_ok x y).1 h1, wordE_zero h2, t.toNat, by omega, by omega, by omega⟩
    · rw [if_neg h2] at h
      exact absurd h h2
  · rw [if_neg h1] at h
    exact absurd h h1
theorem wlkE_zero {x y : Int} {s : ByteArray} {t : Int} {o : Bool} (h : wlkE x y s t o = 0) : ∃ c : Nat, t = (c : Int) ∧ EdgeG x y s c o := by
  rw [wlkE] at h
  by_cases h0 : wlk0 x y s t = 0
  · obtain ⟨hk, hs, c, rfl, c1, c2⟩ := wlk0_zero h0
    rw [if_pos h0] at h
    by_cases h1 : 256 < (s.size : Int) * (c : Int)
    · rw [if_pos h1] at h
      cases h
    · rw [if_neg h1, Int.toNat_natCast] at h
      have hm : c * s.size ≤ 256 := by
        rw [Nat.mul_comm]
        have : ((s.size * c : Nat) : Int) = (s.size : Int) * (c : Int) := by push_cast; rfl
        omega
      refine ⟨c, rfl, hs, c1, hm, hk, legs_in o _ _ (rep_letters hs c) hk fun q hq => ?_⟩
      by_cases h2 : (walkK (sg o) ⟨x, y⟩ (Lib.repeatL s.data.toList c)).any outK = true
      · rw [if_pos h2] at h
        cases h
      · have h3 : ∀ q ∈ walkK (sg o) ⟨x, y⟩ (Lib.repeatL s.data.toList c), outK q = false := by simpa using h2
        exact h3 _ (walkK_mem.2 (.inr ⟨q, hq, rfl⟩))
  · rw [if_neg h0] at h
    exact absurd h h0
end Go.Proofs.YtfmfpnnglogkmaaGreatDoor

/- checkEdge, Bars, Meshes and Walk of taper at every edge whose knots are in place. -/
namespace Go.Proofs.YtfmfpnnglogkmaaGreatDoor
open Go.RowKit Go.Shelf Ck
attribute [local go_sem] Oper.semAt_some

set_option maxHeartbeats 4000000 in
set_option maxRecDepth 100000 in
theorem tpCheckEdgeG (x y : Int) (s : ByteArray) (c : Nat) (o : Bool) (w : World) (h : EdgeG x y s c o) :
    Calls Tryz.prog 61 #[.agg #[.int .i64 x, .int .i64 y], .string s, .int .i64 c, .bool o] w fun e w' => e = .returned (.int .i64 0) ∧ Below w.heap.size w w' := by
  have HL := Lib.hid (h.legs)
  obtain ⟨hs, h1, h2, ⟨⟨x1, x2⟩, ⟨y1, y2⟩, hp⟩, -⟩ := h
  simp only at x1 x2 y1 y2 hp
  have HK := Lib.hid ((knotE_ok x y).2 ⟨⟨by simp; omega, by simp; omega⟩, ⟨by simp; omega, by simp; omega⟩, hp⟩)
  have HR := Lib.hid (show (if (c : Int) < 1 ∨ 256 < (c : Int) then (3 : Int) else 0) = 0 by
    rw [if_neg]
    have := Nat.mul_le_mul_left c hs.2.1
    omega)
  have hmul : (s.size : Int) * (c : Int) ≤ 256 := by
    rw [Int.mul_comm, ← Int.natCast_mul]
    omega
  have hmul0 : 0 ≤ (s.size : Int) * (c : Int) := Int.mul_nonneg (by omega) (by omega)
  have HS := Lib.hid hs
  clear hs h1 hp
  refine (callsIn_wide (n := 6)).1 (callsIn_of_wp_marks Tryz.func61 rfl trivial (wpIn_wide.2 ?_) rfl)
  simp only [Tryz.ntmps61, List.size_toArray, List.length_cons, List.length_nil, Nat.reduceAdd, Nat.reduceSub, Array.replicate_succ, Array.replicate_zero, List.push_toArray, List.append_toArray, List.nil_append, List.cons_append]
  obtain ⟨w1, hw1, hb1, hz1, ex, er⟩ : ∃ w1, w1 = (w.alloc (.cells #[.int .i64 x, .int .i64 y] 43)).alloc (.cells #[.int .i64 0] 30) ∧ Below w.heap.size w w1 ∧ w1.heap.size = w.heap.size + 2 ∧ w1.heap[w.heap.size]? = some (.cells #[.int .i64 x, .int .i64 y] 43 (0, 0)) ∧ w1.heap[w.heap.size + 1]? = some (.cells #[.int .i64 0] 30 (0, 0)) := by
    refine ⟨_, rfl, ((Below.refl _ _).alloc (Nat.le_refl _) _).alloc (by simp) _, by simp, ?_, ?_⟩
    · rw [Below.heap_alloc _ _ _ (by simp)]
      exact heap_alloc_new _ _
    · have := heap_alloc_new (w.alloc (.cells #[.int .i64 x, .int .i64 y] 43)) (.cells #[.int .i64 0] 30)
      rwa [World.size_alloc] at this
  have HW1 := Lib.hid hw1
  have HZ1 := Lib.hid hz1
  clear hw1 hz1
  go_wp2_with fail
  rw [← HW1.out]
  refine (netCheckKnot x y _).mono ?_
  rintro e w2 ⟨rfl, hb2⟩
  rw [HK.out]
  go_wp2_with fail
  refine (tpCheckWord s _ HS.out).mono ?_
  rintro e w3 ⟨rfl, hb3⟩
  go_wp2_with fail
  refine (tpCheckRange _ _ _ _).mono ?_
  rintro e w4 ⟨rfl, rfl⟩
  rw [HR.out]
  go_wp2_with fail
  refine (tpFirst3 _ _ 0 0 0 30 _ (by exact heap_alloc_new _ _)).mono ?_
  rintro e w5 ⟨rfl, rfl⟩
  rw [show firstE [0, 0, 0] = 0 from rfl]
  have b13 : Below w1.heap.size w1 w3 := hb2.trans (hb3.mono hb2.size)
  have b16 : Below w1.heap.size w1 (w3.alloc (.cells #[.int .i64 0, .int .i64 0, .int .i64 0] 30)) := b13.alloc b13.size _
  generalize w3.alloc (.cells #[.int .i64 0, .int .i64 0, .int .i64 0] 30) = w6 at *
  have hz1 := HZ1.out
  have ex6 := (b16.block _ (by omega)).trans ex
  have er6 := (b16.block _ (by omega)).trans er
  obtain ⟨f0, f1, -, -⟩ := two_cell ex6
  have bw6 := hb1.trans (b16.mono hb1.size)
  clear ex er hz1
  go_wp2_with fail
  refine (tpLegs x y s c o _).mono ?_
  rintro e w7 ⟨rfl, hw7⟩
  obtain ⟨W9, hW9, hb9, hz9, q0, q1, q2, q3⟩ := legs_boxes w6 x y c s o
  rw [← hW9] at hw7
  have hw7' := hw7.symm
  subst hw7'
  clear hW9
  have HZ9 := Lib.hid hz9
  have er9 := (hb9.block _ (Array.getElem?_eq_some_iff.1 er6).1).trans er6
  have her6 := (Array.getElem?_eq_some_iff.1 er6).1
  have bw9 := bw6.trans (hb9.mono bw6.size)
  clear hz9 f0 f1 hw7
  go_wp2_with fail
  have hvis := legs_visits w6.heap.size 4 w6.heap.size (w6.heap.size + 1) (w6.heap.size + 2) (w6.heap.size + 3) 104 (by omega) x y s c o W9 (by decide) HS.out h2 (by omega) (by omega) (by omega) (by omega) (by omega) (by rw [HZ9.out]; omega) q0 q1 q2 q3
  refine (wpIn_wide (n := 5)).1 ?_
  generalize hA0 : (Act.mk _ _) = A0
  refine wpIn_visits (n := 5) (by omega) (gf := 99) (lb := #[.pointer (some ⟨w6.heap.size, 0, none⟩), .pointer (some ⟨w6.heap.size + 1, 0, none⟩), .pointer (some ⟨w6.heap.size + 2, 0, none⟩), .pointer (some ⟨w6.heap.size + 3, 0, none⟩)]) (by rw [← hA0]; rfl) ?eg hvis KT.trans (KT.put (w := W9)) (fun _ => rfl)
    (fun _ W => Below w.heap.size w W ∧ (W.heap[w.heap.size + 1]? = some (.cells #[.int .i64 0] 30 (0, 0)) ∧ W9.heap.size ≤ W.heap.size))
    (Bides.and (bides_below bw9.size (Nat.le_refl _)) (Bides.and (bides_block (by rw [HZ9.out]; omega)) bides_size)) ⟨bw9, er9, Nat.le_refl _⟩ ?round ?done
  case eg => exact fun _ _ => by kernel_rfl
  case round =>
    rintro l pre q W hz ⟨hbW, herW, hsW⟩ ⟨r, hr⟩
    obtain ⟨hq1, hq2, hq3, hq4⟩ := HL.out q (by rw [hr]; simp)
    clear hq1 hq2 hq3
    have HKq := Lib.hid ((knotE_ok q.2.2.x q.2.2.y).2 hq4)
    subst hA0
    dsimp only [legArr]
    gi_wp2
    have hb0 : Below W.heap.size W (W.alloc (.cells #[.int .i32 (q.1.toNat : Int), .int .i64 q.2.1.x, .int .i64 q.2.1.y, .int .i64 q.2.2.x, .int .i64 q.2.2.y] 104)) := (Below.refl _ _).alloc (Nat.le_refl _) _
    refine ⟨Book.below hz hb0, KT.of_below hb0, fun Wb hg hobj _ => ?_⟩
    have hbx : Wb.heap[W.heap.size]? = some (.cells #[.int .i32 (q.1.toNat : Int), .int .i64 q.2.1.x, .int .i64 q.2.1.y, .int .i64 q.2.2.x, .int .i64 q.2.2.y] 104 (0, 0)) :=
      (hg.block _ (by simp) (fun e => by injection e; omega)).trans (heap_alloc_new _ _)
    obtain ⟨r0, r1, r2, r3, r4, -⟩ := five_of_block hbx
    obtain ⟨o1, ho1, ho2⟩ := hobj
    have hz9 := HZ9.out
    have hfk : Fence.wide.fn 98 := trivial
    have hfk' : (Fence.wide.inRound l).fn 98 := trivial
    have hn1 : 1 ≤ 5 - 1 - 1 := by decide
    have hbb : Below w.heap.size w Wb := (hbW.trans (hb0.mono hbW.size)).grown hg (by have := hbW.size; simp; omega) (fun k e => by cases e; have := bw9.size; omega)
    have heb : Wb.heap[w.heap.size + 1]? = some (.cells #[.int .i64 0] 30 (0, 0)) := (hg.block _ (by simp; omega) (fun e => by injection e; omega)).trans ((hb0.block _ (by omega)).trans herW)
    have hsb : W9.heap.size + 2 ≤ Wb.heap.size := by have := hg.size; simp at this; omega
    gi_wp2_with (gi_at_call 98; refine (CallsIn.inRound l (callsIn_wide.2 (netCheckKnot _ _ _))).mono ?_; rintro e W2 ⟨rfl, hb2⟩; rw [HKq.out])
    exact ⟨Book.below hsb hb2, KT.of_below hb2, hbb.trans (hb2.mono hbb.size), (hb2.block _ (Array.getElem?_eq_some_iff.1 heb).1).trans heb, by have := hb2.size; omega⟩
  case done =>
    rintro D ys W hD hS ⟨hbW, herW, hsW⟩ hK
    subst hA0
    obtain ⟨k0, k1⟩ := one_cell' herW
    have hDn : D ≠ w.heap.size + 1 := by have := HZ9.out; omega
    go_wp2
    have hK' : (W.setCell ⟨w.heap.size + 1, 0, none⟩ (.int .i64 0)).heap[D]? = some (.deferred (some [])) := (Below.heap_setCell _ _ _ D hDn).trans hK
    have hbf : Below w.heap.size w (W.setCell ⟨w.heap.size + 1, 0, none⟩ (.int .i64 0)) := hbW.setCell (by simp) _
    refine ⟨by simp, .inl ⟨_, _, rfl, run_takeDeferred hK', ?_⟩⟩
    refine ⟨.int .i64 0, ?_, rfl, hbf.trans (belowK_b (w := W9) (n₀ := w.heap.size) bw9.size _ D _ _ hD hK' rfl rfl)⟩
    have hcl := one_cell ((World.putObj_heap_other (r := D) (o := .deferred none) (k := w.heap.size + 1) (fun e => hDn e.symm)).trans (one_set herW (.int .i64 0)))
    simp [results, Tryz.results61, go_sem, hcl]
set_option maxHeartbeats 4000000 in
set_option maxRecDepth 100000 in
theorem tpBarsG (x y : Int) (s : ByteArray) (c : Nat) (o : Bool) (w : World) (h : EdgeG x y s c o) :
    Calls Tryz.prog 18 #[.agg #[.int .i64 x, .int .i64 y], .string s, .int .i64 c, .bool o] w (SheetPost (barsP (sg o) ⟨x, y⟩ (Lib.repeatL s.data.toList c)) w) := by
  have HE := Lib.hid h
  have HL := Lib.hid (h.legs)
  have HLEN := Lib.hid (show (legsL (sg o) ⟨x, y⟩ (Lib.repeatL s.data.toList c)).length ≤ 256 by rw [legsL_length, rep_len]; exact h.2.2.1)
  obtain ⟨hs, h1, h2, ⟨⟨x1, x2⟩, ⟨y1, y2⟩, hp⟩, -⟩ := h
  simp only at x1 x2 y1 y2 hp
  have HS := Lib.hid hs
  clear hs h1 hp
  refine (callsIn_wide (n := 6)).1 (callsIn_of_wp_marks Tryz.func18 rfl trivial (wpIn_wide.2 ?_) rfl)
  simp only [Tryz.ntmps18, List.size_toArray, List.length_cons, List.length_nil, Nat.reduceAdd, Nat.reduceSub, Array.replicate_succ, Array.replicate_zero, List.push_toArray, List.append_toArray, List.nil_append, List.cons_append]
  obtain ⟨w1, hw1, e0, e1, hb1, hz1⟩ := box2 w (.int .i64 x) (.int .i64 y) 43
  have HW1 := Lib.hid hw1
  clear hw1
  go_wp2_with fail
  rw [← HW1.out]
  refine (tpCheckEdgeG x y s c o _ HE.out).mono ?_
  rintro e w2 ⟨rfl, hb2⟩
  have f0 := (hb2.cell (p := ⟨w.heap.size, 0, none⟩) hz1).trans e0
  have f1 := (hb2.cell (p := ⟨w.heap.size, 1, none⟩) hz1).trans e1
  have hbw := hb1.trans (hb2.mono hb1.size)
  have hz2 := hb2.size
  have bO := Boxed.new w2 49 (.slice none 0 0)
  have hb3 : Below w2.heap.size w2 (w2.alloc (.cells #[.slice none 0 0] 49)) := (Below.refl _ _).alloc (Nat.le_refl _) _
  have g0 := (hb3.cell (p := ⟨w.heap.size, 0, none⟩) (by show w.heap.size < _; omega)).trans f0
  have g1 := (hb3.cell (p := ⟨w.heap.size, 1, none⟩) (by show w.heap.size < _; omega)).trans f1
  have HSZ := Lib.hid (show (w2.alloc (.cells #[.slice none 0 0] 49)).heap.size = w2.heap.size + 1 by simp)
  obtain ⟨w6, hw6⟩ : ∃ w6, w2.alloc (.cells #[.slice none 0 0] 49) = w6 := ⟨_, rfl⟩
  rw [hw6] at bO hb3 HSZ
  have HW6 := Lib.hid hw6
  clear hw6 f0 f1 e0 e1
  go_wp2_with fail
  rw [HW6.out]
  refine (tpLegs x y s c o _).mono ?_
  rintro e w7 ⟨rfl, hw7⟩
  obtain ⟨W9, hW9, hb9, hz9, q0, q1, q2, q3⟩ := legs_boxes w6 x y c s o
  rw [← hW9] at hw7
  have hw7' := hw7.symm
  subst hw7'
  clear hW9
  have HZ9 := Lib.hid hz9
  have hz6 := HSZ.out
  have bO9 : Boxed W9 w2.heap.size 49 (.slice none 0 0) := (hb9.block _ (by omega)).trans bO
  have bw6 := hbw.trans (hb3.mono hbw.size)
  have bw9 := bw6.trans (hb9.mono bw6.size)
  have hwz := hbw.size
  obtain ⟨ib, hib, hi0, hi1, hi2⟩ := info_parts Tryz.info74
  have HB := Lib.hid hib
  have HB0 := Lib.hid hi0
  have HB1 := Lib.hid hi1
  have HB2 := Lib.hid hi2
  clear hz9 hw7 hz6 hib hi0 hi1 hi2
  go_wp2_with fail
  have hvis := legs_visits w6.heap.size 4 w6.heap.size (w6.heap.size + 1) (w6.heap.size + 2) (w6.heap.size + 3) 74 (by omega) x y s c o W9 (by decide) HS.out h2 (by omega) (by omega) (by omega) (by omega) (by omega) (by rw [HZ9.out]; omega) q0 q1 q2 q3
  refine (wpIn_wide (n := 5)).1 ?_
  generalize hA0 : (Act.mk _ _) = A0
  refine wpIn_visits (n := 5) (by omega) (gf := 99) (lb := #[.pointer (some ⟨w6.heap.size, 0, none⟩), .pointer (some ⟨w6.heap.size + 1, 0, none⟩), .pointer (some ⟨w6.heap.size + 2, 0, none⟩), .pointer (some ⟨w6.heap.size + 3, 0, none⟩)]) (by rw [← hA0]; rfl) ?eg hvis KT.trans (KT.put (w := W9)) (fun _ => rfl)
    (fun pre W => (∃ v, Boxed W w2.heap.size 49 v ∧ W.ownsRow w.heap.size 74 3 v (barsOf pre).length (bcellsL (barsOf pre))) ∧ (Below w.heap.size w W ∧ W9.heap.size ≤ W.heap.size))
    (Bides.and (bides_row (fun pre => (barsOf pre).length) (fun pre => bcellsL (barsOf pre)) (by rw [HZ9.out, HSZ.out]; omega) (by decide)) (Bides.and (bides_below bw9.size (Nat.le_refl _)) bides_size)) ⟨⟨_, bO9, World.ownsRow_nil _ _ _ _⟩, bw9, Nat.le_refl _⟩ ?round ?done
  case eg => exact fun _ _ => by kernel_rfl
  case round =>
    rintro l pre q W hz ⟨⟨v, hv, hrow⟩, hbW, hsW⟩ ⟨r, hr⟩
    obtain ⟨hq1, -, hq3, hq4⟩ := HL.out q (by rw [hr]; simp)
    have hpre : (barsOf pre).length ≤ 256 := by
      have h1 := HLEN.out
      rw [hr] at h1
      have : ∀ l : List (UInt8 × Knot × Knot), (barsOf l).length ≤ l.length := fun l => by
        induction l with
        | nil => simp [barsOf]
        | cons a t ih =>
          have e : barsOf (a :: t) = (if a.1 = 66 then [⟨a.2.1.x, a.2.1.y, a.2.2.x - a.2.1.x⟩] else []) ++ barsOf t := by simp [barsOf]
          rw [e, List.length_append, List.length_cons]
          split <;> simp <;> omega
      have := this pre
      simp at h1
      omega
    obtain ⟨⟨a1, a2⟩, -, -⟩ := hq3
    obtain ⟨⟨a3, a4⟩, -, -⟩ := hq4
    have HSNOC := Lib.hid (barsOf_snoc pre q)
    subst hA0
    dsimp only [legArr]
    gi_wp2
    have hb0 : Below W.heap.size W (W.alloc (.cells #[.int .i32 (q.1.toNat : Int), .int .i64 q.2.1.x, .int .i64 q.2.1.y, .int .i64 q.2.2.x, .int .i64 q.2.2.y] 104)) := (Below.refl _ _).alloc (Nat.le_refl _) _
    refine ⟨Book.below hz hb0, KT.of_below hb0, fun Wb hg hobj hbk => ?_⟩
    have hbx : Wb.heap[W.heap.size]? = some (.cells #[.int .i32 (q.1.toNat : Int), .int .i64 q.2.1.x, .int .i64 q.2.1.y, .int .i64 q.2.2.x, .int .i64 q.2.2.y] 104 (0, 0)) :=
      (hg.block _ (by simp) (fun e => by injection e; omega)).trans (heap_alloc_new _ _)
    obtain ⟨r0, r1, r2, r3, r4, -⟩ := five_of_block hbx
    obtain ⟨o1, ho1, ho2⟩ := hobj
    have hz9 := HZ9.out
    have hz6 := HSZ.out
    have hsb : W9.heap.size + 2 ≤ Wb.heap.size := by have := hg.size; simp at this; omega
    have hbb : Below w.heap.size w Wb := (hbW.trans (hb0.mono hbW.size)).grown hg (by have := hbW.size; simp; omega) (fun k e => by cases e; have := bw9.size; omega)
    have hI1 := bides_row (t := 49) (te := 74) (n₀ := w.heap.size) (size := 3) (fun pre => (barsOf pre).length) (fun pre => bcellsL (barsOf pre)) (show w2.heap.size < W9.heap.size by omega) (show 74 ≠ 43 by decide) pre _ Wb (some (W9.heap.size + 1)) ⟨v, hv.alloc _, hrow.alloc _⟩ hg (fun b e => by cases e; exact ⟨by omega, o1, ho1, .inl ho2⟩)
    obtain ⟨v, hvB, hrowB⟩ := hI1
    have hcB := hvB.cell
    have HBK := Lib.hid hbk
    have hwb : w.heap.size ≤ Wb.heap.size := by omega
    clear hv hrow hbk ho1 ho2 hbx
    by_cases h66 : q.1 = 66
    · have r0' : Wb.cell? ⟨W.heap.size, 0, none⟩ = some (.int .i32 66) := by rw [h66] at r0; exact r0
      have HSN := Lib.hid (show barsOf (pre ++ [q]) = barsOf pre ++ [⟨q.2.1.x, q.2.1.y, q.2.2.x - q.2.1.x⟩] by rw [HSNOC.out, if_pos h66])
      clear r0 h66 hq1 HSNOC
      gi_wp2_with (gi_at_builtin; refine wpListIn_append_own _ rfl _ _ 49 rfl w.heap.size 74 ib (.agg #[.int .i64 0, .int .i64 0, .int .i64 0]) 3 24 Tryz.underlying49 HB.out HB0.out HB1.out HB2.out rfl (by decide) _ _ _ rfl (hrowB.alloc _) ⟨Wb.heap.size, 0, none⟩ 1 1 [.int .i64 q.2.1.x, .int .i64 q.2.1.y, .int .i64 (q.2.2.x - q.2.1.x)] rfl rfl (three_new _ _ _ _ _) (by intro u hu; simp at hu; rcases hu with rfl | rfl | rfl <;> rfl) (by unfold maxLen; omega) (by omega) (by simp; omega) ?_; intro v' w1' hown' hgrow _; obtain ⟨g', cap', rfl⟩ := ownsRow_succ hown'; obtain ⟨hv1, hv2, hr2, hk2, hb2'⟩ := hvB.appended (by decide) hrowB hwb (by omega) hown' hgrow; have hkt := KT.appended (B1 := w6.heap.size) (Bo := w2.heap.size) (by omega) (by decide) hrowB hgrow (.slice (some ⟨g', 0, none⟩) ((barsOf pre).length + 1) cap'); have hc1 := hv1.cell; have hf1 := hv1.frozen)
      exact ⟨Book.others hk2 HBK.out.1 HBK.out.2, hkt, ⟨_, hv2, by rw [HSN.out, bcellsL_snoc]; simpa using hr2⟩, hbb.trans hb2', by have := hb2'.size; omega⟩
    · have hne : ((q.1.toNat : Int) == 66) = false := by
        rw [beq_eq_false_iff_ne]
        intro e
        exact h66 (UInt8.toNat.inj (by show q.1.toNat = 66; omega))
      have HSN := Lib.hid (show barsOf (pre ++ [q]) = barsOf pre by rw [HSNOC.out, if_neg h66, List.append_nil])
      clear h66 hq1 HSNOC
      gi_wp2
      exact ⟨Book.below hsb (Below.refl _ _), KT.of_below (Below.refl _ _), ⟨_, hvB, by rw [HSN.out]; exact hrowB⟩, hbb, by omega⟩
  case done =>
    rintro D ys W hD hS ⟨⟨v, hv, hrow⟩, hbW, hsW⟩ hK
    subst hA0
    subst hS
    have hc := hv.cell
    go_wp2
    refine ⟨by simp, .inl ⟨_, _, rfl, run_takeDeferred hK, ?_⟩⟩
    rw [barsOf_legs] at hrow
    exact ⟨_, results_tmp2 rfl _ _ _, v, rfl, ownsRow_putObj hrow _ hK rfl, hbW.trans (belowK_b (w := W9) (n₀ := w.heap.size) bw9.size W D _ _ hD hK rfl rfl)⟩
set_option maxHeartbeats 4000000 in
set_option maxRecDepth 100000 in
theorem tpMeshesG (x y : Int) (s : ByteArray) (c : Nat) (o : Bool) (w : World) (h : EdgeG x y s c o) :
    Calls Tryz.prog 19 #[.agg #[.int .i64 x, .int .i64 y], .string s, .int .i64 c, .bool o] w (MidPost (midsP (sg o) ⟨x, y⟩ (Lib.repeatL s.data.toList c)) w) := by
  have HE := Lib.hid h
  have HL := Lib.hid (h.legs)
  have HLEN := Lib.hid (show (legsL (sg o) ⟨x, y⟩ (Lib.repeatL s.data.toList c)).length ≤ 256 by rw [legsL_length, rep_len]; exact h.2.2.1)
  obtain ⟨hs, h1, h2, ⟨⟨x1, x2⟩, ⟨y1, y2⟩, hp⟩, -⟩ := h
  simp only at x1 x2 y1 y2 hp
  have HS := Lib.hid hs
  clear hs h1 hp
  refine (callsIn_wide (n := 6)).1 (callsIn_of_wp_marks Tryz.func19 rfl trivial (wpIn_wide.2 ?_) rfl)
  simp only [Tryz.ntmps19, List.size_toArray, List.length_cons, List.length_nil, Nat.reduceAdd, Nat.reduceSub, Array.replicate_succ, Array.replicate_zero, List.push_toArray, List.append_toArray, List.nil_append, List.cons_append]
  obtain ⟨w1, hw1, e0, e1, hb1, hz1⟩ := box2 w (.int .i64 x) (.int .i64 y) 43
  have HW1 := Lib.hid hw1
  clear hw1
  go_wp2_with fail
  rw [← HW1.out]
  refine (tpCheckEdgeG x y s c o _ HE.out).mono ?_
  rintro e w2 ⟨rfl, hb2⟩
  have f0 := (hb2.cell (p := ⟨w.heap.size, 0, none⟩) hz1).trans e0
  have f1 := (hb2.cell (p := ⟨w.heap.size, 1, none⟩) hz1).trans e1
  have hbw := hb1.trans (hb2.mono hb1.size)
  have hz2 := hb2.size
  have bO := Boxed.new w2 52 (.slice none 0 0)
  have hb3 : Below w2.heap.size w2 (w2.alloc (.cells #[.slice none 0 0] 52)) := (Below.refl _ _).alloc (Nat.le_refl _) _
  have g0 := (hb3.cell (p := ⟨w.heap.size, 0, none⟩) (by show w.heap.size < _; omega)).trans f0
  have g1 := (hb3.cell (p := ⟨w.heap.size, 1, none⟩) (by show w.heap.size < _; omega)).trans f1
  have HSZ := Lib.hid (show (w2.alloc (.cells #[.slice none 0 0] 52)).heap.size = w2.heap.size + 1 by simp)
  obtain ⟨w6, hw6⟩ : ∃ w6, w2.alloc (.cells #[.slice none 0 0] 52) = w6 := ⟨_, rfl⟩
  rw [hw6] at bO hb3 HSZ
  have HW6 := Lib.hid hw6
  clear hw6 f0 f1 e0 e1
  go_wp2_with fail
  rw [HW6.out]
  refine (tpLegs x y s c o _).mono ?_
  rintro e w7 ⟨rfl, hw7⟩
  obtain ⟨W9, hW9, hb9, hz9, q0, q1, q2, q3⟩ := legs_boxes w6 x y c s o
  rw [← hW9] at hw7
  have hw7' := hw7.symm
  subst hw7'
  clear hW9
  have HZ9 := Lib.hid hz9
  have hz6 := HSZ.out
  have bO9 : Boxed W9 w2.heap.size 52 (.slice none 0 0) := (hb9.block _ (by omega)).trans bO
  have bw6 := hbw.trans (hb3.mono hbw.size)
  have bw9 := bw6.trans (hb9.mono bw6.size)
  have hwz := hbw.size
  obtain ⟨ib, hib, hi0, hi1, hi2⟩ := info_parts infoP
  have HB := Lib.hid hib
  have HB0 := Lib.hid hi0
  have HB1 := Lib.hid hi1
  have HB2 := Lib.hid hi2
  clear hz9 hw7 hz6 hib hi0 hi1 hi2
  go_wp2_with fail
  have hvis := legs_visits w6.heap.size 4 w6.heap.size (w6.heap.size + 1) (w6.heap.size + 2) (w6.heap.size + 3) 66 (by omega) x y s c o W9 (by decide) HS.out h2 (by omega) (by omega) (by omega) (by omega) (by omega) (by rw [HZ9.out]; omega) q0 q1 q2 q3
  refine (wpIn_wide (n := 5)).1 ?_
  generalize hA0 : (Act.mk _ _) = A0
  refine wpIn_visits (n := 5) (by omega) (gf := 99) (lb := #[.pointer (some ⟨w6.heap.size, 0, none⟩), .pointer (some ⟨w6.heap.size + 1, 0, none⟩), .pointer (some ⟨w6.heap.size + 2, 0, none⟩), .pointer (some ⟨w6.heap.size + 3, 0, none⟩)]) (by rw [← hA0]; rfl) ?eg hvis KT.trans (KT.put (w := W9)) (fun _ => rfl)
    (fun pre W => (∃ v, Boxed W w2.heap.size 52 v ∧ W.ownsRow w.heap.size 66 2 v (midsOf (sg o) pre).length (kcellsL (midsOf (sg o) pre))) ∧ (Below w.heap.size w W ∧ W9.heap.size ≤ W.heap.size))
    (Bides.and (bides_row (fun pre => (midsOf (sg o) pre).length) (fun pre => kcellsL (midsOf (sg o) pre)) (by rw [HZ9.out, HSZ.out]; omega) (by decide)) (Bides.and (bides_below bw9.size (Nat.le_refl _)) bides_size)) ⟨⟨_, bO9, World.ownsRow_nil _ _ _ _⟩, bw9, Nat.le_refl _⟩ ?round ?done
  case eg => exact fun _ _ => by kernel_rfl
  case round =>
    rintro l pre q W hz ⟨⟨v, hv, hrow⟩, hbW, hsW⟩ ⟨r, hr⟩
    obtain ⟨hq1, hq2, hq3, hq4⟩ := HL.out q (by rw [hr]; simp)
    have HQ2 := Lib.hid hq2
    clear hq2
    have hpre : (midsOf (sg o) pre).length ≤ 256 := by
      have h1 := HLEN.out
      rw [hr] at h1
      have : ∀ l : List (UInt8 × Knot × Knot), (midsOf (sg o) l).length ≤ l.length := fun l => by
        induction l with
        | nil => simp [midsOf]
        | cons a t ih =>
          have e : midsOf (sg o) (a :: t) = (if a.1 = 66 then [] else [midK (sg o) a.2.1 a.1]) ++ midsOf (sg o) t := by simp [midsOf]
          rw [e, List.length_append, List.length_cons]
          split <;> simp <;> omega
      have := this pre
      simp at h1
      omega
    obtain ⟨⟨a1, a2⟩, ⟨b1, b2⟩, -⟩ := hq3
    obtain ⟨⟨a3, a4⟩, ⟨b3, b4⟩, -⟩ := hq4
    have HSNOC := Lib.hid (midsOf_snoc (sg o) pre q)
    subst hA0
    dsimp only [legArr]
    gi_wp2
    have hb0 : Below W.heap.size W (W.alloc (.cells #[.int .i32 (q.1.toNat : Int), .int .i64 q.2.1.x, .int .i64 q.2.1.y, .int .i64 q.2.2.x, .int .i64 q.2.2.y] 104)) := (Below.refl _ _).alloc (Nat.le_refl _) _
    refine ⟨Book.below hz hb0, KT.of_below hb0, fun Wb hg hobj hbk => ?_⟩
    have hbx : Wb.heap[W.heap.size]? = some (.cells #[.int .i32 (q.1.toNat : Int), .int .i64 q.2.1.x, .int .i64 q.2.1.y, .int .i64 q.2.2.x, .int .i64 q.2.2.y] 104 (0, 0)) :=
      (hg.block _ (by simp) (fun e => by injection e; omega)).trans (heap_alloc_new _ _)
    obtain ⟨r0, r1, r2, r3, r4, -⟩ := five_of_block hbx
    obtain ⟨o1, ho1, ho2⟩ := hobj
    have hz9 := HZ9.out
    have hz6 := HSZ.out
    have hsb : W9.heap.size + 2 ≤ Wb.heap.size := by have := hg.size; simp at this; omega
    have hbb : Below w.heap.size w Wb := (hbW.trans (hb0.mono hbW.size)).grown hg (by have := hbW.size; simp; omega) (fun k e => by cases e; have := bw9.size; omega)
    have hI1 := bides_row (t := 52) (te := 66) (n₀ := w.heap.size) (size := 2) (fun pre => (midsOf (sg o) pre).length) (fun pre => kcellsL (midsOf (sg o) pre)) (show w2.heap.size < W9.heap.size by omega) (show 66 ≠ 43 by decide) pre _ Wb (some (W9.heap.size + 1)) ⟨v, hv.alloc _, hrow.alloc _⟩ hg (fun b e => by cases e; exact ⟨by omega, o1, ho1, .inl ho2⟩)
    obtain ⟨v, hvB, hrowB⟩ := hI1
    have hcB := hvB.cell
    have HBK := Lib.hid hbk
    have hwb : w.heap.size ≤ Wb.heap.size := by omega
    clear hv hrow hbk ho1 ho2 hbx
    by_cases h66 : q.1 = 66
    · have r0' : Wb.cell? ⟨W.heap.size, 0, none⟩ = some (.int .i32 66) := by rw [h66] at r0; exact r0
      have HSN := Lib.hid (show midsOf (sg o) (pre ++ [q]) = midsOf (sg o) pre by rw [HSNOC.out, if_pos h66, List.append_nil])
      clear r0 h66 hq1 HSNOC
      gi_wp2
      exact ⟨Book.below hsb (Below.refl _ _), KT.of_below (Below.refl _ _), ⟨_, hvB, by rw [HSN.out]; exact hrowB⟩, hbb, by omega⟩
    · have hne : ((q.1.toNat : Int) == 66) = false := by
        rw [beq_eq_false_iff_ne]
        intro e
        exact h66 (UInt8.toNat.inj (by show q.1.toNat = 66; omega))
      have hne' : ((q.1.toNat : Int) != 66) = true := by
        rw [bne_iff_ne]
        intro e
        exact h66 (UInt8.toNat.inj (by show q.1.toNat = 66; omega))
      obtain ⟨hm1, hm2⟩ := mids_half o (k := q.2.1) hq1 h66
      rw [← HQ2.out] at hm1 hm2
      have HSN := Lib.hid (show midsOf (sg o) (pre ++ [q]) = midsOf (sg o) pre ++ [midK (sg o) q.2.1 q.1] by rw [HSNOC.out, if_neg h66])
      obtain ⟨mb1, mb2, mb3, mb4⟩ := mid_near o q.2.1 q.1
      obtain ⟨m, hm⟩ : ∃ m, m = midK (sg o) q.2.1 q.1 := ⟨_, rfl⟩
      rw [← hm] at hm1 hm2 HSN mb1 mb2 mb3 mb4
      clear h66 hq1 HSNOC hm
      gi_wp2_with (gi_at_builtin; refine wpListIn_append_own _ rfl _ _ 52 rfl w.heap.size 66 ib (.agg #[.int .i64 0, .int .i64 0]) 2 16 Tryz.underlying52 HB.out HB0.out HB1.out HB2.out rfl (by decide) _ _ _ rfl (hrowB.alloc _) ⟨Wb.heap.size, 0, none⟩ 1 1 [.int .i64 m.x, .int .i64 m.y] rfl rfl (two_new _ _ _ _) (by intro u hu; simp at hu; rcases hu with rfl | rfl <;> rfl) (by unfold maxLen; omega) (by omega) (by simp; omega) ?_; intro v' w1' hown' hgrow _; obtain ⟨g', cap', rfl⟩ := ownsRow_succ hown'; obtain ⟨hv1, hv2, hr2, hk2, hb2'⟩ := hvB.appended (by decide) hrowB hwb (by omega) hown' hgrow; have hkt := KT.appended (B1 := w6.heap.size) (Bo := w2.heap.size) (by omega) (by decide) hrowB hgrow (.slice (some ⟨g', 0, none⟩) ((midsOf (sg o) pre).length + 1) cap'); have hc1 := hv1.cell; have hf1 := hv1.frozen)
      exact ⟨Book.others hk2 HBK.out.1 HBK.out.2, hkt, ⟨_, hv2, by rw [HSN.out, kcellsL_snoc]; simpa using hr2⟩, hbb.trans hb2', by have := hb2'.size; omega⟩
  case done =>
    rintro D ys W hD hS ⟨⟨v, hv, hrow⟩, hbW, hsW⟩ hK
    subst hA0
    subst hS
    have hc := hv.cell
    go_wp2
    refine ⟨by simp, .inl ⟨_, _, rfl, run_takeDeferred hK, ?_⟩⟩
    rw [midsOf_legs] at hrow
    exact ⟨_, results_tmp2 rfl _ _ _, v, rfl, ownsRow_putObj hrow _ hK rfl, hbW.trans (belowK_b (w := W9) (n₀ := w.heap.size) bw9.size W D _ _ hD hK rfl rfl)⟩
set_option maxHeartbeats 4000000 in
set_option maxRecDepth 100000 in
theorem tpWalkG (x y : Int) (s : ByteArray) (c : Nat) (o : Bool) (w : World) (h : EdgeG x y s c o) :
    Calls Tryz.prog 17 #[.agg #[.int .i64 x, .int .i64 y], .string s, .int .i64 c, .bool o] w (WalkPost (walkK (sg o) ⟨x, y⟩ (Lib.repeatL s.data.toList c)) w) := by
  have HE := Lib.hid h
  have HL := Lib.hid (h.legs)
  have HLEN := Lib.hid (show (legsL (sg o) ⟨x, y⟩ (Lib.repeatL s.data.toList c)).length ≤ 256 by rw [legsL_length, rep_len]; exact h.2.2.1)
  obtain ⟨hs, h1, h2, ⟨⟨x1, x2⟩, ⟨y1, y2⟩, hp⟩, -⟩ := h
  simp only at x1 x2 y1 y2 hp
  have HS := Lib.hid hs
  clear hs h1 hp
  refine (callsIn_wide (n := 6)).1 (callsIn_of_wp_marks Tryz.func17 rfl trivial (wpIn_wide.2 ?_) rfl)
  simp only [Tryz.ntmps17, List.size_toArray, List.length_cons, List.length_nil, Nat.reduceAdd, Nat.reduceSub, Array.replicate_succ, Array.replicate_zero, List.push_toArray, List.append_toArray, List.nil_append, List.cons_append]
  obtain ⟨w1, hw1, e0, e1, hb1, hz1⟩ := box2 w (.int .i64 x) (.int .i64 y) 43
  have HW1 := Lib.hid hw1
  clear hw1
  go_wp2_with fail
  rw [← HW1.out]
  refine (tpCheckEdgeG x y s c o _ HE.out).mono ?_
  rintro e w2 ⟨rfl, hb2⟩
  have f0 := (hb2.cell (p := ⟨w.heap.size, 0, none⟩) hz1).trans e0
  have f1 := (hb2.cell (p := ⟨w.heap.size, 1, none⟩) hz1).trans e1
  have hbw := hb1.trans (hb2.mono hb1.size)
  have hz2 := hb2.size
  have hwz := hbw.size
  obtain ⟨w6, hw6, hb3, hsz6, bO, hrow0⟩ : ∃ w6, (w2.alloc (.cells #[.int .i64 x, .int .i64 y] 43)).alloc (.cells #[.slice (some ⟨w2.heap.size, 0, none⟩) 1 1] 46) = w6 ∧ Below w2.heap.size w2 w6 ∧ w6.heap.size = w2.heap.size + 2 ∧ Boxed w6 (w2.heap.size + 1) 46 (.slice (some ⟨w2.heap.size, 0, none⟩) 1 1) ∧ w6.ownsRow w.heap.size 43 2 (.slice (some ⟨w2.heap.size, 0, none⟩) 1 1) 1 [.int .i64 x, .int .i64 y] := by
    refine ⟨_, rfl, ((Below.refl _ _).alloc (Nat.le_refl _) _).alloc (by simp) _, by simp, ?_, (krow_one w2 w.heap.size hwz _ _ _).alloc _⟩
    have := Boxed.new (w2.alloc (.cells #[.int .i64 x, .int .i64 y] 43)) 46 (.slice (some ⟨w2.heap.size, 0, none⟩) 1 1)
    rwa [World.size_alloc] at this
  have g0 := (hb3.cell (p := ⟨w.heap.size, 0, none⟩) (by show w.heap.size < _; omega)).trans f0
  have g1 := (hb3.cell (p := ⟨w.heap.size, 1, none⟩) (by show w.heap.size < _; omega)).trans f1
  have HSZ := Lib.hid hsz6
  have HW6 := Lib.hid hw6
  have F0 : ((w2.alloc (.cells #[.int .i64 x, .int .i64 y] 43)).alloc (.cells #[.slice (some ⟨w2.heap.size, 0, none⟩) 1 1] 46)).cell? ⟨w.heap.size, 0, none⟩ = some (.int .i64 x) := by rw [hw6]; exact g0
  have F1 : ((w2.alloc (.cells #[.int .i64 x, .int .i64 y] 43)).alloc (.cells #[.slice (some ⟨w2.heap.size, 0, none⟩) 1 1] 46)).cell? ⟨w.heap.size, 1, none⟩ = some (.int .i64 y) := by rw [hw6]; exact g1
  clear hw6 e0 e1 hsz6
  go_wp2_with fail
  rw [HW6.out]
  clear f0 f1 F0 F1
  refine (tpLegs x y s c o _).mono ?_
  rintro e w7 ⟨rfl, hw7⟩
  obtain ⟨W9, hW9, hb9, hz9, q0, q1, q2, q3⟩ := legs_boxes w6 x y c s o
  rw [← hW9] at hw7
  have hw7' := hw7.symm
  subst hw7'
  clear hW9
  have HZ9 := Lib.hid hz9
  have hz6 := HSZ.out
  have bO9 : Boxed W9 (w2.heap.size + 1) 46 (.slice (some ⟨w2.heap.size, 0, none⟩) 1 1) := (hb9.block _ (by omega)).trans bO
  have hrow9 : KRow W9 w6.heap.size w.heap.size (.slice (some ⟨w2.heap.size, 0, none⟩) 1 1) 1 [.int .i64 x, .int .i64 y] :=
    ⟨hrow0.kept (row := none) ⟨hb9.os, hb9.tape, hb9.output, hb9.size, fun i hi _ => hb9.block i hi⟩ (.inr (by simp [Value.ownBlock])), fun _ g hg => by simp [Value.ownBlock] at hg; omega⟩
  have bw6 := hbw.trans (hb3.mono hbw.size)
  have bw9 := bw6.trans (hb9.mono bw6.size)
  obtain ⟨ib, hib, hi0, hi1, hi2⟩ := info_parts Tryz.info43
  have HB := Lib.hid hib
  have HB0 := Lib.hid hi0
  have HB1 := Lib.hid hi1
  have HB2 := Lib.hid hi2
  clear hz9 hw7 hz6 hib hi0 hi1 hi2 hrow0
  go_wp2_with fail
  have hvis := legs_visits w6.heap.size 4 w6.heap.size (w6.heap.size + 1) (w6.heap.size + 2) (w6.heap.size + 3) 43 (by omega) x y s c o W9 (by decide) HS.out h2 (by omega) (by omega) (by omega) (by omega) (by omega) (by rw [HZ9.out]; omega) q0 q1 q2 q3
  refine (wpIn_wide (n := 5)).1 ?_
  generalize hA0 : (Act.mk _ _) = A0
  refine wpIn_visits (n := 5) (by omega) (gf := 99) (lb := #[.pointer (some ⟨w6.heap.size, 0, none⟩), .pointer (some ⟨w6.heap.size + 1, 0, none⟩), .pointer (some ⟨w6.heap.size + 2, 0, none⟩), .pointer (some ⟨w6.heap.size + 3, 0, none⟩)]) (by rw [← hA0]; rfl) ?eg hvis KT.trans (KT.put (w := W9)) (fun _ => rfl)
    (fun pre W => (∃ v, Boxed W (w2.heap.size + 1) 46 v ∧ KRow W w6.heap.size w.heap.size v (walkOf ⟨x, y⟩ pre).length (kcellsL (walkOf ⟨x, y⟩ pre))) ∧ (Below w.heap.size w W ∧ W9.heap.size ≤ W.heap.size))
    (Bides.and (bides_krow (fun pre => (walkOf ⟨x, y⟩ pre).length) (fun pre => kcellsL (walkOf ⟨x, y⟩ pre)) (by rw [HZ9.out, HSZ.out]; omega) (by rw [HZ9.out]; omega)) (Bides.and (bides_below bw9.size (Nat.le_refl _)) bides_size)) ⟨⟨_, bO9, hrow9⟩, bw9, Nat.le_refl _⟩ ?round ?done
  case eg => exact fun _ _ => by kernel_rfl
  case round =>
    rintro l pre q W hz ⟨⟨v, hv, hrow⟩, hbW, hsW⟩ ⟨r, hr⟩
    obtain ⟨-, -, -, hq4⟩ := HL.out q (by rw [hr]; simp)
    have hpre : (walkOf ⟨x, y⟩ pre).length ≤ 257 := by
      have h1 := HLEN.out
      rw [hr] at h1
      rw [walkOf_length]
      simp at h1
      omega
    obtain ⟨⟨a3, a4⟩, ⟨b3, b4⟩, -⟩ := hq4
    have HSN := Lib.hid (walkOf_snoc ⟨x, y⟩ pre q)
    have HWL := Lib.hid (walkOf_length ⟨x, y⟩ pre)
    have HWL2 := Lib.hid (walkOf_length ⟨x, y⟩ (pre ++ [q]))
    subst hA0
    dsimp only [legArr]
    gi_wp2
    have hb0 : Below W.heap.size W (W.alloc (.cells #[.int .i32 (q.1.toNat : Int), .int .i64 q.2.1.x, .int .i64 q.2.1.y, .int .i64 q.2.2.x, .int .i64 q.2.2.y] 104)) := (Below.refl _ _).alloc (Nat.le_refl _) _
    refine ⟨Book.below hz hb0, KT.of_below hb0, fun Wb hg hobj hbk => ?_⟩
    have hbx : Wb.heap[W.heap.size]? = some (.cells #[.int .i32 (q.1.toNat : Int), .int .i64 q.2.1.x, .int .i64 q.2.1.y, .int .i64 q.2.2.x, .int .i64 q.2.2.y] 104 (0, 0)) :=
      (hg.block _ (by simp) (fun e => by injection e; omega)).trans (heap_alloc_new _ _)
    obtain ⟨r0, r1, r2, r3, r4, -⟩ := five_of_block hbx
    obtain ⟨o1, ho1, ho2⟩ := hobj
    have hz9 := HZ9.out
    have hz6 := HSZ.out
    have hsb : W9.heap.size + 2 ≤ Wb.heap.size := by have := hg.size; simp at this; omega
    have hbb : Below w.heap.size w Wb := (hbW.trans (hb0.mono hbW.size)).grown hg (by have := hbW.size; simp; omega) (fun k e => by cases e; have := bw9.size; omega)
    have hI1 := bides_krow (t := 46) (e := 43) (n₀ := w.heap.size) (B1 := w6.heap.size) (fun pre => (walkOf ⟨x, y⟩ pre).length) (fun pre => kcellsL (walkOf ⟨x, y⟩ pre)) (show w2.heap.size + 1 < W9.heap.size by omega) (show w6.heap.size ≤ W9.heap.size by omega) pre _ Wb (some (W9.heap.size + 1)) ⟨v, hv.alloc _, hrow.alloc _⟩ hg (fun b e => by cases e; exact ⟨by omega, o1, ho1, .inl ho2⟩)
    obtain ⟨v, hvB, hrowB⟩ := hI1
    have hcB := hvB.cell
    have HBK := Lib.hid hbk
    have hwb : w.heap.size ≤ Wb.heap.size := by omega
    have HRB := Lib.hid hrowB
    have hrowP := hrowB.1
    clear hv hrow hrowB hbk ho1 ho2 hbx
    generalize hm : q.2.2 = m at *
    generalize walkOf ⟨x, y⟩ pre = wl at *
    gi_wp2_with (gi_at_builtin; refine wpListIn_append_own _ rfl _ _ 46 rfl w.heap.size 43 ib (.agg #[.int .i64 0, .int .i64 0]) 2 16 Tryz.underlying46 HB.out HB0.out HB1.out HB2.out rfl (by decide) _ _ _ rfl (hrowP.alloc _) ⟨Wb.heap.size, 0, none⟩ 1 1 [.int .i64 m.x, .int .i64 m.y] rfl rfl (two_new _ _ _ _) (by intro u hu; simp at hu; rcases hu with rfl | rfl <;> rfl) (by unfold maxLen; omega) (by omega) (by simp; omega) ?_; intro v' w1' hown' hgrow _; obtain ⟨g', cap', rfl⟩ := ownsRow_succ hown'; obtain ⟨hv1, hv2, hr2, hk2, hb2'⟩ := hvB.appended (by decide) hrowP hwb (by omega) hown' hgrow; have hkt := KT.appendedK (B1 := w6.heap.size) (Bo := w2.heap.size + 1) (by omega) HRB.out hgrow (.slice (some ⟨g', 0, none⟩) (wl.length + 1) cap'); have hc1 := hv1.cell; have hf1 := hv1.frozen)
    exact ⟨Book.others hk2 HBK.out.1 HBK.out.2, hkt, ⟨_, hv2, by rw [HSN.out, kcellsL_snoc]; simpa using hr2, fun h => by rw [HWL2.out] at h; simp at h⟩, hbb.trans hb2', by have := hb2'.size; omega⟩
  case done =>
    rintro D ys W hD hS ⟨⟨v, hv, hrow, -⟩, hbW, hsW⟩ hK
    subst hA0
    subst hS
    have hc := hv.cell
    go_wp2
    refine ⟨by simp, .inl ⟨_, _, rfl, run_takeDeferred hK, ?_⟩⟩
    exact ⟨_, results_tmp2 rfl _ _ _, v, rfl, ownsRow_putObj hrow _ hK rfl, hbW.trans (belowK_b (w := W9) (n₀ := w.heap.size) bw9.size W D _ _ hD hK rfl rfl)⟩
end Go.Proofs.YtfmfpnnglogkmaaGreatDoor

/- Power and Rotate of taper, at all arguments. -/
namespace Go.Proofs.YtfmfpnnglogkmaaGreatDoor
open Go.RowKit

def rotE (s : ByteArray) (n : Int) : Int := firstE [wordE s.data.toList, rngE n 0 999999999]
def rotS (s : ByteArray) (n : Int) : ByteArray := if rotE s n = 0 then ⟨(rotA s.data.toList (n.toNat % s.size)).toArray⟩ else ⟨#[]⟩
theorem first2_zero {a b : Int} (h : firstE [a, b] = 0) : a = 0 ∧ b = 0 := by
  simp only [firstE] at h
  repeat' split at h
  all_goals simp_all
set_option maxHeartbeats 2000000 in
set_option maxRecDepth 100000 in
theorem tpRotate (s : ByteArray) (n : Int) (w : World) :
    Calls Tryz.prog 34 #[.string s, .int .i64 n] w fun e w' => e = .returned (.tuple #[.string (rotS s n), .int .i64 (rotE s n)]) ∧ Below w.heap.size w w' := by
  by_cases h0 : rotE s n = 0
  · obtain ⟨hw0, hn0⟩ := first2_zero h0
    obtain ⟨n1, n2⟩ := rngE_zero hn0
    have hs := wordE_zero hw0
    rw [rotS, if_pos h0, h0]
    obtain ⟨N, rfl⟩ : ∃ N : Nat, n = (N : Int) := ⟨n.toNat, by omega⟩
    rw [Int.toNat_natCast]
    have h64 := hs.2.2
    have h1 := hs.2.1
    have hm := nat_tmod N s.size
    have hlt : N % s.size < s.size := Nat.mod_lt _ (by omega)
    obtain ⟨r, hr⟩ : ∃ r, N % s.size = r := ⟨_, rfl⟩
    rw [hr] at hm hlt ⊢
    have HV := Lib.hid hw0
    have HR := Lib.hid hn0
    have hzN : ¬ s.size = 0 := by omega
    clear hs hr h0 hw0 hn0
    go_enter Tryz.func34, Tryz.ntmps34
    go_wp2_with fail
    refine (tpCheckWordE s _).mono ?_
    rintro e w1 ⟨rfl, hb1⟩
    rw [HV.out]
    go_wp2_with fail
    refine (tpRng _ _ _ _).mono ?_
    rintro e w2 ⟨rfl, rfl⟩
    rw [HR.out]
    go_wp2_with fail
    refine (tpFirst2 _ _ _ _ 30 _ (by exact heap_alloc_new _ _)).mono ?_
    rintro e w3 ⟨rfl, rfl⟩
    rw [show firstE [0, 0] = 0 from rfl]
    have b3 : Below w.heap.size w (w1.alloc (.cells #[.int .i64 0, .int .i64 0] 30)) := hb1.alloc hb1.size _
    generalize World.alloc w1 _ = w4 at b3 ⊢
    go_wp2_with fail
    refine (tpRotated s r _ h64 hlt).mono ?_
    rintro e w5 ⟨rfl, hb5⟩
    go_wp2
    go_ret2
    exact ⟨rfl, b3.trans (hb5.mono b3.size)⟩
  · have hne := neE h0
    obtain ⟨E, hE⟩ : ∃ E, rotE s n = E := ⟨_, rfl⟩
    rw [rotS, if_neg h0, hE]
    rw [hE] at hne
    have HE := Lib.hid hE
    clear h0 hE
    go_enter Tryz.func34, Tryz.ntmps34
    go_wp2_with fail
    refine (tpCheckWordE s _).mono ?_
    rintro e w1 ⟨rfl, hb1⟩
    go_wp2_with fail
    refine (tpRng _ _ _ _).mono ?_
    rintro e w1' ⟨rfl, rfl⟩
    go_wp2_with fail
    refine (tpFirst2 _ _ _ _ 30 _ (by exact heap_alloc_new _ _)).mono ?_
    rintro e w3 ⟨rfl, rfl⟩
    rw [show firstE [wordE s.data.toList, rngE n 0 999999999] = E from HE.out]
    go_wp2
    go_ret2
    exact ⟨rfl, hb1.alloc hb1.size _⟩
def pow0 (s : ByteArray) (n : Int) : Int := firstE [wordE s.data.toList, rngE n 1 64]
def powE (s : ByteArray) (n : Int) : Int := if pow0 s n = 0 then lenE ((s.size : Int) * n) else pow0 s n
def powS (s : ByteArray) (n : Int) : ByteArray := if powE s n = 0 then ⟨(Lib.repeatL s.data.toList n.toNat).toArray⟩ else ⟨#[]⟩
end Go.Proofs.YtfmfpnnglogkmaaGreatDoor

/- Roots, rotations and least rotations of words: plain mathematics. -/
namespace Go.Proofs.YtfmfpnnglogkmaaGreatDoor
open Go.RowKit

theorem bl_cmp : ∀ a b : List UInt8, Lib.compareBytes a b < 0 ↔ Op.bytesLess a b = true
  | [], [] => by simp [Lib.compareBytes, Op.bytesLess]
  | [], _ :: _ => by simp [Lib.compareBytes, Op.bytesLess]
  | _ :: _, [] => by simp [Lib.compareBytes, Op.bytesLess]
  | x :: a, y :: b => by
    have ih := bl_cmp a b
    rw [Lib.compareBytes, Op.bytesLess]
    by_cases h1 : x < y
    · simp [h1]
    · by_cases h2 : y < x
      · have h3 : ¬ x = y := fun e => by rw [e] at h2; exact UInt8.lt_irrefl _ h2
        simp [h1, h2, h3]
      · have h3 : x = y := UInt8.le_antisymm (UInt8.not_lt.1 h2) (UInt8.not_lt.1 h1)
        rw [if_neg h1, if_neg h2, ih]
        simp [h3]
theorem bl_cons (x y : UInt8) (a b : List UInt8) : Op.bytesLess (x :: a) (y :: b) = true ↔ x.toNat < y.toNat ∨ (x.toNat = y.toNat ∧ Op.bytesLess a b = true) := by
  rw [Op.bytesLess, Bool.or_eq_true, Bool.and_eq_true, beq_iff_eq, decide_eq_true_eq, UInt8.lt_iff_toNat_lt]
  constructor
  · rintro (h | ⟨h, h'⟩)
    · exact .inl h
    · exact .inr ⟨by rw [h], h'⟩
  · rintro (h | ⟨h, h'⟩)
    · exact .inl h
    · exact .inr ⟨UInt8.toNat.inj h, h'⟩
/-- a is not behind b. -/
def bLe (a b : List UInt8) : Prop := Op.bytesLess b a = false
theorem bLe_refl : ∀ a : List UInt8, bLe a a
  | [] => rfl
  | x :: a => by
    have ih := bLe_refl a
    unfold bLe at ih ⊢
    rw [Bool.eq_false_iff] at ih ⊢
    intro h
    rcases (bl_cons _ _ _ _).1 h with h | ⟨_, h⟩
    · omega
    · exact ih h
theorem bLe_total : ∀ a b : List UInt8, bLe a b ∨ bLe b a
  | [], b => .inl (by cases b <;> rfl)
  | _ :: _, [] => .inr rfl
  | x :: a, y :: b => by
    have ih := bLe_total a b
    unfold bLe at ih ⊢
    rw [Bool.eq_false_iff, Bool.eq_false_iff] at ih ⊢
    simp only [ne_eq, bl_cons] at ih ⊢
    by_cases h1 : x.toNat < y.toNat
    · left; rintro (h | ⟨h, _⟩) <;> omega
    · by_cases h2 : y.toNat < x.toNat
      · right; rintro (h | ⟨h, _⟩) <;> omega
      · rcases ih with ih | ih
        · left; rintro (h | ⟨_, h⟩)
          · omega
          · exact ih h
        · right; rintro (h | ⟨_, h⟩)
          · omega
          · exact ih h
theorem bLe_trans : ∀ {a b c : List UInt8}, bLe a b → bLe b c → bLe a c
  | [], _, c => fun _ _ => by cases c <;> rfl
  | x :: a, [], _ => fun h _ => by simp [bLe, Op.bytesLess] at h
  | x :: a, y :: b, [] => fun _ h => by simp [bLe, Op.bytesLess] at h
  | x :: a, y :: b, z :: c => fun h1 h2 => by
    have ih := @bLe_trans a b c
    unfold bLe at ih h1 h2 ⊢
    rw [Bool.eq_false_iff] at h1 h2 ⊢
    simp only [ne_eq, bl_cons] at h1 h2 ⊢
    rintro (h | ⟨h, h'⟩)
    · by_cases g : y.toNat < x.toNat
      · exact h1 (.inl g)
      · exact h2 (.inl (by omega))
    · by_cases g : y.toNat < x.toNat
      · exact h1 (.inl g)
      · by_cases g2 : z.toNat < y.toNat
        · exact h2 (.inl g2)
        · have e1 : y.toNat = x.toNat := by omega
          have e2 : z.toNat = y.toNat := by omega
          have k1 : Op.bytesLess b a = false := Bool.eq_false_iff.2 fun k => h1 (.inr ⟨e1, k⟩)
          have k2 : Op.bytesLess c b = false := Bool.eq_false_iff.2 fun k => h2 (.inr ⟨e2, k⟩)
          rw [ih k1 k2] at h'
          cases h'
theorem bLe_antisymm : ∀ {a b : List UInt8}, bLe a b → bLe b a → a = b
  | [], [] => fun _ _ => rfl
  | [], _ :: _ => fun _ h => by simp [bLe, Op.bytesLess] at h
  | _ :: _, [] => fun h _ => by simp [bLe, Op.bytesLess] at h
  | x :: a, y :: b => fun h1 h2 => by
    have ih := @bLe_antisymm a b
    unfold bLe at ih h1 h2
    rw [Bool.eq_false_iff] at h1 h2
    simp only [ne_eq, bl_cons] at h1 h2
    have e : x.toNat = y.toNat := by
      by_cases g : y.toNat < x.toNat
      · exact absurd (.inl g) h1
      · by_cases g2 : x.toNat < y.toNat
        · exact absurd (.inl g2) h2
        · omega
    have k1 : Op.bytesLess b a = false := Bool.eq_false_iff.2 fun k => h1 (.inr ⟨e.symm, k⟩)
    have k2 : Op.bytesLess a b = false := Bool.eq_false_iff.2 fun k => h2 (.inr ⟨e, k⟩)
    rw [UInt8.toNat.inj e, ih k1 k2]
theorem bLe_gtr {a b : List UInt8} (h : bLe a b) : (!(Op.bytesLess a b || a == b)) = false := by
  by_cases hb : Op.bytesLess a b = true
  · rw [hb]; rfl
  · have : a = b := bLe_antisymm h (by rw [bLe]; exact Bool.eq_false_iff.2 hb)
    rw [this]
    simp
/-- The least rotation is not behind the others. -/
theorem lstF_le (L : List UInt8) : ∀ i j, j < i → bLe (rotA L (lstF L i)) (rotA L j)
  | 0, j, h => by omega
  | i + 1, j, h => by
    rw [lstF]
    by_cases hc : Lib.compareBytes (rotA L i) (rotA L (lstF L i)) < 0
    · rw [if_pos hc]
      have hl := (bl_cmp _ _).1 hc
      have hle : bLe (rotA L i) (rotA L (lstF L i)) := by
        rcases bLe_total (rotA L i) (rotA L (lstF L i)) with g | g
        · exact g
        · rw [bLe, hl] at g; cases g
      by_cases hj : j = i
      · rw [hj]; exact bLe_refl _
      · exact bLe_trans hle (lstF_le L i j (by omega))
    · rw [if_neg hc]
      by_cases hj : j = i
      · rw [hj]
        exact Bool.eq_false_iff.2 fun k => hc ((bl_cmp _ _).2 k)
      · exact lstF_le L i j (by omega)
theorem lstW_le {L : List UInt8} {j : Nat} (h : j < L.length) : bLe (lstW L) (rotA L j) := lstF_le L L.length j h
theorem lstW_is {L : List UInt8} (h : 0 < L.length) : ∃ i, i < L.length ∧ lstW L = rotA L i := ⟨lstF L L.length, by have := lstF_lt L L.length; omega, rfl⟩
theorem rotA_len {L : List UInt8} {a : Nat} (_ : a ≤ L.length) : (rotA L a).length = L.length := by
  rw [rotA, List.length_append, List.length_drop, List.length_take]
  omega
theorem rotA_zero (L : List UInt8) : rotA L 0 = L := by simp [rotA]
theorem rotA_rot {L : List UInt8} {a b : Nat} (ha : a < L.length) (hb : b < L.length) : rotA (rotA L a) b = rotA L (if a + b < L.length then a + b else a + b - L.length) := by
  split
  · rename_i h
    unfold rotA
    rw [List.drop_append_of_le_length (by rw [List.length_drop]; omega), List.take_append_of_le_length (by rw [List.length_drop]; omega), List.drop_drop, List.append_assoc, ← List.take_add]
  · rename_i h
    obtain ⟨c, hc⟩ : ∃ c, b = L.length - a + c := ⟨b - (L.length - a), by omega⟩
    have e : a + b - L.length = c := by omega
    rw [e]
    unfold rotA
    have hd : (L.drop a).length = L.length - a := List.length_drop
    rw [hc, ← hd, List.drop_length_add_append, List.take_length_add_append, List.drop_take, List.take_take]
    have e2 : min c a = c := by omega
    rw [e2]
    have : L.drop c = (L.drop c).take (a - c) ++ L.drop a := by
      conv => lhs; rw [← List.take_append_drop (a - c) (L.drop c), List.drop_drop]
      rw [show c + (a - c) = a by omega]
    rw [← List.append_assoc, ← this]
theorem rot_back {L : List UInt8} {a : Nat} (h : a < L.length) : rotA (rotA L a) ((L.length - a) % L.length) = L := by
  by_cases h0 : a = 0
  · subst h0
    rw [Nat.sub_zero, Nat.mod_self, rotA_zero, rotA_zero]
  · rw [Nat.mod_eq_of_lt (by omega), rotA_rot h (by omega), if_neg (by omega)]
    rw [show a + (L.length - a) - L.length = 0 by omega, rotA_zero]
theorem lst_rot {L : List UInt8} {a : Nat} (h : a < L.length) : lstW (rotA L a) = lstW L := by
  have hl := rotA_len (L := L) (a := a) (by omega)
  apply bLe_antisymm
  · obtain ⟨i, hi, e⟩ := lstW_is (L := L) (by omega)
    rw [e]
    have hj : ∃ j, j < L.length ∧ rotA (rotA L a) j = rotA L i := by
      by_cases g : a ≤ i
      · exact ⟨i - a, by omega, by rw [rotA_rot h (by omega), if_pos (by omega)]; rw [show a + (i - a) = i by omega]⟩
      · exact ⟨i + L.length - a, by omega, by rw [rotA_rot h (by omega), if_neg (by omega)]; rw [show a + (i + L.length - a) - L.length = i by omega]⟩
    obtain ⟨j, hj, e2⟩ := hj
    rw [← e2]
    exact lstW_le (by omega)
  · obtain ⟨i, hi, e⟩ := lstW_is (L := rotA L a) (by omega)
    rw [e, rotA_rot h (by omega)]
    exact lstW_le (by split <;> omega)
theorem lst_len {L : List UInt8} (h : 0 < L.length) : (lstW L).length = L.length := by
  obtain ⟨i, hi, e⟩ := lstW_is h
  rw [e, rotA_len (by omega)]
theorem lst_self {L : List UInt8} (h : 0 < L.length) : bLe (lstW L) L := by
  have := lstW_le (L := L) (j := 0) h
  rwa [rotA_zero] at this
theorem vecL_app (a b : List UInt8) : vecL (a ++ b) = ((vecL a).1 + (vecL b).1, (vecL a).2 + (vecL b).2) := by simp [vecL]
theorem vec_rot (L : List UInt8) (a : Nat) : vecL (rotA L a) = vecL L := by
  conv => rhs; rw [← List.take_append_drop a L]
  rw [rotA, vecL_app, vecL_app]
  exact Prod.ext (Int.add_comm _ _) (Int.add_comm _ _)
theorem vec_repeat (L : List UInt8) : ∀ k, vecL (Lib.repeatL L k) = ((k : Int) * (vecL L).1, (k : Int) * (vecL L).2)
  | 0 => by simp [Lib.repeatL, vecL]
  | k + 1 => by
    rw [Lib.repeatL, vecL_app, vec_repeat L k]
    refine Prod.ext ?_ ?_
    · show _ + (k : Int) * _ = ((k + 1 : Nat) : Int) * _
      push_cast
      grind
    · show _ + (k : Int) * _ = ((k + 1 : Nat) : Int) * _
      push_cast
      grind
/-! ### Roots -/
theorem leastF_pass {P : Nat → Bool} {G : Nat} : ∀ k n, n + k = G → leastF P G k n = G ∨ P (leastF P G k n) = true
  | 0, _, _ => .inl rfl
  | k + 1, n, h => by
    rw [leastF]
    split
    · right; assumption
    · exact leastF_pass k (n + 1) (by omega)
theorem leastF_low {P : Nat → Bool} {G : Nat} : ∀ k n m, n ≤ m → m < n + k → P m = true → leastF P G k n ≤ m
  | 0, _, _, h1, h2, _ => by omega
  | k + 1, n, m, h1, h2, h3 => by
    rw [leastF]
    split
    · exact h1
    · rename_i hp
      have : n ≠ m := fun e => hp (by rw [e]; exact h3)
      exact leastF_low k (n + 1) m (by omega) (by omega) h3
theorem leastN_low {P : Nat → Bool} {G m : Nat} (h1 : 1 ≤ m) (h2 : m < G) (h : P m = true) : leastN P G ≤ m := leastF_low _ _ _ h1 (by omega) h
theorem repeat_one (L : List UInt8) : Lib.repeatL L 1 = L := by simp [Lib.repeatL]
theorem root_facts {L : List UInt8} (h : 1 ≤ L.length) : 1 ≤ rootN L ∧ rootN L ≤ L.length ∧ L.length % rootN L = 0 ∧ L = Lib.repeatL (L.take (rootN L)) (L.length / rootN L) := by
  obtain ⟨h1, h2⟩ := leastN_range (powB L) h
  refine ⟨h1, h2, ?_⟩
  rcases leastF_pass (P := powB L) (G := L.length) (L.length - 1) 1 (by omega) with g | g
  · have e : rootN L = L.length := g
    rw [e, Nat.mod_self, Nat.div_self (by omega), List.take_length, repeat_one]
    exact ⟨rfl, rfl⟩
  · have g' : powB L (rootN L) = true := g
    unfold powB at g'
    rw [Bool.and_eq_true, decide_eq_true_eq, beq_iff_eq] at g'
    exact g'
theorem repeat_repeat (L : List UInt8) (m : Nat) : ∀ n, Lib.repeatL (Lib.repeatL L m) n = Lib.repeatL L (m * n)
  | 0 => by simp [Lib.repeatL]
  | n + 1 => by
    have add : ∀ a b, Lib.repeatL L (a + b) = Lib.repeatL L a ++ Lib.repeatL L b := by
      intro a b
      induction a with
      | zero => simp [Lib.repeatL]
      | succ a ih => rw [Nat.add_right_comm, Lib.repeatL, ih, Lib.repeatL, List.append_assoc]
    rw [Lib.repeatL, repeat_repeat L m n, Nat.mul_add, Nat.mul_one, Nat.add_comm, add]
theorem root_root {L : List UInt8} (h : 1 ≤ L.length) : rootN (L.take (rootN L)) = rootN L := by
  obtain ⟨h1, h2, h3, h4⟩ := root_facts h
  obtain ⟨n, hn⟩ : ∃ n, rootN L = n := ⟨_, rfl⟩
  rw [hn] at h1 h2 h3 h4 ⊢
  have hl : (L.take n).length = n := by rw [List.length_take]; omega
  obtain ⟨g1, g2, g3, g4⟩ := root_facts (L := L.take n) (by omega)
  obtain ⟨m, hm⟩ : ∃ m, rootN (L.take n) = m := ⟨_, rfl⟩
  rw [hm] at g1
  rw [hm, hl] at g2 g3 g4
  rw [hm]
  by_cases hlt : m < n
  · exfalso
    have d1 := Nat.dvd_of_mod_eq_zero g3
    have d2 := Nat.dvd_of_mod_eq_zero h3
    have hp : powB L m = true := by
      unfold powB
      rw [Bool.and_eq_true, decide_eq_true_eq, beq_iff_eq]
      refine ⟨Nat.mod_eq_zero_of_dvd (Nat.dvd_trans d1 d2), ?_⟩
      rw [List.take_take, Nat.min_eq_left (by omega)] at g4
      rw [g4, repeat_repeat] at h4
      have e : n / m * (L.length / n) = L.length / m := by
        obtain ⟨p, rfl⟩ := d1
        obtain ⟨q, hq⟩ := d2
        rw [hq, Nat.mul_div_cancel_left _ (by omega), Nat.mul_div_cancel_left _ (by omega), Nat.mul_assoc, Nat.mul_div_cancel_left _ (by omega)]
      rwa [e] at h4
    have := leastN_low (P := powB L) (G := L.length) g1 (by omega) hp
    have e : leastN (powB L) L.length = n := hn
    omega
  · omega
end Go.Proofs.YtfmfpnnglogkmaaGreatDoor

/- Plain mathematics for TaperReturns: knots, bars and meshes along an edge. -/
namespace Go.Proofs.YtfmfpnnglogkmaaGreatDoor
open Go.RowKit Go.Shelf Ck

theorem edgeG_of {x y : Int} {s : ByteArray} {c : Nat} (o : Bool) (hs : Word s) (h1 : 1 ≤ c) (h2 : c * s.size ≤ 256) (hk : okKnot ⟨x, y⟩) (hx : x ≤ 90000) (hx' : -90000 ≤ x) (hy : y ≤ 90000) : EdgeG x y s c o := by
  have hl : (Lib.repeatL s.data.toList c).length ≤ 256 := by rw [rep_len]; exact h2
  exact ⟨hs, h1, h2, hk, fun q hq => (legs_ok o _ _ (rep_letters hs c) hk (by simp; omega) (by simp; omega) (by simp; omega) q hq).2.2.2⟩
theorem posK_vec (σ : Int) : ∀ (l : List UInt8) (k : Knot), posK σ k l = ⟨k.x + σ * (vecL l).1, k.y + (vecL l).2⟩
  | [], k => by simp [posK, vecL]
  | c :: r, k => by
    have ih := posK_vec σ r (stepK σ k c)
    have e : posK σ k (c :: r) = posK σ (stepK σ k c) r := rfl
    have v1 : (vecL (c :: r)).1 = dxL c + (vecL r).1 := by simp [vecL]
    have v2 : (vecL (c :: r)).2 = dyL c + (vecL r).2 := by simp [vecL]
    rw [e, ih, v1, v2]
    simp only [stepK, Knot.mk.injEq]
    exact ⟨by rw [Int.mul_add]; omega, by omega⟩
theorem rep_at (s : List UInt8) : ∀ (c i : Nat) (_ : i < (Lib.repeatL s c).length), (Lib.repeatL s c)[i]? = s[i % s.length]?
  | 0, i, h => by simp [Lib.repeatL] at h
  | c + 1, i, h => by
    have e : Lib.repeatL s (c + 1) = s ++ Lib.repeatL s c := rfl
    rw [e] at h ⊢
    by_cases hi : i < s.length
    · rw [List.getElem?_append_left hi, Nat.mod_eq_of_lt hi]
    · rw [List.getElem?_append_right (by omega), rep_at s c (i - s.length) (by rw [List.length_append] at h; omega), ← Nat.mod_eq_sub_mod (by omega)]
theorem barsP_append (σ : Int) : ∀ (A B : List UInt8) (k : Knot), barsP σ k (A ++ B) = barsP σ k A ++ barsP σ (posK σ k A) B
  | [], _, _ => rfl
  | c :: r, B, k => by
    have ih := barsP_append σ r B (stepK σ k c)
    have e : posK σ k (c :: r) = posK σ (stepK σ k c) r := rfl
    rw [List.cons_append, barsP_cons, barsP_cons, ih, e]
    split <;> rfl
theorem midsP_append (σ : Int) : ∀ (A B : List UInt8) (k : Knot), midsP σ k (A ++ B) = midsP σ k A ++ midsP σ (posK σ k A) B
  | [], _, _ => rfl
  | c :: r, B, k => by
    have ih := midsP_append σ r B (stepK σ k c)
    have e : posK σ k (c :: r) = posK σ (stepK σ k c) r := rfl
    rw [List.cons_append, midsP, midsP, ih, e]
    split <;> rfl
theorem midsP_len (σ : Int) : ∀ (l : List UInt8) (k : Knot), (midsP σ k l).length + barsN l = l.length
  | [], _ => rfl
  | c :: r, k => by
    have ih := midsP_len σ r (stepK σ k c)
    have hb : barsN (c :: r) = barsN r + (if c = 66 then 1 else 0) := by simp [barsN, List.countP_cons]
    rw [midsP, hb]
    split
    · simp only [List.length_cons]; omega
    · simp only [List.length_cons]; omega
theorem split_at {L : List UInt8} {i : Nat} (h : i < L.length) : L = L.take i ++ L[i] :: L.drop (i + 1) := by
  rw [List.getElem_cons_drop]
  exact (List.take_append_drop i L).symm
theorem barsP_at {σ : Int} {L : List UInt8} {k : Knot} {i : Nat} (h : i < L.length) (hc : L[i] = 66) : (barsP σ k L)[barsN (L.take i)]? = some ⟨(posK σ k (L.take i)).x, (posK σ k (L.take i)).y, σ⟩ := by
  conv => lhs; rw [split_at h]
  rw [barsP_append, List.take_append_of_le_length (by rw [List.length_take]; omega), List.take_take, Nat.min_self, List.getElem?_append_right (by rw [barsP_length]; exact Nat.le_refl _), barsP_length, Nat.sub_self, barsP_cons, if_pos hc]
  rfl
theorem midsP_at {σ : Int} {L : List UInt8} {k : Knot} {i : Nat} (h : i < L.length) (hc : L[i] ≠ 66) : (midsP σ k L)[i - barsN (L.take i)]? = some (midK σ (posK σ k (L.take i)) L[i]) := by
  have hl := midsP_len σ (L.take i) k
  have e : (midsP σ k (L.take i)).length = i - barsN (L.take i) := by
    rw [List.length_take] at hl
    omega
  conv => lhs; rw [split_at h]
  rw [midsP_append, List.take_append_of_le_length (by rw [List.length_take]; omega), List.take_take, Nat.min_self, ← e, List.getElem?_append_right (Nat.le_refl _), Nat.sub_self, midsP, if_neg hc]
  rfl
theorem mid_twice {k : Knot} {c : UInt8} (hc : isL c) (h : c ≠ 66) : 2 * (midK 1 k c).x = k.x + (stepK 1 k c).x ∧ 2 * (midK 1 k c).y = k.y + (stepK 1 k c).y := by
  rcases hc with rfl | rfl | rfl
  · simp [midK, stepK, dxL, dyL]; omega
  · exact absurd rfl h
  · simp [midK, stepK, dxL, dyL]; omega
theorem barsN_le (l : List UInt8) : barsN l ≤ l.length := List.countP_le_length
end Go.Proofs.YtfmfpnnglogkmaaGreatDoor

/- What the walk of TaperReturns wants to know. -/
namespace Go.Proofs.YtfmfpnnglogkmaaGreatDoor
open Go.RowKit Go.Shelf Ck

theorem walkSG (x y : Int) (s : ByteArray) (c : Nat) (o : Bool) (K : List Knot) (w : World) (hK : walkK (sg o) ⟨x, y⟩ (Lib.repeatL s.data.toList c) = K) (h : EdgeG x y s c o) :
    Calls Tryz.prog 17 #[.agg #[.int .i64 x, .int .i64 y], .string s, .int .i64 c, .bool o] w (KnotsPost K w) :=
  (tpWalkG x y s c o w h).mono fun e w' ⟨v, he, hrow, hb⟩ => by
    rw [hK] at hrow
    obtain ⟨a, c', rfl, hok⟩ := own_rkW hrow
    exact ⟨a, c', he, hok, hb⟩
theorem meshesSG (x y : Int) (s : ByteArray) (c : Nat) (o : Bool) (l : List Knot) (w : World) (hl : midsP (sg o) ⟨x, y⟩ (Lib.repeatL s.data.toList c) = l) (h : EdgeG x y s c o) :
    Calls Tryz.prog 19 #[.agg #[.int .i64 x, .int .i64 y], .string s, .int .i64 c, .bool o] w (MeshesS l w) := by
  subst hl
  exact (tpMeshesG x y s c o w h).mono fun e w' ⟨v, he, hrow, hb⟩ => by
    obtain ⟨a, c', rfl, hok⟩ := own_rkW hrow
    exact ⟨a, c', he, hok, hb⟩
theorem barsSG (x y : Int) (s : ByteArray) (c : Nat) (o : Bool) (l : List Bar) (w : World) (hl : barsP (sg o) ⟨x, y⟩ (Lib.repeatL s.data.toList c) = l) (h : EdgeG x y s c o) :
    Calls Tryz.prog 18 #[.agg #[.int .i64 x, .int .i64 y], .string s, .int .i64 c, .bool o] w (PairPost l w) := by
  subst hl
  exact (tpBarsG x y s c o w h).mono fun e w' ⟨v, he, hrow, hb⟩ => by
    obtain ⟨a, c', rfl, hok⟩ := own_oks hrow
    exact ⟨a, c', he, hok, hb⟩
theorem rotWord {s : ByteArray} (hs : Word s) {r : Nat} (hr : r ≤ s.size) : Word ⟨(rotA s.data.toList r).toArray⟩ := by
  have hz := Lib.size_eq s
  have hl : (rotA s.data.toList r).length = s.data.toList.length := by
    simp only [rotA, List.length_append, List.length_drop, List.length_take]
    omega
  refine ⟨fun c hc => hs.1 c ?_, ?_, ?_⟩
  · simp only [rotA, List.mem_append] at hc
    exact hc.elim (fun h => List.mem_of_mem_drop h) (fun h => List.mem_of_mem_take h)
  · rw [show (⟨(rotA s.data.toList r).toArray⟩ : ByteArray).size = (rotA s.data.toList r).length by simp [ByteArray.size], hl, ← hz]
    exact hs.2.1
  · rw [show (⟨(rotA s.data.toList r).toArray⟩ : ByteArray).size = (rotA s.data.toList r).length by simp [ByteArray.size], hl, ← hz]
    exact hs.2.2
/-- What the walk of TaperReturns wants to know: its calls. -/
structure WrC (x y : Int) (s R : ByteArray) (z t PX PY X Y : Int) (K1 K2 K3 K4 : List Knot) (B : List Bar) (M : List Knot) : Prop where
  walk1 : ∀ w, Calls Tryz.prog 17 #[.agg #[.int .i64 x, .int .i64 y], .string s, .int .i64 z, .bool true] w (KnotsPost K1 w)
  walk2 : ∀ w, Calls Tryz.prog 17 #[.agg #[.int .i64 x, .int .i64 y], .string s, .int .i64 z, .bool false] w (KnotsPost K2 w)
  walk3 : ∀ w, Calls Tryz.prog 17 #[.agg #[.int .i64 (x + PX), .int .i64 (y + PY)], .string s, .int .i64 z, .bool false] w (KnotsPost K3 w)
  walk4 : ∀ w, Calls Tryz.prog 17 #[.agg #[.int .i64 x, .int .i64 y], .string R, .int .i64 z, .bool true] w (KnotsPost K4 w)
  bars : ∀ w, Calls Tryz.prog 18 #[.agg #[.int .i64 x, .int .i64 y], .string s, .int .i64 z, .bool true] w (PairPost B w)
  mesh : ∀ w, Calls Tryz.prog 19 #[.agg #[.int .i64 x, .int .i64 y], .string s, .int .i64 z, .bool true] w (MeshesS M w)
  vec : ∀ w, Calls Tryz.prog 33 #[.string s] w fun e w' => e = .returned (.tuple #[.agg #[.int .i64 X, .int .i64 Y], .int .i64 0]) ∧ Below w.heap.size w w'
  rot : ∀ w, Calls Tryz.prog 34 #[.string s, .int .i64 t] w fun e w' => e = .returned (.tuple #[.string R, .int .i64 0]) ∧ Below w.heap.size w w'
/-- And its lists. -/
structure WrL (x y : Int) (s : ByteArray) (c n : Nat) (PX PY X Y : Int) (K1 K2 K3 K4 : List Knot) (B : List Bar) (M : List Knot) (bN : Nat → Nat) : Prop where
  word : Word s
  n_eq : n = c * s.size
  px : PX = c * X
  py : PY = c * Y
  px1 : 0 ≤ PX
  px2 : PX ≤ 120
  py1 : 0 ≤ PY
  py2 : PY ≤ 120
  n1 : 1 ≤ n
  n60 : n ≤ 60
  X1 : 0 ≤ X
  X2 : X ≤ 20
  Y1 : 0 ≤ Y
  Y2 : Y ≤ 20
  l1 : K1.length = n + 1
  l2 : K2.length = n + 1
  l3 : K3.length = n + 1
  l4 : K4.length = n + 1
  lb : B.length + M.length = n
  first : K1[0]? = some ⟨x, y⟩
  last : K1[n]? = some ⟨x + PX, y + PY⟩
  back : K3[n]? = some ⟨x, y + 2 * PY⟩
  other : K4[n]? = some ⟨x + PX, y + PY⟩
  b0 : bN 0 = 0
  bi : ∀ i, i < n → bN i ≤ i ∧ ∃ (p q m : Knot) (a : UInt8), K1[i]? = some p ∧ K1[i + 1]? = some q ∧ K2[i + 1]? = some m ∧ m.x - x = x - q.x ∧ m.y = q.y ∧ s.data.toList[i % s.size]? = some a ∧
    (-200000 ≤ p.x ∧ p.x ≤ 200000 ∧ -200000 ≤ p.y ∧ p.y ≤ 200000) ∧ (-200000 ≤ q.x ∧ q.x ≤ 200000 ∧ -200000 ≤ q.y ∧ q.y ≤ 200000) ∧
    (a = 66 → B[bN i]? = some ⟨p.x, p.y, 1⟩ ∧ q.x = p.x + 1 ∧ q.y = p.y + 1 ∧ bN (i + 1) = bN i + 1) ∧
    (a ≠ 66 → ∃ z : Knot, M[i - bN i]? = some z ∧ 2 * z.x = p.x + q.x ∧ 2 * z.y = p.y + q.y ∧ bN (i + 1) = bN i)
theorem walkK_get {σ : Int} {k : Knot} {L : List UInt8} {i : Nat} (h : i ≤ L.length) : (walkK σ k L)[i]? = some (posK σ k (L.take i)) := by
  have hl : i < (walkK σ k L).length := by rw [walkK_length]; omega
  rw [List.getElem?_eq_getElem hl, walkK_at]
theorem wr_lists {x y : Int} {s R : ByteArray} {c : Nat} (hs : Word s) (h10 : s.size ≤ 10) (c1 : 1 ≤ c) (c6 : c ≤ 6) (hk : okKnot ⟨x, y⟩) (x1 : -1000 ≤ x) (x2 : x ≤ 1000) (y2 : y ≤ 1000) (hR : R.size = s.size) (hRv : vecL R.data.toList = vecL s.data.toList) :
    WrL x y s c (c * s.size) (c * (vecL s.data.toList).1) (c * (vecL s.data.toList).2) (vecL s.data.toList).1 (vecL s.data.toList).2 (walkK 1 ⟨x, y⟩ (Lib.repeatL s.data.toList c)) (walkK (-1) ⟨x, y⟩ (Lib.repeatL s.data.toList c)) (walkK (-1) ⟨x + c * (vecL s.data.toList).1, y + c * (vecL s.data.toList).2⟩ (Lib.repeatL s.data.toList c)) (walkK 1 ⟨x, y⟩ (Lib.repeatL R.data.toList c)) (barsP 1 ⟨x, y⟩ (Lib.repeatL s.data.toList c)) (midsP 1 ⟨x, y⟩ (Lib.repeatL s.data.toList c)) (fun i => barsN ((Lib.repeatL s.data.toList c).take i)) := by
  have hz := Lib.size_eq s
  have hzR := Lib.size_eq R
  have hs1 := hs.2.1
  obtain ⟨v1, v2, v3, v4⟩ := vecL_near s.data.toList
  have hln : (Lib.repeatL s.data.toList c).length = c * s.size := rep_len
  have hlR : (Lib.repeatL R.data.toList c).length = c * s.size := by rw [rep_len, hR]
  have hm : c * s.size ≤ 6 * 10 := Nat.mul_le_mul c6 h10
  have hm1 : 1 ≤ c * s.size := Nat.mul_pos c1 hs1
  have hvr := vec_repeat s.data.toList c
  obtain ⟨⟨-, -⟩, ⟨ky1, ky2⟩, -⟩ := hk
  simp only at ky1 ky2
  have cb : ∀ u : Int, 0 ≤ u → u ≤ 20 → 0 ≤ (c : Int) * u ∧ (c : Int) * u ≤ 120 := fun u h1 h2 => ⟨Int.mul_nonneg (by omega) h1, Int.le_trans (Int.mul_le_mul (show (c : Int) ≤ 6 by omega) h2 h1 (by omega)) (by decide)⟩
  refine ⟨hs, rfl, rfl, rfl, (cb _ v1 (by omega)).1, (cb _ v1 (by omega)).2, (cb _ v3 (by omega)).1, (cb _ v3 (by omega)).2, hm1, by omega, v1, by omega, v3, by omega, by rw [walkK_length, hln], by rw [walkK_length, hln], by rw [walkK_length, hln], by rw [walkK_length, hlR], ?_, ?_, ?_, ?_, ?_, rfl, fun i hi => ⟨?_, ?_⟩⟩
  · rw [barsP_length, Nat.add_comm, midsP_len, hln]
  · rw [walkK_get (by omega)]
    rfl
  · rw [← hln, walkK_get (Nat.le_refl _), List.take_length, posK_vec, hvr]
    simp
  · rw [← hln, walkK_get (Nat.le_refl _), List.take_length, posK_vec, hvr]
    simp only [Option.some.injEq, Knot.mk.injEq]
    constructor
    · omega
    · omega
  · rw [← hlR, walkK_get (Nat.le_refl _), List.take_length, posK_vec, vec_repeat, hRv]
    simp
  · exact Nat.le_trans (barsN_le _) (by rw [List.length_take]; omega)
  · have hiL : i < (Lib.repeatL s.data.toList c).length := by omega
    have hletter := rep_letters hs c _ (List.getElem_mem hiL)
    have hat := rep_at s.data.toList c i hiL
    rw [← hz, List.getElem?_eq_getElem hiL] at hat
    have hb := barsP_at (σ := 1) (k := ⟨x, y⟩) hiL
    have hmd := midsP_at (σ := 1) (k := ⟨x, y⟩) hiL
    have hlt : ((Lib.repeatL s.data.toList c).take i).length ≤ 60 := by rw [List.length_take]; omega
    have htk : (Lib.repeatL s.data.toList c).take (i + 1) = (Lib.repeatL s.data.toList c).take i ++ [(Lib.repeatL s.data.toList c)[i]] := List.take_succ_eq_append_getElem hiL
    obtain ⟨T, hT⟩ : ∃ T, (Lib.repeatL s.data.toList c).take i = T := ⟨_, rfl⟩
    obtain ⟨a, ha⟩ : ∃ a, (Lib.repeatL s.data.toList c)[i] = a := ⟨_, rfl⟩
    rw [hT, ha] at htk
    rw [hT] at hlt hb hmd
    rw [ha] at hb hmd hat hletter
    have hp := posK_near true T ⟨x, y⟩
    have hq1 : posK 1 ⟨x, y⟩ (T ++ [a]) = stepK 1 (posK 1 ⟨x, y⟩ T) a := posK_snoc 1 ⟨x, y⟩ T a
    have hn := stepK_near true (posK 1 ⟨x, y⟩ T) a
    simp only [sg, if_true] at hp hn
    simp only [hT]
    refine ⟨posK 1 ⟨x, y⟩ T, stepK 1 (posK 1 ⟨x, y⟩ T) a, posK (-1) ⟨x, y⟩ (T ++ [a]), a, ?_, ?_, ?_, ?_, ?_, hat.symm, by omega, by omega, fun h => ⟨hb h, ?_, ?_, ?_⟩, fun h => ⟨_, hmd h, (mid_twice hletter h).1, (mid_twice hletter h).2, ?_⟩⟩
    · rw [walkK_get (by omega), hT]
    · rw [walkK_get (by omega), htk, hq1]
    · rw [walkK_get (by omega), htk]
    · rw [← hq1, posK_vec, posK_vec]
      simp only
      omega
    · rw [← hq1, posK_vec, posK_vec]
    · rw [h, step_B]
    · rw [h, step_B]
    · simp only [htk]
      rw [h, barsN, List.countP_append]
      rfl
    · simp only [htk]
      rw [barsN, List.countP_append]
      simp [h, barsN]
end Go.Proofs.YtfmfpnnglogkmaaGreatDoor

/- Walk of the reference of chapter 2. -/
namespace Go.Proofs.YtfmfpnnglogkmaaGreatDoor
open Go.RowKit Go.Shelf Ck

theorem ownsRow_lower {w : World} {B B' : Nat} {t : TypeId} {n k : Nat} {v : Value} {xs : List Value} (h : w.ownsRow B t n v k xs) (hB : B' ≤ B) : w.ownsRow B' t n v k xs := by
  refine ⟨h.1, ?_⟩
  rcases h.2 with h2 | ⟨g, cap, cur, e, hb, h3⟩
  · exact .inl h2
  · exact .inr ⟨g, cap, cur, e, Nat.le_trans hB hb, h3⟩
theorem ownsRow_above {w : World} {B : Nat} {t : TypeId} {n k : Nat} {v : Value} {xs : List Value} (h : w.ownsRow B t n v k xs) {g : Nat} (hg : v.ownBlock = some g) : B ≤ g := by
  rcases h.2 with ⟨rfl, -⟩ | ⟨g', cap, cur, rfl, hb, -⟩
  · simp [Value.ownBlock] at hg
  · simp [Value.ownBlock] at hg
    omega
theorem ownsRow_lt {w : World} {B : Nat} {t : TypeId} {n k : Nat} {v : Value} {xs : List Value} (h : w.ownsRow B t n v k xs) {g : Nat} (hg : v.ownBlock = some g) : g < w.heap.size := by
  rcases h.2 with ⟨rfl, -⟩ | ⟨g', cap, cur, rfl, -, hgb, -⟩
  · simp [Value.ownBlock] at hg
  · simp [Value.ownBlock] at hg
    subst hg
    exact (Array.getElem?_eq_some_iff.1 hgb).1
def KRowPost (l : List Knot) (w : World) (e : Ending) (w' : World) : Prop := ∃ v, e = .returned v ∧ w'.ownsRow w.heap.size 43 2 v l.length (kcellsL l) ∧ Below w.heap.size w w'
set_option maxHeartbeats 8000000 in
set_option maxRecDepth 100000 in
theorem rfWalk (x y : Int) (s : ByteArray) (c : Nat) (o : Bool) (w : World) (hs : Word s) (hlen : c * s.size ≤ 256) (hk : okKnot ⟨x, y⟩) :
    Calls Tryz.prog 22 #[.agg #[.int .i64 x, .int .i64 y], .string s, .int .i64 c, .bool o] w (KRowPost (walkK (sg o) ⟨x, y⟩ (Lib.repeatL s.data.toList c)) w) := by
  obtain ⟨⟨x1, x2⟩, ⟨y1, y2⟩, -⟩ := hk
  simp only at x1 x2 y1 y2
  have hsz := Lib.size_eq s
  obtain ⟨L, hL⟩ : ∃ L, s.data.toList = L := ⟨_, rfl⟩
  have HLB := Lib.hid (show ∀ (k : Nat) (h : k < s.size) (h' : k < L.length), s[k] = L[k] from fun k h h' => by subst hL; exact (byte_at s k h h').symm)
  have HLL := Lib.hid (show ∀ q ∈ L, isL q from fun q hq => hs.1 q (by rw [hL]; exact hq))
  have hs1 := hs.2.1
  have hs2 := hs.2.2
  rw [hL] at hsz ⊢
  have HSZ := Lib.hid hsz
  have hc256 : c ≤ 256 := Nat.le_trans (Nat.le_mul_of_pos_right c hs1) hlen
  clear hL hs
  obtain ⟨i0, hi, hz0, hz1, hz2⟩ := info_parts Tryz.info43
  have HI := Lib.hid hi
  have HZ0 := Lib.hid hz0
  have HZ1 := Lib.hid hz1
  have HZ2 := Lib.hid hz2
  obtain ⟨w1, hw1, k0, hb1, hz⟩ := boxH2 w (.int .i64 x) (.int .i64 y) 43
  have HW1 := Lib.hid hw1
  obtain ⟨c0, c1, -, -⟩ := two_cell k0
  obtain ⟨w2, hw2, hb2, hrow2⟩ : ∃ w2, w2 = w1.alloc (.cells #[.int .i64 x, .int .i64 y] 43) ∧ Below w1.heap.size w1 w2 ∧ w2.ownsRow (w.heap.size + 1) 43 2 (.slice (some ⟨w1.heap.size, 0, none⟩) 1 1) 1 [.int .i64 x, .int .i64 y] := ⟨_, rfl, (Below.refl _ _).alloc (Nat.le_refl _) _, krow_one w1 (w.heap.size + 1) (by omega) _ _ _⟩
  have k2 := (hb2.block _ hz).trans k0
  have B2 := hb1.trans (hb2.mono hb1.size)
  have hw2' := hw2.symm
  have hsz1 : w1.heap.size = w.heap.size + 1 := by rw [hw1]; simp
  rw [hsz1] at hrow2
  have HR2 := Lib.hid hrow2
  have HW2 := Lib.hid hw2
  clear hsz1 hw1 hw2 hi hz0 hz1 hz2 k0 hb1 hb2 hrow2
  go_enter Tryz.func22, Tryz.ntmps22
  go_wp2_with fail
  rw [← HW1.out]
  go_wp2_with fail
  clear hw2' c0 c1
  rw [← HW2.out]
  go_loopg [9, 10, 11, 12] c (fun g lv iv _ _ wi => ∃ i : Nat, g = c - i ∧ i ≤ c ∧ iv = .int .i64 i ∧ wi.heap[w.heap.size]? = some (.cells #[.int .i64 (posK (sg o) ⟨x, y⟩ (Lib.repeatL L i)).x, .int .i64 (posK (sg o) ⟨x, y⟩ (Lib.repeatL L i)).y] 43 (0, 0)) ∧ Hid (wi.ownsRow (w.heap.size + 1) 43 2 lv (walkK (sg o) ⟨x, y⟩ (Lib.repeatL L i)).length (kcellsL (walkK (sg o) ⟨x, y⟩ (Lib.repeatL L i)))) ∧ Below w.heap.size w wi)
  case atStart => exact ⟨0, by omega, by omega, rfl, k2, HR2, B2⟩
  case round =>
    clear k2 HR2 B2
    obtain ⟨i, hg, hic, rfl, hk, hown, hb⟩ := hrel
    by_cases hlt : i < c
    · have hpl : (Lib.repeatL L i).length = i * s.size := by rw [Lib.repeatL_length, HSZ.out]
      have hil : i * s.size + s.size ≤ 256 := by
        have h1 : (i + 1) * s.size ≤ c * s.size := Nat.mul_le_mul_right _ hlt
        rw [Nat.add_mul, Nat.one_mul] at h1
        omega
      have HNX := Lib.hid (show Lib.repeatL L i ++ L.take s.size = Lib.repeatL L (i + 1) by rw [List.take_of_length_le (by rw [HSZ.out]; exact Nat.le_refl _), repeat_comm]; rfl)
      obtain ⟨R, hR⟩ : ∃ R, Lib.repeatL L i = R := ⟨_, rfl⟩
      rw [hR] at hpl HNX hk hown
      have HPL := Lib.hid hpl
      clear hR hpl
      go_wp2_with fail
      go_loopg [9, 11, 12] s.size (fun g lv mv _ wi => ∃ m : Nat, g = s.size - m ∧ m ≤ s.size ∧ mv = .int .i64 m ∧ wi.heap[w.heap.size]? = some (.cells #[.int .i64 (posK (sg o) ⟨x, y⟩ (R ++ L.take m)).x, .int .i64 (posK (sg o) ⟨x, y⟩ (R ++ L.take m)).y] 43 (0, 0)) ∧ Hid (wi.ownsRow (w.heap.size + 1) 43 2 lv (walkK (sg o) ⟨x, y⟩ (R ++ L.take m)).length (kcellsL (walkK (sg o) ⟨x, y⟩ (R ++ L.take m)))) ∧ Below w.heap.size w wi)
      case atStart => exact ⟨0, by omega, by omega, rfl, by simpa using hk, by simpa using hown, hb⟩
      case round =>
        clear hk hown hb
        obtain ⟨m, hg2, hm, rfl, hk, hown, hb⟩ := hrel
        by_cases hml : m < s.size
        · have hmL : m < L.length := by rw [← HSZ.out]; exact hml
          have hel := HLB.out m hml hmL
          have hcl := HLL.out _ (List.getElem_mem hmL)
          have HT := Lib.hid (show R ++ L.take (m + 1) = (R ++ L.take m) ++ [L[m]] by rw [List.take_succ_eq_append_getElem hmL, List.append_assoc])
          have hln : (R ++ L.take m).length ≤ 256 := by rw [List.length_append, HPL.out, List.length_take]; omega
          obtain ⟨Q, hQ⟩ : ∃ Q, R ++ L.take m = Q := ⟨_, rfl⟩
          rw [hQ] at HT hk hown hln
          have hnear := posK_near o Q ⟨x, y⟩
          have hqn : (Q.length : Int) ≤ 256 := by omega
          obtain ⟨q, hq⟩ : ∃ q, L[m] = q := ⟨_, rfl⟩
          rw [hq] at hel hcl HT
          have HWS := Lib.hid (walkK_snoc (sg o) ⟨x, y⟩ Q q)
          have HPS := Lib.hid (posK_snoc (sg o) ⟨x, y⟩ Q q)
          have HWL := Lib.hid (walkK_length (sg o) ⟨x, y⟩ Q)
          have hwl : (walkK (sg o) ⟨x, y⟩ Q).length ≤ 257 := by rw [walkK_length]; omega
          obtain ⟨K, hK⟩ : ∃ K, posK (sg o) ⟨x, y⟩ Q = K := ⟨_, rfl⟩
          rw [hK] at hk hnear HPS
          obtain ⟨n1, n2, n3, n4⟩ := hnear
          simp only at n1 n2 n3 n4
          obtain ⟨W, hW⟩ : ∃ W, walkK (sg o) ⟨x, y⟩ Q = W := ⟨_, rfl⟩
          rw [hW] at hown HWS HWL hwl
          have hK1 : -200000 ≤ K.x := by omega
          have hK2 : K.x ≤ 200000 := by omega
          have hK3 : -200000 ≤ K.y := by omega
          have hK4 : K.y ≤ 200000 := by omega
          have d4 := dL_near q
          obtain ⟨a, hA⟩ : ∃ a, dxL q = a := ⟨_, rfl⟩
          obtain ⟨b, hB⟩ : ∃ b, dyL q = b := ⟨_, rfl⟩
          have HST := Lib.hid (show stepK (sg o) K q = ⟨K.x + (if o = true then a else -a), K.y + b⟩ by
            rw [stepK, hA, hB]
            cases o <;> simp [sg])
          have HSTEP := Lib.hid (show ∀ W : World, Calls Tryz.prog 66 #[.int .u8 q.toNat] W fun e w' => e = .returned (.agg #[.int .i64 a, .int .i64 b]) ∧ Below W.heap.size W w' from fun W => by
            have h := refStep q W hcl
            rwa [hA, hB] at h)
          rw [hA, hB] at d4
          obtain ⟨a0, a1, b0, b1⟩ := d4
          have m0 : (0 : Int) ≤ (m : Int) := by omega
          have m1 : (m : Int) < (s.size : Int) := by omega
          have HPN := Lib.hid (show posK (sg o) ⟨x, y⟩ (R ++ L.take (m + 1)) = ⟨K.x + (if o = true then a else -a), K.y + b⟩ by rw [HT.out, HPS.out, HST.out])
          have HWN := Lib.hid (show walkK (sg o) ⟨x, y⟩ (R ++ L.take (m + 1)) = W ++ [⟨K.x + (if o = true then a else -a), K.y + b⟩] by rw [HT.out, HWS.out, HPS.out, HST.out])
          have hzk := (Array.getElem?_eq_some_iff.1 hk).1
          clear hA hB hcl hK hW hq HT HWS HPS HST HWL hln hqn hmL n1 n2 n3 n4
          go_wp2_with fail
          refine (HSTEP.out _).mono ?_
          rintro e w3 ⟨rfl, hb3⟩
          obtain ⟨w4, hw4, k4, hb4, hz4⟩ := boxH2 w3 (.int .i64 a) (.int .i64 b) 66
          have b34 := hb3.trans (hb4.mono hb3.size)
          have hk4 := (b34.block _ hzk).trans hk
          have HO4 := Lib.hid (ownsRow_below hown.out b34)
          have HLT := Lib.hid (fun g e => Nat.lt_of_lt_of_le (ownsRow_lt hown.out (g := g) e) hb3.size)
          have B4 := hb.trans (b34.mono hb.size)
          have hw4' := hw4.symm
          obtain ⟨p0, p1, p2, p3⟩ := two_cell hk4
          have hgz : w.heap.size < w3.heap.size := Nat.lt_of_lt_of_le hzk hb3.size
          obtain ⟨gs, hgs⟩ : ∃ g, w3.heap.size = g := ⟨_, rfl⟩
          rw [hgs] at k4 hgz HLT
          obtain ⟨q0, q1, q2, q3⟩ := two_cell k4
          clear hw4 hb3 hb4 b34 hk hown hb HSTEP hzk
          cases o with
          | true =>
            obtain ⟨s1, s2⟩ := two_set hk4 (.int .i64 (K.x + a)) (.int .i64 (K.y + b))
            obtain ⟨w5, hw5⟩ : ∃ w5, (w4.setCell ⟨w.heap.size, 0, none⟩ (.int .i64 (K.x + a))).setCell ⟨w.heap.size, 1, none⟩ (.int .i64 (K.y + b)) = w5 := ⟨_, rfl⟩
            rw [hw5] at s1 s2
            have HO5 := Lib.hid (HO4.out.kept s2 (.inr fun e => by have := ownsRow_above HO4.out e; omega))
            have B5 := B4.grown s2 B4.size (fun j e => by cases e; omega)
            obtain ⟨r0, r1, -, -⟩ := two_cell s1
            clear s2 HO4 B4 hk4
            go_wp2_with (at_builtin; refine wpList_append_own _ rfl _ _ 46 rfl (w.heap.size + 1) 43 i0 (.agg #[.int .i64 0, .int .i64 0]) 2 16 Tryz.underlying46 HI.out HZ0.out HZ1.out HZ2.out rfl (by decide) _ _ _ rfl (HO5.out.alloc _) ⟨w5.heap.size, 0, none⟩ 1 1 [.int .i64 (K.x + a), .int .i64 (K.y + b)] rfl rfl (two_new _ _ _ _) ?c2 ?c3 ?c4 ?c5 ?_)
            case c2 => intro u hu; simp at hu; rcases hu with rfl | rfl <;> rfl
            case c3 => unfold maxLen; omega
            case c4 => omega
            case c5 => have := (Array.getElem?_eq_some_iff.1 s1).1; simp; omega
            intro v' w7 hown7 hgrow7 _
            have z5 := (Array.getElem?_eq_some_iff.1 s1).1
            have B7 : Below w.heap.size w w7 := (B5.alloc B5.size (.cells #[.int .i64 (K.x + a), .int .i64 (K.y + b)] 43)).grown hgrow7 (by simp; omega) (fun j e => by have := ownsRow_above HO5.out e; omega)
            have k7 := (hgrow7.block _ (by simp; omega) (fun h => by have := ownsRow_above HO5.out h.symm; omega)).trans ((Below.heap_alloc _ _ _ z5).trans s1)
            have HO7 := Lib.hid hown7
            clear hown7 hgrow7 s1 HO5 B5 hw5 hw4'
            go_wp2
            go_roundg (s.size - (m + 1))
            case rel => exact ⟨m + 1, by omega, by omega, by go_num, by rw [HPN.out]; exact k7, Lib.hid (by rw [HWN.out, kcellsL_snoc, List.length_append]; exact HO7.out), B7⟩
            case measure => omega
          | false =>
            obtain ⟨w4b, hw4b⟩ : ∃ w', w4.setCell ⟨gs, 0, none⟩ (.int .i64 (-a)) = w' := ⟨_, rfl⟩
            have g4b : w4.grownBy w4b (some gs) := by
              rw [← hw4b]
              exact ⟨rfl, rfl, rfl, by simp [World.setCell], fun i _ hne => Below.heap_setCell _ _ _ i (fun e => hne (by rw [e]))⟩
            have v4b : w4b.cell? ⟨gs, 0, none⟩ = some (.int .i64 (-a)) := by
              rw [← hw4b]
              simp [World.cell?, World.setCell, Array.getElem?_modify, k4]
            have v4c : w4b.cell? ⟨gs, 1, none⟩ = some (.int .i64 b) := by
              rw [← hw4b]
              simp [World.cell?, World.setCell, Array.getElem?_modify, k4]
            have hk4b := (g4b.block _ (Array.getElem?_eq_some_iff.1 hk4).1 (fun e => by injection e; omega)).trans hk4
            have HO4b := Lib.hid (HO4.out.kept g4b (.inr fun e => by have := HLT.out _ e; omega))
            have B4b := B4.grown g4b B4.size (fun j e => by cases e; omega)
            obtain ⟨r0, r1, r2, r3⟩ := two_cell hk4b
            obtain ⟨s1, s2⟩ := two_set hk4b (.int .i64 (K.x + -a)) (.int .i64 (K.y + b))
            obtain ⟨w5, hw5⟩ : ∃ w5, (w4b.setCell ⟨w.heap.size, 0, none⟩ (.int .i64 (K.x + -a))).setCell ⟨w.heap.size, 1, none⟩ (.int .i64 (K.y + b)) = w5 := ⟨_, rfl⟩
            rw [hw5] at s1 s2
            have HO5 := Lib.hid (HO4b.out.kept s2 (.inr fun e => by have := ownsRow_above HO4b.out e; omega))
            have B5 := B4b.grown s2 B4b.size (fun j e => by cases e; omega)
            obtain ⟨t0, t1, -, -⟩ := two_cell s1
            clear s2 HO4 HO4b B4 B4b hk4 hk4b g4b
            go_wp2_with (at_builtin; refine wpList_append_own _ rfl _ _ 46 rfl (w.heap.size + 1) 43 i0 (.agg #[.int .i64 0, .int .i64 0]) 2 16 Tryz.underlying46 HI.out HZ0.out HZ1.out HZ2.out rfl (by decide) _ _ _ rfl (HO5.out.alloc _) ⟨w5.heap.size, 0, none⟩ 1 1 [.int .i64 (K.x + -a), .int .i64 (K.y + b)] rfl rfl (two_new _ _ _ _) ?d2 ?d3 ?d4 ?d5 ?_)
            case d2 => intro u hu; simp at hu; rcases hu with rfl | rfl <;> rfl
            case d3 => unfold maxLen; omega
            case d4 => omega
            case d5 => have := (Array.getElem?_eq_some_iff.1 s1).1; simp; omega
            intro v' w7 hown7 hgrow7 _
            have z5 := (Array.getElem?_eq_some_iff.1 s1).1
            have B7 : Below w.heap.size w w7 := (B5.alloc B5.size (.cells #[.int .i64 (K.x + -a), .int .i64 (K.y + b)] 43)).grown hgrow7 (by simp; omega) (fun j e => by have := ownsRow_above HO5.out e; omega)
            have k7 := (hgrow7.block _ (by simp; omega) (fun h => by have := ownsRow_above HO5.out h.symm; omega)).trans ((Below.heap_alloc _ _ _ z5).trans s1)
            have HO7 := Lib.hid hown7
            clear hown7 hgrow7 s1 HO5 B5 hw5 hw4' hw4b
            go_wp2
            go_roundg (s.size - (m + 1))
            case rel => exact ⟨m + 1, by omega, by omega, by go_num, by rw [HPN.out]; exact k7, Lib.hid (by rw [HWN.out, kcellsL_snoc, List.length_append]; exact HO7.out), B7⟩
            case measure => omega
        · obtain rfl : m = s.size := by omega
          rw [HNX.out] at hk hown
          go_wp2
          go_roundg (c - (i + 1))
          case rel => exact ⟨i + 1, by omega, by omega, by go_num, hk, hown, hb⟩
          case measure => omega
    · obtain rfl : i = c := by omega
      go_wp2
      go_ret
      exact ⟨_, rfl, ownsRow_lower hown.out (by omega), hb⟩
end Go.Proofs.YtfmfpnnglogkmaaGreatDoor

/- CheckWalk of the reference of chapter 2. -/
namespace Go.Proofs.YtfmfpnnglogkmaaGreatDoor
open Go.RowKit Go.Shelf Ck

set_option maxHeartbeats 4000000 in
set_option maxRecDepth 100000 in
theorem rfCheckWalk (x y t E : Int) (s : ByteArray) (o : Bool) (w : World) (hs : s.size ≤ 100) (ht1 : -1000000000 ≤ t) (ht2 : t ≤ 1000000000) (hE : wlkE x y s t o = E) :
    Calls Tryz.prog 20 #[.agg #[.int .i64 x, .int .i64 y], .string s, .int .i64 t, .bool o] w fun e w' => e = .returned (.int .i64 E) ∧ Below w.heap.size w w' := by
  obtain ⟨w1, hw1, k0, hb1, hz⟩ := boxH2 w (.int .i64 x) (.int .i64 y) 43
  have HW1 := Lib.hid hw1
  obtain ⟨c0, c1, -, -⟩ := two_cell k0
  obtain ⟨r, hr⟩ : ∃ r : Int, (if t < 1 ∨ 256 < t then (3 : Int) else 0) = r := ⟨_, rfl⟩
  have H0 := Lib.hid (show firstE [knotE x y, wordE s.data.toList, r] = wlk0 x y s t by rw [← hr]; rfl)
  have HOUT := Lib.hid (show rngE t 1 256 = r by rw [← hr]; rfl)
  have HEE := Lib.hid hE
  clear hw1 hE hr
  go_enter Tryz.func20, Tryz.ntmps20
  go_wp2_with fail
  rw [← HW1.out]
  refine (refCheckKnot x y _).mono ?_
  rintro e w2 ⟨rfl, hb2⟩
  have k2 := (hb2.block _ hz).trans k0
  have B2 := hb1.trans (hb2.mono hb1.size)
  clear k0 hb1 hb2 c0 c1
  go_wp2_with fail
  refine (refCheckWord s _ (by omega)).mono ?_
  rintro e w3 ⟨rfl, rfl⟩
  go_wp2_with fail
  refine (rfOutside _ _ _ _).mono ?_
  rintro e w4 ⟨rfl, rfl⟩
  rw [HOUT.out]
  have hz2 := (Array.getElem?_eq_some_iff.1 k2).1
  go_wp2_with fail
  refine (rfFirst3 _ _ _ _ _ 3 _ (by exact heap_alloc_new _ _)).mono ?_
  rintro e w5 ⟨rfl, hb5⟩
  rw [H0.out]
  have hb6 : Below w2.heap.size w2 w5 := ((Below.refl _ _).alloc (Nat.le_refl _) _).trans (hb5.mono (by simp))
  have k5 := (hb6.block _ hz2).trans k2
  have B5 := B2.trans (hb6.mono B2.size)
  clear k2 B2 hb5 hb6 hz2
  obtain ⟨c0, c1, -, -⟩ := two_cell k5
  obtain ⟨z, hzz⟩ : ∃ z, wlk0 x y s t = z := ⟨_, rfl⟩
  have HZ := Lib.hid hzz
  rw [hzz]
  clear hzz
  by_cases h0 : z = 0
  · obtain ⟨hk, hw, c, rfl, hc1, hc2⟩ := wlk0_zero (HZ.out.trans h0)
    have hm1 : (s.size : Int) * (c : Int) = ((s.size * c : Nat) : Int) := by push_cast; rfl
    have hm2 : s.size * c ≤ 100 * 256 := Nat.mul_le_mul hs hc2
    have HE2 := Lib.hid (show (if 256 < s.size * c then (26 : Int) else if (walkK (sg o) ⟨x, y⟩ (Lib.repeatL s.data.toList c)).any outK then 32 else 0) = E by
      rw [← HEE.out, wlkE, if_pos (HZ.out.trans h0), Int.toNat_natCast]
      by_cases h : 256 < s.size * c
      · have h' : 256 < (s.size : Int) * (c : Int) := by omega
        rw [if_pos h, if_pos h']
      · have h' : ¬ 256 < (s.size : Int) * (c : Int) := by omega
        rw [if_neg h, if_neg h'])
    have hz0 : (z != 0) = false := by rw [h0]; rfl
    obtain ⟨p, hp⟩ : ∃ p, s.size * c = p := ⟨_, rfl⟩
    rw [hp] at hm1 hm2 HE2
    have HPP := Lib.hid hp
    clear hp h0
    by_cases h1 : 256 < p
    · have HE3 := Lib.hid (show (26 : Int) = E by rw [← HE2.out, if_pos h1])
      clear HE2
      go_wp2
      go_ret
      exact ⟨ret_i HE3.out, B5⟩
    · have HLEN := Lib.hid (show c * s.size ≤ 256 by rw [Nat.mul_comm, HPP.out]; omega)
      have HE3 := Lib.hid (show (if (walkK (sg o) ⟨x, y⟩ (Lib.repeatL s.data.toList c)).any outK then (32 : Int) else 0) = E by rw [← HE2.out, if_neg h1])
      clear HE2
      have hlen : (walkK (sg o) ⟨x, y⟩ (Lib.repeatL s.data.toList c)).length ≤ 257 := by
        rw [walkK_length, rep_len]
        have := HLEN.out
        omega
      obtain ⟨K, hK⟩ : ∃ K, walkK (sg o) ⟨x, y⟩ (Lib.repeatL s.data.toList c) = K := ⟨_, rfl⟩
      have HKW := Lib.hid hK
      rw [hK] at hlen HE3
      have HWD := Lib.hid hw
      have HOK := Lib.hid hk
      have hlI : (K.length : Int) ≤ 257 := by omega
      clear hK hw hk
      go_wp2_with fail
      refine (rfWalk x y s c o _ HWD.out HLEN.out HOK.out).mono ?_
      rintro e w6 ⟨v, rfl, hrow, hb6⟩
      rw [HKW.out] at hrow
      have B6 := B5.trans (hb6.mono B5.size)
      obtain ⟨ad, cp, rfl, hrk⟩ := own_rkW hrow
      have HRK := Lib.hid hrk
      clear hrow hb6 B5 k5 c0 c1 hrk
      go_wp2_with fail
      go_loop [11] (fun iv => ∃ i : Nat, i ≤ K.length ∧ iv = .int .i64 i ∧ (K.take i).any outK = false) (fun iv => K.length - (intOf iv).toNat)
      case atStart => exact ⟨0, Nat.zero_le _, rfl, rfl⟩
      case round =>
        obtain ⟨i, hi, rfl, hno⟩ := hrel
        have HNO := Lib.hid hno
        clear hno
        by_cases hlt : i < K.length
        · obtain ⟨bb, off, rfl, hbz, hcs⟩ := HRK.out (by omega)
          obtain ⟨q0, q1⟩ := hcs i hlt
          have HS := Lib.hid (show (K.take (i + 1)).any outK = outK K[i] by rw [List.take_succ_eq_append_getElem hlt, List.any_append, HNO.out]; simp)
          have HMEM := Lib.hid (List.getElem_mem hlt)
          obtain ⟨q, hq⟩ : ∃ q, K[i] = q := ⟨_, rfl⟩
          rw [hq] at q0 q1 HS HMEM
          have i0 : (0 : Int) ≤ (i : Int) := by omega
          have i1 : (i : Int) < (K.length : Int) := by omega
          clear hq hcs hbz
          have hyes : outK q = true → E = 32 := fun h => by
            rw [← HE3.out, if_pos]
            rw [List.any_eq_true]
            exact ⟨q, HMEM.out, h⟩
          have HYES := Lib.hid hyes
          clear hyes
          by_cases g1 : q.x < -100000
          · have HE4 := Lib.hid (HYES.out (decide_eq_true (.inl g1)))
            go_wp2
            go_ret
            exact ⟨ret_i HE4.out.symm, B6⟩
          · by_cases g2 : 100000 < q.x
            · have HE4 := Lib.hid (HYES.out (decide_eq_true (.inr (.inl g2))))
              go_wp2
              go_ret
              exact ⟨ret_i HE4.out.symm, B6⟩
            · by_cases g3 : 100000 < q.y
              · have HE4 := Lib.hid (HYES.out (decide_eq_true (.inr (.inr g3))))
                go_wp2
                go_ret
                exact ⟨ret_i HE4.out.symm, B6⟩
              · have HN := Lib.hid (show (K.take (i + 1)).any outK = false by rw [HS.out]; exact decide_eq_false (by omega))
                go_wp2
                go_round
                case rel => exact ⟨i + 1, by omega, by go_num, HN.out⟩
                case measure => simp [intOf]; omega
        · obtain rfl : i = K.length := by omega
          have HE4 := Lib.hid (show (0 : Int) = E by
            have h := HNO.out
            rw [List.take_length] at h
            rw [← HE3.out, h]
            rfl)
          go_wp2
          go_ret
          exact ⟨ret_i HE4.out, B6⟩
  · have hz0 : (z != 0) = true := by rw [bne_iff_ne]; exact h0
    have HE2 := Lib.hid (show z = E by rw [← HEE.out, wlkE, if_neg (fun h => h0 (HZ.out.symm.trans h)), HZ.out])
    clear h0
    go_wp2
    go_ret
    exact ⟨ret_i HE2.out, B5⟩
end Go.Proofs.YtfmfpnnglogkmaaGreatDoor

/- The walk of TaperReturns. -/
namespace Go.Proofs.YtfmfpnnglogkmaaGreatDoor
open Go.RowKit Go.Shelf Ck

/-- The boxes of the law's two structs. -/
structure WrS (W0 : World) (x y : Int) (s : ByteArray) (z : Int) (o : Bool) (W : World) : Prop where
  a : W.heap[W0.heap.size]? = some (.cells #[.int .i64 x, .int .i64 y] 43 (0, 0))
  e : W.heap[W0.heap.size + 1]? = some (.cells #[.string s, .int .i64 z, .bool o] 45 (0, 0))
  b : Below W0.heap.size W0 W
theorem WrS.below {W0 W W' : World} {x y z : Int} {s : ByteArray} {o : Bool} (h : WrS W0 x y s z o W) (hb : Below W.heap.size W W') : WrS W0 x y s z o W' :=
  ⟨(hb.block _ (Array.getElem?_eq_some_iff.1 h.a).1).trans h.a, (hb.block _ (Array.getElem?_eq_some_iff.1 h.e).1).trans h.e, h.b.trans (hb.mono h.b.size)⟩
theorem WrS.cells {W0 W : World} {x y z : Int} {s : ByteArray} {o : Bool} (h : WrS W0 x y s z o W) : (W.cell? ⟨W0.heap.size, 0, none⟩ = some (.int .i64 x) ∧ W.cell? ⟨W0.heap.size, 1, none⟩ = some (.int .i64 y)) ∧ W.cell? ⟨W0.heap.size + 1, 0, none⟩ = some (.string s) ∧ W.cell? ⟨W0.heap.size + 1, 1, none⟩ = some (.int .i64 z) ∧ W.cell? ⟨W0.heap.size + 1, 2, none⟩ = some (.bool o) := by
  refine ⟨⟨(two_cell h.a).1, (two_cell h.a).2.1⟩, ?_, ?_, ?_⟩ <;> simp [World.cell?, h.e]
theorem wr_box (w : World) (x y z : Int) (s : ByteArray) (o : Bool) : ∃ w1, w1 = (w.alloc (.cells #[.int .i64 x, .int .i64 y] 43)).alloc (.cells #[.string s, .int .i64 z, .bool o] 45) ∧ WrS w x y s z o w1 := by
  refine ⟨_, rfl, ?_, ?_, ((Below.refl _ _).alloc (Nat.le_refl _) _).alloc (by simp) _⟩
  · rw [Below.heap_alloc _ _ _ (by simp)]
    exact heap_alloc_new _ _
  · have := heap_alloc_new (w.alloc (.cells #[.int .i64 x, .int .i64 y] 43)) (.cells #[.string s, .int .i64 z, .bool o] 45)
    rwa [World.size_alloc] at this
/-- Where the law asks nothing but that the program is awake. -/
inductive WrNo (x y : Int) (s : ByteArray) (z : Int) (o : Bool) : Prop
  | long (h : (10 : Int) < (s.size : Int))
  | few (h : ¬ (10 : Int) < (s.size : Int)) (h1 : z < 1)
  | many (h : ¬ (10 : Int) < (s.size : Int)) (h1 : ¬ z < 1) (h2 : 6 < z)
  | bad (h : ¬ (10 : Int) < (s.size : Int)) (h1 : ¬ z < 1) (h2 : ¬ 6 < z) (E : Int) (h3 : wlkE x y s z o = E) (h4 : (E != 0) = true)
  | left (h : ¬ (10 : Int) < (s.size : Int)) (h1 : ¬ z < 1) (h2 : ¬ 6 < z) (h3 : wlkE x y s z o = 0) (h5 : x < -1000)
  | right (h : ¬ (10 : Int) < (s.size : Int)) (h1 : ¬ z < 1) (h2 : ¬ 6 < z) (h3 : wlkE x y s z o = 0) (h5 : ¬ x < -1000) (h6 : 1000 < x)
  | high (h : ¬ (10 : Int) < (s.size : Int)) (h1 : ¬ z < 1) (h2 : ¬ 6 < z) (h3 : wlkE x y s z o = 0) (h5 : ¬ x < -1000) (h6 : ¬ 1000 < x) (h7 : 1000 < y)
set_option maxHeartbeats 4000000 in
set_option maxRecDepth 100000 in
theorem lawReturnsN (x y z t : Int) (s : ByteArray) (o : Bool) (w : World) (h : WrNo x y s z o) :
    Calls Tryz.prog 6 #[.agg #[.int .i64 x, .int .i64 y], .agg #[.string s, .int .i64 z, .bool o], .int .u8 t] w fun e w' => e = .returned (.bool true) ∧ Below w.heap.size w w' := by
  obtain ⟨w1, hw1, S1⟩ := wr_box w x y z s o
  have HW1 := Lib.hid hw1
  clear hw1
  go_enter Tryz.func6, Tryz.ntmps6
  go_wp2_with fail
  rw [← HW1.out]
  refine (awake2 _).mono ?_
  rintro e w2 ⟨rfl, hb2⟩
  have S2 := S1.below hb2
  obtain ⟨⟨c0, c1⟩, d0, d1, d2⟩ := S2.cells
  have B2 := S2.b
  clear S1 hb2
  cases h with
  | long h =>
    clear S2
    go_wp2_with fail
    refine (awake2 _).mono ?_
    rintro e w9 ⟨rfl, hb9⟩
    go_wp2
    go_ret
    exact ⟨rfl, B2.trans (hb9.mono B2.size)⟩
  | few h h1 =>
    clear S2
    go_wp2_with fail
    refine (awake2 _).mono ?_
    rintro e w9 ⟨rfl, hb9⟩
    go_wp2
    go_ret
    exact ⟨rfl, B2.trans (hb9.mono B2.size)⟩
  | many h h1 h2 =>
    clear S2
    go_wp2_with fail
    refine (awake2 _).mono ?_
    rintro e w9 ⟨rfl, hb9⟩
    go_wp2
    go_ret
    exact ⟨rfl, B2.trans (hb9.mono B2.size)⟩
  | bad h h1 h2 E h3 h4 =>
    have H3 := Lib.hid h3
    clear h3
    go_wp2_with fail
    refine (rfCheckWalk x y z _ s o _ (by omega) (by omega) (by omega) H3.out).mono ?_
    rintro e w3 ⟨rfl, hb3⟩
    have S3 := S2.below hb3
    have B3 := S3.b
    clear c0 c1 d0 d1 d2 S2 S3 hb3
    go_wp2_with fail
    refine (awake2 _).mono ?_
    rintro e w9 ⟨rfl, hb9⟩
    go_wp2
    go_ret
    exact ⟨rfl, B3.trans (hb9.mono B3.size)⟩
  | left h h1 h2 h3 h5 =>
    have H3 := Lib.hid h3
    clear h3
    go_wp2_with fail
    refine (rfCheckWalk x y z _ s o _ (by omega) (by omega) (by omega) H3.out).mono ?_
    rintro e w3 ⟨rfl, hb3⟩
    have S3 := S2.below hb3
    have B3 := S3.b
    clear c0 c1 d0 d1 d2 S2 hb3
    obtain ⟨⟨c0, c1⟩, d0, d1, d2⟩ := S3.cells
    go_wp2_with fail
    refine (awake2 _).mono ?_
    rintro e w9 ⟨rfl, hb9⟩
    go_wp2
    go_ret
    exact ⟨rfl, B3.trans (hb9.mono B3.size)⟩
  | right h h1 h2 h3 h5 h6 =>
    have H3 := Lib.hid h3
    clear h3
    go_wp2_with fail
    refine (rfCheckWalk x y z _ s o _ (by omega) (by omega) (by omega) H3.out).mono ?_
    rintro e w3 ⟨rfl, hb3⟩
    have S3 := S2.below hb3
    have B3 := S3.b
    clear c0 c1 d0 d1 d2 S2 hb3
    obtain ⟨⟨c0, c1⟩, d0, d1, d2⟩ := S3.cells
    go_wp2_with fail
    refine (awake2 _).mono ?_
    rintro e w9 ⟨rfl, hb9⟩
    go_wp2
    go_ret
    exact ⟨rfl, B3.trans (hb9.mono B3.size)⟩
  | high h h1 h2 h3 h5 h6 h7 =>
    have H3 := Lib.hid h3
    clear h3
    go_wp2_with fail
    refine (rfCheckWalk x y z _ s o _ (by omega) (by omega) (by omega) H3.out).mono ?_
    rintro e w3 ⟨rfl, hb3⟩
    have S3 := S2.below hb3
    have B3 := S3.b
    clear c0 c1 d0 d1 d2 S2 hb3
    obtain ⟨⟨c0, c1⟩, d0, d1, d2⟩ := S3.cells
    go_wp2_with fail
    refine (awake2 _).mono ?_
    rintro e w9 ⟨rfl, hb9⟩
    go_wp2
    go_ret
    exact ⟨rfl, B3.trans (hb9.mono B3.size)⟩
end Go.Proofs.YtfmfpnnglogkmaaGreatDoor
