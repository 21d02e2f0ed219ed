/- Helpers: N3. -/
import Derived.Test.YtfmfpnnglogkmaaGreatDoorN2
import Derived.Deep.RegionHeld3
import Derived.ChangeKeysEq
import Derived.Lib.Hide
/- An edge without an error: checkEdge of taper. -/
namespace Go.Proofs.YtfmfpnnglogkmaaGreatDoor
open Go.RowKit Go.Shelf Ck
attribute [local go_sem] Oper.semAt_some

theorem legs_ok (o : Bool) : ∀ (L : List UInt8) (k : Knot), (∀ c ∈ L, isL c) → okKnot k → k.x + 2 * (L.length : Int) ≤ 100000 → -100000 ≤ k.x - 2 * (L.length : Int) → k.y + 2 * (L.length : Int) ≤ 100000 →
    ∀ q ∈ legsL (sg o) k L, isL q.1 ∧ q.2.2 = stepK (sg o) q.2.1 q.1 ∧ okKnot q.2.1 ∧ okKnot q.2.2
  | [], _, _, _, _, _, _, q, hq => by simp [legsL] at hq
  | c :: r, k, hL, hk, h1, h2, h3, q, hq => by
    have hc := hL c (by simp)
    obtain ⟨n1, n2, n3, n4⟩ := step_near o (k := k) hc
    simp only [List.length_cons, Int.natCast_add, Int.natCast_one] at h1 h2 h3
    have hk' : okKnot (stepK (sg o) k c) := by
      obtain ⟨⟨a1, a2⟩, ⟨a3, a4⟩, a5⟩ := hk
      refine ⟨⟨by omega, by omega⟩, ⟨by omega, by omega⟩, ?_⟩
      rcases hc with rfl | rfl | rfl <;> cases o <;> simp [stepK, sg, dxL, dyL] <;> omega
    rw [legsL] at hq
    rcases List.mem_cons.1 hq with rfl | hq
    · exact ⟨hc, rfl, hk, hk'⟩
    · exact legs_ok o r _ (fun c' h' => hL c' (by simp [h'])) hk' (by omega) (by omega) (by omega) q hq

theorem one_cell' {W : World} {b : Nat} {u : Value} {t : TypeId} (h : W.heap[b]? = some (.cells #[u] t (0, 0))) : W.cell? ⟨b, 0, none⟩ = some u ∧ W.frozen? ⟨b, 0, none⟩ = false := by
  refine ⟨?_, ?_⟩ <;> simp [World.cell?, World.frozen?, h]
theorem one_set {W : World} {b : Nat} {u : Value} {t : TypeId} (h : W.heap[b]? = some (.cells #[u] t (0, 0))) (p : Value) : (W.setCell ⟨b, 0, none⟩ p).heap[b]? = some (.cells #[p] t (0, 0)) := by
  simp only [World.setCell, Array.getElem?_modify, if_true, h, Option.map_some]
  rfl
theorem bides_below {β : Type} {B n : Nat} {e : TypeId} {w : World} (hB : n ≤ B) (hn : n ≤ w.heap.size) : Bides B e (fun (_ : β) W => Below n w W) := fun _ _ _ _ hs hg hr =>
  hs.grown hg (by have := hs.size; omega) (fun k ek => Nat.le_trans hB (hr k ek).1)
theorem bides_block {β : Type} {B b : Nat} {e : TypeId} {o : Obj} (hb : b < B) : Bides B e (fun (_ : β) W => W.heap[b]? = some o) := fun _ _ _ _ hs hg hr =>
  (hg.block b (Array.getElem?_eq_some_iff.1 hs).1 (fun e' => by have := (hr b e'.symm).1; omega)).trans hs
theorem bides_size {β : Type} {B n : Nat} {e : TypeId} : Bides B e (fun (_ : β) W => n ≤ W.heap.size) := fun _ _ _ _ hs hg _ => Nat.le_trans hs hg.size

theorem legs_boxes (W0 : World) (x y n : Int) (s : ByteArray) (o : Bool) : ∃ W9, W9 = (((W0.alloc (.cells #[.int .i64 x, .int .i64 y] 43)).alloc (.cells #[.string s] 9)).alloc (.cells #[.int .i64 n] 3)).alloc (.cells #[.bool o] 4) ∧ Below W0.heap.size W0 W9 ∧ W9.heap.size = W0.heap.size + 4 ∧
    W9.heap[W0.heap.size]? = some (.cells #[.int .i64 x, .int .i64 y] 43 (0, 0)) ∧ W9.heap[W0.heap.size + 1]? = some (.cells #[.string s] 9 (0, 0)) ∧ W9.heap[W0.heap.size + 2]? = some (.cells #[.int .i64 n] 3 (0, 0)) ∧ W9.heap[W0.heap.size + 3]? = some (.cells #[.bool o] 4 (0, 0)) := by
  refine ⟨_, rfl, (((((Below.refl _ _).alloc (Nat.le_refl _) _).alloc (by simp) _).alloc (by simp; omega) _).alloc (by simp; omega) _), by simp, ?_, ?_, ?_, ?_⟩
  · rw [Below.heap_alloc _ _ _ (by simp; omega), Below.heap_alloc _ _ _ (by simp; omega), Below.heap_alloc _ _ _ (by simp)]
    exact heap_alloc_new _ _
  · rw [Below.heap_alloc _ _ _ (by simp), Below.heap_alloc _ _ _ (by simp)]
    have := heap_alloc_new (W0.alloc (.cells #[.int .i64 x, .int .i64 y] 43)) (.cells #[.string s] 9)
    rwa [World.size_alloc] at this
  · rw [Below.heap_alloc _ _ _ (by simp)]
    have := heap_alloc_new ((W0.alloc (.cells #[.int .i64 x, .int .i64 y] 43)).alloc (.cells #[.string s] 9)) (.cells #[.int .i64 n] 3)
    rwa [World.size_alloc, World.size_alloc] at this
  · have := heap_alloc_new (((W0.alloc (.cells #[.int .i64 x, .int .i64 y] 43)).alloc (.cells #[.string s] 9)).alloc (.cells #[.int .i64 n] 3)) (.cells #[.bool o] 4)
    rwa [World.size_alloc, World.size_alloc, World.size_alloc] at this

/-- An edge that is short and lies near the middle. -/
def EdgeOk (x y : Int) (s : ByteArray) (c : Nat) : Prop := Word s ∧ 1 ≤ c ∧ c * s.size ≤ 256 ∧ -90000 ≤ x ∧ x ≤ 90000 ∧ -90000 ≤ y ∧ y ≤ 90000 ∧ (x + y) % 2 = 0
theorem rep_len {s : ByteArray} {c : Nat} : (Lib.repeatL s.data.toList c).length = c * s.size := by rw [Lib.repeatL_length, ← Lib.size_eq]
theorem rep_letters {s : ByteArray} (hs : Word s) : ∀ (c : Nat), ∀ q ∈ Lib.repeatL s.data.toList c, isL q
  | 0, q, hq => by simp [Lib.repeatL] at hq
  | c + 1, q, hq => by rw [Lib.repeatL, List.mem_append] at hq; exact hq.elim (hs.1 q) (rep_letters hs c q)
theorem EdgeOk.legs {x y : Int} {s : ByteArray} {c : Nat} (h : EdgeOk x y s c) (o : Bool) : ∀ q ∈ legsL (sg o) ⟨x, y⟩ (Lib.repeatL s.data.toList c), isL q.1 ∧ q.2.2 = stepK (sg o) q.2.1 q.1 ∧ okKnot q.2.1 ∧ okKnot q.2.2 := by
  obtain ⟨hs, _, h2, x1, x2, y1, y2, hp⟩ := h
  have hl : (Lib.repeatL s.data.toList c).length ≤ 256 := by rw [rep_len]; exact h2
  exact legs_ok o _ _ (rep_letters hs c) ⟨⟨by simp; omega, by simp; omega⟩, ⟨by simp; omega, by simp; omega⟩, hp⟩ (by simp; omega) (by simp; omega) (by simp; omega)

set_option maxHeartbeats 4000000 in
set_option maxRecDepth 100000 in
theorem tpCheckEdge (x y : Int) (s : ByteArray) (c : Nat) (o : Bool) (w : World) (h : EdgeOk x y s c) :
    Calls Tryz.prog 61 #[.agg #[.int .i64 x, .int .i64 y], .string s, .int .i64 c, .bool o] w fun e w' => e = .returned (.int .i64 0) ∧ Below w.heap.size w w' := by
  have HL := Lib.hid (h.legs o)
  obtain ⟨hs, h1, h2, x1, x2, y1, y2, hp⟩ := h
  have HK := Lib.hid ((knotE_ok x y).2 ⟨⟨by simp; omega, by simp; omega⟩, ⟨by simp; omega, by simp; omega⟩, hp⟩)
  have HR := Lib.hid (show (if (c : Int) < 1 ∨ 256 < (c : Int) then (3 : Int) else 0) = 0 by
    rw [if_neg]
    have := Nat.mul_le_mul_left c hs.2.1
    omega)
  have hmul : (s.size : Int) * (c : Int) ≤ 256 := by
    rw [Int.mul_comm, ← Int.natCast_mul]
    omega
  have hmul0 : 0 ≤ (s.size : Int) * (c : Int) := Int.mul_nonneg (by omega) (by omega)
  have HS := Lib.hid hs
  clear hs h1 hp
  refine (callsIn_wide (n := 6)).1 (callsIn_of_wp_marks Tryz.func61 rfl trivial (wpIn_wide.2 ?_) rfl)
  simp only [Tryz.ntmps61, List.size_toArray, List.length_cons, List.length_nil, Nat.reduceAdd, Nat.reduceSub, Array.replicate_succ, Array.replicate_zero, List.push_toArray, List.append_toArray, List.nil_append, List.cons_append]
  obtain ⟨w1, hw1, hb1, hz1, ex, er⟩ : ∃ w1, w1 = (w.alloc (.cells #[.int .i64 x, .int .i64 y] 43)).alloc (.cells #[.int .i64 0] 30) ∧ Below w.heap.size w w1 ∧ w1.heap.size = w.heap.size + 2 ∧ w1.heap[w.heap.size]? = some (.cells #[.int .i64 x, .int .i64 y] 43 (0, 0)) ∧ w1.heap[w.heap.size + 1]? = some (.cells #[.int .i64 0] 30 (0, 0)) := by
    refine ⟨_, rfl, ((Below.refl _ _).alloc (Nat.le_refl _) _).alloc (by simp) _, by simp, ?_, ?_⟩
    · rw [Below.heap_alloc _ _ _ (by simp)]
      exact heap_alloc_new _ _
    · have := heap_alloc_new (w.alloc (.cells #[.int .i64 x, .int .i64 y] 43)) (.cells #[.int .i64 0] 30)
      rwa [World.size_alloc] at this
  have HW1 := Lib.hid hw1
  have HZ1 := Lib.hid hz1
  clear hw1 hz1
  go_wp2_with fail
  rw [← HW1.out]
  refine (netCheckKnot x y _).mono ?_
  rintro e w2 ⟨rfl, hb2⟩
  rw [HK.out]
  go_wp2_with fail
  refine (tpCheckWord s _ HS.out).mono ?_
  rintro e w3 ⟨rfl, hb3⟩
  go_wp2_with fail
  refine (tpCheckRange _ _ _ _).mono ?_
  rintro e w4 ⟨rfl, rfl⟩
  rw [HR.out]
  go_wp2_with fail
  refine (tpFirst3 _ _ 0 0 0 30 _ (by exact heap_alloc_new _ _)).mono ?_
  rintro e w5 ⟨rfl, rfl⟩
  rw [show firstE [0, 0, 0] = 0 from rfl]
  have b13 : Below w1.heap.size w1 w3 := hb2.trans (hb3.mono hb2.size)
  have b16 : Below w1.heap.size w1 (w3.alloc (.cells #[.int .i64 0, .int .i64 0, .int .i64 0] 30)) := b13.alloc b13.size _
  generalize w3.alloc (.cells #[.int .i64 0, .int .i64 0, .int .i64 0] 30) = w6 at *
  have hz1 := HZ1.out
  have ex6 := (b16.block _ (by omega)).trans ex
  have er6 := (b16.block _ (by omega)).trans er
  obtain ⟨f0, f1, -, -⟩ := two_cell ex6
  have bw6 := hb1.trans (b16.mono hb1.size)
  clear ex er hz1
  go_wp2_with fail
  refine (tpLegs x y s c o _).mono ?_
  rintro e w7 ⟨rfl, hw7⟩
  obtain ⟨W9, hW9, hb9, hz9, q0, q1, q2, q3⟩ := legs_boxes w6 x y c s o
  rw [← hW9] at hw7
  have hw7' := hw7.symm
  subst hw7'
  clear hW9
  have HZ9 := Lib.hid hz9
  have er9 := (hb9.block _ (Array.getElem?_eq_some_iff.1 er6).1).trans er6
  have her6 := (Array.getElem?_eq_some_iff.1 er6).1
  have bw9 := bw6.trans (hb9.mono bw6.size)
  clear hz9 f0 f1 hw7
  go_wp2_with fail
  have hvis := legs_visits w6.heap.size 4 w6.heap.size (w6.heap.size + 1) (w6.heap.size + 2) (w6.heap.size + 3) 104 (by omega) x y s c o W9 (by decide) HS.out h2 (by omega) (by omega) (by omega) (by omega) (by omega) (by rw [HZ9.out]; omega) q0 q1 q2 q3
  refine (wpIn_wide (n := 5)).1 ?_
  generalize hA0 : (Act.mk _ _) = A0
  refine wpIn_visits (n := 5) (by omega) (gf := 99) (lb := #[.pointer (some ⟨w6.heap.size, 0, none⟩), .pointer (some ⟨w6.heap.size + 1, 0, none⟩), .pointer (some ⟨w6.heap.size + 2, 0, none⟩), .pointer (some ⟨w6.heap.size + 3, 0, none⟩)]) (by rw [← hA0]; rfl) ?eg hvis KT.trans (KT.put (w := W9)) (fun _ => rfl)
    (fun _ W => Below w.heap.size w W ∧ (W.heap[w.heap.size + 1]? = some (.cells #[.int .i64 0] 30 (0, 0)) ∧ W9.heap.size ≤ W.heap.size))
    (Bides.and (bides_below bw9.size (Nat.le_refl _)) (Bides.and (bides_block (by rw [HZ9.out]; omega)) bides_size)) ⟨bw9, er9, Nat.le_refl _⟩ ?round ?done
  case eg => exact fun _ _ => by kernel_rfl
  case round =>
    rintro l pre q W hz ⟨hbW, herW, hsW⟩ ⟨r, hr⟩
    obtain ⟨hq1, hq2, hq3, hq4⟩ := HL.out q (by rw [hr]; simp)
    clear hq1 hq2 hq3
    have HKq := Lib.hid ((knotE_ok q.2.2.x q.2.2.y).2 hq4)
    subst hA0
    dsimp only [legArr]
    gi_wp2
    have hb0 : Below W.heap.size W (W.alloc (.cells #[.int .i32 (q.1.toNat : Int), .int .i64 q.2.1.x, .int .i64 q.2.1.y, .int .i64 q.2.2.x, .int .i64 q.2.2.y] 104)) := (Below.refl _ _).alloc (Nat.le_refl _) _
    refine ⟨Book.below hz hb0, KT.of_below hb0, fun Wb hg hobj _ => ?_⟩
    have hbx : Wb.heap[W.heap.size]? = some (.cells #[.int .i32 (q.1.toNat : Int), .int .i64 q.2.1.x, .int .i64 q.2.1.y, .int .i64 q.2.2.x, .int .i64 q.2.2.y] 104 (0, 0)) :=
      (hg.block _ (by simp) (fun e => by injection e; omega)).trans (heap_alloc_new _ _)
    obtain ⟨r0, r1, r2, r3, r4, -⟩ := five_of_block hbx
    obtain ⟨o1, ho1, ho2⟩ := hobj
    have hz9 := HZ9.out
    have hfk : Fence.wide.fn 98 := trivial
    have hfk' : (Fence.wide.inRound l).fn 98 := trivial
    have hn1 : 1 ≤ 5 - 1 - 1 := by decide
    have hbb : Below w.heap.size w Wb := (hbW.trans (hb0.mono hbW.size)).grown hg (by have := hbW.size; simp; omega) (fun k e => by cases e; have := bw9.size; omega)
    have heb : Wb.heap[w.heap.size + 1]? = some (.cells #[.int .i64 0] 30 (0, 0)) := (hg.block _ (by simp; omega) (fun e => by injection e; omega)).trans ((hb0.block _ (by omega)).trans herW)
    have hsb : W9.heap.size + 2 ≤ Wb.heap.size := by have := hg.size; simp at this; omega
    gi_wp2_with (gi_at_call 98; refine (CallsIn.inRound l (callsIn_wide.2 (netCheckKnot _ _ _))).mono ?_; rintro e W2 ⟨rfl, hb2⟩; rw [HKq.out])
    exact ⟨Book.below hsb hb2, KT.of_below hb2, hbb.trans (hb2.mono hbb.size), (hb2.block _ (Array.getElem?_eq_some_iff.1 heb).1).trans heb, by have := hb2.size; omega⟩
  case done =>
    rintro D ys W hD hS ⟨hbW, herW, hsW⟩ hK
    subst hA0
    obtain ⟨k0, k1⟩ := one_cell' herW
    have hDn : D ≠ w.heap.size + 1 := by have := HZ9.out; omega
    go_wp2
    have hK' : (W.setCell ⟨w.heap.size + 1, 0, none⟩ (.int .i64 0)).heap[D]? = some (.deferred (some [])) := (Below.heap_setCell _ _ _ D hDn).trans hK
    have hbf : Below w.heap.size w (W.setCell ⟨w.heap.size + 1, 0, none⟩ (.int .i64 0)) := hbW.setCell (by simp) _
    refine ⟨by simp, .inl ⟨_, _, rfl, run_takeDeferred hK', ?_⟩⟩
    refine ⟨.int .i64 0, ?_, rfl, hbf.trans (belowK_b (w := W9) (n₀ := w.heap.size) bw9.size _ D _ _ hD hK' rfl rfl)⟩
    have hcl := one_cell ((World.putObj_heap_other (r := D) (o := .deferred none) (k := w.heap.size + 1) (fun e => hDn e.symm)).trans (one_set herW (.int .i64 0)))
    simp [results, Tryz.results61, go_sem, hcl]
end Go.Proofs.YtfmfpnnglogkmaaGreatDoor

/- Sheet of the program, at a sheet without an error. -/
namespace Go.Proofs.YtfmfpnnglogkmaaGreatDoor
open Go.RowKit Go.Shelf Ck
attribute [local go_sem] Oper.semAt_some

theorem KR.appended {W w1 : World} {Bo B1 B2 : Nat} {e : TypeId} {size k : Nat} {v : Value} {xs : List Value} {tmp : Obj} (hB : Bo < B1) (hz : B2 ≤ W.heap.size) (hrow : W.ownsRow B2 e size v k xs) (hgrow : (W.alloc tmp).grownBy w1 v.ownBlock) (v' : Value) : KR B1 B2 W (w1.setCell ⟨Bo, 0, none⟩ v') := by
  refine ⟨?_, fun b h1 h2 => ?_⟩
  · have := hgrow.size; simp at this ⊢; omega
  · have e1 : (w1.setCell ⟨Bo, 0, none⟩ v').heap[b]? = w1.heap[b]? := (grownBy_setCell' w1 Bo v').block b (by have := hgrow.size; simp at this; omega) (fun e => by cases e; omega)
    rw [e1, hgrow.block b (by simp; omega) (fun e => by have := ownsRow_base hrow b e.symm; omega)]
    exact Below.heap_alloc _ _ _ (by omega)

theorem sheet_boxes (W0 : World) (x y c r : Int) : ∃ W9, W9 = ((W0.alloc (.cells #[.int .i64 x, .int .i64 y] 43)).alloc (.cells #[.int .i64 c] 3)).alloc (.cells #[.int .i64 r] 3) ∧ Below W0.heap.size W0 W9 ∧ W9.heap.size = W0.heap.size + 3 ∧
    W9.cell? ⟨W0.heap.size, 0, none⟩ = some (.int .i64 x) ∧ W9.cell? ⟨W0.heap.size, 1, none⟩ = some (.int .i64 y) ∧ W9.cell? ⟨W0.heap.size + 1, 0, none⟩ = some (.int .i64 c) ∧ W9.cell? ⟨W0.heap.size + 2, 0, none⟩ = some (.int .i64 r) := by
  obtain ⟨w1, hw1, h0, h1, hb1, hz1⟩ := box2 W0 (.int .i64 x) (.int .i64 y) 43
  have hs1 : w1.heap.size = W0.heap.size + 1 := by rw [hw1]; simp
  have bc := (Boxed.new w1 3 (.int .i64 c)).cell
  have hs2 : (w1.alloc (.cells #[.int .i64 c] 3)).heap.size = W0.heap.size + 2 := by simp; omega
  have br := (Boxed.new (w1.alloc (.cells #[.int .i64 c] 3)) 3 (.int .i64 r)).cell
  have b2 : Below w1.heap.size w1 (w1.alloc (.cells #[.int .i64 c] 3)) := (Below.refl _ _).alloc (Nat.le_refl _) _
  have b3 : Below (w1.alloc (.cells #[.int .i64 c] 3)).heap.size (w1.alloc (.cells #[.int .i64 c] 3)) ((w1.alloc (.cells #[.int .i64 c] 3)).alloc (.cells #[.int .i64 r] 3)) := (Below.refl _ _).alloc (Nat.le_refl _) _
  rw [← hw1]
  rw [hs1] at bc
  rw [hs2] at br
  refine ⟨_, rfl, hb1.trans ((b2.trans (b3.mono b2.size)).mono hb1.size), by simp; omega, ?_, ?_, ?_, br⟩
  · exact ((b3.cell (p := ⟨W0.heap.size, 0, none⟩) (by show W0.heap.size < _; omega)).trans (b2.cell (p := ⟨W0.heap.size, 0, none⟩) (by show W0.heap.size < _; omega))).trans h0
  · exact ((b3.cell (p := ⟨W0.heap.size, 1, none⟩) (by show W0.heap.size < _; omega)).trans (b2.cell (p := ⟨W0.heap.size, 1, none⟩) (by show W0.heap.size < _; omega))).trans h1
  · exact (b3.cell (p := ⟨W0.heap.size + 1, 0, none⟩) (by show W0.heap.size + 1 < _; omega)).trans bc
/-- A box of three cells. -/
def Box3 (W : World) (B : Nat) (t : TypeId) (a b c : Value) : Prop := W.heap[B]? = some (.cells #[a, b, c] t (0, 0))
theorem Box3.cells {W : World} {B : Nat} {t : TypeId} {a b c : Value} (h : Box3 W B t a b c) : W.cell? ⟨B, 0, none⟩ = some a ∧ W.cell? ⟨B, 1, none⟩ = some b ∧ W.cell? ⟨B, 2, none⟩ = some c ∧ B < W.heap.size := by
  refine ⟨?_, ?_, ?_, (Array.getElem?_eq_some_iff.1 h).1⟩ <;> simp [World.cell?, show W.heap[B]? = _ from h]
theorem Box3.new (W : World) (t : TypeId) (a b c : Value) : Box3 (W.alloc (.cells #[a, b, c] t)) W.heap.size t a b c := World.alloc_heap_new W _
theorem box3_own (B : Nat) (t : TypeId) (a b c : Value) : Own (fun (_ : Unit) W => Box3 W B t a b c) := fun s X Y row hs hg hrow =>
  (hg.block B (Array.getElem?_eq_some_iff.1 hs).1 (fun e' => by obtain ⟨o, ho, hc⟩ := hrow B e'.symm; rw [show X.heap[B]? = _ from hs] at ho; cases ho; cases hc)).trans hs
theorem sheet_step {W w1 : World} {Bo B1 B2 : Nat} {t e : TypeId} {size k m : Nat} {v v' : Value} {xs ys : List Value} {tmp : Obj} (hte : t ≠ e) (hB : Bo < B1) (hB2 : B1 ≤ B2) (hz : B2 ≤ W.heap.size) (hv : Boxed W Bo t v) (hrow : W.ownsRow B2 e size v k xs) (hown' : w1.ownsRow B2 e size v' m ys) (hgrow : (W.alloc tmp).grownBy w1 v.ownBlock) :
    Boxed w1 Bo t v ∧ Boxed (w1.setCell ⟨Bo, 0, none⟩ v') Bo t v' ∧ KeepsOthers W (w1.setCell ⟨Bo, 0, none⟩ v') ∧ Below Bo W (w1.setCell ⟨Bo, 0, none⟩ v') ∧ (w1.setCell ⟨Bo, 0, none⟩ v').ownsRow B2 e size v' m ys ∧ KR B1 B2 W (w1.setCell ⟨Bo, 0, none⟩ v') := by
  obtain ⟨h1, h2, h3, h4, h5⟩ := hv.appended hte (ownsRow_mono hrow (by omega : Bo ≤ B2)) (by omega) (Nat.le_refl _) (ownsRow_mono hown' (by omega)) hgrow
  exact ⟨h1, h2, h4, h5, hown'.kept (grownBy_setCell' w1 Bo v') (.inr (h1.not_row hte hown').symm), KR.appended hB hz hrow hgrow v'⟩
def SheetPost (l : List Ck.Bar) (w : World) (e : Ending) (w' : World) : Prop :=
  ∃ v, e = .returned (.tuple #[v, .int .i64 0]) ∧ w'.ownsRow w.heap.size 74 3 v l.length (bcellsL l) ∧ Below w.heap.size w w'
theorem netSide (n : Int) (w : World) : Calls Tryz.prog 129 #[.int .i64 n, .int .i64 1, .int .i64 256] w fun e w' => e = .returned (.int .i64 (sideR n)) ∧ w = w' := netCheckRange n 1 256 w

end Go.Proofs.YtfmfpnnglogkmaaGreatDoor

/- The bars along an edge: Bars of taper. -/
namespace Go.Proofs.YtfmfpnnglogkmaaGreatDoor
open Go.RowKit Go.Shelf Ck
attribute [local go_sem] Oper.semAt_some

def barsOf (l : List (UInt8 × Knot × Knot)) : List Bar := l.flatMap fun q => if q.1 = 66 then [⟨q.2.1.x, q.2.1.y, q.2.2.x - q.2.1.x⟩] else []
theorem barsOf_snoc (l : List (UInt8 × Knot × Knot)) (q : UInt8 × Knot × Knot) : barsOf (l ++ [q]) = barsOf l ++ (if q.1 = 66 then [⟨q.2.1.x, q.2.1.y, q.2.2.x - q.2.1.x⟩] else []) := by simp [barsOf]
theorem barsOf_legs (σ : Int) : ∀ (L : List UInt8) (k : Knot), barsOf (legsL σ k L) = barsP σ k L
  | [], _ => rfl
  | c :: r, k => by
    have ih := barsOf_legs σ r (stepK σ k c)
    have e : barsOf (legsL σ k (c :: r)) = (if c = 66 then [⟨k.x, k.y, (stepK σ k c).x - k.x⟩] else []) ++ barsOf (legsL σ (stepK σ k c) r) := by simp [barsOf, legsL]
    rw [e, ih, barsP_cons]
    by_cases h : c = 66
    · subst h
      simp [step_B]
      omega
    · simp [h]
theorem bides_row {β : Type} {B Bo n₀ : Nat} {e te t : TypeId} {size : Nat} (k : β → Nat) (f : β → List Value) (hB : Bo < B) (hne : te ≠ e) : Bides B e (fun (s : β) W => ∃ v, Boxed W Bo t v ∧ W.ownsRow n₀ te size v (k s) (f s)) := by
  rintro s W W' r ⟨v, hv, hr⟩ hg hrow
  refine ⟨v, (hg.block Bo (Array.getElem?_eq_some_iff.1 hv).1 (fun e' => by have := (hrow Bo e'.symm).1; omega)).trans hv, hr.kept hg ?_⟩
  rcases hr.2 with ⟨rfl, _⟩ | ⟨g, cap, cur, rfl, _, hgb, _⟩
  · exact .inl rfl
  · refine .inr fun e' => ?_
    obtain ⟨_, o, ho, hk⟩ := hrow g (by simpa [Value.ownBlock] using e'.symm)
    rw [hgb] at ho
    cases ho
    rcases hk with hk | ⟨cs, f', hk, _⟩
    · cases hk
    · injection hk with _ h2
      exact hne h2
theorem KT.appended {W w1 : World} {Bo B1 n₀ : Nat} {e : TypeId} {size k : Nat} {v : Value} {xs : List Value} {tmp : Obj} (hB : Bo < B1) (hne : e ≠ 43) (hrow : W.ownsRow n₀ e size v k xs) (hgrow : (W.alloc tmp).grownBy w1 v.ownBlock) (v' : Value) : KT B1 e W (w1.setCell ⟨Bo, 0, none⟩ v') := by
  refine ⟨?_, fun b o hb ho hk => ?_⟩
  · have := hgrow.size; simp at this ⊢; omega
  · have hlt := (Array.getElem?_eq_some_iff.1 ho).1
    have hnb : some b ≠ v.ownBlock := by
      intro e'
      rcases hrow.2 with ⟨rfl, _⟩ | ⟨g, cap, cur, rfl, _, hgb, _⟩
      · simp [Value.ownBlock] at e'
      · obtain rfl : b = g := by simpa [Value.ownBlock] using e'
        rw [hgb] at ho
        cases ho
        rcases hk with hk | ⟨cs, t, f, hk, hk2⟩
        · cases hk
        · injection hk with _ h2
          rcases hk2 with hk2 | ⟨hk2, _⟩
          · exact hk2 h2.symm
          · exact hne (h2.trans hk2)
    rw [Below.heap_setCell _ _ _ b (by show b ≠ Bo; omega), hgrow.block b (by simp; omega) hnb, Below.heap_alloc _ _ _ hlt]
    exact ho

set_option maxHeartbeats 4000000 in
set_option maxRecDepth 100000 in
theorem tpBars (x y : Int) (s : ByteArray) (c : Nat) (o : Bool) (w : World) (h : EdgeOk x y s c) :
    Calls Tryz.prog 18 #[.agg #[.int .i64 x, .int .i64 y], .string s, .int .i64 c, .bool o] w (SheetPost (barsP (sg o) ⟨x, y⟩ (Lib.repeatL s.data.toList c)) w) := by
  have HE := Lib.hid h
  have HL := Lib.hid (h.legs o)
  have HLEN := Lib.hid (show (legsL (sg o) ⟨x, y⟩ (Lib.repeatL s.data.toList c)).length ≤ 256 by rw [legsL_length, rep_len]; exact h.2.2.1)
  obtain ⟨hs, h1, h2, x1, x2, y1, y2, hp⟩ := h
  have HS := Lib.hid hs
  clear hs h1 hp
  refine (callsIn_wide (n := 6)).1 (callsIn_of_wp_marks Tryz.func18 rfl trivial (wpIn_wide.2 ?_) rfl)
  simp only [Tryz.ntmps18, List.size_toArray, List.length_cons, List.length_nil, Nat.reduceAdd, Nat.reduceSub, Array.replicate_succ, Array.replicate_zero, List.push_toArray, List.append_toArray, List.nil_append, List.cons_append]
  obtain ⟨w1, hw1, e0, e1, hb1, hz1⟩ := box2 w (.int .i64 x) (.int .i64 y) 43
  have HW1 := Lib.hid hw1
  clear hw1
  go_wp2_with fail
  rw [← HW1.out]
  refine (tpCheckEdge x y s c o _ HE.out).mono ?_
  rintro e w2 ⟨rfl, hb2⟩
  have f0 := (hb2.cell (p := ⟨w.heap.size, 0, none⟩) hz1).trans e0
  have f1 := (hb2.cell (p := ⟨w.heap.size, 1, none⟩) hz1).trans e1
  have hbw := hb1.trans (hb2.mono hb1.size)
  have hz2 := hb2.size
  have bO := Boxed.new w2 49 (.slice none 0 0)
  have hb3 : Below w2.heap.size w2 (w2.alloc (.cells #[.slice none 0 0] 49)) := (Below.refl _ _).alloc (Nat.le_refl _) _
  have g0 := (hb3.cell (p := ⟨w.heap.size, 0, none⟩) (by show w.heap.size < _; omega)).trans f0
  have g1 := (hb3.cell (p := ⟨w.heap.size, 1, none⟩) (by show w.heap.size < _; omega)).trans f1
  have HSZ := Lib.hid (show (w2.alloc (.cells #[.slice none 0 0] 49)).heap.size = w2.heap.size + 1 by simp)
  obtain ⟨w6, hw6⟩ : ∃ w6, w2.alloc (.cells #[.slice none 0 0] 49) = w6 := ⟨_, rfl⟩
  rw [hw6] at bO hb3 HSZ
  have HW6 := Lib.hid hw6
  clear hw6 f0 f1 e0 e1
  go_wp2_with fail
  rw [HW6.out]
  refine (tpLegs x y s c o _).mono ?_
  rintro e w7 ⟨rfl, hw7⟩
  obtain ⟨W9, hW9, hb9, hz9, q0, q1, q2, q3⟩ := legs_boxes w6 x y c s o
  rw [← hW9] at hw7
  have hw7' := hw7.symm
  subst hw7'
  clear hW9
  have HZ9 := Lib.hid hz9
  have hz6 := HSZ.out
  have bO9 : Boxed W9 w2.heap.size 49 (.slice none 0 0) := (hb9.block _ (by omega)).trans bO
  have bw6 := hbw.trans (hb3.mono hbw.size)
  have bw9 := bw6.trans (hb9.mono bw6.size)
  have hwz := hbw.size
  obtain ⟨ib, hib, hi0, hi1, hi2⟩ := info_parts Tryz.info74
  have HB := Lib.hid hib
  have HB0 := Lib.hid hi0
  have HB1 := Lib.hid hi1
  have HB2 := Lib.hid hi2
  clear hz9 hw7 hz6 hib hi0 hi1 hi2
  go_wp2_with fail
  have hvis := legs_visits w6.heap.size 4 w6.heap.size (w6.heap.size + 1) (w6.heap.size + 2) (w6.heap.size + 3) 74 (by omega) x y s c o W9 (by decide) HS.out h2 (by omega) (by omega) (by omega) (by omega) (by omega) (by rw [HZ9.out]; omega) q0 q1 q2 q3
  refine (wpIn_wide (n := 5)).1 ?_
  generalize hA0 : (Act.mk _ _) = A0
  refine wpIn_visits (n := 5) (by omega) (gf := 99) (lb := #[.pointer (some ⟨w6.heap.size, 0, none⟩), .pointer (some ⟨w6.heap.size + 1, 0, none⟩), .pointer (some ⟨w6.heap.size + 2, 0, none⟩), .pointer (some ⟨w6.heap.size + 3, 0, none⟩)]) (by rw [← hA0]; rfl) ?eg hvis KT.trans (KT.put (w := W9)) (fun _ => rfl)
    (fun pre W => (∃ v, Boxed W w2.heap.size 49 v ∧ W.ownsRow w.heap.size 74 3 v (barsOf pre).length (bcellsL (barsOf pre))) ∧ (Below w.heap.size w W ∧ W9.heap.size ≤ W.heap.size))
    (Bides.and (bides_row (fun pre => (barsOf pre).length) (fun pre => bcellsL (barsOf pre)) (by rw [HZ9.out, HSZ.out]; omega) (by decide)) (Bides.and (bides_below bw9.size (Nat.le_refl _)) bides_size)) ⟨⟨_, bO9, World.ownsRow_nil _ _ _ _⟩, bw9, Nat.le_refl _⟩ ?round ?done
  case eg => exact fun _ _ => by kernel_rfl
  case round =>
    rintro l pre q W hz ⟨⟨v, hv, hrow⟩, hbW, hsW⟩ ⟨r, hr⟩
    obtain ⟨hq1, -, hq3, hq4⟩ := HL.out q (by rw [hr]; simp)
    have hpre : (barsOf pre).length ≤ 256 := by
      have h1 := HLEN.out
      rw [hr] at h1
      have : ∀ l : List (UInt8 × Knot × Knot), (barsOf l).length ≤ l.length := fun l => by
        induction l with
        | nil => simp [barsOf]
        | cons a t ih =>
          have e : barsOf (a :: t) = (if a.1 = 66 then [⟨a.2.1.x, a.2.1.y, a.2.2.x - a.2.1.x⟩] else []) ++ barsOf t := by simp [barsOf]
          rw [e, List.length_append, List.length_cons]
          split <;> simp <;> omega
      have := this pre
      simp at h1
      omega
    obtain ⟨⟨a1, a2⟩, -, -⟩ := hq3
    obtain ⟨⟨a3, a4⟩, -, -⟩ := hq4
    have HSNOC := Lib.hid (barsOf_snoc pre q)
    subst hA0
    dsimp only [legArr]
    gi_wp2
    have hb0 : Below W.heap.size W (W.alloc (.cells #[.int .i32 (q.1.toNat : Int), .int .i64 q.2.1.x, .int .i64 q.2.1.y, .int .i64 q.2.2.x, .int .i64 q.2.2.y] 104)) := (Below.refl _ _).alloc (Nat.le_refl _) _
    refine ⟨Book.below hz hb0, KT.of_below hb0, fun Wb hg hobj hbk => ?_⟩
    have hbx : Wb.heap[W.heap.size]? = some (.cells #[.int .i32 (q.1.toNat : Int), .int .i64 q.2.1.x, .int .i64 q.2.1.y, .int .i64 q.2.2.x, .int .i64 q.2.2.y] 104 (0, 0)) :=
      (hg.block _ (by simp) (fun e => by injection e; omega)).trans (heap_alloc_new _ _)
    obtain ⟨r0, r1, r2, r3, r4, -⟩ := five_of_block hbx
    obtain ⟨o1, ho1, ho2⟩ := hobj
    have hz9 := HZ9.out
    have hz6 := HSZ.out
    have hsb : W9.heap.size + 2 ≤ Wb.heap.size := by have := hg.size; simp at this; omega
    have hbb : Below w.heap.size w Wb := (hbW.trans (hb0.mono hbW.size)).grown hg (by have := hbW.size; simp; omega) (fun k e => by cases e; have := bw9.size; omega)
    have hI1 := bides_row (t := 49) (te := 74) (n₀ := w.heap.size) (size := 3) (fun pre => (barsOf pre).length) (fun pre => bcellsL (barsOf pre)) (show w2.heap.size < W9.heap.size by omega) (show 74 ≠ 43 by decide) pre _ Wb (some (W9.heap.size + 1)) ⟨v, hv.alloc _, hrow.alloc _⟩ hg (fun b e => by cases e; exact ⟨by omega, o1, ho1, .inl ho2⟩)
    obtain ⟨v, hvB, hrowB⟩ := hI1
    have hcB := hvB.cell
    have HBK := Lib.hid hbk
    have hwb : w.heap.size ≤ Wb.heap.size := by omega
    clear hv hrow hbk ho1 ho2 hbx
    by_cases h66 : q.1 = 66
    · have r0' : Wb.cell? ⟨W.heap.size, 0, none⟩ = some (.int .i32 66) := by rw [h66] at r0; exact r0
      have HSN := Lib.hid (show barsOf (pre ++ [q]) = barsOf pre ++ [⟨q.2.1.x, q.2.1.y, q.2.2.x - q.2.1.x⟩] by rw [HSNOC.out, if_pos h66])
      clear r0 h66 hq1 HSNOC
      gi_wp2_with (gi_at_builtin; refine wpListIn_append_own _ rfl _ _ 49 rfl w.heap.size 74 ib (.agg #[.int .i64 0, .int .i64 0, .int .i64 0]) 3 24 Tryz.underlying49 HB.out HB0.out HB1.out HB2.out rfl (by decide) _ _ _ rfl (hrowB.alloc _) ⟨Wb.heap.size, 0, none⟩ 1 1 [.int .i64 q.2.1.x, .int .i64 q.2.1.y, .int .i64 (q.2.2.x - q.2.1.x)] rfl rfl (three_new _ _ _ _ _) (by intro u hu; simp at hu; rcases hu with rfl | rfl | rfl <;> rfl) (by unfold maxLen; omega) (by omega) (by simp; omega) ?_; intro v' w1' hown' hgrow _; obtain ⟨g', cap', rfl⟩ := ownsRow_succ hown'; obtain ⟨hv1, hv2, hr2, hk2, hb2'⟩ := hvB.appended (by decide) hrowB hwb (by omega) hown' hgrow; have hkt := KT.appended (B1 := w6.heap.size) (Bo := w2.heap.size) (by omega) (by decide) hrowB hgrow (.slice (some ⟨g', 0, none⟩) ((barsOf pre).length + 1) cap'); have hc1 := hv1.cell; have hf1 := hv1.frozen)
      exact ⟨Book.others hk2 HBK.out.1 HBK.out.2, hkt, ⟨_, hv2, by rw [HSN.out, bcellsL_snoc]; simpa using hr2⟩, hbb.trans hb2', by have := hb2'.size; omega⟩
    · have hne : ((q.1.toNat : Int) == 66) = false := by
        rw [beq_eq_false_iff_ne]
        intro e
        exact h66 (UInt8.toNat.inj (by show q.1.toNat = 66; omega))
      have HSN := Lib.hid (show barsOf (pre ++ [q]) = barsOf pre by rw [HSNOC.out, if_neg h66, List.append_nil])
      clear h66 hq1 HSNOC
      gi_wp2
      exact ⟨Book.below hsb (Below.refl _ _), KT.of_below (Below.refl _ _), ⟨_, hvB, by rw [HSN.out]; exact hrowB⟩, hbb, by omega⟩
  case done =>
    rintro D ys W hD hS ⟨⟨v, hv, hrow⟩, hbW, hsW⟩ hK
    subst hA0
    subst hS
    have hc := hv.cell
    go_wp2
    refine ⟨by simp, .inl ⟨_, _, rfl, run_takeDeferred hK, ?_⟩⟩
    rw [barsOf_legs] at hrow
    exact ⟨_, results_tmp2 rfl _ _ _, v, rfl, ownsRow_putObj hrow _ hK rfl, hbW.trans (belowK_b (w := W9) (n₀ := w.heap.size) bw9.size W D _ _ hD hK rfl rfl)⟩
end Go.Proofs.YtfmfpnnglogkmaaGreatDoor

/- The meshes along an edge: Meshes of taper. -/
namespace Go.Proofs.YtfmfpnnglogkmaaGreatDoor
open Go.RowKit Go.Shelf Ck
attribute [local go_sem] Oper.semAt_some

/-- The centre of the mesh that a letter other than B goes through. -/
def midK (σ : Int) (k : Knot) (c : UInt8) : Knot := if c = 84 then ⟨k.x + σ, k.y⟩ else ⟨k.x, k.y + 1⟩
def midsOf (σ : Int) (l : List (UInt8 × Knot × Knot)) : List Knot := l.flatMap fun q => if q.1 = 66 then [] else [midK σ q.2.1 q.1]
theorem midsOf_snoc (σ : Int) (l : List (UInt8 × Knot × Knot)) (q : UInt8 × Knot × Knot) : midsOf σ (l ++ [q]) = midsOf σ l ++ (if q.1 = 66 then [] else [midK σ q.2.1 q.1]) := by simp [midsOf]
def midsP (σ : Int) : Knot → List UInt8 → List Knot
  | _, [] => []
  | k, c :: r => if c = 66 then midsP σ (stepK σ k c) r else midK σ k c :: midsP σ (stepK σ k c) r
theorem midsOf_legs (σ : Int) : ∀ (L : List UInt8) (k : Knot), midsOf σ (legsL σ k L) = midsP σ k L
  | [], _ => rfl
  | c :: r, k => by
    have ih := midsOf_legs σ r (stepK σ k c)
    have e : midsOf σ (legsL σ k (c :: r)) = (if c = 66 then [] else [midK σ k c]) ++ midsOf σ (legsL σ (stepK σ k c) r) := by simp [midsOf, legsL]
    rw [e, ih, midsP]
    by_cases h : c = 66 <;> simp [h]
theorem mids_half (o : Bool) {k : Knot} {c : UInt8} (hc : isL c) (h : c ≠ 66) : (k.x + (stepK (sg o) k c).x).tdiv 2 = (midK (sg o) k c).x ∧ (k.y + (stepK (sg o) k c).y).tdiv 2 = (midK (sg o) k c).y := by
  have hd : ∀ z : Int, (z + z).tdiv 2 = z := fun z => by rw [← Int.two_mul, Int.mul_comm, Int.mul_tdiv_cancel _ (by decide)]
  rcases hc with rfl | rfl | rfl
  · refine ⟨?_, ?_⟩
    · have : (stepK (sg o) k 78).x = k.x := by simp [stepK, dxL]
      rw [this, hd]; rfl
    · have : k.y + (stepK (sg o) k 78).y = (k.y + 1) + (k.y + 1) := by simp [stepK, dyL]; omega
      rw [this, hd]; rfl
  · exact absurd rfl h
  · refine ⟨?_, ?_⟩
    · have : k.x + (stepK (sg o) k 84).x = (k.x + sg o) + (k.x + sg o) := by simp [stepK, dxL]; omega
      rw [this, hd]; rfl
    · have : (stepK (sg o) k 84).y = k.y := by simp [stepK, dyL]
      rw [this, hd]; rfl
theorem mid_near (o : Bool) (k : Knot) (c : UInt8) : k.x - 1 ≤ (midK (sg o) k c).x ∧ (midK (sg o) k c).x ≤ k.x + 1 ∧ k.y - 1 ≤ (midK (sg o) k c).y ∧ (midK (sg o) k c).y ≤ k.y + 1 := by
  unfold midK sg
  cases o <;> split <;> simp <;> omega
theorem infoP : (Tryz.prog.info? 66).map (fun i => (i.zero, i.size, i.bytes)) = some (some (.agg #[.int .i64 0, .int .i64 0]), 2, 16) := by kernel_rfl
def MidPost (l : List Knot) (w : World) (e : Ending) (w' : World) : Prop :=
  ∃ v, e = .returned (.tuple #[v, .int .i64 0]) ∧ w'.ownsRow w.heap.size 66 2 v l.length (kcellsL l) ∧ Below w.heap.size w w'

set_option maxHeartbeats 4000000 in
set_option maxRecDepth 100000 in
theorem tpMeshes (x y : Int) (s : ByteArray) (c : Nat) (o : Bool) (w : World) (h : EdgeOk x y s c) :
    Calls Tryz.prog 19 #[.agg #[.int .i64 x, .int .i64 y], .string s, .int .i64 c, .bool o] w (MidPost (midsP (sg o) ⟨x, y⟩ (Lib.repeatL s.data.toList c)) w) := by
  have HE := Lib.hid h
  have HL := Lib.hid (h.legs o)
  have HLEN := Lib.hid (show (legsL (sg o) ⟨x, y⟩ (Lib.repeatL s.data.toList c)).length ≤ 256 by rw [legsL_length, rep_len]; exact h.2.2.1)
  obtain ⟨hs, h1, h2, x1, x2, y1, y2, hp⟩ := h
  have HS := Lib.hid hs
  clear hs h1 hp
  refine (callsIn_wide (n := 6)).1 (callsIn_of_wp_marks Tryz.func19 rfl trivial (wpIn_wide.2 ?_) rfl)
  simp only [Tryz.ntmps19, List.size_toArray, List.length_cons, List.length_nil, Nat.reduceAdd, Nat.reduceSub, Array.replicate_succ, Array.replicate_zero, List.push_toArray, List.append_toArray, List.nil_append, List.cons_append]
  obtain ⟨w1, hw1, e0, e1, hb1, hz1⟩ := box2 w (.int .i64 x) (.int .i64 y) 43
  have HW1 := Lib.hid hw1
  clear hw1
  go_wp2_with fail
  rw [← HW1.out]
  refine (tpCheckEdge x y s c o _ HE.out).mono ?_
  rintro e w2 ⟨rfl, hb2⟩
  have f0 := (hb2.cell (p := ⟨w.heap.size, 0, none⟩) hz1).trans e0
  have f1 := (hb2.cell (p := ⟨w.heap.size, 1, none⟩) hz1).trans e1
  have hbw := hb1.trans (hb2.mono hb1.size)
  have hz2 := hb2.size
  have bO := Boxed.new w2 52 (.slice none 0 0)
  have hb3 : Below w2.heap.size w2 (w2.alloc (.cells #[.slice none 0 0] 52)) := (Below.refl _ _).alloc (Nat.le_refl _) _
  have g0 := (hb3.cell (p := ⟨w.heap.size, 0, none⟩) (by show w.heap.size < _; omega)).trans f0
  have g1 := (hb3.cell (p := ⟨w.heap.size, 1, none⟩) (by show w.heap.size < _; omega)).trans f1
  have HSZ := Lib.hid (show (w2.alloc (.cells #[.slice none 0 0] 52)).heap.size = w2.heap.size + 1 by simp)
  obtain ⟨w6, hw6⟩ : ∃ w6, w2.alloc (.cells #[.slice none 0 0] 52) = w6 := ⟨_, rfl⟩
  rw [hw6] at bO hb3 HSZ
  have HW6 := Lib.hid hw6
  clear hw6 f0 f1 e0 e1
  go_wp2_with fail
  rw [HW6.out]
  refine (tpLegs x y s c o _).mono ?_
  rintro e w7 ⟨rfl, hw7⟩
  obtain ⟨W9, hW9, hb9, hz9, q0, q1, q2, q3⟩ := legs_boxes w6 x y c s o
  rw [← hW9] at hw7
  have hw7' := hw7.symm
  subst hw7'
  clear hW9
  have HZ9 := Lib.hid hz9
  have hz6 := HSZ.out
  have bO9 : Boxed W9 w2.heap.size 52 (.slice none 0 0) := (hb9.block _ (by omega)).trans bO
  have bw6 := hbw.trans (hb3.mono hbw.size)
  have bw9 := bw6.trans (hb9.mono bw6.size)
  have hwz := hbw.size
  obtain ⟨ib, hib, hi0, hi1, hi2⟩ := info_parts infoP
  have HB := Lib.hid hib
  have HB0 := Lib.hid hi0
  have HB1 := Lib.hid hi1
  have HB2 := Lib.hid hi2
  clear hz9 hw7 hz6 hib hi0 hi1 hi2
  go_wp2_with fail
  have hvis := legs_visits w6.heap.size 4 w6.heap.size (w6.heap.size + 1) (w6.heap.size + 2) (w6.heap.size + 3) 66 (by omega) x y s c o W9 (by decide) HS.out h2 (by omega) (by omega) (by omega) (by omega) (by omega) (by rw [HZ9.out]; omega) q0 q1 q2 q3
  refine (wpIn_wide (n := 5)).1 ?_
  generalize hA0 : (Act.mk _ _) = A0
  refine wpIn_visits (n := 5) (by omega) (gf := 99) (lb := #[.pointer (some ⟨w6.heap.size, 0, none⟩), .pointer (some ⟨w6.heap.size + 1, 0, none⟩), .pointer (some ⟨w6.heap.size + 2, 0, none⟩), .pointer (some ⟨w6.heap.size + 3, 0, none⟩)]) (by rw [← hA0]; rfl) ?eg hvis KT.trans (KT.put (w := W9)) (fun _ => rfl)
    (fun pre W => (∃ v, Boxed W w2.heap.size 52 v ∧ W.ownsRow w.heap.size 66 2 v (midsOf (sg o) pre).length (kcellsL (midsOf (sg o) pre))) ∧ (Below w.heap.size w W ∧ W9.heap.size ≤ W.heap.size))
    (Bides.and (bides_row (fun pre => (midsOf (sg o) pre).length) (fun pre => kcellsL (midsOf (sg o) pre)) (by rw [HZ9.out, HSZ.out]; omega) (by decide)) (Bides.and (bides_below bw9.size (Nat.le_refl _)) bides_size)) ⟨⟨_, bO9, World.ownsRow_nil _ _ _ _⟩, bw9, Nat.le_refl _⟩ ?round ?done
  case eg => exact fun _ _ => by kernel_rfl
  case round =>
    rintro l pre q W hz ⟨⟨v, hv, hrow⟩, hbW, hsW⟩ ⟨r, hr⟩
    obtain ⟨hq1, hq2, hq3, hq4⟩ := HL.out q (by rw [hr]; simp)
    have HQ2 := Lib.hid hq2
    clear hq2
    have hpre : (midsOf (sg o) pre).length ≤ 256 := by
      have h1 := HLEN.out
      rw [hr] at h1
      have : ∀ l : List (UInt8 × Knot × Knot), (midsOf (sg o) l).length ≤ l.length := fun l => by
        induction l with
        | nil => simp [midsOf]
        | cons a t ih =>
          have e : midsOf (sg o) (a :: t) = (if a.1 = 66 then [] else [midK (sg o) a.2.1 a.1]) ++ midsOf (sg o) t := by simp [midsOf]
          rw [e, List.length_append, List.length_cons]
          split <;> simp <;> omega
      have := this pre
      simp at h1
      omega
    obtain ⟨⟨a1, a2⟩, ⟨b1, b2⟩, -⟩ := hq3
    obtain ⟨⟨a3, a4⟩, ⟨b3, b4⟩, -⟩ := hq4
    have HSNOC := Lib.hid (midsOf_snoc (sg o) pre q)
    subst hA0
    dsimp only [legArr]
    gi_wp2
    have hb0 : Below W.heap.size W (W.alloc (.cells #[.int .i32 (q.1.toNat : Int), .int .i64 q.2.1.x, .int .i64 q.2.1.y, .int .i64 q.2.2.x, .int .i64 q.2.2.y] 104)) := (Below.refl _ _).alloc (Nat.le_refl _) _
    refine ⟨Book.below hz hb0, KT.of_below hb0, fun Wb hg hobj hbk => ?_⟩
    have hbx : Wb.heap[W.heap.size]? = some (.cells #[.int .i32 (q.1.toNat : Int), .int .i64 q.2.1.x, .int .i64 q.2.1.y, .int .i64 q.2.2.x, .int .i64 q.2.2.y] 104 (0, 0)) :=
      (hg.block _ (by simp) (fun e => by injection e; omega)).trans (heap_alloc_new _ _)
    obtain ⟨r0, r1, r2, r3, r4, -⟩ := five_of_block hbx
    obtain ⟨o1, ho1, ho2⟩ := hobj
    have hz9 := HZ9.out
    have hz6 := HSZ.out
    have hsb : W9.heap.size + 2 ≤ Wb.heap.size := by have := hg.size; simp at this; omega
    have hbb : Below w.heap.size w Wb := (hbW.trans (hb0.mono hbW.size)).grown hg (by have := hbW.size; simp; omega) (fun k e => by cases e; have := bw9.size; omega)
    have hI1 := bides_row (t := 52) (te := 66) (n₀ := w.heap.size) (size := 2) (fun pre => (midsOf (sg o) pre).length) (fun pre => kcellsL (midsOf (sg o) pre)) (show w2.heap.size < W9.heap.size by omega) (show 66 ≠ 43 by decide) pre _ Wb (some (W9.heap.size + 1)) ⟨v, hv.alloc _, hrow.alloc _⟩ hg (fun b e => by cases e; exact ⟨by omega, o1, ho1, .inl ho2⟩)
    obtain ⟨v, hvB, hrowB⟩ := hI1
    have hcB := hvB.cell
    have HBK := Lib.hid hbk
    have hwb : w.heap.size ≤ Wb.heap.size := by omega
    clear hv hrow hbk ho1 ho2 hbx
    by_cases h66 : q.1 = 66
    · have r0' : Wb.cell? ⟨W.heap.size, 0, none⟩ = some (.int .i32 66) := by rw [h66] at r0; exact r0
      have HSN := Lib.hid (show midsOf (sg o) (pre ++ [q]) = midsOf (sg o) pre by rw [HSNOC.out, if_pos h66, List.append_nil])
      clear r0 h66 hq1 HSNOC
      gi_wp2
      exact ⟨Book.below hsb (Below.refl _ _), KT.of_below (Below.refl _ _), ⟨_, hvB, by rw [HSN.out]; exact hrowB⟩, hbb, by omega⟩
    · have hne : ((q.1.toNat : Int) == 66) = false := by
        rw [beq_eq_false_iff_ne]
        intro e
        exact h66 (UInt8.toNat.inj (by show q.1.toNat = 66; omega))
      have hne' : ((q.1.toNat : Int) != 66) = true := by
        rw [bne_iff_ne]
        intro e
        exact h66 (UInt8.toNat.inj (by show q.1.toNat = 66; omega))
      obtain ⟨hm1, hm2⟩ := mids_half o (k := q.2.1) hq1 h66
      rw [← HQ2.out] at hm1 hm2
      have HSN := Lib.hid (show midsOf (sg o) (pre ++ [q]) = midsOf (sg o) pre ++ [midK (sg o) q.2.1 q.1] by rw [HSNOC.out, if_neg h66])
      obtain ⟨mb1, mb2, mb3, mb4⟩ := mid_near o q.2.1 q.1
      obtain ⟨m, hm⟩ : ∃ m, m = midK (sg o) q.2.1 q.1 := ⟨_, rfl⟩
      rw [← hm] at hm1 hm2 HSN mb1 mb2 mb3 mb4
      clear h66 hq1 HSNOC hm
      gi_wp2_with (gi_at_builtin; refine wpListIn_append_own _ rfl _ _ 52 rfl w.heap.size 66 ib (.agg #[.int .i64 0, .int .i64 0]) 2 16 Tryz.underlying52 HB.out HB0.out HB1.out HB2.out rfl (by decide) _ _ _ rfl (hrowB.alloc _) ⟨Wb.heap.size, 0, none⟩ 1 1 [.int .i64 m.x, .int .i64 m.y] rfl rfl (two_new _ _ _ _) (by intro u hu; simp at hu; rcases hu with rfl | rfl <;> rfl) (by unfold maxLen; omega) (by omega) (by simp; omega) ?_; intro v' w1' hown' hgrow _; obtain ⟨g', cap', rfl⟩ := ownsRow_succ hown'; obtain ⟨hv1, hv2, hr2, hk2, hb2'⟩ := hvB.appended (by decide) hrowB hwb (by omega) hown' hgrow; have hkt := KT.appended (B1 := w6.heap.size) (Bo := w2.heap.size) (by omega) (by decide) hrowB hgrow (.slice (some ⟨g', 0, none⟩) ((midsOf (sg o) pre).length + 1) cap'); have hc1 := hv1.cell; have hf1 := hv1.frozen)
      exact ⟨Book.others hk2 HBK.out.1 HBK.out.2, hkt, ⟨_, hv2, by rw [HSN.out, kcellsL_snoc]; simpa using hr2⟩, hbb.trans hb2', by have := hb2'.size; omega⟩
  case done =>
    rintro D ys W hD hS ⟨⟨v, hv, hrow⟩, hbW, hsW⟩ hK
    subst hA0
    subst hS
    have hc := hv.cell
    go_wp2
    refine ⟨by simp, .inl ⟨_, _, rfl, run_takeDeferred hK, ?_⟩⟩
    rw [midsOf_legs] at hrow
    exact ⟨_, results_tmp2 rfl _ _ _, v, rfl, ownsRow_putObj hrow _ hK rfl, hbW.trans (belowK_b (w := W9) (n₀ := w.heap.size) bw9.size W D _ _ hD hK rfl rfl)⟩
end Go.Proofs.YtfmfpnnglogkmaaGreatDoor

/- Meshes and Has of the program at valid nets. -/
namespace Go.Proofs.YtfmfpnnglogkmaaGreatDoor
open Go.RowKit Go.Shelf Ck

end Go.Proofs.YtfmfpnnglogkmaaGreatDoor

/- The reference's Vector at words without an error. -/
namespace Go.Proofs.YtfmfpnnglogkmaaGreatDoor
open Go.RowKit Go.Shelf Ck

set_option maxHeartbeats 800000 in
theorem refStep (c : UInt8) (w : World) (h : isL c) : Calls Tryz.prog 66 #[.int .u8 c.toNat] w fun e w' => e = .returned (.agg #[.int .i64 (dxL c), .int .i64 (dyL c)]) ∧ Below w.heap.size w w' := by
  rcases h with rfl | rfl | rfl
  all_goals
    go_enter Tryz.func66, Tryz.ntmps66
    go_wp2
    first
    | exact bodyPost_ret (v := .agg #[.int .i64 0, .int .i64 2]) (by simp [results, Tryz.results66, go_sem]) rfl ⟨rfl, (Below.refl _ _).alloc (Nat.le_refl _) _⟩
    | exact bodyPost_ret (v := .agg #[.int .i64 1, .int .i64 1]) (by simp [results, Tryz.results66, go_sem]) rfl ⟨rfl, (Below.refl _ _).alloc (Nat.le_refl _) _⟩
    | exact bodyPost_ret (v := .agg #[.int .i64 2, .int .i64 0]) (by simp [results, Tryz.results66, go_sem]) rfl ⟨rfl, (Below.refl _ _).alloc (Nat.le_refl _) _⟩
def vecL (l : List UInt8) : Int × Int := ((l.map dxL).sum, (l.map dyL).sum)
theorem vecL_snoc (l : List UInt8) (c : UInt8) : vecL (l ++ [c]) = ((vecL l).1 + dxL c, (vecL l).2 + dyL c) := by simp [vecL]
theorem vecL_near : ∀ (l : List UInt8), 0 ≤ (vecL l).1 ∧ (vecL l).1 ≤ 2 * (l.length : Int) ∧ 0 ≤ (vecL l).2 ∧ (vecL l).2 ≤ 2 * (l.length : Int)
  | [] => by simp [vecL]
  | c :: r => by
    have ih := vecL_near r
    have h1 : (vecL (c :: r)).1 = dxL c + (vecL r).1 := by simp [vecL]
    have h2 : (vecL (c :: r)).2 = dyL c + (vecL r).2 := by simp [vecL]
    have hx : 0 ≤ dxL c ∧ dxL c ≤ 2 := by unfold dxL; split <;> (try split) <;> omega
    have hy : 0 ≤ dyL c ∧ dyL c ≤ 2 := by unfold dyL; split <;> (try split) <;> omega
    rw [h1, h2]
    simp only [List.length_cons]
    omega
set_option maxHeartbeats 2000000 in
set_option maxRecDepth 100000 in
theorem refVector (L : List UInt8) (w : World) (hl : ∀ c ∈ L, isL c) (hn : L.length ≤ 1000) :
    Calls Tryz.prog 30 #[.string (strL L)] w fun e w' => e = .returned (.agg #[.int .i64 (vecL L).1, .int .i64 (vecL L).2]) ∧ Below w.heap.size w w' := by
  have HL := Lib.hid hl
  have hsz := strL_size L
  have hsd := strL_data L
  generalize strL L = s at hsz hsd ⊢
  have HSZ := Lib.hid hsz
  have HSD := Lib.hid hsd
  have hs1 : (s.size : Int) ≤ 1000 := by omega
  clear hl hsz hsd
  go_enter Tryz.func30, Tryz.ntmps30
  go_wp2_with fail
  obtain ⟨w1, hw1⟩ : ∃ w1, w1 = (w.alloc (.cells #[.int .i64 0, .int .i64 0] 66)).alloc (.cells #[.int .i64 0, .int .i64 0] 66) := ⟨_, rfl⟩
  have g0 : w1.heap[w.heap.size]? = some (.cells #[.int .i64 0, .int .i64 0] 66 (0, 0)) := by
    rw [hw1, Below.heap_alloc _ _ _ (by simp)]
    exact heap_alloc_new _ _
  have g1 : w1.heap[w.heap.size + 1]? = some (.cells #[.int .i64 0, .int .i64 0] 66 (0, 0)) := by
    rw [hw1]
    have := heap_alloc_new (w.alloc (.cells #[.int .i64 0, .int .i64 0] 66)) (.cells #[.int .i64 0, .int .i64 0] 66)
    rwa [World.size_alloc] at this
  have b0 : Below w.heap.size w w1 := by rw [hw1]; exact ((Below.refl _ _).alloc (Nat.le_refl _) _).alloc (by simp) _
  rw [← hw1]
  clear hw1
  go_loopw [4] (fun i wr => ∃ k : Nat, k ≤ s.size ∧ i = .int .i64 k ∧ wr.heap[w.heap.size]? = some (.cells #[.int .i64 0, .int .i64 0] 66 (0, 0)) ∧ wr.heap[w.heap.size + 1]? = some (.cells #[.int .i64 (vecL (L.take k)).1, .int .i64 (vecL (L.take k)).2] 66 (0, 0)) ∧ Below w.heap.size w wr) (fun i _ => s.size - (intOf i).toNat)
  case atStart => exact ⟨0, Nat.zero_le _, rfl, g0, g1, b0⟩
  case round =>
    obtain ⟨k, hk, rfl, h0, h1, hb⟩ := hrel
    clear g0 g1 b0
    have hz0 := (Array.getElem?_eq_some_iff.1 h0).1
    have hz1 := (Array.getElem?_eq_some_iff.1 h1).1
    have hvn := vecL_near (L.take k)
    by_cases hlt : k < s.size
    · have c0 : (0 : Int) ≤ (k : Int) := by omega
      have c1 : (k : Int) < (s.size : Int) := by omega
      have hkL : k < L.length := by rw [← HSZ.out]; exact hlt
      have hkl : k < s.data.toList.length := by rw [HSD.out]; exact hkL
      have hel : s[k] = L[k] := by rw [← byte_at s k hlt hkl]; simp only [HSD.out]
      have hLk := HL.out _ (List.getElem_mem hkL)
      have HV := Lib.hid (show vecL (L.take (k + 1)) = ((vecL (L.take k)).1 + dxL L[k], (vecL (L.take k)).2 + dyL L[k]) by rw [List.take_succ_eq_append_getElem hkL, vecL_snoc])
      have hx : 0 ≤ dxL L[k] ∧ dxL L[k] ≤ 2 := by unfold dxL; split <;> (try split) <;> omega
      have hy : 0 ≤ dyL L[k] ∧ dyL L[k] ≤ 2 := by unfold dyL; split <;> (try split) <;> omega
      have hlen : ((L.take k).length : Int) ≤ 1000 := by rw [List.length_take]; omega
      generalize L[k] = q at *
      generalize (vecL (L.take k)).1 = vx at *
      generalize (vecL (L.take k)).2 = vy at *
      obtain ⟨a0, a1⟩ := hx
      obtain ⟨a2, a3⟩ := hy
      obtain ⟨d0, d1, d2, d3⟩ := hvn
      go_wp2_with fail
      refine (refStep q _ hLk).mono ?_
      rintro e w2 ⟨rfl, hb2⟩
      obtain ⟨w3, hw3, n0, n1, hb3, hz3⟩ := box2 w2 (.int .i64 (dxL q)) (.int .i64 (dyL q)) 66
      have b23 := hb2.trans (hb3.mono hb2.size)
      have h0' := (b23.block _ hz0).trans h0
      have h1' := (b23.block _ hz1).trans h1
      obtain ⟨p0, p1, p2, p3⟩ := two_cell h1'
      obtain ⟨s1, s2⟩ := two_set h1' (.int .i64 (vx + dxL q)) (.int .i64 (vy + dyL q))
      have hbw := (hb.trans (b23.mono hb.size)).grown s2 (by have := b23.size; omega) (fun j e => by cases e; omega)
      have h0'' := (s2.block _ (Array.getElem?_eq_some_iff.1 h0').1 (fun e => by injection e; omega)).trans h0'
      have hw3' := hw3.symm
      have hlc := HSZ.out
      clear hw3 hel hlc h0 h1 hb2 hb3 hb
      go_wp2
      go_roundw
      case rel => exact ⟨k + 1, by omega, by go_num, h0'', by rw [HV.out]; exact s1, hbw⟩
      case measure => simp [intOf]; omega
    · obtain rfl : k = s.size := by omega
      have HT := Lib.hid (show L.take s.size = L by rw [HSZ.out, List.take_length])
      rw [HT.out] at h1 hvn
      obtain ⟨p0, p1, -, -⟩ := two_cell h1
      obtain ⟨o0, o1, o2, o3⟩ := two_cell h0
      obtain ⟨s1, s2⟩ := two_set h0 (.int .i64 (vecL L).1) (.int .i64 (vecL L).2)
      obtain ⟨t0, t1, -, -⟩ := two_cell s1
      have hbw := hb.grown s2 (by have := hb.size; omega) (fun j e => by cases e; omega)
      clear h0 h1
      go_wp2
      exact bodyPost_ret (v := .agg #[.int .i64 (vecL L).1, .int .i64 (vecL L).2]) (by simp [results, Tryz.results30, go_sem, t0, t1]) rfl ⟨rfl, hbw⟩
end Go.Proofs.YtfmfpnnglogkmaaGreatDoor

/- The rate of a word: vectorOf, hasRate, checkRate, Rate. -/
namespace Go.Proofs.YtfmfpnnglogkmaaGreatDoor
open Go.RowKit Go.Shelf

set_option maxHeartbeats 4000000 in
set_option maxRecDepth 100000 in
theorem tpVectorOf (s : ByteArray) (w : World) (hs : Word s) :
    Calls Tryz.prog 73 #[.string s] w fun e w' => e = .returned (.agg #[.int .i64 (vecL s.data.toList).1, .int .i64 (vecL s.data.toList).2]) ∧ Below w.heap.size w w' := by
  obtain ⟨L, hL⟩ : ∃ L, s.data.toList = L := ⟨_, rfl⟩
  have hLs : L.length = s.size := by rw [← hL]; exact (Lib.size_eq s).symm
  have HLL := Lib.hid (show ∀ q ∈ L, isL q by rw [← hL]; exact hs.1)
  have hs64 : (s.size : Int) ≤ 64 := by have := hs.2.2; omega
  have HSD := Lib.hid hL
  have HLN := Lib.hid hLs
  rw [hL]
  clear hL hLs hs
  obtain ⟨w1, hw1, g0, g1, b0, hz1⟩ := boxH22 w (.int .i64 0) (.int .i64 0) (.int .i64 0) (.int .i64 0) 66 66
  have HW1 := Lib.hid hw1
  have HZ1 := Lib.hid hz1
  clear hw1 hz1
  go_enter Tryz.func73, Tryz.ntmps73
  go_wp2_with fail
  rw [← HW1.out]
  go_wp2_with fail
  refine (tpVectors _).mono ?_
  rintro e w2 ⟨rfl, hv2, hb2⟩
  go_wp2_with fail
  have hz1 := HZ1.out
  have hzv := hv2.lt
  have hi0 : (w2.iter s 0).heap[w2.heap.size]? = some (.stringIter s 0) := World.iter_heap w2 s 0
  have hbi : Below w2.heap.size w2 (w2.iter s 0) := (Below.refl _ _).alloc (Nat.le_refl _) _
  have hv3 : VecAt (w2.iter s 0) w1.heap.size := hv2.of_block (hbi.block _ hzv)
  have b2 := b0.trans (hb2.mono b0.size)
  have b3 := b2.trans (hbi.mono b2.size)
  have g0' := (hbi.block _ (by omega)).trans ((hb2.block _ (by omega)).trans g0)
  have g1' := (hbi.block _ (by omega)).trans ((hb2.block _ (by omega)).trans g1)
  generalize w2.iter s 0 = w3 at *
  clear g0 g1 hb2 hbi hv2
  go_loopw [6] (fun _ wr => ∃ pos : Nat, pos ≤ L.length ∧ wr.heap[w2.heap.size]? = some (.stringIter s pos) ∧ VecAt wr w1.heap.size ∧ wr.heap[w.heap.size]? = some (.cells #[.int .i64 0, .int .i64 0] 66 (0, 0)) ∧ wr.heap[w.heap.size + 1]? = some (.cells #[.int .i64 (vecL (L.take pos)).1, .int .i64 (vecL (L.take pos)).2] 66 (0, 0)) ∧ Below w.heap.size w wr) (fun _ wr => s.size - wr.iterPos w2.heap.size)
  case atStart => exact ⟨0, Nat.zero_le _, hi0, hv3, g0', g1', b3⟩
  case round =>
    obtain ⟨pos, hpos, hit, hv, h0, h1, hb⟩ := hrel
    clear hi0 hv3 g0' g1' b2 b3 hz1
    have hz1 := HZ1.out
    have hvn := vecL_near (L.take pos)
    have hlen : ((L.take pos).length : Int) ≤ 64 := by rw [List.length_take]; have := HLN.out; omega
    by_cases hp : pos < s.size
    · have hpl : pos < L.length := by rw [HLN.out]; exact hp
      have hkl : pos < s.data.toList.length := by rw [HSD.out]; exact hpl
      have hel : s[pos] = L[pos] := by rw [← byte_at s pos hp hkl]; simp only [HSD.out]
      have hLq : isL L[pos] := HLL.out _ (List.getElem_mem hpl)
      have HV := Lib.hid (show vecL (L.take (pos + 1)) = ((vecL (L.take pos)).1 + dxL L[pos], (vecL (L.take pos)).2 + dyL L[pos]) by rw [List.take_succ_eq_append_getElem hpl, vecL_snoc])
      have hx : 0 ≤ dxL L[pos] ∧ dxL L[pos] ≤ 2 := by unfold dxL; split <;> (try split) <;> omega
      have hy : 0 ≤ dyL L[pos] ∧ dyL L[pos] ≤ 2 := by unfold dyL; split <;> (try split) <;> omega
      generalize L[pos] = q at *
      generalize (vecL (L.take pos)).1 = vx at *
      generalize (vecL (L.take pos)).2 = vy at *
      obtain ⟨a0, a1⟩ := hx
      obtain ⟨a2, a3⟩ := hy
      obtain ⟨d0, d1, d2, d3⟩ := hvn
      have hnext : ∀ ty, (Instr.next (.pointer (some ⟨w2.heap.size, 0, none⟩)) true ty).run Tryz.prog wr = _ := fun ty => Lib.run_next_ascii_at wr w2.heap.size s pos ty hit hp (by rw [hel]; exact isL_small hLq)
      rw [hel] at hnext
      have hmu : wr.iterPos w2.heap.size = pos := by simp [World.iterPos, hit]
      have hit1 := Lib.iterAt_heap wr w2.heap.size s pos (pos + 1) hit
      have hv1 := hv.of_block (Lib.iterAt_other wr w2.heap.size w1.heap.size s (pos + 1) (by omega))
      have h01 := (Lib.iterAt_other wr w2.heap.size w.heap.size s (pos + 1) (by omega)).trans h0
      have h11 := (Lib.iterAt_other wr w2.heap.size (w.heap.size + 1) s (pos + 1) (by omega)).trans h1
      have hb1 : Below w.heap.size w (wr.iterAt w2.heap.size s (pos + 1)) := Lib.below_iterAt hb (by omega) s (pos + 1)
      generalize wr.iterAt w2.heap.size s (pos + 1) = W1 at hnext hit1 hv1 h01 h11 hb1
      have hlk := vecLookup hv1 hLq
      obtain ⟨W2, hW2, n0, n1, hb2, hz2⟩ := box2 W1 (.int .i64 (dxL q)) (.int .i64 (dyL q)) 66
      have zi := (Array.getElem?_eq_some_iff.1 hit1).1
      have z0 := (Array.getElem?_eq_some_iff.1 h01).1
      have z1 := (Array.getElem?_eq_some_iff.1 h11).1
      have hit2 := (hb2.block _ zi).trans hit1
      have hv2 := hv1.of_block (hb2.block _ hv1.lt)
      have h02 := (hb2.block _ z0).trans h01
      have h12 := (hb2.block _ z1).trans h11
      obtain ⟨p0, p1, p2, p3⟩ := two_cell h12
      obtain ⟨s1, s2⟩ := two_set h12 (.int .i64 (vx + dxL q)) (.int .i64 (vy + dyL q))
      have hbw := (hb1.trans (hb2.mono hb1.size)).grown s2 (by have := hb1.size; have := hb2.size; omega) (fun j e => by cases e; omega)
      have h03 := (s2.block _ (Array.getElem?_eq_some_iff.1 h02).1 (fun e => by injection e; omega)).trans h02
      have hit3 := (s2.block _ (Array.getElem?_eq_some_iff.1 hit2).1 (fun e => by injection e; omega)).trans hit2
      have hv3 : VecAt _ w1.heap.size := (s2.block _ hv2.lt (fun e => by injection e; omega)).trans hv2
      have hW2' := hW2.symm
      clear hW2 hel hit hv h0 h1 hb hit1 h01 h11 hb1 hit2 hv2 h02 h12 hb2 hz1
      go_wp2
      go_roundw
      case rel => exact ⟨pos + 1, by omega, hit3, hv3, h03, by rw [HV.out]; exact s1, hbw⟩
      case measure =>
        have hmu2 : ∀ W : World, W.heap[w2.heap.size]? = some (.stringIter s (pos + 1)) → W.iterPos w2.heap.size = pos + 1 := fun W h => by simp [World.iterPos, h]
        rw [hmu, hmu2 _ hit3]
        omega
    · obtain rfl : pos = L.length := by have := HLN.out; omega
      have hnext : ∀ ty, (Instr.next (.pointer (some ⟨w2.heap.size, 0, none⟩)) true ty).run Tryz.prog wr = _ := fun ty => Lib.run_next_end_at wr w2.heap.size s L.length ty hit hp
      have HT := Lib.hid (show L.take L.length = L by rw [List.take_length])
      rw [HT.out] at h1 hvn
      obtain ⟨p0, p1, -, -⟩ := two_cell h1
      obtain ⟨o0, o1, o2, o3⟩ := two_cell h0
      obtain ⟨s1, s2⟩ := two_set h0 (.int .i64 (vecL L).1) (.int .i64 (vecL L).2)
      obtain ⟨t0, t1, -, -⟩ := two_cell s1
      have hbw := hb.grown s2 (by have := hb.size; omega) (fun j e => by cases e; omega)
      clear h0 h1 hz1
      go_wp2
      exact bodyPost_ret (v := .agg #[.int .i64 (vecL L).1, .int .i64 (vecL L).2]) (by simp [results, Tryz.results73, go_sem, t0, t1]) rfl ⟨rfl, hbw⟩

theorem idxI1 (a b : Value) (w : World) : (Instr.index 66 (.agg #[a, b]) (.int .i64 1)).run Tryz.prog w = .ok b w := by kernel_rfl
end Go.Proofs.YtfmfpnnglogkmaaGreatDoor

/- The knots along an edge: Walk of taper. -/
namespace Go.Proofs.YtfmfpnnglogkmaaGreatDoor
open Go.RowKit Go.Shelf Ck
attribute [local go_sem] Oper.semAt_some

/-- The knots along an edge, from its first one on. -/
def walkOf (k : Knot) (l : List (UInt8 × Knot × Knot)) : List Knot := k :: l.map fun q => q.2.2
def walkK (σ : Int) (k : Knot) (L : List UInt8) : List Knot := walkOf k (legsL σ k L)
theorem walkOf_snoc (k : Knot) (l : List (UInt8 × Knot × Knot)) (q : UInt8 × Knot × Knot) : walkOf k (l ++ [q]) = walkOf k l ++ [q.2.2] := by simp [walkOf]
theorem walkOf_length (k : Knot) (l : List (UInt8 × Knot × Knot)) : (walkOf k l).length = l.length + 1 := by simp [walkOf]
theorem walkK_length (σ : Int) (k : Knot) (L : List UInt8) : (walkK σ k L).length = L.length + 1 := by rw [walkK, walkOf_length, legsL_length]
theorem walkK_at (σ : Int) : ∀ (L : List UInt8) (k : Knot) (i : Nat) (h : i < (walkK σ k L).length), (walkK σ k L)[i] = posK σ k (L.take i)
  | [], k, i, h => by
    have : i = 0 := by rw [walkK_length] at h; simpa using h
    subst this
    rfl
  | c :: r, k, 0, h => rfl
  | c :: r, k, i + 1, h => by
    have hl : i < (walkK σ (stepK σ k c) r).length := by rw [walkK_length] at h ⊢; simp at h; omega
    have ih := walkK_at σ r (stepK σ k c) i hl
    have e : walkK σ k (c :: r) = k :: walkK σ (stepK σ k c) r := by simp [walkK, walkOf, legsL]
    simp only [e, List.getElem_cons_succ]
    rw [ih]
    rfl
def WalkPost (l : List Knot) (w : World) (e : Ending) (w' : World) : Prop :=
  ∃ v, e = .returned (.tuple #[v, .int .i64 0]) ∧ w'.ownsRow w.heap.size 43 2 v l.length (kcellsL l) ∧ Below w.heap.size w w'
theorem krow_one (w : World) (base : Nat) (hb : base ≤ w.heap.size) (t : TypeId) (u v : Value) : (w.alloc (.cells #[u, v] t)).ownsRow base t 2 (.slice (some ⟨w.heap.size, 0, none⟩) 1 1) 1 [u, v] :=
  ⟨rfl, .inr ⟨w.heap.size, 1, #[u, v], rfl, hb, heap_alloc_new _ _, Nat.le_refl _, by decide, rfl, rfl⟩⟩
/-- A row of knots beside the box of a knot that another function keeps: the row lies below block B, or has room for two. -/
def KRow (W : World) (B n₀ : Nat) (v : Value) (k : Nat) (xs : List Value) : Prop := W.ownsRow n₀ 43 2 v k xs ∧ (k ≤ 1 → ∀ g, v.ownBlock = some g → g < B)
theorem KRow.alloc {W : World} {B n₀ : Nat} {v : Value} {k : Nat} {xs : List Value} (h : KRow W B n₀ v k xs) (o : Obj) : KRow (W.alloc o) B n₀ v k xs := ⟨h.1.alloc o, h.2⟩
theorem bides_krow {β : Type} {B Bo n₀ B1 : Nat} {e t : TypeId} (k : β → Nat) (f : β → List Value) (hB : Bo < B) (hB1 : B1 ≤ B) : Bides B e (fun (s : β) W => ∃ v, Boxed W Bo t v ∧ KRow W B1 n₀ v (k s) (f s)) := by
  rintro s W W' r ⟨v, hv, hr, hk1⟩ hg hrow
  refine ⟨v, (hg.block Bo (Array.getElem?_eq_some_iff.1 hv).1 (fun e' => by have := (hrow Bo e'.symm).1; omega)).trans hv, hr.kept hg ?_, hk1⟩
  rcases hr.2 with ⟨rfl, _⟩ | ⟨g, cap, cur, rfl, _, hgb, h1, _, h3, _⟩
  · exact .inl rfl
  · refine .inr fun e' => ?_
    obtain ⟨hBg, o, ho, hk⟩ := hrow g (by simpa [Value.ownBlock] using e'.symm)
    rw [hgb] at ho
    cases ho
    rcases hk with hk | ⟨cs, f', hk, hk2⟩
    · cases hk
    · injection hk with h4
      subst h4
      have : ¬ k s ≤ 1 := fun h => by have := hk1 h g rfl; omega
      omega
theorem KT.appendedK {W w1 : World} {Bo B1 n₀ : Nat} {k : Nat} {v : Value} {xs : List Value} {tmp : Obj} (hB : Bo < B1) (hrow : KRow W B1 n₀ v k xs) (hgrow : (W.alloc tmp).grownBy w1 v.ownBlock) (v' : Value) : KT B1 43 W (w1.setCell ⟨Bo, 0, none⟩ v') := by
  refine ⟨?_, fun b o hb ho hk => ?_⟩
  · have := hgrow.size; simp at this ⊢; omega
  · have hlt := (Array.getElem?_eq_some_iff.1 ho).1
    have hnb : some b ≠ v.ownBlock := by
      intro e'
      rcases hrow.1.2 with ⟨rfl, _⟩ | ⟨g, cap, cur, rfl, _, hgb, h1, _, h3, _⟩
      · simp [Value.ownBlock] at e'
      · obtain rfl : b = g := by simpa [Value.ownBlock] using e'
        rw [hgb] at ho
        cases ho
        rcases hk with hk | ⟨cs, t, f, hk, hk2⟩
        · cases hk
        · injection hk with h4 h2
          subst h4
          rcases hk2 with hk2 | ⟨_, hk2⟩
          · exact hk2 h2.symm
          · have : ¬ k ≤ 1 := fun h => by have := hrow.2 h b rfl; omega
            omega
    rw [Below.heap_setCell _ _ _ b (by show b ≠ Bo; omega), hgrow.block b (by simp; omega) hnb, Below.heap_alloc _ _ _ hlt]
    exact ho

set_option maxHeartbeats 4000000 in
set_option maxRecDepth 100000 in
theorem tpWalk (x y : Int) (s : ByteArray) (c : Nat) (o : Bool) (w : World) (h : EdgeOk x y s c) :
    Calls Tryz.prog 17 #[.agg #[.int .i64 x, .int .i64 y], .string s, .int .i64 c, .bool o] w (WalkPost (walkK (sg o) ⟨x, y⟩ (Lib.repeatL s.data.toList c)) w) := by
  have HE := Lib.hid h
  have HL := Lib.hid (h.legs o)
  have HLEN := Lib.hid (show (legsL (sg o) ⟨x, y⟩ (Lib.repeatL s.data.toList c)).length ≤ 256 by rw [legsL_length, rep_len]; exact h.2.2.1)
  obtain ⟨hs, h1, h2, x1, x2, y1, y2, hp⟩ := h
  have HS := Lib.hid hs
  clear hs h1 hp
  refine (callsIn_wide (n := 6)).1 (callsIn_of_wp_marks Tryz.func17 rfl trivial (wpIn_wide.2 ?_) rfl)
  simp only [Tryz.ntmps17, List.size_toArray, List.length_cons, List.length_nil, Nat.reduceAdd, Nat.reduceSub, Array.replicate_succ, Array.replicate_zero, List.push_toArray, List.append_toArray, List.nil_append, List.cons_append]
  obtain ⟨w1, hw1, e0, e1, hb1, hz1⟩ := box2 w (.int .i64 x) (.int .i64 y) 43
  have HW1 := Lib.hid hw1
  clear hw1
  go_wp2_with fail
  rw [← HW1.out]
  refine (tpCheckEdge x y s c o _ HE.out).mono ?_
  rintro e w2 ⟨rfl, hb2⟩
  have f0 := (hb2.cell (p := ⟨w.heap.size, 0, none⟩) hz1).trans e0
  have f1 := (hb2.cell (p := ⟨w.heap.size, 1, none⟩) hz1).trans e1
  have hbw := hb1.trans (hb2.mono hb1.size)
  have hz2 := hb2.size
  have hwz := hbw.size
  obtain ⟨w6, hw6, hb3, hsz6, bO, hrow0⟩ : ∃ w6, (w2.alloc (.cells #[.int .i64 x, .int .i64 y] 43)).alloc (.cells #[.slice (some ⟨w2.heap.size, 0, none⟩) 1 1] 46) = w6 ∧ Below w2.heap.size w2 w6 ∧ w6.heap.size = w2.heap.size + 2 ∧ Boxed w6 (w2.heap.size + 1) 46 (.slice (some ⟨w2.heap.size, 0, none⟩) 1 1) ∧ w6.ownsRow w.heap.size 43 2 (.slice (some ⟨w2.heap.size, 0, none⟩) 1 1) 1 [.int .i64 x, .int .i64 y] := by
    refine ⟨_, rfl, ((Below.refl _ _).alloc (Nat.le_refl _) _).alloc (by simp) _, by simp, ?_, (krow_one w2 w.heap.size hwz _ _ _).alloc _⟩
    have := Boxed.new (w2.alloc (.cells #[.int .i64 x, .int .i64 y] 43)) 46 (.slice (some ⟨w2.heap.size, 0, none⟩) 1 1)
    rwa [World.size_alloc] at this
  have g0 := (hb3.cell (p := ⟨w.heap.size, 0, none⟩) (by show w.heap.size < _; omega)).trans f0
  have g1 := (hb3.cell (p := ⟨w.heap.size, 1, none⟩) (by show w.heap.size < _; omega)).trans f1
  have HSZ := Lib.hid hsz6
  have HW6 := Lib.hid hw6
  have F0 : ((w2.alloc (.cells #[.int .i64 x, .int .i64 y] 43)).alloc (.cells #[.slice (some ⟨w2.heap.size, 0, none⟩) 1 1] 46)).cell? ⟨w.heap.size, 0, none⟩ = some (.int .i64 x) := by rw [hw6]; exact g0
  have F1 : ((w2.alloc (.cells #[.int .i64 x, .int .i64 y] 43)).alloc (.cells #[.slice (some ⟨w2.heap.size, 0, none⟩) 1 1] 46)).cell? ⟨w.heap.size, 1, none⟩ = some (.int .i64 y) := by rw [hw6]; exact g1
  clear hw6 e0 e1 hsz6
  go_wp2_with fail
  rw [HW6.out]
  clear f0 f1 F0 F1
  refine (tpLegs x y s c o _).mono ?_
  rintro e w7 ⟨rfl, hw7⟩
  obtain ⟨W9, hW9, hb9, hz9, q0, q1, q2, q3⟩ := legs_boxes w6 x y c s o
  rw [← hW9] at hw7
  have hw7' := hw7.symm
  subst hw7'
  clear hW9
  have HZ9 := Lib.hid hz9
  have hz6 := HSZ.out
  have bO9 : Boxed W9 (w2.heap.size + 1) 46 (.slice (some ⟨w2.heap.size, 0, none⟩) 1 1) := (hb9.block _ (by omega)).trans bO
  have hrow9 : KRow W9 w6.heap.size w.heap.size (.slice (some ⟨w2.heap.size, 0, none⟩) 1 1) 1 [.int .i64 x, .int .i64 y] :=
    ⟨hrow0.kept (row := none) ⟨hb9.os, hb9.tape, hb9.output, hb9.size, fun i hi _ => hb9.block i hi⟩ (.inr (by simp [Value.ownBlock])), fun _ g hg => by simp [Value.ownBlock] at hg; omega⟩
  have bw6 := hbw.trans (hb3.mono hbw.size)
  have bw9 := bw6.trans (hb9.mono bw6.size)
  obtain ⟨ib, hib, hi0, hi1, hi2⟩ := info_parts Tryz.info43
  have HB := Lib.hid hib
  have HB0 := Lib.hid hi0
  have HB1 := Lib.hid hi1
  have HB2 := Lib.hid hi2
  clear hz9 hw7 hz6 hib hi0 hi1 hi2 hrow0
  go_wp2_with fail
  have hvis := legs_visits w6.heap.size 4 w6.heap.size (w6.heap.size + 1) (w6.heap.size + 2) (w6.heap.size + 3) 43 (by omega) x y s c o W9 (by decide) HS.out h2 (by omega) (by omega) (by omega) (by omega) (by omega) (by rw [HZ9.out]; omega) q0 q1 q2 q3
  refine (wpIn_wide (n := 5)).1 ?_
  generalize hA0 : (Act.mk _ _) = A0
  refine wpIn_visits (n := 5) (by omega) (gf := 99) (lb := #[.pointer (some ⟨w6.heap.size, 0, none⟩), .pointer (some ⟨w6.heap.size + 1, 0, none⟩), .pointer (some ⟨w6.heap.size + 2, 0, none⟩), .pointer (some ⟨w6.heap.size + 3, 0, none⟩)]) (by rw [← hA0]; rfl) ?eg hvis KT.trans (KT.put (w := W9)) (fun _ => rfl)
    (fun pre W => (∃ v, Boxed W (w2.heap.size + 1) 46 v ∧ KRow W w6.heap.size w.heap.size v (walkOf ⟨x, y⟩ pre).length (kcellsL (walkOf ⟨x, y⟩ pre))) ∧ (Below w.heap.size w W ∧ W9.heap.size ≤ W.heap.size))
    (Bides.and (bides_krow (fun pre => (walkOf ⟨x, y⟩ pre).length) (fun pre => kcellsL (walkOf ⟨x, y⟩ pre)) (by rw [HZ9.out, HSZ.out]; omega) (by rw [HZ9.out]; omega)) (Bides.and (bides_below bw9.size (Nat.le_refl _)) bides_size)) ⟨⟨_, bO9, hrow9⟩, bw9, Nat.le_refl _⟩ ?round ?done
  case eg => exact fun _ _ => by kernel_rfl
  case round =>
    rintro l pre q W hz ⟨⟨v, hv, hrow⟩, hbW, hsW⟩ ⟨r, hr⟩
    obtain ⟨-, -, -, hq4⟩ := HL.out q (by rw [hr]; simp)
    have hpre : (walkOf ⟨x, y⟩ pre).length ≤ 257 := by
      have h1 := HLEN.out
      rw [hr] at h1
      rw [walkOf_length]
      simp at h1
      omega
    obtain ⟨⟨a3, a4⟩, ⟨b3, b4⟩, -⟩ := hq4
    have HSN := Lib.hid (walkOf_snoc ⟨x, y⟩ pre q)
    have HWL := Lib.hid (walkOf_length ⟨x, y⟩ pre)
    have HWL2 := Lib.hid (walkOf_length ⟨x, y⟩ (pre ++ [q]))
    subst hA0
    dsimp only [legArr]
    gi_wp2
    have hb0 : Below W.heap.size W (W.alloc (.cells #[.int .i32 (q.1.toNat : Int), .int .i64 q.2.1.x, .int .i64 q.2.1.y, .int .i64 q.2.2.x, .int .i64 q.2.2.y] 104)) := (Below.refl _ _).alloc (Nat.le_refl _) _
    refine ⟨Book.below hz hb0, KT.of_below hb0, fun Wb hg hobj hbk => ?_⟩
    have hbx : Wb.heap[W.heap.size]? = some (.cells #[.int .i32 (q.1.toNat : Int), .int .i64 q.2.1.x, .int .i64 q.2.1.y, .int .i64 q.2.2.x, .int .i64 q.2.2.y] 104 (0, 0)) :=
      (hg.block _ (by simp) (fun e => by injection e; omega)).trans (heap_alloc_new _ _)
    obtain ⟨r0, r1, r2, r3, r4, -⟩ := five_of_block hbx
    obtain ⟨o1, ho1, ho2⟩ := hobj
    have hz9 := HZ9.out
    have hz6 := HSZ.out
    have hsb : W9.heap.size + 2 ≤ Wb.heap.size := by have := hg.size; simp at this; omega
    have hbb : Below w.heap.size w Wb := (hbW.trans (hb0.mono hbW.size)).grown hg (by have := hbW.size; simp; omega) (fun k e => by cases e; have := bw9.size; omega)
    have hI1 := bides_krow (t := 46) (e := 43) (n₀ := w.heap.size) (B1 := w6.heap.size) (fun pre => (walkOf ⟨x, y⟩ pre).length) (fun pre => kcellsL (walkOf ⟨x, y⟩ pre)) (show w2.heap.size + 1 < W9.heap.size by omega) (show w6.heap.size ≤ W9.heap.size by omega) pre _ Wb (some (W9.heap.size + 1)) ⟨v, hv.alloc _, hrow.alloc _⟩ hg (fun b e => by cases e; exact ⟨by omega, o1, ho1, .inl ho2⟩)
    obtain ⟨v, hvB, hrowB⟩ := hI1
    have hcB := hvB.cell
    have HBK := Lib.hid hbk
    have hwb : w.heap.size ≤ Wb.heap.size := by omega
    have HRB := Lib.hid hrowB
    have hrowP := hrowB.1
    clear hv hrow hrowB hbk ho1 ho2 hbx
    generalize hm : q.2.2 = m at *
    generalize walkOf ⟨x, y⟩ pre = wl at *
    gi_wp2_with (gi_at_builtin; refine wpListIn_append_own _ rfl _ _ 46 rfl w.heap.size 43 ib (.agg #[.int .i64 0, .int .i64 0]) 2 16 Tryz.underlying46 HB.out HB0.out HB1.out HB2.out rfl (by decide) _ _ _ rfl (hrowP.alloc _) ⟨Wb.heap.size, 0, none⟩ 1 1 [.int .i64 m.x, .int .i64 m.y] rfl rfl (two_new _ _ _ _) (by intro u hu; simp at hu; rcases hu with rfl | rfl <;> rfl) (by unfold maxLen; omega) (by omega) (by simp; omega) ?_; intro v' w1' hown' hgrow _; obtain ⟨g', cap', rfl⟩ := ownsRow_succ hown'; obtain ⟨hv1, hv2, hr2, hk2, hb2'⟩ := hvB.appended (by decide) hrowP hwb (by omega) hown' hgrow; have hkt := KT.appendedK (B1 := w6.heap.size) (Bo := w2.heap.size + 1) (by omega) HRB.out hgrow (.slice (some ⟨g', 0, none⟩) (wl.length + 1) cap'); have hc1 := hv1.cell; have hf1 := hv1.frozen)
    exact ⟨Book.others hk2 HBK.out.1 HBK.out.2, hkt, ⟨_, hv2, by rw [HSN.out, kcellsL_snoc]; simpa using hr2, fun h => by rw [HWL2.out] at h; simp at h⟩, hbb.trans hb2', by have := hb2'.size; omega⟩
  case done =>
    rintro D ys W hD hS ⟨⟨v, hv, hrow, -⟩, hbW, hsW⟩ hK
    subst hA0
    subst hS
    have hc := hv.cell
    go_wp2
    refine ⟨by simp, .inl ⟨_, _, rfl, run_takeDeferred hK, ?_⟩⟩
    exact ⟨_, results_tmp2 rfl _ _ _, v, rfl, ownsRow_putObj hrow _ hK rfl, hbW.trans (belowK_b (w := W9) (n₀ := w.heap.size) bw9.size W D _ _ hD hK rfl rfl)⟩
end Go.Proofs.YtfmfpnnglogkmaaGreatDoor

/- Has of the program at valid nets. -/
namespace Go.Proofs.YtfmfpnnglogkmaaGreatDoor
open Go.RowKit Go.Shelf Ck

end Go.Proofs.YtfmfpnnglogkmaaGreatDoor

/- Equality of counts. -/
namespace Go.Proofs.YtfmfpnnglogkmaaGreatDoor
open Go.RowKit

end Go.Proofs.YtfmfpnnglogkmaaGreatDoor

/- A sheet is a net: plain mathematics. -/
namespace Go.Proofs.YtfmfpnnglogkmaaGreatDoor
open Ck

theorem cell_mem {x y : Int} {r c : Nat} {b : Bar} (h : b ∈ cellL x y r c) :
    (b.y = y + (r : Int)) ∧ ((r % 2 = 1 ∧ b.x = x + 2 * (c : Int) + 1 ∧ (b.s = -1 ∨ b.s = 1)) ∨ (r % 2 = 0 ∧ (b.x = x + 2 * (c : Int) ∧ b.s = 1 ∨ b.x = x + 2 * (c : Int) + 2 ∧ b.s = -1))) := by
  unfold cellL cel0 cel1 oddB at h
  by_cases ho : r % 2 = 1
  · simp [ho] at h
    rcases h with rfl | rfl
    · exact ⟨rfl, .inl ⟨ho, rfl, .inl rfl⟩⟩
    · exact ⟨rfl, .inl ⟨ho, rfl, .inr rfl⟩⟩
  · have h0 : r % 2 = 0 := by omega
    simp [h0] at h
    rcases h with rfl | rfl
    · exact ⟨rfl, .inr ⟨h0, .inl ⟨rfl, rfl⟩⟩⟩
    · exact ⟨rfl, .inr ⟨h0, .inr ⟨rfl, rfl⟩⟩⟩
theorem cell_pair (x y : Int) (r c : Nat) : (cellL x y r c).Pairwise Blt := by
  unfold cellL cel0 cel1
  cases oddB r <;> simp [Blt] <;> omega
theorem row_mem {x y : Int} {r k : Nat} {b : Bar} (h : b ∈ rowL x y r k) : ∃ c, c < k ∧ b ∈ cellL x y r c := by
  obtain ⟨c, hc, hb⟩ := List.mem_flatMap.1 h
  exact ⟨c, List.mem_range.1 hc, hb⟩
theorem row_pair (x y : Int) (r : Nat) : ∀ k, (rowL x y r k).Pairwise Blt
  | 0 => by simp [rowL]
  | k + 1 => by
    rw [rowL_succ]
    refine List.pairwise_append.2 ⟨row_pair x y r k, cell_pair x y r k, fun a ha b hb => ?_⟩
    obtain ⟨c, hc, ha⟩ := row_mem ha
    obtain ⟨h1, h2⟩ := cell_mem ha
    obtain ⟨k1, k2⟩ := cell_mem hb
    unfold Blt
    omega
theorem sheet_mem {x y : Int} {cols r : Nat} {b : Bar} (h : b ∈ sheetP x y cols r) : ∃ q, q < r ∧ ∃ c, c < cols ∧ b ∈ cellL x y q c := by
  obtain ⟨q, hq, hb⟩ := List.mem_flatMap.1 h
  exact ⟨q, List.mem_range.1 hq, row_mem hb⟩
theorem sheet_pair (x y : Int) (cols : Nat) : ∀ r, (sheetP x y cols r).Pairwise Blt
  | 0 => by simp [sheetP]
  | r + 1 => by
    rw [sheetP_succ]
    refine List.pairwise_append.2 ⟨sheet_pair x y cols r, row_pair x y r cols, fun a ha b hb => ?_⟩
    obtain ⟨q, hq, c, hc, ha⟩ := sheet_mem ha
    obtain ⟨c', hc', hb⟩ := row_mem hb
    have h1 := (cell_mem ha).1
    have h2 := (cell_mem hb).1
    unfold Blt
    omega
theorem sheet_net {x y : Int} {cols rows : Nat} (hk : okKnot ⟨x, y⟩) (hx : inPlace (x + 2 * (cols : Int))) (hy : inPlace (y + (rows : Int))) : Net (sheetP x y cols rows) := by
  refine ⟨fun b hb => ?_, sheet_pair x y cols rows⟩
  obtain ⟨q, hq, c, hc, hb⟩ := sheet_mem hb
  obtain ⟨h1, h2⟩ := cell_mem hb
  obtain ⟨⟨k1, k2⟩, ⟨k3, k4⟩, k5⟩ := hk
  unfold inPlace at hx hy
  simp only [okBar, okKnot, Bar.lo, Bar.hi, inPlace]
  simp only at k1 k2 k3 k4 k5
  omega
end Go.Proofs.YtfmfpnnglogkmaaGreatDoor

/- The fixed example of the statements on edges: otterEdge. -/
namespace Go.Proofs.YtfmfpnnglogkmaaGreatDoor
open Go.RowKit Go.Shelf Ck

theorem barsS (x y : Int) (s : ByteArray) (c : Nat) (o : Bool) (w : World) (h : EdgeOk x y s c) :
    Calls Tryz.prog 18 #[.agg #[.int .i64 x, .int .i64 y], .string s, .int .i64 c, .bool o] w (PairPost (barsP (sg o) ⟨x, y⟩ (Lib.repeatL s.data.toList c)) w) :=
  (tpBars x y s c o w h).mono fun e w' ⟨v, he, hrow, hb⟩ => by
    obtain ⟨a, c', rfl, hok⟩ := own_oks hrow
    exact ⟨a, c', he, hok, hb⟩
theorem edge_net {x y : Int} {s : ByteArray} {c : Nat} (h : EdgeOk x y s c) (o : Bool) : Net (barsP (sg o) ⟨x, y⟩ (Lib.repeatL s.data.toList c)) := by
  obtain ⟨hs, h1, h2, x1, x2, y1, y2, hp⟩ := h
  refine ⟨fun b hb => ?_, barsP_lt _ _⟩
  obtain ⟨n1, n2, n3, n4⟩ := barsP_near (sg_or o) hb
  obtain ⟨g1, g2⟩ := barsP_ge hb
  have hl : ((Lib.repeatL s.data.toList c).length : Int) ≤ 256 := by rw [rep_len]; omega
  have he := n4 hp (rep_letters hs c)
  simp only at n1 n2 n3 g1
  have hs' : b.s = 1 ∨ b.s = -1 := by rw [g2]; exact sg_or o
  simp only [okBar, okKnot, Bar.lo, Bar.hi, inPlace]
  rcases hs' with h | h <;> rw [h] <;> omega
def nbb : ByteArray := ⟨#[78, 66, 66]⟩
theorem nbb_ok : EdgeOk 0 0 nbb 2 := ⟨⟨by intro c hc; simp [nbb] at hc; rcases hc with rfl | rfl <;> simp [isL], by decide, by decide⟩, by decide, by decide, by decide, by decide, by decide, by decide, by decide⟩
theorem nbb_runs : endsR (Lib.repeatL nbb.data.toList 2) = 2 := by decide +kernel
theorem nbb_bars : barsN (Lib.repeatL nbb.data.toList 2) = 4 := by decide +kernel
theorem four_facts : ∃ l, barsP (sg true) ⟨0, 0⟩ (Lib.repeatL nbb.data.toList 2) = l ∧ l.length = 4 ∧ PartsIs l 2 ∧ nK l = 6 ∧ nM l = 0 ∧ Net l := by
  have hp := barsP_parts (sg_or true) (k := ⟨0, 0⟩) (rep_letters nbb_ok.1 2)
  have hm := barsP_meshes (σ := sg true) (Lib.repeatL nbb.data.toList 2) ⟨0, 0⟩
  have hn := edge_net nbb_ok true
  have hl := barsP_length (σ := sg true) (Lib.repeatL nbb.data.toList 2) ⟨0, 0⟩
  rw [nbb_runs, nbb_bars] at hp
  rw [nbb_bars] at hl
  generalize barsP (sg true) ⟨0, 0⟩ (Lib.repeatL nbb.data.toList 2) = l at *
  exact ⟨l, rfl, hl, hp.1, hp.2, hm, hn⟩
theorem sheet_facts : ∃ S, S = sheetP (-2) (-2) 4 12 ∧ Net S ∧ S.length ≤ 200 ∧ (⟨1, 3, 1⟩ : Bar) ∈ S := by
  refine ⟨_, rfl, sheet_net (x := -2) (y := -2) (cols := 4) (rows := 12) ((knotE_ok (-2) (-2)).1 (by decide)) (by unfold inPlace; omega) (by unfold inPlace; omega), by rw [sheetP_length]; decide, ?_⟩
  refine List.mem_flatMap.2 ⟨5, by decide, List.mem_flatMap.2 ⟨1, by decide, ?_⟩⟩
  decide
theorem nbbBars (l : List Bar) (hl : barsP (sg true) ⟨0, 0⟩ (Lib.repeatL nbb.data.toList 2) = l) (w : World) :
    Calls Tryz.prog 18 #[.agg #[.int .i64 0, .int .i64 0], .string nbb, .int .i64 ((2 : Nat) : Int), .bool true] w (PairPost l w) := by
  have h := barsS 0 0 nbb 2 true w nbb_ok
  rw [hl] at h
  exact h
theorem two_cast : ((2 : Nat) : Int) = 2 := rfl
theorem nbbBars' (l : List Bar) (hl : barsP (sg true) ⟨0, 0⟩ (Lib.repeatL nbb.data.toList 2) = l) (w : World) :
    Calls Tryz.prog 18 #[.agg #[.int .i64 0, .int .i64 0], .string ⟨#[78, 66, 66]⟩, .int .i64 2, .bool true] w (PairPost l w) := by
  have h := nbbBars l hl w
  rw [two_cast] at h
  exact h
end Go.Proofs.YtfmfpnnglogkmaaGreatDoor

/- What the walk of TopOtterSlopes knows of its numbers. -/
namespace Go.Proofs.YtfmfpnnglogkmaaGreatDoor
open Go.RowKit Go.Shelf Ck

theorem vec_pos : ∀ (l : List UInt8) (k : Knot), posK 1 k l = ⟨k.x + (vecL l).1, k.y + (vecL l).2⟩
  | [], k => by simp [posK, vecL]
  | c :: r, k => by
    have ih := vec_pos r (stepK 1 k c)
    have e : posK 1 k (c :: r) = posK 1 (stepK 1 k c) r := rfl
    have h1 : (vecL (c :: r)).1 = dxL c + (vecL r).1 := by simp [vecL]
    have h2 : (vecL (c :: r)).2 = dyL c + (vecL r).2 := by simp [vecL]
    rw [e, ih, h1, h2]
    simp [stepK]
    omega
def farOf (P D : Nat) (k : Knot) : Int := k.x * (D : Int) - (P : Int) * k.y
structure Slp (a b c P D L X Y : Nat) (s : ByteArray) (K : List Knot) (l : List Bar) : Prop where
  num : a / a.gcd b = P
  den : b / a.gcd b = D
  d1 : 1 ≤ D
  p30 : P ≤ 30
  d30 : D ≤ 30
  cop : P.gcd D = 1
  str : slB P D = s
  size : s.size = L
  l1 : 1 ≤ L
  l60 : L ≤ 60
  word : Word s
  wordE : wordE s.data.toList = 0
  edge : EdgeOk 0 0 s c
  vec : vecL s.data.toList = ((X : Int), (Y : Int))
  y0 : 0 < Y
  x1000 : X ≤ 1000
  y1000 : Y ≤ 1000
  rp : X / X.gcd Y = P
  rd : Y / X.gcd Y = D
  walk : walkK (sg true) ⟨0, 0⟩ (Lib.repeatL s.data.toList c) = K
  len : K.length = L * c + 1
  bars : barsP (sg true) ⟨0, 0⟩ (Lib.repeatL s.data.toList c) = l
  net : netE l = 0
  short : l.length ≤ 256
  near : ∀ i (h : i < K.length), 0 ≤ K[i].x ∧ K[i].x ≤ 400 ∧ 0 ≤ K[i].y ∧ K[i].y ≤ 400
  flat : P ≤ D → ∀ i (h : i < K.length), farOf P D K[i] ≤ 0 ∧ -(P : Int) - D < farOf P D K[i]
  steep : D < P → ∀ i (h : i < K.length), 0 ≤ farOf P D K[i] ∧ farOf P D K[i] < (P : Int) + D
  turn : ∀ i (h : i < K.length), i % L = 0 → farOf P D K[i] = 0

theorem slp_all (a b c : Nat) (ha : a ≤ 30) (hb1 : 1 ≤ b) (hb : b ≤ 30) (hc : 1 ≤ c) (hc3 : c ≤ 3) : ∃ (P D L X Y : Nat) (s : ByteArray) (K : List Knot) (l : List Bar), Slp a b c P D L X Y s K l := by
  have hg : 0 < a.gcd b := Nat.gcd_pos_of_pos_right _ (by omega)
  obtain ⟨P, hP⟩ : ∃ P, a / a.gcd b = P := ⟨_, rfl⟩
  obtain ⟨D, hD⟩ : ∃ D, b / a.gcd b = D := ⟨_, rfl⟩
  have hp30 : P ≤ 30 := by rw [← hP]; exact Nat.le_trans (Nat.div_le_self _ _) (by omega)
  have hd30 : D ≤ 30 := by rw [← hD]; exact Nat.le_trans (Nat.div_le_self _ _) (by omega)
  have hd1 : 1 ≤ D := by rw [← hD]; exact Nat.div_pos (Nat.le_of_dvd (by omega) (Nat.gcd_dvd_right _ _)) hg
  have hcop : P.gcd D = 1 := by rw [← hP, ← hD]; exact Nat.coprime_div_gcd_div_gcd hg
  obtain ⟨l1, l2, l3⟩ := shareL_le (P := P) hd1
  obtain ⟨s, hs⟩ : ∃ s, slB P D = s := ⟨_, rfl⟩
  have hsd : s.data.toList = slW P D := by rw [← hs]; rfl
  have hsz : s.size = shareL P D := by rw [Lib.size_eq, hsd, slW_len]
  have hlet : ∀ q ∈ s.data.toList, isL q := by rw [hsd]; exact slW_isL P D
  have hw : Word s := ⟨hlet, by omega, by omega⟩
  have hwE : wordE s.data.toList = 0 := by
    have hlen : s.data.toList.length = s.size := (Lib.size_eq s).symm
    have hne : ¬ s.data.toList = [] := fun e => by rw [e] at hlen; simp at hlen; omega
    rw [wordE, if_neg hne, if_neg (by omega), if_pos]
    rw [List.all_eq_true]
    exact fun q hq => (okC_iff q).2 (hlet q hq)
  have hcl : c * s.size ≤ 180 := Nat.le_trans (Nat.mul_le_mul hc3 (by omega : s.size ≤ 60)) (by decide)
  have hE : EdgeOk 0 0 s c := ⟨hw, hc, by omega, by omega, by omega, by omega, by omega, by decide⟩
  obtain ⟨X, Y, hXY, hY, hr1, hr2, hX2, hY2⟩ := sl_rate hd1 hcop
  have hpos1 := sl_pos (P := P) hd1 1 (shareL P D) (by omega)
  have htk : (Lib.repeatL (slW P D) 1).take (shareL P D) = slW P D := by
    have e : Lib.repeatL (slW P D) 1 = slW P D := by simp [Lib.repeatL]
    rw [e]
    exact List.take_of_length_le (by rw [slW_len]; exact Nat.le_refl _)
  have hvec : vecL s.data.toList = ((X : Int), (Y : Int)) := by
    rw [htk, hXY, vec_pos] at hpos1
    injection hpos1 with e1 e2
    rw [hsd]
    ext
    · simpa using e1
    · simpa using e2
  obtain ⟨K, hK⟩ : ∃ K, walkK (sg true) ⟨0, 0⟩ (Lib.repeatL s.data.toList c) = K := ⟨_, rfl⟩
  have hKl : K.length = shareL P D * c + 1 := by rw [← hK, walkK_length, rep_len, hsz, Nat.mul_comm]
  have hKat : ∀ i (h : i < K.length), K[i] = slPos P D i := by
    intro i h
    subst hK
    rw [walkK_at]
    have hi : i ≤ c * shareL P D := by rw [hKl, Nat.mul_comm] at h; omega
    rw [hsd]
    exact sl_pos hd1 c i hi
  have hfar : ∀ i (h : i < K.length), farOf P D K[i] = slFar P D i := fun i h => by rw [farOf, slFar, hKat i h]
  obtain ⟨l, hl⟩ : ∃ l, barsP (sg true) ⟨0, 0⟩ (Lib.repeatL s.data.toList c) = l := ⟨_, rfl⟩
  have hll : l.length ≤ 256 := by
    rw [← hl, barsP_length, barsN]
    exact Nat.le_trans List.countP_le_length (by rw [rep_len]; omega)
  have hnet : netE l = 0 := (netE_zero l).2 ⟨by omega, by rw [← hl]; exact edge_net hE true⟩
  refine ⟨P, D, shareL P D, X, Y, s, K, l, hP, hD, hd1, hp30, hd30, hcop, hs, hsz, l1, by omega, hw, hwE, hE, hvec, hY, by omega, by omega, hr1, hr2, hK, hKl, hl, hnet, hll, fun i h => ?_, fun hPD i h => ?_, fun hPD i h => ?_, fun i h hi => ?_⟩
  · rw [hKat i h]
    obtain ⟨a1, a2, a3, a4⟩ := sl_near P D i hd1
    have hi : i ≤ 180 := by
      have : shareL P D * c ≤ 180 := by rw [← hsz, Nat.mul_comm]; exact hcl
      omega
    exact ⟨a1, by omega, a3, by omega⟩
  · rw [hfar i h]
    exact (sl_far hd1 i).1 hPD
  · rw [hfar i h]
    exact (sl_far hd1 i).2.1 hPD
  · rw [hfar i h]
    obtain ⟨q, rfl⟩ : ∃ q, i = q * shareL P D := ⟨i / shareL P D, by rw [Nat.div_mul_cancel (Nat.dvd_of_mod_eq_zero hi)]⟩
    exact (sl_far hd1 0).2.2 q

theorem kcellsL_atW (l : List Knot) : ∀ (i : Nat) (h : i < l.length), (kcellsL l)[i * 2]? = some (.int .i64 l[i].x) ∧ (kcellsL l)[i * 2 + 1]? = some (.int .i64 l[i].y) := by
  induction l with
  | nil => intro i h; simp at h
  | cons a r ih =>
    intro i h
    have e : kcellsL (a :: r) = [.int .i64 a.x, .int .i64 a.y] ++ kcellsL r := by simp [kcellsL]
    rw [e]
    cases i with
    | zero => exact ⟨rfl, rfl⟩
    | succ i =>
      have := ih i (by simpa using h)
      rw [show (i + 1) * 2 = i * 2 + 2 from by omega]
      simpa using this
theorem own_rkW {w : World} {base : Nat} {v : Value} {t : TypeId} {l : List Knot} (h : w.ownsRow base t 2 v l.length (kcellsL l)) : ∃ a c, v = .slice a l.length c ∧ RK w w.heap.size a l := by
  rcases h.2 with ⟨rfl, hz⟩ | ⟨g, cap, cur, rfl, _, hgb, h1, h2, _⟩
  · have : l = [] := List.eq_nil_of_length_eq_zero hz
    subst this
    exact ⟨none, 0, rfl, fun hl => by simp at hl⟩
  · refine ⟨_, _, rfl, fun hl => ⟨g, 0, rfl, (Array.getElem?_eq_some_iff.1 hgb).1, fun i hi => ?_⟩⟩
    have hc := h.cells (g := g) rfl
    obtain ⟨k0, k1⟩ := kcellsL_atW l i hi
    have q0 := hc _ _ k0
    have q1 := hc _ _ k1
    rw [add0] at q0 q1
    simp only [Nat.zero_add]
    exact ⟨q0, q1⟩
theorem rkBelow {w w' : World} {a : Option Addr} {l : List Knot} (h : RK w w.heap.size a l) (hb : Below w.heap.size w w') : RK w' w'.heap.size a l := (h.below hb).more hb.size
def KnotsPost (l : List Knot) (w : World) (e : Ending) (w' : World) : Prop := ∃ a c, e = .returned (.tuple #[.slice a l.length c, .int .i64 0]) ∧ RK w' w'.heap.size a l ∧ Below w.heap.size w w'
theorem walkS (x y : Int) (s : ByteArray) (c : Nat) (o : Bool) (K : List Knot) (n : Int) (hn : n = (c : Int)) (w : World) (hK : walkK (sg o) ⟨x, y⟩ (Lib.repeatL s.data.toList c) = K) (h : EdgeOk x y s c) :
    Calls Tryz.prog 17 #[.agg #[.int .i64 x, .int .i64 y], .string s, .int .i64 n, .bool o] w (KnotsPost K w) := by
  subst hn
  exact (tpWalk x y s c o w h).mono fun e w' ⟨v, he, hrow, hb⟩ => by
    rw [hK] at hrow
    obtain ⟨a, c', rfl, hok⟩ := own_rkW hrow
    exact ⟨a, c', he, hok, hb⟩
theorem barsSI (x y : Int) (s : ByteArray) (c : Nat) (o : Bool) (l : List Bar) (n : Int) (hn : n = (c : Int)) (w : World) (hl : barsP (sg o) ⟨x, y⟩ (Lib.repeatL s.data.toList c) = l) (h : EdgeOk x y s c) :
    Calls Tryz.prog 18 #[.agg #[.int .i64 x, .int .i64 y], .string s, .int .i64 n, .bool o] w (PairPost l w) := by
  subst hn hl
  exact barsS x y s c o w h
end Go.Proofs.YtfmfpnnglogkmaaGreatDoor

/- The reference's SameBars, SameMeshes and SameKnots at two slices that read alike. -/
namespace Go.Proofs.YtfmfpnnglogkmaaGreatDoor
open Go.RowKit

theorem infoIT : (Tryz.prog.info? 3).map (fun i => (i.zero, i.size, i.bytes)) = some (some (.int .i64 0), 1, 8) := by kernel_rfl
theorem infoPT : (Tryz.prog.info? 28).map (fun i => (i.zero, i.size, i.bytes)) = some (some (.agg #[.int .i64 0, .int .i64 0]), 2, 16) := by kernel_rfl
set_option maxRecDepth 100000 in
/-- Equality of pairs of numbers. -/
theorem eqPair (a b c d : Int) (r : Bool) (hr : decide (a = c ∧ b = d) = r) (w : World) : (Op.equalIn 10000 66 (.agg #[.int .i64 a, .int .i64 b]) (.agg #[.int .i64 c, .int .i64 d])).run Tryz.prog w = .ok r w := by
  have u3 := Tryz.underlying3
  have a3 := Tryz.isAgg3
  have z3 := Tryz.sizeOf3
  obtain ⟨i, hi, -, -, -⟩ := info_parts infoIT
  have hc : Tryz.prog.cellsOf 3 = 1 := by kernel_rfl
  subst hr
  rw [show (10000 : Nat) = 9999 + 1 from rfl, run_equalIn_array w 9999 _ _ Tryz.underlying66 hi, hc, show List.range 2 = [0, 1] from rfl]
  simp only [Op.eqItems]
  go_simp
  by_cases h1 : a = c <;> by_cases h2 : b = d <;> simp [h1, h2]
theorem guardPair : Tryz.prog.eqGuardType Tryz.prog.depth 66 = false := by kernel_rfl
theorem eqPairSame (a b : Int) (w : World) : (Op.equalIn 10000 66 (.agg #[.int .i64 a, .int .i64 b]) (.agg #[.int .i64 a, .int .i64 b])).run Tryz.prog w = .ok true w := eqPair a b a b true (by simp) w
set_option maxHeartbeats 1000000 in
set_option maxRecDepth 100000 in
theorem refSameBars (A A' : Option Addr) (c c' : Nat) (l : List Ck.Bar) (w : World) (hl : l.length ≤ 4096) (h : RB w w.heap.size A l) (h' : RB w w.heap.size A' l) :
    Calls Tryz.prog 23 #[.slice A l.length c, .slice A' l.length c'] w fun e w' => e = .returned (.bool true) ∧ Below w.heap.size w w' := by
  have HR := Lib.hid h
  have HR' := Lib.hid h'
  clear h h'
  have hne : ((l.length : Int) != (l.length : Int)) = false := by simp
  go_enter Tryz.func23, Tryz.ntmps23
  go_wp2_with fail
  go_loopw [5] (fun i wr => ∃ k : Nat, k ≤ l.length ∧ i = .int .i64 k ∧ Below w.heap.size w wr) (fun i _ => l.length - (intOf i).toNat)
  case atStart => exact ⟨0, Nat.zero_le _, rfl, Below.refl _ _⟩
  case round =>
    obtain ⟨k, hk, rfl, hb⟩ := hrel
    by_cases hlt : k < l.length
    · have h := HR.out.below hb
      have h' := HR'.out.below hb
      obtain ⟨b, off, rfl, hB, hc⟩ := h (by omega)
      obtain ⟨b', off', rfl, hB', hc'⟩ := h' (by omega)
      obtain ⟨c0, c1, c2⟩ := hc k hlt
      obtain ⟨d0, d1, d2⟩ := hc' k hlt
      clear hc hc' h h'
      have b1 : (0 : Int) ≤ (k : Int) := by omega
      have b2 : (k : Int) < (l.length : Int) := by omega
      generalize l[k] = x at c0 c1 c2 d0 d1 d2
      go_wp2_with fail
      go_region
      go_wp2_with fail
      go_roundw
      case rel => exact ⟨k + 1, by omega, by go_num, below_drew hb⟩
      case measure => simp [intOf]; omega
    · have e : k = l.length := by omega
      subst e
      go_wp2_with fail
      go_ret
      exact ⟨rfl, hb⟩
set_option maxHeartbeats 1000000 in
set_option maxRecDepth 100000 in
theorem refSameMeshes (A A' : Option Addr) (c c' : Nat) (l : List Ck.Knot) (w : World) (hl : l.length ≤ 4096) (h : RK w w.heap.size A l) (h' : RK w w.heap.size A' l) :
    Calls Tryz.prog 25 #[.slice A l.length c, .slice A' l.length c'] w fun e w' => e = .returned (.bool true) ∧ Below w.heap.size w w' := by
  have HR := Lib.hid h
  have HR' := Lib.hid h'
  clear h h'
  have hne : ((l.length : Int) != (l.length : Int)) = false := by simp
  go_enter Tryz.func25, Tryz.ntmps25
  go_wp2_with fail
  go_loopw [5] (fun i wr => ∃ k : Nat, k ≤ l.length ∧ i = .int .i64 k ∧ Below w.heap.size w wr) (fun i _ => l.length - (intOf i).toNat)
  case atStart => exact ⟨0, Nat.zero_le _, rfl, Below.refl _ _⟩
  case round =>
    obtain ⟨k, hk, rfl, hb⟩ := hrel
    by_cases hlt : k < l.length
    · have h := HR.out.below hb
      have h' := HR'.out.below hb
      obtain ⟨b, off, rfl, hB, hc⟩ := h (by omega)
      obtain ⟨b', off', rfl, hB', hc'⟩ := h' (by omega)
      obtain ⟨c0, c1⟩ := hc k hlt
      obtain ⟨d0, d1⟩ := hc' k hlt
      clear hc hc' h h'
      have b1 : (0 : Int) ≤ (k : Int) := by omega
      have b2 : (k : Int) < (l.length : Int) := by omega
      generalize l[k] = x at c0 c1 d0 d1
      have hes := eqPairSame x.x x.y
      have hgp := guardPair
      go_wp2_with fail
      go_region
      go_wp2_with fail
      go_roundw
      case rel => exact ⟨k + 1, by omega, by go_num, below_drew hb⟩
      case measure => simp [intOf]; omega
    · have e : k = l.length := by omega
      subst e
      go_wp2_with fail
      go_ret
      exact ⟨rfl, hb⟩
set_option maxHeartbeats 1000000 in
set_option maxRecDepth 100000 in
theorem refSameKnots (A A' : Option Addr) (c c' : Nat) (l : List Ck.Knot) (w : World) (hl : l.length ≤ 4096) (h : RK w w.heap.size A l) (h' : RK w w.heap.size A' l) :
    Calls Tryz.prog 21 #[.slice A l.length c, .slice A' l.length c'] w fun e w' => e = .returned (.bool true) ∧ Below w.heap.size w w' := by
  have HR := Lib.hid h
  have HR' := Lib.hid h'
  clear h h'
  have hne : ((l.length : Int) != (l.length : Int)) = false := by simp
  go_enter Tryz.func21, Tryz.ntmps21
  go_wp2_with fail
  go_loopw [5] (fun i wr => ∃ k : Nat, k ≤ l.length ∧ i = .int .i64 k ∧ Below w.heap.size w wr) (fun i _ => l.length - (intOf i).toNat)
  case atStart => exact ⟨0, Nat.zero_le _, rfl, Below.refl _ _⟩
  case round =>
    obtain ⟨k, hk, rfl, hb⟩ := hrel
    by_cases hlt : k < l.length
    · have h := HR.out.below hb
      have h' := HR'.out.below hb
      obtain ⟨b, off, rfl, hB, hc⟩ := h (by omega)
      obtain ⟨b', off', rfl, hB', hc'⟩ := h' (by omega)
      obtain ⟨c0, c1⟩ := hc k hlt
      obtain ⟨d0, d1⟩ := hc' k hlt
      clear hc hc' h h'
      have b1 : (0 : Int) ≤ (k : Int) := by omega
      have b2 : (k : Int) < (l.length : Int) := by omega
      generalize l[k] = x at c0 c1 d0 d1
      go_wp2_with fail
      go_region
      go_wp2_with fail
      go_roundw
      case rel => exact ⟨k + 1, by omega, by go_num, below_drew hb⟩
      case measure => simp [intOf]; omega
    · have e : k = l.length := by omega
      subst e
      go_wp2_with fail
      go_ret
      exact ⟨rfl, hb⟩
end Go.Proofs.YtfmfpnnglogkmaaGreatDoor

/- Words with and without an error: checkLetters and CheckWord of taper at all strings. -/
namespace Go.Proofs.YtfmfpnnglogkmaaGreatDoor
open Go.RowKit

set_option maxHeartbeats 400000 in
theorem tpIsLetterNo (r : Int) (w : World) (h0 : ¬ r = 78) (h1 : ¬ r = 66) (h2 : ¬ r = 84) : Calls Tryz.prog 110 #[.int .i32 r] w fun e w' => e = .returned (.bool false) ∧ w = w' := by
  go_enter Tryz.func110, Tryz.ntmps110
  go_wp2
  go_ret
  simp [h0, h1, h2]
def letE (l : List UInt8) : Int := if l.all okC = true then 0 else 1
set_option maxHeartbeats 1000000 in
set_option maxRecDepth 100000 in
theorem tpCheckLettersE (s : ByteArray) (w : World) :
    Calls Tryz.prog 106 #[.string s] w fun e w' => e = .returned (.int .i64 (letE s.data.toList)) ∧ Below w.heap.size w w' := by
  have hk0 : (w.iter s 0).heap[w.heap.size]? = some (.stringIter s 0) := by have := World.iter_heap w s 0; simpa using this
  have hb0 : Below w.heap.size w (w.iter s 0) := (Below.refl _ w).alloc (Nat.le_refl _) _
  have HSZ := Lib.hid (show s.data.toList.length = s.size from (Lib.size_eq s).symm)
  go_enter Tryz.func106, Tryz.ntmps106
  go_wp2_with fail
  go_loopw [4] (fun _ wr => ∃ pos : Nat, pos ≤ s.size ∧ (s.data.toList.take pos).all okC = true ∧ wr.heap[w.heap.size]? = some (.stringIter s pos) ∧ Below w.heap.size w wr) (fun _ wr => s.size - wr.iterPos w.heap.size)
  case atStart => exact ⟨0, Nat.zero_le _, by simp, hk0, hb0⟩
  case round =>
    obtain ⟨pos, hps, hall, hk, hb⟩ := hrel
    clear hk0 hb0
    by_cases hp : pos < s.size
    · have hkl : pos < s.data.toList.length := by rw [HSZ.out]; exact hp
      have hel : s.data.toList[pos] = s[pos] := byte_at s pos hp hkl
      by_cases hok : okC (s[pos]) = true
      · have hL : isL (s[pos]) := (okC_iff _).1 hok
        have HA := Lib.hid (show (s.data.toList.take (pos + 1)).all okC = true by
          rw [List.take_succ_eq_append_getElem hkl, List.all_append, hall, hel]
          simp [hok])
        have hnext : ∀ ty, (Instr.next (.pointer (some ⟨w.heap.size, 0, none⟩)) true ty).run Tryz.prog wr = _ := fun ty => Lib.run_next_ascii_at wr w.heap.size s pos ty hk hp (isL_small hL)
        have hk1 := Lib.iterAt_heap wr w.heap.size s pos (pos + 1) hk
        have hb1 : Below w.heap.size w (wr.iterAt w.heap.size s (pos + 1)) := Lib.below_iterAt hb (Nat.le_refl _) s (pos + 1)
        have hmu : wr.iterPos w.heap.size = pos := by simp [World.iterPos, hk]
        generalize wr.iterAt w.heap.size s (pos + 1) = W1 at hnext hk1 hb1
        clear hall hok hel
        go_wp2_with fail
        refine (tpIsLetter (s[pos]) _ hL).mono ?_
        rintro e w2 ⟨rfl, rfl⟩
        go_wp2
        go_roundw
        case rel => exact ⟨pos + 1, by omega, HA.out, hk1, hb1⟩
        case measure =>
          have hmu2 : W1.iterPos w.heap.size = pos + 1 := by simp [World.iterPos, hk1]
          rw [hmu, hmu2]
          omega
      · have HE := Lib.hid (show letE s.data.toList = 1 by
          rw [letE, if_neg]
          intro h
          rw [List.all_eq_true] at h
          have := h _ (List.getElem_mem hkl)
          rw [hel] at this
          exact hok this)
        have hnl : ¬ isL (s[pos]) := fun h => hok ((okC_iff _).2 h)
        have hnext : ∀ ty, (Instr.next (.pointer (some ⟨w.heap.size, 0, none⟩)) true ty).run Tryz.prog wr = _ := fun ty => Lib.run_next_any_at wr w.heap.size s pos ty hk hp
        have hb1 : Below w.heap.size w (wr.iterAt w.heap.size s (pos + (Utf8.decode s pos).2)) := Lib.below_iterAt hb (Nat.le_refl _) s _
        have hr : ((Utf8.decode s pos).1 : Int) ≠ 78 ∧ ((Utf8.decode s pos).1 : Int) ≠ 66 ∧ ((Utf8.decode s pos).1 : Int) ≠ 84 := by
          by_cases ha : (s[pos]).toNat < 128
          · rw [decode_ascii s pos hp ha]
            refine ⟨fun e => hnl (.inl (UInt8.toNat.inj (by show (s[pos]).toNat = 78; simp only at e; omega))), fun e => hnl (.inr (.inl (UInt8.toNat.inj (by show (s[pos]).toNat = 66; simp only at e; omega)))), fun e => hnl (.inr (.inr (UInt8.toNat.inj (by show (s[pos]).toNat = 84; simp only at e; omega))))⟩
          · have := (decode_high s pos hp (by omega)).1
            omega
        obtain ⟨r0, r1, r2⟩ := hr
        generalize wr.iterAt w.heap.size s (pos + (Utf8.decode s pos).2) = W1 at hnext hb1
        generalize (Utf8.decode s pos).1 = R at hnext r0 r1 r2
        clear hall hok hel hnl
        go_wp2_with fail
        refine (tpIsLetterNo (R : Int) _ r0 r1 r2).mono ?_
        rintro e w2 ⟨rfl, rfl⟩
        go_wp2
        go_ret
        exact ⟨ret_i HE.out.symm, hb1⟩
    · have HE := Lib.hid (show letE s.data.toList = 0 by
        rw [letE, if_pos]
        rwa [List.take_of_length_le (by rw [HSZ.out]; omega)] at hall)
      have hnext : ∀ ty, (Instr.next (.pointer (some ⟨w.heap.size, 0, none⟩)) true ty).run Tryz.prog wr = _ := fun ty => Lib.run_next_end_at wr w.heap.size s pos ty hk hp
      clear hall
      go_wp2
      go_ret
      exact ⟨ret_i HE.out.symm, hb⟩
def lenE (n : Int) : Int := if 64 < n then 26 else 0
set_option maxHeartbeats 400000 in
theorem tpCheckLengthE (n : Int) (w : World) : Calls Tryz.prog 70 #[.int .i64 n] w fun e w' => e = .returned (.int .i64 (lenE n)) ∧ w = w' := by
  by_cases h : 64 < n
  · have hE := Lib.hid (show lenE n = 26 by rw [lenE, if_pos h])
    go_enter Tryz.func70, Tryz.ntmps70
    go_wp2
    go_ret
    exact ⟨ret_i hE.out.symm, rfl⟩
  · have hE := Lib.hid (show lenE n = 0 by rw [lenE, if_neg h])
    go_enter Tryz.func70, Tryz.ntmps70
    go_wp2
    go_ret
    exact ⟨ret_i hE.out.symm, rfl⟩
theorem wordE_two (s : ByteArray) (h : s.toList.isEmpty = false) : firstE [lenE (s.size : Int), letE s.data.toList] = wordE s.data.toList := by
  have hz := Lib.size_eq s
  rw [Lib.toList_data] at h
  have h0 : ¬ s.data.toList = [] := fun e => by rw [e] at h; cases h
  rw [wordE, if_neg h0]
  by_cases h1 : 64 < s.data.toList.length
  · rw [if_pos h1]
    have : lenE (s.size : Int) = 26 := by rw [lenE, if_pos (by omega)]
    rw [this]
    simp [firstE]
  · rw [if_neg h1]
    have : lenE (s.size : Int) = 0 := by rw [lenE, if_neg (by omega)]
    rw [this, letE]
    split <;> simp [firstE, *]
set_option maxHeartbeats 1000000 in
set_option maxRecDepth 100000 in
theorem tpCheckWordE (s : ByteArray) (w : World) :
    Calls Tryz.prog 72 #[.string s] w fun e w' => e = .returned (.int .i64 (wordE s.data.toList)) ∧ Below w.heap.size w w' := by
  by_cases he : s.toList.isEmpty = true
  · have HE := Lib.hid (show wordE s.data.toList = 12 by
      rw [Lib.toList_data] at he
      rw [wordE, if_pos (List.isEmpty_iff.1 he)])
    go_enter Tryz.func72, Tryz.ntmps72
    go_wp2
    go_ret
    exact ⟨ret_i HE.out.symm, Below.refl _ _⟩
  · have hne : s.toList.isEmpty = false := by simpa using he
    have HE := Lib.hid (wordE_two s hne)
    clear he
    go_enter Tryz.func72, Tryz.ntmps72
    go_wp2_with fail
    refine (tpCheckLengthE _ _).mono ?_
    rintro e w1 ⟨rfl, rfl⟩
    go_wp2_with fail
    refine (tpCheckLettersE s _).mono ?_
    rintro e w2 ⟨rfl, hb⟩
    go_wp2_with fail
    refine (tpFirst2 _ _ _ _ 30 _ (by exact heap_alloc_new _ _)).mono ?_
    rintro e w3 ⟨rfl, rfl⟩
    rw [HE.out]
    go_wp2
    go_ret
    exact ⟨rfl, hb.alloc hb.size _⟩
end Go.Proofs.YtfmfpnnglogkmaaGreatDoor

/- Spread, Mix, Share and Exact of taper, with their errors. -/
namespace Go.Proofs.YtfmfpnnglogkmaaGreatDoor
open Go.RowKit

def emptyS : ByteArray := ⟨#[]⟩
def spwE (v : ByteArray) (m : Nat) (u : ByteArray) (n : Nat) : Int := if m + n = 0 then 12 else if 64 < m * v.size + n * u.size then 26 else 0
def spwS (v : ByteArray) (m : Nat) (u : ByteArray) (n : Nat) : ByteArray := if spwE v m u n = 0 then ⟨(spreadL v.data.toList m u.data.toList n (m + n)).toArray⟩ else ⟨#[]⟩
set_option maxHeartbeats 1000000 in
set_option maxRecDepth 100000 in
theorem tpSpreadWithin (v u : ByteArray) (m n : Nat) (w : World) (hv : v.size ≤ 100) (hu : u.size ≤ 100) (hm : m ≤ 64) (hn : n ≤ 64) :
    Calls Tryz.prog 89 #[.string v, .int .i64 m, .string u, .int .i64 n] w fun e w' => e = .returned (.tuple #[.string (spwS v m u n), .int .i64 (spwE v m u n)]) ∧ Below w.heap.size w w' := by
  by_cases h0 : m + n = 0
  · have hE : spwE v m u n = 12 := by rw [spwE, if_pos h0]
    have hS : spwS v m u n = ⟨#[]⟩ := by rw [spwS, if_neg (by rw [hE]; decide)]
    rw [hE, hS]
    obtain rfl : m = 0 := by omega
    obtain rfl : n = 0 := by omega
    clear hE hS
    go_enter Tryz.func89, Tryz.ntmps89
    go_wp2
    go_ret2
    exact ⟨rfl, Below.refl _ _⟩
  · have hz : ¬ ((m : Int) + (n : Int)) = 0 := by omega
    have hzN : ¬ (m = 0 ∧ n = 0) := by omega
    have p1 : m * v.size ≤ 6400 := Nat.le_trans (Nat.mul_le_mul hm hv) (by decide)
    have p2 : n * u.size ≤ 6400 := Nat.le_trans (Nat.mul_le_mul hn hu) (by decide)
    have q1 : (m : Int) * (v.size : Int) = ((m * v.size : Nat) : Int) := by push_cast; rfl
    have q2 : (n : Int) * (u.size : Int) = ((n * u.size : Nat) : Int) := by push_cast; rfl
    obtain ⟨T, hT⟩ : ∃ T, m * v.size + n * u.size = T := ⟨_, rfl⟩
    have q3 : (m : Int) * (v.size : Int) + (n : Int) * (u.size : Int) = (T : Int) := by rw [q1, q2, ← hT]; push_cast; rfl
    have q4 : 0 ≤ (m : Int) * (v.size : Int) ∧ (m : Int) * (v.size : Int) ≤ 6400 := by rw [q1]; omega
    have q5 : 0 ≤ (n : Int) * (u.size : Int) ∧ (n : Int) * (u.size : Int) ≤ 6400 := by rw [q2]; omega
    obtain ⟨q6, q7⟩ := q4
    obtain ⟨q8, q9⟩ := q5
    by_cases h1 : 64 < T
    · have hE : spwE v m u n = 26 := by rw [spwE, if_neg h0, if_pos (by omega)]
      have hS : spwS v m u n = ⟨#[]⟩ := by rw [spwS, if_neg (by rw [hE]; decide)]
      have HLE := Lib.hid (show lenE ((m : Int) * (v.size : Int) + (n : Int) * (u.size : Int)) = 26 by rw [q3, lenE, if_pos (by omega)])
      rw [hE, hS]
      clear hE hS p1 p2 q1 q2 q3 hT h1
      go_enter Tryz.func89, Tryz.ntmps89
      go_wp2_with fail
      refine (tpCheckLengthE _ _).mono ?_
      rintro e w1 ⟨rfl, rfl⟩
      rw [HLE.out]
      go_wp2
      go_ret2
      exact ⟨rfl, Below.refl _ _⟩
    · have hE : spwE v m u n = 0 := by rw [spwE, if_neg h0, if_neg (by omega)]
      have HS := Lib.hid (show spwS v m u n = ⟨(spreadL v.data.toList m u.data.toList n (m + n)).toArray⟩ by rw [spwS, if_pos hE])
      have HLE := Lib.hid (show lenE ((m : Int) * (v.size : Int) + (n : Int) * (u.size : Int)) = 0 by rw [q3, lenE, if_neg (by omega)])
      rw [hE, HS.out]
      clear hE p1 p2 q1 q2 q3 hT h1 HS
      go_enter Tryz.func89, Tryz.ntmps89
      go_wp2_with fail
      refine (tpCheckLengthE _ _).mono ?_
      rintro e w1 ⟨rfl, rfl⟩
      rw [HLE.out]
      go_wp2_with fail
      refine (tpSpread v u m n _ hv hu (by omega) (by omega)).mono ?_
      rintro e w2 ⟨rfl, hb2⟩
      go_wp2
      go_ret2
      exact ⟨rfl, hb2⟩
end Go.Proofs.YtfmfpnnglogkmaaGreatDoor

/- Vector, Rate and Compare of taper, with their errors. -/
namespace Go.Proofs.YtfmfpnnglogkmaaGreatDoor
open Go.RowKit

theorem neE {E : Int} (h : E ≠ 0) : (E != 0) = true := by rw [bne_iff_ne]; exact h
set_option maxHeartbeats 1000000 in
set_option maxRecDepth 100000 in
theorem tpVectorOk (s : ByteArray) (w : World) (hs : Word s) :
    Calls Tryz.prog 33 #[.string s] w fun e w' => e = .returned (.tuple #[.agg #[.int .i64 (vecL s.data.toList).1, .int .i64 (vecL s.data.toList).2], .int .i64 0]) ∧ Below w.heap.size w w' := by
  obtain ⟨w1, hw1, h0, hb1, hz1⟩ := boxH2 w (.int .i64 0) (.int .i64 0) 66
  have HW1 := Lib.hid hw1
  clear hw1
  go_enter Tryz.func33, Tryz.ntmps33
  go_wp2_with fail
  rw [← HW1.out]
  go_wp2_with fail
  refine (tpCheckWord s _ hs).mono ?_
  rintro e w2 ⟨rfl, hb2⟩
  have h2 := (hb2.block _ hz1).trans h0
  have b2 := hb1.trans (hb2.mono hb1.size)
  clear h0 hb1 hb2 hz1
  go_wp2_with fail
  refine (tpVectorOf s _ hs).mono ?_
  rintro e w3 ⟨rfl, hb3⟩
  have h3 := (hb3.block _ (Array.getElem?_eq_some_iff.1 h2).1).trans h2
  have b3 := b2.trans (hb3.mono b2.size)
  clear h2 hb3 b2
  obtain ⟨U, hU⟩ : ∃ U, (vecL s.data.toList).1 = U := ⟨_, rfl⟩
  obtain ⟨V, hV⟩ : ∃ V, (vecL s.data.toList).2 = V := ⟨_, rfl⟩
  have HU := Lib.hid hU
  have HV := Lib.hid hV
  rw [HU.out, HV.out]
  clear hU hV
  obtain ⟨r0, r1, r2, r3⟩ := two_cell h3
  obtain ⟨s1, s2⟩ := two_set h3 (.int .i64 U) (.int .i64 V)
  obtain ⟨t0, t1, -, -⟩ := two_cell s1
  have hbf := b3.grown s2 b3.size (fun j e => by cases e; omega)
  clear h3
  go_wp2
  exact bodyPost_ret (v := .tuple #[.agg #[.int .i64 U, .int .i64 V], .int .i64 0]) (by simp [results, Tryz.results33, go_sem, t0, t1]) rfl ⟨by rw [HU.out, HV.out], hbf⟩
set_option maxHeartbeats 1000000 in
set_option maxRecDepth 100000 in
theorem tpVectorNo (s : ByteArray) (w : World) (E : Int) (hE : wordE s.data.toList = E) (h0 : E ≠ 0) :
    Calls Tryz.prog 33 #[.string s] w fun e w' => e = .returned (.tuple #[.agg #[.int .i64 0, .int .i64 0], .int .i64 E]) ∧ Below w.heap.size w w' := by
  obtain ⟨w1, hw1, h1, hb1, hz1⟩ := boxH2 w (.int .i64 0) (.int .i64 0) 66
  have HW1 := Lib.hid hw1
  have HE := Lib.hid hE
  have hne := neE h0
  clear hw1 hE h0
  go_enter Tryz.func33, Tryz.ntmps33
  go_wp2_with fail
  rw [← HW1.out]
  go_wp2_with fail
  refine (tpCheckWordE s _).mono ?_
  rintro e w2 ⟨rfl, hb2⟩
  rw [HE.out]
  have h2 := (hb2.block _ hz1).trans h1
  have b2 := hb1.trans (hb2.mono hb1.size)
  obtain ⟨r0, r1, r2, r3⟩ := two_cell h2
  obtain ⟨s1, s2⟩ := two_set h2 (.int .i64 0) (.int .i64 0)
  obtain ⟨t0, t1, -, -⟩ := two_cell s1
  have hbf := b2.grown s2 b2.size (fun j e => by cases e; omega)
  clear h1 h2 hb1 hb2
  go_wp2
  exact bodyPost_ret (v := .tuple #[.agg #[.int .i64 0, .int .i64 0], .int .i64 E]) (by simp [results, Tryz.results33, go_sem, t0, t1]) rfl ⟨rfl, hbf⟩

/-- Has the word rows? -/
def rowsB (s : ByteArray) : Bool := decide (0 < (vecL s.data.toList).2)
set_option maxHeartbeats 1000000 in
set_option maxRecDepth 100000 in
theorem tpHasRate (s : ByteArray) (w : World) (hs : Word s) :
    Calls Tryz.prog 94 #[.string s] w fun e w' => e = .returned (.bool (rowsB s)) ∧ Below w.heap.size w w' := by
  have ex := idxI1
  have HR := Lib.hid (show rowsB s = decide (0 < (vecL s.data.toList).2) from rfl)
  by_cases hy : 0 < (vecL s.data.toList).2
  · have hg : decide (0 < (vecL s.data.toList).2) = true := by simpa using hy
    rw [HR.out.trans hg]
    clear HR
    go_enter Tryz.func94, Tryz.ntmps94
    go_wp2_with fail
    refine (tpVectorOf s _ hs).mono ?_
    rintro e w1 ⟨rfl, hb1⟩
    generalize vecL s.data.toList = v at *
    go_wp2
    go_ret
    exact ⟨rfl, hb1⟩
  · have hg : decide (0 < (vecL s.data.toList).2) = false := by simpa using hy
    rw [HR.out.trans hg]
    clear HR
    go_enter Tryz.func94, Tryz.ntmps94
    go_wp2_with fail
    refine (tpVectorOf s _ hs).mono ?_
    rintro e w1 ⟨rfl, hb1⟩
    generalize vecL s.data.toList = v at *
    go_wp2
    go_ret
    exact ⟨rfl, hb1⟩
end Go.Proofs.YtfmfpnnglogkmaaGreatDoor

/- Spread and Mix of taper at all arguments of at most 100 bytes; Share at good ratios. -/
namespace Go.Proofs.YtfmfpnnglogkmaaGreatDoor
open Go.RowKit

def rngE (n lo hi : Int) : Int := if n < lo ∨ hi < n then 3 else 0
theorem four_err {w : World} {g : Nat} {a b c d : Int} {t : TypeId} (h : w.heap[g]? = some (.cells #[.int .i64 a, .int .i64 b, .int .i64 c, .int .i64 d] t (0, 0))) : ∀ i (hi : i < [a, b, c, d].length), w.cell? ⟨g, i, none⟩ = some (.int .i64 [a, b, c, d][i]) := by
  intro i hi
  have hi' : i = 0 ∨ i = 1 ∨ i = 2 ∨ i = 3 := by simp at hi; omega
  rcases hi' with rfl | rfl | rfl | rfl <;> simp [World.cell?, h]
theorem tpFirst4 (g k : Nat) (a b c d : Int) (t : TypeId) (w : World) (h : w.heap[g]? = some (.cells #[.int .i64 a, .int .i64 b, .int .i64 c, .int .i64 d] t (0, 0))) :
    Calls Tryz.prog 74 #[.slice (some ⟨g, 0, none⟩) 4 k] w fun e w' => e = .returned (.int .i64 (firstE [a, b, c, d])) ∧ w = w' :=
  tpFirst g k [a, b, c, d] w (by simp) (four_err h)
theorem tpRng (n lo hi : Int) (w : World) : Calls Tryz.prog 75 #[.int .i64 n, .int .i64 lo, .int .i64 hi] w fun e w' => e = .returned (.int .i64 (rngE n lo hi)) ∧ w = w' := tpCheckRange n lo hi w
theorem rngE_zero {n lo hi : Int} (h : rngE n lo hi = 0) : lo ≤ n ∧ n ≤ hi := by
  unfold rngE at h
  split at h
  · cases h
  · omega
theorem first4_zero {a b c d : Int} (h : firstE [a, b, c, d] = 0) : a = 0 ∧ b = 0 ∧ c = 0 ∧ d = 0 := by
  simp only [firstE] at h
  repeat' split at h
  all_goals simp_all
def mix0 (v : ByteArray) (m : Int) (u : ByteArray) (n : Int) : Int := firstE [wordE v.data.toList, rngE m 0 64, wordE u.data.toList, rngE n 0 64]
def mixE (v : ByteArray) (m : Int) (u : ByteArray) (n : Int) : Int := if mix0 v m u n = 0 then spwE v m.toNat u n.toNat else mix0 v m u n
def mixS (v : ByteArray) (m : Int) (u : ByteArray) (n : Int) : ByteArray := if mix0 v m u n = 0 then spwS v m.toNat u n.toNat else ⟨#[]⟩
set_option maxHeartbeats 1000000 in
set_option maxRecDepth 100000 in
theorem tpMix (v u : ByteArray) (m n : Int) (w : World) (hv : v.size ≤ 100) (hu : u.size ≤ 100) :
    Calls Tryz.prog 41 #[.string v, .int .i64 m, .string u, .int .i64 n] w fun e w' => e = .returned (.tuple #[.string (mixS v m u n), .int .i64 (mixE v m u n)]) ∧ Below w.heap.size w w' := by
  have ex0 : ∀ (a b : Value) (w : World), (Instr.extract (.tuple #[a, b]) 0).run Tryz.prog w = .ok a w := fun _ _ _ => by kernel_rfl
  have ex1 : ∀ (a b : Value) (w : World), (Instr.extract (.tuple #[a, b]) 1).run Tryz.prog w = .ok b w := fun _ _ _ => by kernel_rfl
  by_cases h0 : mix0 v m u n = 0
  · have H0 := Lib.hid h0
    obtain ⟨hv0, hm, hu0, hn⟩ := first4_zero h0
    obtain ⟨m1, m2⟩ := rngE_zero hm
    obtain ⟨n1, n2⟩ := rngE_zero hn
    rw [mixE, mixS, if_pos h0, if_pos h0]
    obtain ⟨M, rfl⟩ : ∃ M : Nat, m = (M : Int) := ⟨m.toNat, by omega⟩
    obtain ⟨N, rfl⟩ : ∃ N : Nat, n = (N : Int) := ⟨n.toNat, by omega⟩
    rw [Int.toNat_natCast, Int.toNat_natCast]
    have HV := Lib.hid hv0
    have HU := Lib.hid hu0
    have HM := Lib.hid hm
    have HN := Lib.hid hn
    clear h0 hm hn hv0 hu0 H0
    go_enter Tryz.func41, Tryz.ntmps41
    go_wp2_with fail
    refine (tpCheckWordE v _).mono ?_
    rintro e w1 ⟨rfl, hb1⟩
    rw [HV.out]
    go_wp2_with fail
    refine (tpRng _ _ _ _).mono ?_
    rintro e w1' ⟨rfl, rfl⟩
    rw [HM.out]
    go_wp2_with fail
    refine (tpCheckWordE u _).mono ?_
    rintro e w2 ⟨rfl, hb2⟩
    rw [HU.out]
    go_wp2_with fail
    refine (tpRng _ _ _ _).mono ?_
    rintro e w2' ⟨rfl, rfl⟩
    rw [HN.out]
    go_wp2_with fail
    refine (tpFirst4 _ _ _ _ _ _ 30 _ (by exact heap_alloc_new _ _)).mono ?_
    rintro e w3 ⟨rfl, rfl⟩
    rw [show firstE [0, 0, 0, 0] = 0 from rfl]
    have b2 := hb1.trans (hb2.mono hb1.size)
    have b3 : Below w.heap.size w (w2.alloc (.cells #[.int .i64 0, .int .i64 0, .int .i64 0, .int .i64 0] 30)) := b2.alloc b2.size _
    generalize World.alloc w2 _ = w4 at b3 ⊢
    go_wp2_with fail
    refine (tpSpreadWithin v u M N _ hv hu (by omega) (by omega)).mono ?_
    rintro e w5 ⟨rfl, hb5⟩
    go_wp2
    go_ret2
    exact ⟨rfl, b3.trans (hb5.mono b3.size)⟩
  · have hne := neE h0
    obtain ⟨E, hE⟩ : ∃ E, mix0 v m u n = E := ⟨_, rfl⟩
    rw [mixE, mixS, if_neg h0, if_neg h0, hE]
    rw [hE] at hne
    have HE := Lib.hid hE
    clear h0 hE
    go_enter Tryz.func41, Tryz.ntmps41
    go_wp2_with fail
    refine (tpCheckWordE v _).mono ?_
    rintro e w1 ⟨rfl, hb1⟩
    go_wp2_with fail
    refine (tpRng _ _ _ _).mono ?_
    rintro e w1' ⟨rfl, rfl⟩
    go_wp2_with fail
    refine (tpCheckWordE u _).mono ?_
    rintro e w2 ⟨rfl, hb2⟩
    go_wp2_with fail
    refine (tpRng _ _ _ _).mono ?_
    rintro e w2' ⟨rfl, rfl⟩
    go_wp2_with fail
    refine (tpFirst4 _ _ _ _ _ _ 30 _ (by exact heap_alloc_new _ _)).mono ?_
    rintro e w3 ⟨rfl, rfl⟩
    rw [show firstE [wordE v.data.toList, rngE m 0 64, wordE u.data.toList, rngE n 0 64] = E from HE.out]
    have b2 := hb1.trans (hb2.mono hb1.size)
    go_wp2
    go_ret2
    exact ⟨rfl, b2.alloc b2.size _⟩
def lettE (s : ByteArray) : Int := if s.size = 1 then letE s.data.toList else 1
set_option maxHeartbeats 1000000 in
set_option maxRecDepth 100000 in
theorem tpCheckLetter (s : ByteArray) (w : World) : Calls Tryz.prog 88 #[.string s] w fun e w' => e = .returned (.int .i64 (lettE s)) ∧ Below w.heap.size w w' := by
  by_cases h : s.size = 1
  · have h1 : ((s.size : Int) != 1) = false := by rw [h]; rfl
    rw [lettE, if_pos h]
    go_enter Tryz.func88, Tryz.ntmps88
    go_wp2_with fail
    refine (tpCheckLettersE s _).mono ?_
    rintro e w1 ⟨rfl, hb1⟩
    go_wp2
    go_ret
    exact ⟨rfl, hb1⟩
  · have h1 : ((s.size : Int) != 1) = true := by rw [bne_iff_ne]; omega
    rw [lettE, if_neg h]
    go_enter Tryz.func88, Tryz.ntmps88
    go_wp2
    go_ret
    exact ⟨rfl, Below.refl _ _⟩
def spr0 (v : ByteArray) (m : Int) (u : ByteArray) (n : Int) : Int := firstE [lettE v, rngE m 0 64, lettE u, rngE n 0 64]
def sprE (v : ByteArray) (m : Int) (u : ByteArray) (n : Int) : Int := if spr0 v m u n = 0 then (if v.toList = u.toList then 9 else spwE v m.toNat u n.toNat) else spr0 v m u n
def sprS (v : ByteArray) (m : Int) (u : ByteArray) (n : Int) : ByteArray := if spr0 v m u n = 0 then (if v.toList = u.toList then ⟨#[]⟩ else spwS v m.toNat u n.toNat) else ⟨#[]⟩
set_option maxHeartbeats 1000000 in
set_option maxRecDepth 100000 in
theorem tpSpreadAll (v u : ByteArray) (m n : Int) (w : World) (hv : v.size ≤ 100) (hu : u.size ≤ 100) :
    Calls Tryz.prog 39 #[.string v, .int .i64 m, .string u, .int .i64 n] w fun e w' => e = .returned (.tuple #[.string (sprS v m u n), .int .i64 (sprE v m u n)]) ∧ Below w.heap.size w w' := by
  have ex0 : ∀ (a b : Value) (w : World), (Instr.extract (.tuple #[a, b]) 0).run Tryz.prog w = .ok a w := fun _ _ _ => by kernel_rfl
  have ex1 : ∀ (a b : Value) (w : World), (Instr.extract (.tuple #[a, b]) 1).run Tryz.prog w = .ok b w := fun _ _ _ => by kernel_rfl
  by_cases h0 : spr0 v m u n = 0
  · have H0 := Lib.hid h0
    obtain ⟨hv0, hm, hu0, hn⟩ := first4_zero h0
    obtain ⟨m1, m2⟩ := rngE_zero hm
    obtain ⟨n1, n2⟩ := rngE_zero hn
    rw [sprE, sprS, if_pos h0, if_pos h0]
    obtain ⟨M, rfl⟩ : ∃ M : Nat, m = (M : Int) := ⟨m.toNat, by omega⟩
    obtain ⟨N, rfl⟩ : ∃ N : Nat, n = (N : Int) := ⟨n.toNat, by omega⟩
    rw [Int.toNat_natCast, Int.toNat_natCast]
    have HV := Lib.hid hv0
    have HU := Lib.hid hu0
    have HM := Lib.hid hm
    have HN := Lib.hid hn
    clear h0 hm hn hv0 hu0 H0
    go_enter Tryz.func39, Tryz.ntmps39
    go_wp2_with fail
    refine (tpCheckLetter v _).mono ?_
    rintro e w1 ⟨rfl, hb1⟩
    rw [HV.out]
    go_wp2_with fail
    refine (tpRng _ _ _ _).mono ?_
    rintro e w1' ⟨rfl, rfl⟩
    rw [HM.out]
    go_wp2_with fail
    refine (tpCheckLetter u _).mono ?_
    rintro e w2 ⟨rfl, hb2⟩
    rw [HU.out]
    go_wp2_with fail
    refine (tpRng _ _ _ _).mono ?_
    rintro e w2' ⟨rfl, rfl⟩
    rw [HN.out]
    go_wp2_with fail
    refine (tpFirst4 _ _ _ _ _ _ 30 _ (by exact heap_alloc_new _ _)).mono ?_
    rintro e w3 ⟨rfl, rfl⟩
    rw [show firstE [0, 0, 0, 0] = 0 from rfl]
    have b2 := hb1.trans (hb2.mono hb1.size)
    have b3 : Below w.heap.size w (w2.alloc (.cells #[.int .i64 0, .int .i64 0, .int .i64 0, .int .i64 0] 30)) := b2.alloc b2.size _
    generalize World.alloc w2 _ = w4 at b3 ⊢
    by_cases hq : v.toList = u.toList
    · have hqb : (v.toList == u.toList) = true := by rw [beq_iff_eq]; exact hq
      go_wp2
      go_ret2
      exact ⟨rfl, b3⟩
    · have hqb : (v.toList == u.toList) = false := by rw [beq_eq_false_iff_ne]; exact hq
      go_wp2_with fail
      refine (tpSpreadWithin v u M N _ hv hu (by omega) (by omega)).mono ?_
      rintro e w5 ⟨rfl, hb5⟩
      go_wp2
      go_ret2
      exact ⟨rfl, b3.trans (hb5.mono b3.size)⟩
  · have hne := neE h0
    obtain ⟨E, hE⟩ : ∃ E, spr0 v m u n = E := ⟨_, rfl⟩
    rw [sprE, sprS, if_neg h0, if_neg h0, hE]
    rw [hE] at hne
    have HE := Lib.hid hE
    clear h0 hE
    go_enter Tryz.func39, Tryz.ntmps39
    go_wp2_with fail
    refine (tpCheckLetter v _).mono ?_
    rintro e w1 ⟨rfl, hb1⟩
    go_wp2_with fail
    refine (tpRng _ _ _ _).mono ?_
    rintro e w1' ⟨rfl, rfl⟩
    go_wp2_with fail
    refine (tpCheckLetter u _).mono ?_
    rintro e w2 ⟨rfl, hb2⟩
    go_wp2_with fail
    refine (tpRng _ _ _ _).mono ?_
    rintro e w2' ⟨rfl, rfl⟩
    go_wp2_with fail
    refine (tpFirst4 _ _ _ _ _ _ 30 _ (by exact heap_alloc_new _ _)).mono ?_
    rintro e w3 ⟨rfl, rfl⟩
    rw [show firstE [lettE v, rngE m 0 64, lettE u, rngE n 0 64] = E from HE.out]
    have b2 := hb1.trans (hb2.mono hb1.size)
    go_wp2
    go_ret2
    exact ⟨rfl, b2.alloc b2.size _⟩
end Go.Proofs.YtfmfpnnglogkmaaGreatDoor

/- Plain mathematics: the neighbours of a share, and the nearest words. -/

namespace Go.Proofs.YtfmfpnnglogkmaaGreatDoor

inductive NbS where
  | stop (a b c d : Nat)
  | more (a b c d : Nat)
def nbStep (N D n : Nat) (a b c d : Nat) : NbS :=
  if a * D = N * b then .stop a b a b else if c * D = N * d then .stop c d c d else if n < b + d then .stop a b c d
  else if (a + c) * D ≤ N * (b + d) then .more (a + c) (b + d) c d else .more a b (a + c) (b + d)
def nbF (N D n : Nat) : Nat → Nat → Nat → Nat → Nat → Nat × Nat × Nat × Nat
  | 0, a, b, c, d => (a, b, c, d)
  | k + 1, a, b, c, d => match nbStep N D n a b c d with
    | .stop a b c d => (a, b, c, d)
    | .more a b c d => nbF N D n k a b c d

/-- What the search keeps. -/
structure NbI (N D n a b c d : Nat) : Prop where
  b1 : 1 ≤ b
  d1 : 1 ≤ d
  bn : b ≤ n
  dn : d ≤ n
  ab : a ≤ b
  cd : c ≤ d
  lo : a * D ≤ N * b
  hi : N * d ≤ c * D
  det : c * b = a * d + 1
/-- What the search ends with. -/
structure NbE (N D n a b c d : Nat) : Prop where
  b1 : 1 ≤ b
  d1 : 1 ≤ d
  bn : b ≤ n
  dn : d ≤ n
  ab : a ≤ b
  cd : c ≤ d
  lo : a * D ≤ N * b
  hi : N * d ≤ c * D
  ga : a.gcd b = 1
  gc : c.gcd d = 1
  fin : (a = c ∧ b = d) ∨ (c * b = a * d + 1 ∧ n < b + d ∧ a * D < N * b ∧ N * d < c * D)
theorem gcd_of_det {a b c d : Nat} (h : c * b = a * d + 1) : a.gcd b = 1 ∧ c.gcd d = 1 := by
  constructor
  · have h1 : a.gcd b ∣ c * b := Nat.dvd_trans (Nat.gcd_dvd_right a b) (Nat.dvd_mul_left b c)
    have h2 : a.gcd b ∣ a * d := Nat.dvd_trans (Nat.gcd_dvd_left a b) (Nat.dvd_mul_right a d)
    rw [h] at h1
    exact Nat.dvd_one.1 ((Nat.dvd_add_right h2).1 h1)
  · have h1 : c.gcd d ∣ c * b := Nat.dvd_trans (Nat.gcd_dvd_left c d) (Nat.dvd_mul_right c b)
    have h2 : c.gcd d ∣ a * d := Nat.dvd_trans (Nat.gcd_dvd_right c d) (Nat.dvd_mul_left d a)
    rw [h] at h1
    exact Nat.dvd_one.1 ((Nat.dvd_add_right h2).1 h1)
theorem nbF_end {N D n : Nat} (hn : 1 ≤ n) : ∀ (k a b c d a' b' c' d' : Nat), NbI N D n a b c d → 1 ≤ k → n + 2 ≤ k + b + d → nbF N D n k a b c d = (a', b', c', d') → NbE N D n a' b' c' d'
  | 0, _, _, _, _, _, _, _, _, _, h, _, _ => by omega
  | k + 1, a, b, c, d, a', b', c', d', hI, _, hk, hr => by
    obtain ⟨g1, g2⟩ := gcd_of_det hI.det
    unfold nbF nbStep at hr
    by_cases h1 : a * D = N * b
    · rw [if_pos h1] at hr
      simp only [Prod.mk.injEq] at hr
      obtain ⟨rfl, rfl, rfl, rfl⟩ := hr
      exact ⟨hI.b1, hI.b1, hI.bn, hI.bn, hI.ab, hI.ab, hI.lo, by omega, g1, g1, .inl ⟨rfl, rfl⟩⟩
    rw [if_neg h1] at hr
    by_cases h2 : c * D = N * d
    · rw [if_pos h2] at hr
      simp only [Prod.mk.injEq] at hr
      obtain ⟨rfl, rfl, rfl, rfl⟩ := hr
      exact ⟨hI.d1, hI.d1, hI.dn, hI.dn, hI.cd, hI.cd, by omega, hI.hi, g2, g2, .inl ⟨rfl, rfl⟩⟩
    rw [if_neg h2] at hr
    have l1 := hI.lo
    have l2 := hI.hi
    by_cases h3 : n < b + d
    · rw [if_pos h3] at hr
      simp only [Prod.mk.injEq] at hr
      obtain ⟨rfl, rfl, rfl, rfl⟩ := hr
      exact ⟨hI.b1, hI.d1, hI.bn, hI.dn, hI.ab, hI.cd, hI.lo, hI.hi, g1, g2, .inr ⟨hI.det, h3, by omega, by omega⟩⟩
    rw [if_neg h3] at hr
    have hb := hI.b1
    have hd := hI.d1
    have hab := hI.ab
    have hcd := hI.cd
    have hdet := hI.det
    by_cases h4 : (a + c) * D ≤ N * (b + d)
    · rw [if_pos h4] at hr
      exact nbF_end hn k _ _ _ _ _ _ _ _ ⟨by omega, hd, by omega, hI.dn, by omega, hcd, h4, l2, by rw [Nat.mul_add, Nat.add_mul]; omega⟩ (by omega) (by omega) hr
    · rw [if_neg h4] at hr
      exact nbF_end hn k _ _ _ _ _ _ _ _ ⟨hb, by omega, hI.bn, by omega, hab, by omega, l1, by omega, by rw [Nat.mul_add, Nat.add_mul]; omega⟩ (by omega) (by omega) hr
theorem nb_end {N D n a b c d : Nat} (hn : 1 ≤ n) (hND : N ≤ D) (h : nbF N D n n 0 1 1 1 = (a, b, c, d)) : NbE N D n a b c d :=
  nbF_end hn n 0 1 1 1 a b c d ⟨by omega, by omega, hn, hn, by omega, by omega, by simp, by simpa using hND, by omega⟩ hn (by omega) h

theorem mul_le_of {x y z : Nat} (h : x ≤ y) : x * z ≤ y * z := Nat.mul_le_mul_right z h
/-- No share with at most n letters lies between the lower one and the ratio. -/
theorem NbE.below {N D n a b c d p q : Nat} (h : NbE N D n a b c d) (hD : 1 ≤ D) (hq : q ≤ n) (hp : p * D ≤ N * q) : p * b ≤ a * q := by
  rcases h.fin with ⟨rfl, rfl⟩ | ⟨hdet, hs, h1, h2⟩
  · have e : a * D = N * b := Nat.le_antisymm h.lo h.hi
    have e1 : p * D * b ≤ N * q * b := mul_le_of hp
    have e2 : N * q * b = a * q * D := by rw [Nat.mul_right_comm, ← e]; exact Nat.mul_right_comm _ _ _
    rw [e2, Nat.mul_right_comm] at e1
    exact Nat.le_of_mul_le_mul_right e1 hD
  · by_cases hlt : p * b ≤ a * q
    · exact hlt
    exfalso
    have hqd : p * d < c * q ∨ q = 0 := by
      by_cases hq0 : q = 0
      · exact .inr hq0
      left
      have e1 : p * D * d ≤ N * q * d := mul_le_of hp
      have e2 : N * q * d < c * q * D := by
        have : N * d * q < c * D * q := Nat.mul_lt_mul_of_pos_right h2 (by omega)
        rwa [Nat.mul_right_comm N d q, Nat.mul_right_comm c D q] at this
      have e3 : p * d * D < c * q * D := by rw [Nat.mul_right_comm p d D]; omega
      exact Nat.lt_of_mul_lt_mul_right e3
    have hb := h.b1
    have hd := h.d1
    rcases hqd with hqd | rfl
    · -- q = b (c q - p d) + d (p b - a q)
      have f1 : (p * d + 1) * b ≤ c * q * b := mul_le_of (by omega)
      have f2 : (a * q + 1) * d ≤ p * b * d := mul_le_of (by omega)
      have f3 : c * q * b = (a * d + 1) * q := by rw [← hdet]; exact Nat.mul_right_comm _ _ _
      have f4 : p * b * d = p * d * b := Nat.mul_right_comm _ _ _
      have f5 : a * q * d = a * d * q := Nat.mul_right_comm _ _ _
      rw [Nat.add_mul, Nat.one_mul] at f1 f2 f3
      omega
    · have hp0 : p * D = 0 := by omega
      have : p = 0 := by
        rcases Nat.mul_eq_zero.1 hp0 with h | h
        · exact h
        · omega
      subst this
      simp at hlt
theorem NbE.above {N D n a b c d p q : Nat} (h : NbE N D n a b c d) (hD : 1 ≤ D) (hq : q ≤ n) (hq1 : 1 ≤ q) (hp : N * q ≤ p * D) : c * q ≤ p * d := by
  rcases h.fin with ⟨rfl, rfl⟩ | ⟨hdet, hs, h1, h2⟩
  · have e : a * D = N * b := Nat.le_antisymm h.lo h.hi
    have e1 : N * q * b ≤ p * D * b := mul_le_of hp
    have e2 : N * q * b = a * q * D := by rw [Nat.mul_right_comm, ← e]; exact Nat.mul_right_comm _ _ _
    rw [e2, Nat.mul_right_comm p] at e1
    exact Nat.le_of_mul_le_mul_right e1 hD
  · by_cases hlt : c * q ≤ p * d
    · exact hlt
    exfalso
    have hqb : a * q < p * b := by
      have e1 : N * q * b ≤ p * D * b := mul_le_of hp
      have e2 : a * q * D < N * q * b := by
        have : a * D * q < N * b * q := Nat.mul_lt_mul_of_pos_right h1 (by omega)
        rwa [Nat.mul_right_comm a D q, Nat.mul_right_comm N b q] at this
      have e3 : a * q * D < p * b * D := by rw [Nat.mul_right_comm p b D]; omega
      exact Nat.lt_of_mul_lt_mul_right e3
    have f1 : (p * d + 1) * b ≤ c * q * b := mul_le_of (by omega)
    have f2 : (a * q + 1) * d ≤ p * b * d := mul_le_of (by omega)
    have f3 : c * q * b = (a * d + 1) * q := by rw [← hdet]; exact Nat.mul_right_comm _ _ _
    have f4 : p * b * d = p * d * b := Nat.mul_right_comm _ _ _
    have f5 : a * q * d = a * d * q := Nat.mul_right_comm _ _ _
    rw [Nat.add_mul, Nat.one_mul] at f1 f2 f3
    have hb := h.b1
    have hd := h.d1
    omega
/-- Equal fractions in lowest terms are the same. -/
theorem lowest_eq {a b p q : Nat} (h : a * q = p * b) (ga : a.gcd b = 1) (gp : p.gcd q = 1) (hb : 1 ≤ b) (hq : 1 ≤ q) : a = p ∧ b = q := by
  have h1 : b ∣ q := by
    have : b ∣ a * q := ⟨p, by rw [h, Nat.mul_comm]⟩
    exact Nat.Coprime.dvd_of_dvd_mul_left (by rw [Nat.Coprime, Nat.gcd_comm]; exact ga) this
  have h2 : q ∣ b := by
    have : q ∣ p * b := ⟨a, by rw [← h, Nat.mul_comm]⟩
    exact Nat.Coprime.dvd_of_dvd_mul_left (by rw [Nat.Coprime, Nat.gcd_comm]; exact gp) this
  have e : b = q := Nat.dvd_antisymm h1 h2
  subst e
  exact ⟨Nat.eq_of_mul_eq_mul_right (by omega) h, rfl⟩
end Go.Proofs.YtfmfpnnglogkmaaGreatDoor
