/- Helpers, part 4. -/
import Derived.Test.YthihjphcjjpjpaaL3
import Derived.RangeFuncNested
import Derived.RangeFuncBound
import Derived.RangeFuncCalls
import Derived.RangeFuncLeaves
import Derived.Shelf.Abstract
import Derived.OwnWalkIn
import Derived.TacticsInMore
import Derived.LoopNIn
import Derived.LoopIn
import Derived.Shelf.AbstractIn
import Derived.Shelf.Strings.BuilderK
/- A sheet's bars: plain mathematics, the bars of a cell, the iterator. -/
namespace Go.Proofs.Ythihjphcjjpjpaa
open Go.RowKit Go.Shelf Ck

def cel0 (x y : Int) (o : Bool) : Bar := if o then ⟨x + 1, y, -1⟩ else ⟨x, y, 1⟩
def cel1 (x y : Int) (o : Bool) : Bar := if o then ⟨x + 1, y, 1⟩ else ⟨x + 2, y, -1⟩
def oddB (r : Nat) : Bool := decide (r % 2 = 1)
def cellL (x y : Int) (r c : Nat) : List Bar := [cel0 (x + 2 * (c : Int)) (y + (r : Int)) (oddB r), cel1 (x + 2 * (c : Int)) (y + (r : Int)) (oddB r)]
/-- The first k cells of the row r. -/
def rowL (x y : Int) (r k : Nat) : List Bar := (List.range k).flatMap (cellL x y r)
/-- The first r rows. -/
def sheetP (x y : Int) (cols r : Nat) : List Bar := (List.range r).flatMap fun q => rowL x y q cols
theorem rowL_succ (x y : Int) (r k : Nat) : rowL x y r (k + 1) = rowL x y r k ++ cellL x y r k := by simp [rowL, List.range_succ]
theorem sheetP_succ (x y : Int) (cols r : Nat) : sheetP x y cols (r + 1) = sheetP x y cols r ++ rowL x y r cols := by simp [sheetP, List.range_succ]
theorem rowL_length (x y : Int) (r : Nat) : ∀ k, (rowL x y r k).length = 2 * k
  | 0 => rfl
  | k + 1 => by rw [rowL_succ, List.length_append, rowL_length x y r k]; simp [cellL]; omega
theorem sheetP_length (x y : Int) (cols : Nat) : ∀ r, (sheetP x y cols r).length = 2 * (cols * r)
  | 0 => by simp [sheetP]
  | r + 1 => by rw [sheetP_succ, List.length_append, sheetP_length x y cols r, rowL_length, Nat.mul_succ]; omega
theorem pre_short (x y : Int) {cols rows r c i : Nat} (hc : cols ≤ 256) (hr : rows ≤ 256) (h1 : r < rows) (h2 : c < cols) (h3 : i ≤ 2) : (sheetP x y cols r ++ rowL x y r c ++ (cellL x y r c).take i).length < 200000 := by
  rw [List.length_append, List.length_append, sheetP_length, rowL_length, List.length_take]
  have : cols * r ≤ 256 * 256 := Nat.mul_le_mul hc (by omega)
  omega

set_option maxHeartbeats 1000000 in
set_option maxRecDepth 100000 in
theorem netCellBars (x y : Int) (o : Bool) (w : World) (hx1 : -200000 ≤ x) (hx2 : x ≤ 200000) (_ : -200000 ≤ y) (_ : y ≤ 200000) :
    Calls Try.prog 59 #[.int .i64 x, .int .i64 y, .bool o] w fun e w' => e = .returned (.agg #[.int .i64 (cel0 x y o).x, .int .i64 (cel0 x y o).y, .int .i64 (cel0 x y o).s, .int .i64 (cel1 x y o).x, .int .i64 (cel1 x y o).y, .int .i64 (cel1 x y o).s]) ∧ Below w.heap.size w w' := by
  cases o
  · go_enter Try.func59, Try.ntmps59
    go_wp2
    exact bodyPost_ret (v := .agg #[.int .i64 x, .int .i64 y, .int .i64 1, .int .i64 (x + 2), .int .i64 y, .int .i64 (-1)]) (by simp [results, Try.results59, go_sem]) rfl ⟨rfl, by
      first
      | exact ((Below.refl _ _).alloc (Nat.le_refl _) _)
      | exact ((((((((Below.refl _ _).alloc (Nat.le_refl _) _).setCell (by simp) _).setCell (by simp) _).setCell (by simp) _).setCell (by simp) _).setCell (by simp) _).setCell (by simp) _)⟩
  · go_enter Try.func59, Try.ntmps59
    go_wp2
    exact bodyPost_ret (v := .agg #[.int .i64 (x + 1), .int .i64 y, .int .i64 (-1), .int .i64 (x + 1), .int .i64 y, .int .i64 1]) (by simp [results, Try.results59, go_sem]) rfl ⟨rfl, by
      first
      | exact ((Below.refl _ _).alloc (Nat.le_refl _) _)
      | exact ((((((((Below.refl _ _).alloc (Nat.le_refl _) _).setCell (by simp) _).setCell (by simp) _).setCell (by simp) _).setCell (by simp) _).setCell (by simp) _).setCell (by simp) _)⟩
theorem idxB0 (a b c d e f : Value) (w : World) : (Instr.index 107 (.agg #[a, b, c, d, e, f]) (.int .i64 0)).run Try.prog w = .ok (.agg #[a, b, c]) w := by kernel_rfl
theorem idxB1 (a b c d e f : Value) (w : World) : (Instr.index 107 (.agg #[a, b, c, d, e, f]) (.int .i64 1)).run Try.prog w = .ok (.agg #[d, e, f]) w := by kernel_rfl

/-- The blocks from B1 to below B2 are as they were. -/
def KR (B1 B2 : Nat) (W W' : World) : Prop := W.heap.size ≤ W'.heap.size ∧ ∀ b, B1 ≤ b → b < B2 → W'.heap[b]? = W.heap[b]?
theorem KR.refl (B1 B2 : Nat) (W : World) : KR B1 B2 W W := ⟨Nat.le_refl _, fun _ _ _ => rfl⟩
theorem KR.trans {B1 B2 : Nat} {A B C : World} (h : KR B1 B2 A B) (k : KR B1 B2 B C) : KR B1 B2 A C := ⟨Nat.le_trans h.1 k.1, fun b h1 h2 => (k.2 b h1 h2).trans (h.2 b h1 h2)⟩
theorem KR.of_below {B1 B2 : Nat} {W W' : World} (h : Below W.heap.size W W') (hB : B2 ≤ W.heap.size) : KR B1 B2 W W' := ⟨h.size, fun b _ h2 => h.block b (by omega)⟩
theorem KR.cell {B1 B2 : Nat} {W W' : World} (h : KR B1 B2 W W') {b o : Nat} (h1 : B1 ≤ b) (h2 : b < B2) : W'.cell? ⟨b, o, none⟩ = W.cell? ⟨b, o, none⟩ := World.cell?_of_block (h.2 b h1 h2)
theorem KR.put {B1 B2 : Nat} {w : World} (hB : B2 ≤ w.heap.size) (W : World) (l : Nat) (o o' : Obj) (hl : w.heap.size ≤ l) (_ : W.heap[l]? = some o) (_ : o.isCells = false) (_ : o.isWalk = false) : KR B1 B2 W (W.putObj l o') :=
  ⟨by simp, fun b _ h2 => World.putObj_heap_other (by omega)⟩
def barArr (b : Bar) : Array Value := #[.agg #[.int .i64 b.x, .int .i64 b.y, .int .i64 b.s]]
theorem grown_below {W W' : World} (hb : Below W.heap.size W W') : W.grownBy W' none := ⟨hb.os, hb.tape, hb.output, hb.size, fun i hi _ => hb.block i hi⟩

set_option maxRecDepth 100000 in
set_option maxHeartbeats 4000000 in
theorem sheet1_in (l Br Bc Ba B1 B2 n : Nat) (hn : 2 ≤ n) (x y : Int) (cols rows : Nat) (hc1 : cols ≤ 256) (hr1 : rows ≤ 256) (hx1 : -100000 ≤ x) (hx2 : x ≤ 100000) (hy1 : -100000 ≤ y) (hy2 : y ≤ 100000) (J Jx : List Bar → World → Prop)
    (hY : ∀ pre b W, J pre W → pre.length < 200000 → YieldAt Fence.wide (n - 1) Try.prog l (barArr b) W fun e W' =>
      (e = .returned (.bool true) ∧ J (pre ++ [b]) W' ∧ KR B1 B2 W W') ∨ (e = .returned (.bool false) ∧ Jx (pre ++ [b]) W'))
    (W : World) (hJ : AbidesFrom W.heap.size J) (hB : B2 ≤ W.heap.size) (_ : B1 ≤ Br) (_ : Br < B2) (hBc : B1 ≤ Bc) (hBc' : Bc < B2) (hBa : B1 ≤ Ba) (hBa' : Ba < B2)
    (mr : W.cell? ⟨Br, 0, none⟩ = some (.int .i64 rows)) (mc : W.cell? ⟨Bc, 0, none⟩ = some (.int .i64 cols)) (mx : W.cell? ⟨Ba, 0, none⟩ = some (.int .i64 x)) (my : W.cell? ⟨Ba, 1, none⟩ = some (.int .i64 y)) (h0 : J [] W) :
    CallsIn Fence.wide n Try.prog 58 #[.func (.yield l) #[] #[], .pointer (some ⟨Br, 0, none⟩), .pointer (some ⟨Bc, 0, none⟩), .pointer (some ⟨Ba, 0, none⟩)] W fun e W' => (∃ v, e = .returned v) ∧
      ((∃ ss : List Bar, ss = sheetP x y cols rows ∧ J ss W') ∨ (∃ pre : List Bar, True ∧ Jx pre W')) := by
  have hJn : ∀ {s : List Bar} {A B : World}, J s A → Below A.heap.size A B → J s B := fun hs hb => hJ _ _ _ none hs (grown_below hb) (fun r e => by cases e)
  have hf60 : Fence.wide.fn 59 := trivial
  have h1n : 1 ≤ n := by omega
  refine callsIn_of_wp Try.func58 rfl trivial ?_ rfl
  simp only [Try.ntmps58, List.size_toArray, List.length_cons, List.length_nil, Nat.reduceAdd, Nat.reduceSub, Array.replicate_succ, Array.replicate_zero, List.push_toArray, List.append_toArray, List.nil_append, List.cons_append]
  gi_wp2
  gi_loopw [10] (fun v wr => ∃ r : Nat, r ≤ rows ∧ v = .int .i64 r ∧ J (sheetP x y cols r) wr ∧ KR B1 B2 W wr) (fun v _ => rows - (intOf v).toNat)
  case atStart => exact ⟨0, Nat.zero_le _, rfl, h0, KR.refl _ _ _⟩
  case round =>
    obtain ⟨r, hr, rfl, hJr, hK⟩ := hrel
    by_cases hlt : r < rows
    · have nc := (hK.cell (o := 0) hBc hBc').trans mc
      gi_wp2
      gi_loopw [14] (fun v wr => ∃ c : Nat, c ≤ cols ∧ v = .int .i64 c ∧ J (sheetP x y cols r ++ rowL x y r c) wr ∧ KR B1 B2 W wr) (fun v _ => cols - (intOf v).toNat)
      case atStart => exact ⟨0, Nat.zero_le _, rfl, by simpa [rowL] using hJr, hK⟩
      case round =>
        obtain ⟨c, hc, rfl, hJc, hK2⟩ := hrel
        by_cases hltc : c < cols
        · have nx := (hK2.cell (o := 0) hBa hBa').trans mx
          have ny := (hK2.cell (o := 1) hBa hBa').trans my
          obtain ⟨o, ho⟩ : ∃ o, oddB r = o := ⟨_, rfl⟩
          have hoq : ((r : Int) % 2 == 1) = o := by
            rw [← ho, oddB, Bool.eq_iff_iff, beq_iff_eq, decide_eq_true_eq]; omega
          have HO := Lib.hid ho
          clear ho
          gi_wp2_with (gi_at_call 59; refine (callsIn_wide.2 (netCellBars (x + 2 * (c : Int)) (y + (r : Int)) o _ (by omega) (by omega) (by omega) (by omega))).mono ?_; rintro e w2 ⟨rfl, hb2⟩)
          have hBr2 : B2 ≤ wr.heap.size := Nat.le_trans hB hK2.1
          have hJ2 := hJn hJc hb2
          have hK3 := hK2.trans (KR.of_below hb2 hBr2)
          have HC0 := Lib.hid (show cellL x y r c = [cel0 (x + 2 * (c : Int)) (y + (r : Int)) o, cel1 (x + 2 * (c : Int)) (y + (r : Int)) o] by rw [cellL, HO.out])
          generalize cel0 (x + 2 * (c : Int)) (y + (r : Int)) o = p0 at *
          generalize cel1 (x + 2 * (c : Int)) (y + (r : Int)) o = p1 at *
          have hp0 := pre_short x y hc1 hr1 (i := 0) hlt hltc (by omega)
          have hp1 := pre_short x y hc1 hr1 (i := 1) hlt hltc (by omega)
          rw [HC0.out] at hp0 hp1
          have hlt' := Lib.hid hlt
          have hltc' := Lib.hid hltc
          clear nx ny hJc
          gi_loopw [30] (fun v wi => ∃ i : Nat, i ≤ 2 ∧ v = .int .i64 i ∧ J (sheetP x y cols r ++ rowL x y r c ++ [p0, p1].take i) wi ∧ KR B1 B2 W wi) (fun v _ => 2 - (intOf v).toNat)
          case atStart => exact ⟨0, Nat.zero_le _, rfl, by simpa using hJ2, hK3⟩
          case round =>
            obtain ⟨i, hi, rfl, hJi, hKi⟩ := hrel
            have hi3 : i = 0 ∨ i = 1 ∨ i = 2 := by omega
            rcases hi3 with rfl | rfl | rfl
            · have ix := idxB0 (.int .i64 p0.x) (.int .i64 p0.y) (.int .i64 p0.s) (.int .i64 p1.x) (.int .i64 p1.y) (.int .i64 p1.s)
              have hJ3 : J (sheetP x y cols r ++ rowL x y r c ++ [p0, p1].take 0) (wr.alloc (.cells #[.int .i64 p0.x, .int .i64 p0.y, .int .i64 p0.s] 48)) := hJn hJi ((Below.refl _ _).alloc (Nat.le_refl _) _)
              have hK4 : KR B1 B2 W (wr.alloc (.cells #[.int .i64 p0.x, .int .i64 p0.y, .int .i64 p0.s] 48)) := hKi.trans (KR.of_below ((Below.refl _ _).alloc (Nat.le_refl _) _) (Nat.le_trans hB hKi.1))
              obtain ⟨fn, tmps, assign, body, hy, hR⟩ := hY _ p0 _ hJ3 hp0
              dsimp only [barArr] at hy
              gi_wp2
              refine hR.mono ?_
              rintro e W3 (⟨rfl, hJ4, hk3⟩ | ⟨rfl, hJx3⟩)
              · gi_wp2
                go_roundw
                case rel => exact ⟨1, by omega, rfl, by simpa using hJ4, hK4.trans hk3⟩
                case measure => simp [intOf]
              · gi_wp2
                refine bodyPost_ret (results_none rfl _ _ _) rfl ?_
                exact ⟨⟨_, rfl⟩, .inr ⟨_, trivial, hJx3⟩⟩
            · have ix := idxB1 (.int .i64 p0.x) (.int .i64 p0.y) (.int .i64 p0.s) (.int .i64 p1.x) (.int .i64 p1.y) (.int .i64 p1.s)
              have hJ3 : J (sheetP x y cols r ++ rowL x y r c ++ [p0, p1].take 1) (wr.alloc (.cells #[.int .i64 p1.x, .int .i64 p1.y, .int .i64 p1.s] 48)) := hJn hJi ((Below.refl _ _).alloc (Nat.le_refl _) _)
              have hK4 : KR B1 B2 W (wr.alloc (.cells #[.int .i64 p1.x, .int .i64 p1.y, .int .i64 p1.s] 48)) := hKi.trans (KR.of_below ((Below.refl _ _).alloc (Nat.le_refl _) _) (Nat.le_trans hB hKi.1))
              obtain ⟨fn, tmps, assign, body, hy, hR⟩ := hY _ p1 _ hJ3 hp1
              dsimp only [barArr] at hy
              gi_wp2
              refine hR.mono ?_
              rintro e W3 (⟨rfl, hJ4, hk3⟩ | ⟨rfl, hJx3⟩)
              · gi_wp2
                go_roundw
                case rel => exact ⟨2, by omega, rfl, by simpa using hJ4, hK4.trans hk3⟩
                case measure => simp [intOf]
              · gi_wp2
                refine bodyPost_ret (results_none rfl _ _ _) rfl ?_
                exact ⟨⟨_, rfl⟩, .inr ⟨_, trivial, hJx3⟩⟩
            · gi_wp2
              go_roundw
              case rel => exact ⟨c + 1, by have := hltc'.out; omega, by go_num, by rw [rowL_succ, HC0.out, ← List.append_assoc]; simpa using hJi, hKi⟩
              case measure => have := hltc'.out; simp [intOf]; omega
        · have e : c = cols := by omega
          subst e
          gi_wp2
          go_roundw
          case rel => exact ⟨r + 1, by omega, by go_num, by rw [sheetP_succ]; exact hJc, hK2⟩
          case measure => simp [intOf]; omega
    · have e : r = rows := by omega
      subst e
      gi_wp2
      go_end0
      exact ⟨⟨_, rfl⟩, .inl ⟨_, rfl, hJr⟩⟩
end Go.Proofs.Ythihjphcjjpjpaa

/- A loop over a function that keeps a variable of its own in a box of the type e: the body never leaves the loop. -/
namespace Go.Proofs.Ythihjphcjjpjpaa
open Go.RowKit Go.Shelf

/-- J holds on where memory grows, and where one block from B on is written that is no cells, or two cells of the type e. -/
def Bides {β : Type} (B : Nat) (e : TypeId) (J : β → World → Prop) : Prop :=
  ∀ s W W' r, J s W → W.grownBy W' r → (∀ b, r = some b → B ≤ b ∧ ∃ o, W.heap[b]? = some o ∧ (o.isCells = false ∨ ∃ cs f, o = .cells cs e f ∧ cs.size = 2)) → J s W'
theorem Bides.below {β : Type} {B : Nat} {e : TypeId} {J : β → World → Prop} (h : Bides B e J) {s : β} {W W' : World} (hs : J s W) (hb : Below W.heap.size W W') : J s W' :=
  h s W W' none hs ⟨hb.os, hb.tape, hb.output, hb.size, fun i hi _ => hb.block i hi⟩ (fun _ e => by cases e)
theorem Bides.put {β : Type} {B : Nat} {e : TypeId} {J : β → World → Prop} (h : Bides B e J) {s : β} {W : World} {l : Nat} {o : Obj} (o' : Obj) (hs : J s W) (hB : B ≤ l) (hl : W.heap[l]? = some o) (ho : o.isCells = false) : J s (W.putObj l o') :=
  h s W _ (some l) hs (grownBy_putObj' W l o') (fun b e => by cases e; exact ⟨hB, o, hl, .inl ho⟩)
theorem Bides.and {β : Type} {B : Nat} {e : TypeId} {J K : β → World → Prop} (h : Bides B e J) (k : Bides B e K) : Bides B e (fun s W => J s W ∧ K s W) := fun s W W' r hs hg hr => ⟨h s W W' r hs.1 hg hr, k s W W' r hs.2 hg hr⟩
/-- The loop's two blocks lie as they lay. -/
def Book (B : Nat) (W W' : World) : Prop := W'.heap[B]? = W.heap[B]? ∧ W'.heap[B + 1]? = W.heap[B + 1]? ∧ W.heap.size ≤ W'.heap.size
theorem Book.trans {B : Nat} {X Y Z : World} (h : Book B X Y) (k : Book B Y Z) : Book B X Z := ⟨k.1.trans h.1, k.2.1.trans h.2.1, Nat.le_trans h.2.2 k.2.2⟩
theorem Book.below {B : Nat} {W W' : World} (hB : B + 2 ≤ W.heap.size) (h : Below W.heap.size W W') : Book B W W' := ⟨h.block _ (by omega), h.block _ (by omega), h.size⟩
theorem Book.others {B : Nat} {W W' : World} (h : KeepsOthers W W') (h0 : ∃ o, W.heap[B]? = some o ∧ o.isCells = false) (h1 : ∃ o, W.heap[B + 1]? = some o ∧ o.isCells = false) : Book B W W' := by
  obtain ⟨o0, a0, b0⟩ := h0
  obtain ⟨o1, a1, b1⟩ := h1
  exact ⟨(h.same _ _ a0 b0).trans a0.symm, (h.same _ _ a1 b1).trans a1.symm, h.size⟩
def RoundEnd {α : Type} (B : Nat) (Kp : World → World → Prop) (I : List α → World → Prop) (xs : List α) (W : World) : Exit → Act → World → Prop
  | .normal, _, W' => Book B W W' ∧ Kp W W' ∧ I xs W'
  | _, _, _ => False

/-- What the loop asks of the function over which it goes. -/
def Visits {α : Type} (P : Program) (n : Nat) (e : TypeId) (gf : Nat) (lb : Array Value) (encs : α → Array Value) (Kp : World → World → Prop) (S : List α → Prop) (G : List α → α → Prop) (w : World) : Prop :=
  ∀ (l : Nat) (J : List α → World → Prop) (W : World), Below w.heap.size w W → Bides W.heap.size e J →
    (∀ pre x W1, J pre W1 → G pre x → YieldAt Fence.wide (n - 1) P l (encs x) W1 fun en W' => en = .returned (.bool true) ∧ J (pre ++ [x]) W' ∧ Kp W1 W') →
    J [] W → CallsIn Fence.wide n P gf (#[.func (.yield l) #[] #[]] ++ lb) W fun en W' => (∃ v, en = .returned v) ∧ ∃ xs, S xs ∧ J xs W'

theorem wpIn_visits {α : Type} {P : Program} {n : Nat} {e : TypeId} {g : Operand} {ps : Array Tmp} {assign body : Code} {Q : Exit → Act → World → Prop} {a : Act} {w : World} (h1 : 1 ≤ n)
    {gf : Nat} {lb : Array Value} (hg : a.eval g = .func (.func gf) #[] lb) (eg : ∀ args w, (callFunc gf args).run P w = .ok (.enter gf args) w)
    {encs : α → Array Value} {Kp : World → World → Prop} {S : List α → Prop} {G : List α → α → Prop} (hseq : Visits P (n - 1) e gf lb encs Kp S G w)
    (hKt : ∀ {A B C : World}, Kp A B → Kp B C → Kp A C) (hKb : ∀ (W : World) (l : Nat) (o o' : Obj), w.heap.size ≤ l → W.heap[l]? = some o → o.isCells = false → o.isWalk = false → Kp W (W.putObj l o')) (hps : ∀ x, (encs x).size = ps.size)
    (I : List α → World → Prop) (hI : Bides w.heap.size e I) (h0 : I [] w)
    (hround : ∀ (l : Nat) (pre : List α) (x : α) (W : World), w.heap.size + 2 ≤ W.heap.size → I pre W → G pre x →
      assign.wpIn (Fence.wide.inRound l) (n - 1 - 1) P (Exit.then (fun a' Wa => Book w.heap.size W Wa ∧ Kp W Wa ∧
        ∀ Wb, Wa.grownBy Wb (some (w.heap.size + 1)) → (∃ o, Wa.heap[w.heap.size + 1]? = some o ∧ o.isCells = false) → ((∃ o, Wb.heap[w.heap.size]? = some o ∧ o.isCells = false) ∧ ∃ o, Wb.heap[w.heap.size + 1]? = some o ∧ o.isCells = false) → body.wpIn (Fence.wide.inRound l) (n - 1 - 1) P (RoundEnd w.heap.size Kp I (pre ++ [x]) Wb) a' Wb) (fun _ _ _ => False))
        { tmps := (ps.zip (encs x)).foldl (fun t (p, v) => t.setIfInBounds p v) a.tmps, defers := [] } W)
    (hdone : ∀ (D : Nat) (xs : List α) (W : World), w.heap.size ≤ D → S xs → I xs W → W.heap[D]? = some (.deferred (some [])) → Q .normal { a with defers := { target := .collected D, args := #[] } :: a.defers } W) :
    (Code.rangeFunc g ps assign body).wpIn Fence.wide n P Q a w := by
  refine wpIn_rangeFunc fun fn _ => ?_
  obtain ⟨L, hL⟩ : ∃ L : LoopState → Option Code → Loop, L = fun s j => { state := s, pending := j, fn, tmps := a.tmps, params := ps, assign, body, defers := w.heap.size } := ⟨_, rfl⟩
  obtain ⟨W1, hW1⟩ : ∃ W1, W1 = (w.alloc (.deferred (some []))).alloc (.loop (L .ready none)) := ⟨_, rfl⟩
  have s1 : W1.heap.size = w.heap.size + 2 := by rw [hW1]; simp
  have b1 : Below w.heap.size w W1 := by rw [hW1]; exact ((Below.refl _ _).alloc (Nat.le_refl _) _).alloc (by simp) _
  have r1 : W1.heap[w.heap.size + 1]? = some (.loop (L .ready none)) := by
    rw [hW1]
    have := World.alloc_heap_new (w.alloc (.deferred (some []))) (.loop (L .ready none))
    rwa [World.size_alloc] at this
  have d1 : W1.heap[w.heap.size]? = some (.deferred (some [])) := by
    rw [hW1, Below.heap_alloc _ _ _ (by simp)]
    exact World.alloc_heap_new w _
  refine ⟨w.heap.size + 1, [{ target := .collected w.heap.size, args := #[] }], W1, { target := .fn (.func gf) lb, args := #[.func (.yield (w.heap.size + 1)) #[] #[]] }, W1, gf,
    #[.func (.yield (w.heap.size + 1)) #[] #[]] ++ lb, W1, by rw [hW1, hL]; exact run_enterLoop_outer _ _ _ _ _, ?_, fun _ _ => trivial, by simp [invoke, go_sem, eg], fun _ => h1, ?_⟩
  · simp only [resolve, hg]
    simp [go_sem]
  refine (hseq (w.heap.size + 1) (fun pre W => I pre W ∧ (W.heap[w.heap.size]? = some (.deferred (some [])) ∧ W.heap[w.heap.size + 1]? = some (.loop (L .ready none)))) W1 b1 ?bid ?yields ⟨hI.below h0 b1, d1, r1⟩).mono ?after
  case bid =>
    intro s X Y r hs hgr hr
    refine ⟨hI s X Y r hs.1 hgr fun b hb => ?_, ?_, ?_⟩
    · obtain ⟨h, o, ho⟩ := hr b hb
      exact ⟨by omega, o, ho⟩
    · exact (hgr.block _ (Array.getElem?_eq_some_iff.1 hs.2.1).1 (fun h => by have := (hr _ h.symm).1; omega)).trans hs.2.1
    · exact (hgr.block _ (Array.getElem?_eq_some_iff.1 hs.2.2).1 (fun h => by have := (hr _ h.symm).1; omega)).trans hs.2.2
  case yields =>
    rintro pre x W ⟨hi, hd, hl⟩ hlen
    have hz := (Array.getElem?_eq_some_iff.1 hl).1
    have hy := run_yield (P := P) (args := encs x) hl (by rw [hL]; exact hps x)
    rw [hL] at hy
    refine ⟨fn, _, assign, body, hy, roundIn_of_wpIn trivial (wpIn_mono (hround _ pre x W (by omega) hi hlen) ?_)⟩
    rintro en a' Wa hp
    cases en with
    | normal =>
      obtain ⟨⟨k1, k2, k3⟩, kp, hbody⟩ := hp
      have hla := k2.trans hl
      have hza := (Array.getElem?_eq_some_iff.1 hla).1
      refine ⟨_, run_beginRound hla (by rw [hL]), ?_⟩
      have hlb : (Wa.putObj (w.heap.size + 1) (.loop { L .ready none with state := .busy })).heap[w.heap.size + 1]? = some (.loop { L .ready none with state := .busy }) := World.putObj_heap_same hza
      have hdb : (Wa.putObj (w.heap.size + 1) (.loop { L .ready none with state := .busy })).heap[w.heap.size]? = some (.deferred (some [])) := (World.putObj_heap_other (by omega)).trans (k1.trans hd)
      have kb : Kp Wa (Wa.putObj (w.heap.size + 1) (.loop { L .ready none with state := .busy })) := hKb _ _ _ _ (by omega) hla rfl rfl
      refine wpIn_mono (hbody _ (grownBy_putObj' _ _ _) ⟨_, hla, rfl⟩ ⟨⟨_, hdb, rfl⟩, ⟨_, hlb, rfl⟩⟩) ?_
      rintro e3 a3 W3 hp3
      cases e3 with
      | normal =>
        obtain ⟨⟨m1, m2, m3⟩, kp3, hi3⟩ := hp3
        have hl3 := m2.trans hlb
        have hz3 := (Array.getElem?_eq_some_iff.1 hl3).1
        refine ⟨_, _, run_endRound none hl3, rfl, ⟨hI.put _ hi3 (by omega) hl3 rfl, (World.putObj_heap_other (by omega)).trans (m1.trans hdb), ?_⟩, hKt kp (hKt (hKt kb kp3) (hKb _ _ _ _ (by omega) hl3 rfl rfl))⟩
        rw [World.putObj_heap_same hz3, hL]
        rfl
      | _ => exact hp3.elim
    | _ => exact hp.elim
  case after =>
    rintro en W2 ⟨⟨v, rfl⟩, xs, hS, hi, hd, hl⟩
    exact ⟨none, _, by have := run_endLoop (P := P) hl (by rw [hL]; simp); rw [hL] at this; exact this, hdone _ xs _ (Nat.le_refl _) hS (hI.put _ hi (by omega) hl rfl) ((World.putObj_heap_other (by omega)).trans hd)⟩
end Go.Proofs.Ythihjphcjjpjpaa

/- The letters of an edge, one after another: what legs visits. -/
namespace Go.Proofs.Ythihjphcjjpjpaa
open Go.RowKit Go.Shelf Ck

def sg (o : Bool) : Int := if o then 1 else -1
theorem sg_or (o : Bool) : sg o = 1 ∨ sg o = -1 := by cases o <;> simp [sg]
def legsL (σ : Int) : Knot → List UInt8 → List (UInt8 × Knot × Knot)
  | _, [] => []
  | k, c :: r => (c, k, stepK σ k c) :: legsL σ (stepK σ k c) r
def posK (σ : Int) (k : Knot) (l : List UInt8) : Knot := l.foldl (stepK σ) k
theorem posK_snoc (σ : Int) (k : Knot) (l : List UInt8) (c : UInt8) : posK σ k (l ++ [c]) = stepK σ (posK σ k l) c := by simp [posK]
theorem legsL_snoc (σ : Int) : ∀ (l : List UInt8) (k : Knot) (c : UInt8), legsL σ k (l ++ [c]) = legsL σ k l ++ [(c, posK σ k l, stepK σ (posK σ k l) c)]
  | [], _, _ => rfl
  | a :: r, k, c => by
    rw [List.cons_append, legsL, legsL_snoc σ r]
    rfl
theorem legsL_append (σ : Int) : ∀ (l : List UInt8) (k : Knot) (r : List UInt8), legsL σ k (l ++ r) = legsL σ k l ++ legsL σ (posK σ k l) r
  | [], _, _ => rfl
  | a :: l, k, r => by
    rw [List.cons_append, legsL, legsL_append σ l]
    rfl
theorem legsL_length (σ : Int) : ∀ (l : List UInt8) (k : Knot), (legsL σ k l).length = l.length
  | [], _ => rfl
  | _ :: r, k => by rw [legsL, List.length_cons, legsL_length σ r, List.length_cons]
theorem step_near (o : Bool) {k : Knot} {c : UInt8} (hc : isL c) : (stepK (sg o) k c).x ≤ k.x + 2 ∧ k.x - 2 ≤ (stepK (sg o) k c).x ∧ (stepK (sg o) k c).y ≤ k.y + 2 ∧ k.y ≤ (stepK (sg o) k c).y := by
  rcases hc with rfl | rfl | rfl <;> cases o <;> simp [stepK, sg, dxL, dyL] <;> omega
def legArr (x : UInt8 × Knot × Knot) : Array Value := #[.agg #[.int .i32 (x.1.toNat : Int), .int .i64 x.2.1.x, .int .i64 x.2.1.y, .int .i64 x.2.2.x, .int .i64 x.2.2.y]]
/-- From block B1 on: maps, iterators, boxes of a knot, and cells of other types than e lie as they lay. -/
def KT (B1 : Nat) (e : TypeId) (W W' : World) : Prop := W.heap.size ≤ W'.heap.size ∧ ∀ b o, B1 ≤ b → W.heap[b]? = some o → (o.isWalk = true ∨ ∃ cs t f, o = .cells cs t f ∧ (t ≠ e ∨ t = 23 ∧ cs.size = 2)) → W'.heap[b]? = some o
theorem KT.trans {B1 : Nat} {e : TypeId} {A B C : World} (h : KT B1 e A B) (k : KT B1 e B C) : KT B1 e A C := ⟨Nat.le_trans h.1 k.1, fun b o hb ho hk => k.2 b o hb (h.2 b o hb ho hk) hk⟩
theorem KT.put {B1 : Nat} {e : TypeId} {w : World} (W : World) (l : Nat) (o o' : Obj) (_ : w.heap.size ≤ l) (hl : W.heap[l]? = some o) (h1 : o.isCells = false) (h2 : o.isWalk = false) : KT B1 e W (W.putObj l o') :=
  ⟨by simp, fun b ob _ hob hk => by
    have : b ≠ l := by
      rintro rfl
      rw [hl] at hob
      cases hob
      rcases hk with hk | ⟨cs, t, f, rfl, _⟩
      · rw [h2] at hk; cases hk
      · cases h1
    exact (World.putObj_heap_other this).trans hob⟩
theorem KT.of_below {B1 : Nat} {e : TypeId} {W W' : World} (h : Below W.heap.size W W') : KT B1 e W W' := ⟨h.size, fun b _ _ ho _ => (h.block b (Array.getElem?_eq_some_iff.1 ho).1).trans ho⟩

theorem tpFurtherK (k : Knot) (c : UInt8) (o : Bool) (w : World) (hc : isL c) (hx1 : -200000 ≤ k.x) (hx2 : k.x ≤ 200000) (hy1 : -200000 ≤ k.y) (hy2 : k.y ≤ 200000) :
    Calls Try.prog 65 #[.agg #[.int .i64 k.x, .int .i64 k.y], .agg #[.int .i64 (dxL c), .int .i64 (dyL c)], .bool o] w fun e w' => e = .returned (.agg #[.int .i64 (stepK (sg o) k c).x, .int .i64 (stepK (sg o) k c).y]) ∧ Below w.heap.size w w' := by
  have hd : 0 ≤ dxL c ∧ dxL c ≤ 2 ∧ 0 ≤ dyL c ∧ dyL c ≤ 2 := by rcases hc with rfl | rfl | rfl <;> simp [dxL, dyL]
  refine (tpFurther k.x k.y (dxL c) (dyL c) o w hx1 hx2 hy1 hy2 hd.1 hd.2.1 hd.2.2.1 hd.2.2.2).mono fun e w' h => ⟨?_, h.2⟩
  rw [h.1]
  cases o <;> simp [stepK, sg, Int.sub_eq_add_neg]
theorem two_cell {W : World} {b : Nat} {u v : Value} {t : TypeId} (h : W.heap[b]? = some (.cells #[u, v] t (0, 0))) : W.cell? ⟨b, 0, none⟩ = some u ∧ W.cell? ⟨b, 1, none⟩ = some v ∧ W.frozen? ⟨b, 0, none⟩ = false ∧ W.frozen? ⟨b, 1, none⟩ = false := by
  refine ⟨?_, ?_, ?_, ?_⟩ <;> simp [World.cell?, World.frozen?, h]
theorem two_set {W : World} {b : Nat} {u v : Value} {t : TypeId} (h : W.heap[b]? = some (.cells #[u, v] t (0, 0))) (p q : Value) :
    ((W.setCell ⟨b, 0, none⟩ p).setCell ⟨b, 1, none⟩ q).heap[b]? = some (.cells #[p, q] t (0, 0)) ∧ W.grownBy ((W.setCell ⟨b, 0, none⟩ p).setCell ⟨b, 1, none⟩ q) (some b) := by
  have e0 : (W.setCell ⟨b, 0, none⟩ p).heap[b]? = some (.cells #[p, v] t (0, 0)) := by
    simp only [World.setCell, Array.getElem?_modify, if_true, h, Option.map_some]
    rfl
  have e1 : ((W.setCell ⟨b, 0, none⟩ p).setCell ⟨b, 1, none⟩ q).heap[b]? = some (.cells #[p, q] t (0, 0)) := by
    generalize W.setCell ⟨b, 0, none⟩ p = X at *
    simp only [World.setCell, Array.getElem?_modify, if_true, e0, Option.map_some]
    rfl
  refine ⟨e1, ⟨rfl, rfl, rfl, by simp [World.setCell], fun i _ hne => ?_⟩⟩
  have : i ≠ b := fun e => hne (by rw [e])
  exact (Below.heap_setCell _ _ _ i this).trans (Below.heap_setCell _ _ _ i this)
theorem one_cell {W : World} {b : Nat} {u : Value} {t : TypeId} (h : W.heap[b]? = some (.cells #[u] t (0, 0))) : W.cell? ⟨b, 0, none⟩ = some u := by
  simp [World.cell?, h]

set_option maxHeartbeats 4000000 in
set_option maxRecDepth 100000 in
theorem legs_visits (B1 n Ba Bs Bn Bb : Nat) (te : TypeId) (hn : 3 ≤ n) (x y : Int) (s : ByteArray) (c : Nat) (o : Bool) (w : World) (ht2 : 4 ≠ te) (hs : Word s) (hlen : c * s.size ≤ 256) (hx1 : -100000 ≤ x) (hx2 : x ≤ 100000) (hy1 : -100000 ≤ y) (hy2 : y ≤ 100000)
    (hBb1 : B1 ≤ Bb) (_ : B1 ≤ w.heap.size)
    (ha : w.heap[Ba]? = some (.cells #[.int .i64 x, .int .i64 y] 23 (0, 0))) (hb : w.heap[Bs]? = some (.cells #[.string s] 9 (0, 0))) (hcn : w.heap[Bn]? = some (.cells #[.int .i64 c] 3 (0, 0))) (ho : w.heap[Bb]? = some (.cells #[.bool o] 4 (0, 0))) :
    Visits Try.prog n 23 62 #[.pointer (some ⟨Ba, 0, none⟩), .pointer (some ⟨Bs, 0, none⟩), .pointer (some ⟨Bn, 0, none⟩), .pointer (some ⟨Bb, 0, none⟩)] legArr (KT B1 te) (fun ss => ss = legsL (sg o) ⟨x, y⟩ (Lib.repeatL s.data.toList c)) (fun pre x' => ∃ r, legsL (sg o) ⟨x, y⟩ (Lib.repeatL s.data.toList c) = pre ++ x' :: r) w := by
  intro l J W hbw hJ hY h0
  have h1n : 1 ≤ n := by omega
  have fv : Fence.wide.fn 63 := trivial
  have fr : Fence.wide.fn 64 := trivial
  have ff : Fence.wide.fn 65 := trivial
  have za := (Array.getElem?_eq_some_iff.1 ha).1
  have zb := (Array.getElem?_eq_some_iff.1 hb).1
  have zc := (Array.getElem?_eq_some_iff.1 hcn).1
  have zo := (Array.getElem?_eq_some_iff.1 ho).1
  have hWz := hbw.size
  -- what is repeated
  have hc256 : c ≤ 256 := by have := Nat.mul_le_mul_left c hs.2.1; omega
  obtain ⟨L, hL⟩ : ∃ L, Lib.repeatL s.data.toList c = L := ⟨_, rfl⟩
  have hLl : L.length ≤ 256 := by rw [← hL, Lib.repeatL_length, ← Lib.size_eq]; exact hlen
  have hLL : ∀ q ∈ L, isL q := by
    rw [← hL]
    clear hL hLl hlen hcn hc256 hY
    induction c with
    | zero => intro q hq; simp [Lib.repeatL] at hq
    | succ c ih => intro q hq; rw [Lib.repeatL, List.mem_append] at hq; exact hq.elim (hs.1 q) (ih q)
  obtain ⟨S, hS⟩ : ∃ S : ByteArray, S = ⟨L.toArray⟩ := ⟨_, rfl⟩
  have hSz : S.size = L.length := by rw [hS]; simp [ByteArray.size]
  have hSd : S.data.toList = L := by rw [hS]
  have HS := Lib.hid hS
  have HSZ := Lib.hid hSz
  have HSD := Lib.hid hSd
  clear hS hSz hSd
  obtain ⟨a0, a1, -, -⟩ := two_cell ((hbw.block Ba za).trans ha)
  have b0 := one_cell ((hbw.block Bs zb).trans hb)
  have c0 := one_cell ((hbw.block Bn zc).trans hcn)
  have hoW := (hbw.block Bb zo).trans ho
  refine callsIn_of_wp Try.func62 rfl trivial ?_ rfl
  simp only [Try.ntmps62, List.size_toArray, List.length_cons, List.length_nil, Nat.reduceAdd, Nat.reduceSub, Array.replicate_succ, Array.replicate_zero, List.push_toArray, List.append_toArray, List.nil_append, List.cons_append]
  have hj0 := h0
  clear h0
  gi_wp2_with (first
    | (gi_at_call 63; refine (callsIn_wide.2 (tpVectors _)).mono ?_; rintro e w1 ⟨rfl, hv1, hb1⟩; have hzv := hv1.lt; have hz1 := hb1.size; have e0 := (hb1.cell (p := ⟨Ba, 0, none⟩) (by show Ba < _; omega)).trans a0; have e1 := (hb1.cell (p := ⟨Ba, 1, none⟩) (by show Ba < _; omega)).trans a1; obtain ⟨w2, hw2, -, -, hb2, hz2⟩ := box2 w1 (.int .i64 x) (.int .i64 y) 23; have e2 := ((hb2.cell (p := ⟨Bs, 0, none⟩) (by show Bs < _; omega)).trans (hb1.cell (p := ⟨Bs, 0, none⟩) (by show Bs < _; omega))).trans b0; have e3 := ((hb2.cell (p := ⟨Bn, 0, none⟩) (by show Bn < _; omega)).trans (hb1.cell (p := ⟨Bn, 0, none⟩) (by show Bn < _; omega))).trans c0; have hw2' := hw2.symm; clear hw2)
    | (gi_at_call 64; refine (callsIn_wide.2 (tpRepeated s c _ (by have := hs.2.2; omega) hc256)).mono ?_; rintro e w3 ⟨rfl, hb3⟩; rw [hL, ← HS.out]))
  have HJ := Lib.hid hJ
  have hz3 := hb3.size
  -- the worlds up to the loop
  have hjr : J [] (w3.iter S 0) := hJ.below (hJ.below (hJ.below (hJ.below hj0 (hb1.mono (Nat.le_refl _))) (hw2' ▸ hb2)) hb3) ((Below.refl _ _).alloc (Nat.le_refl _) _)
  have hBw : Below W.heap.size W (w3.iter S 0) := (((hb1.trans (hb2.mono hz1)).trans (hb3.mono (by omega)))).alloc (by omega) _
  have hit0 : (w3.iter S 0).heap[w3.heap.size]? = some (.stringIter S 0) := World.iter_heap w3 S 0
  have hv3 : VecAt (w3.iter S 0) W.heap.size := by
    have q1 := hv1.lt
    refine hv1.of_block ?_
    rw [show (w3.iter S 0).heap[W.heap.size]? = w3.heap[W.heap.size]? from Below.heap_alloc _ _ _ (by omega), hb3.block _ (by omega), hb2.block _ q1]
  have hf3 : (w3.iter S 0).heap[w1.heap.size]? = some (.cells #[.int .i64 x, .int .i64 y] 23 (0, 0)) := by
    rw [show (w3.iter S 0).heap[w1.heap.size]? = w3.heap[w1.heap.size]? from Below.heap_alloc _ _ _ (by omega), hb3.block _ hz2, ← hw2']
    exact heap_alloc_new _ _
  have ho3 := (hBw.block Bb (by omega)).trans hoW
  generalize w3.iter S 0 = w4 at *
  clear hw2' hb2 hb3 hv1 hb1 e0 e1 e2 e3 hj0 a0 a1 b0 c0
  gi_loopw [9] (fun _ wr => ∃ (pos : Nat) (k : Knot), pos ≤ L.length ∧ k = posK (sg o) ⟨x, y⟩ (L.take pos) ∧ (k.x ≤ 100000 + 2 * (pos : Int) ∧ -100000 - 2 * (pos : Int) ≤ k.x ∧ k.y ≤ 100000 + 2 * (pos : Int) ∧ -100000 ≤ k.y) ∧
      wr.heap[w3.heap.size]? = some (.stringIter S pos) ∧ VecAt wr W.heap.size ∧ wr.heap[w1.heap.size]? = some (.cells #[.int .i64 k.x, .int .i64 k.y] 23 (0, 0)) ∧ wr.heap[Bb]? = some (.cells #[.bool o] 4 (0, 0)) ∧ J (legsL (sg o) ⟨x, y⟩ (L.take pos)) wr) (fun _ wr => S.size - wr.iterPos w3.heap.size)
  case atStart => exact ⟨0, ⟨x, y⟩, Nat.zero_le _, rfl, ⟨by simp; omega, by simp; omega, by simp; omega, hy1⟩, hit0, hv3, hf3, ho3, hjr⟩
  case round =>
    obtain ⟨pos, k, hpos, hk, ⟨kx1, kx2, ky1, ky2⟩, hit, hv, hf, hob, hj⟩ := hrel
    clear hit0 hv3 hf3 ho3 hjr
    by_cases hp : pos < S.size
    · have hSz := HSZ.out
      have hpl : pos < L.length := by omega
      have hkl : pos < S.data.toList.length := by rw [HSD.out]; exact hpl
      have hel : S[pos] = L[pos] := by rw [← byte_at S pos hp hkl]; simp only [HSD.out]
      obtain ⟨q, hq⟩ : ∃ q, q = L[pos] := ⟨_, rfl⟩
      have hLq : isL q := hq ▸ hLL _ (List.getElem_mem hpl)
      rw [← hq] at hel
      have hnext : ∀ ty, (Instr.next (.pointer (some ⟨w3.heap.size, 0, none⟩)) true ty).run Try.prog wr = _ := fun ty => Lib.run_next_ascii_at wr w3.heap.size S pos ty hit hp (by rw [hel]; exact isL_small hLq)
      rw [hel] at hnext
      have hmu : wr.iterPos w3.heap.size = pos := by simp [World.iterPos, hit]
      have hit1 := Lib.iterAt_heap wr w3.heap.size S pos (pos + 1) hit
      have hzi := (Array.getElem?_eq_some_iff.1 hit).1
      have hv1 := hv.of_block (Lib.iterAt_other wr w3.heap.size W.heap.size S (pos + 1) (by omega))
      have hf1 := (Lib.iterAt_other wr w3.heap.size w1.heap.size S (pos + 1) (by omega)).trans hf
      have hob1 := (Lib.iterAt_other wr w3.heap.size Bb S (pos + 1) (by omega)).trans hob
      have hgi : wr.grownBy (wr.iterAt w3.heap.size S (pos + 1)) (some w3.heap.size) := ⟨rfl, rfl, rfl, by simp [World.iterAt], fun i _ hi => Lib.iterAt_other _ _ _ _ _ (fun e => hi (by rw [e]))⟩
      have hj1 := HJ.out _ _ _ (some w3.heap.size) hj hgi (fun b e => by cases e; exact ⟨by omega, _, hit, .inl rfl⟩)
      generalize wr.iterAt w3.heap.size S (pos + 1) = W1 at hnext hit1 hv1 hf1 hob1 hj1
      clear hgi
      obtain ⟨f0, f1, -, -⟩ := two_cell hf1
      have o1 := one_cell hob1
      have hlk := vecLookup hv1 hLq
      obtain ⟨k', hk'⟩ : ∃ k', k' = stepK (sg o) k q := ⟨_, rfl⟩
      obtain ⟨n1, n2, n3, n4⟩ := step_near o (k := k) hLq
      rw [← hk'] at n1 n2 n3 n4
      have HK := Lib.hid hk'
      have HKK := Lib.hid hk
      have HQ := Lib.hid hq
      have HSNOC := Lib.hid (show legsL (sg o) ⟨x, y⟩ (L.take (pos + 1)) = legsL (sg o) ⟨x, y⟩ (L.take pos) ++ [(q, k, k')] by
        rw [List.take_succ_eq_append_getElem hpl, legsL_snoc, ← hk, ← hq, ← hk'])
      have HPOS := Lib.hid (show k' = posK (sg o) ⟨x, y⟩ (L.take (pos + 1)) by
        rw [List.take_succ_eq_append_getElem hpl, posK_snoc, ← hk, ← hq, ← hk'])
      have hlen' : ∃ r, legsL (sg o) ⟨x, y⟩ (Lib.repeatL s.data.toList c) = legsL (sg o) ⟨x, y⟩ (L.take pos) ++ (q, k, k') :: r := by
        refine ⟨legsL (sg o) (posK (sg o) ⟨x, y⟩ (L.take (pos + 1))) (L.drop (pos + 1)), ?_⟩
        have e1 := legsL_append (sg o) (L.take (pos + 1)) ⟨x, y⟩ (L.drop (pos + 1))
        rw [List.take_append_drop, HSNOC.out] at e1
        rw [hL, e1]
        simp
      have HLEN := Lib.hid hlen'
      clear hk' hk hq hel hkl hlen' hf hv hob hit hj
      gi_wp2_with (gi_at_call 65; refine (callsIn_wide.2 (tpFurtherK k q o _ hLq (by omega) (by omega) (by omega) (by omega))).mono ?_; rintro e W2 ⟨rfl, hb2⟩; rw [← HK.out]; have hzi2 := (Array.getElem?_eq_some_iff.1 hit1).1; have hz2' := hb2.size; have g1 := (hb2.block _ (Array.getElem?_eq_some_iff.1 hf1).1).trans hf1; obtain ⟨W3, hW3, m0, m1, hb3, hz3'⟩ := box2 W2 (.int .i64 k'.x) (.int .i64 k'.y) 23; have b13 := hb2.trans (hb3.mono hz2'); obtain ⟨g0, g1', -, -⟩ := two_cell ((b13.block _ (Array.getElem?_eq_some_iff.1 hf1).1).trans hf1); have hj3 := HJ.out.below hj1 b13; obtain ⟨fn, tmps, assign, body, hy, hR⟩ := hY _ (q, k, k') _ hj3 HLEN.out; dsimp only [legArr] at hy; have hW3' := hW3.symm; have T3 : W3.heap[W2.heap.size]? = some (.cells #[.int .i64 k'.x, .int .i64 k'.y] 23 (0, 0)) := (by rw [hW3]; exact heap_alloc_new _ _); clear hW3; have G3 := (b13.block _ (Array.getElem?_eq_some_iff.1 hf1).1).trans hf1; have I3 := (b13.block _ (Array.getElem?_eq_some_iff.1 hit1).1).trans hit1; have V3 := hv1.of_block (b13.block _ hv1.lt); have O3 := (b13.block _ (Array.getElem?_eq_some_iff.1 hob1).1).trans hob1)
      refine hR.mono ?_
      rintro e W4 ⟨rfl, hJ4, hk4⟩
      have hzi1 := (Array.getElem?_eq_some_iff.1 I3).1
      have T4 := hk4.2 _ _ (by omega) T3 (.inr ⟨_, _, _, rfl, .inr ⟨rfl, rfl⟩⟩)
      have G4 := hk4.2 _ _ (by omega) G3 (.inr ⟨_, _, _, rfl, .inr ⟨rfl, rfl⟩⟩)
      have I4 := hk4.2 _ _ (by omega) I3 (.inl rfl)
      have V4 : VecAt W4 W.heap.size := hk4.2 _ _ (by omega) V3 (.inl rfl)
      have O4 := hk4.2 _ _ hBb1 O3 (.inr ⟨_, _, _, rfl, .inl ht2⟩)
      obtain ⟨t0, t1, -, -⟩ := two_cell T4
      obtain ⟨u0, u1, u2, u3⟩ := two_cell G4
      clear T3 G3 I3 V3 O3 g0 g1 g1' m0 m1 f0 f1 o1 hlk hnext hW3'
      gi_wp2
      obtain ⟨G5, hg5⟩ := two_set G4 (.int .i64 k'.x) (.int .i64 k'.y)
      have hj5 := HJ.out _ _ _ (some w1.heap.size) hJ4 hg5 (fun b e => by cases e; exact ⟨hz1, _, G4, .inr ⟨_, _, rfl, rfl⟩⟩)
      rw [← HSNOC.out] at hj5
      have I5 := (hg5.block _ (Array.getElem?_eq_some_iff.1 I4).1 (fun e => by injection e; omega)).trans I4
      have V5 : VecAt _ W.heap.size := (hg5.block _ V4.lt (fun e => by injection e; omega)).trans V4
      have O5 := (hg5.block _ (Array.getElem?_eq_some_iff.1 O4).1 (fun e => by injection e; omega)).trans O4
      generalize (W4.setCell ⟨w1.heap.size, 0, none⟩ (.int .i64 k'.x)).setCell ⟨w1.heap.size, 1, none⟩ (.int .i64 k'.y) = W5 at *
      have hmu5 : W5.iterPos w3.heap.size = pos + 1 := by simp [World.iterPos, I5]
      go_roundw
      case rel => exact ⟨pos + 1, k', by omega, HPOS.out, ⟨by omega, by omega, by omega, by omega⟩, I5, V5, G5, O5, hj5⟩
      case measure =>
        rw [hmu, hmu5]
        omega
    · have hSz := HSZ.out
      obtain rfl : pos = L.length := by omega
      have hnext : ∀ ty, (Instr.next (.pointer (some ⟨w3.heap.size, 0, none⟩)) true ty).run Try.prog wr = _ := fun ty => Lib.run_next_end_at wr w3.heap.size S L.length ty hit hp
      rw [List.take_length] at hj
      have HJE := Lib.hid hj
      clear hj hk
      gi_wp2
      go_end0
      exact ⟨⟨_, rfl⟩, _, by rw [hL], HJE.out⟩
end Go.Proofs.Ythihjphcjjpjpaa

/- Spread words, and how near they stay to the line of their ratio: plain mathematics. -/
namespace Go.Proofs.Ythihjphcjjpjpaa
open Ck

/-- The first k pieces of the spread of m times v among n times w. -/
def spreadL (v : List UInt8) (m : Nat) (w : List UInt8) (n : Nat) : Nat → List UInt8
  | 0 => []
  | k + 1 => spreadL v m w n k ++ (if k * m / (m + n) < (k + 1) * m / (m + n) then v else w)
theorem floor_period {m n : Nat} (h : 0 < m + n) (i : Nat) : (m + n + i) * m / (m + n) = m + i * m / (m + n) := by
  rw [Nat.add_mul, Nat.add_comm ((m + n) * m) (i * m), Nat.mul_comm (m + n) m, Nat.add_mul_div_right _ _ h, Nat.add_comm]
theorem spreadL_period {v w : List UInt8} {m n : Nat} (h : 0 < m + n) : ∀ j, spreadL v m w n (m + n + j) = spreadL v m w n (m + n) ++ spreadL v m w n j
  | 0 => by simp [spreadL]
  | j + 1 => by
    have ih := spreadL_period (v := v) (w := w) h j
    have e1 := floor_period h j
    have e2 := floor_period h (j + 1)
    have hc : (m + n + j) * m / (m + n) < (m + n + (j + 1)) * m / (m + n) ↔ j * m / (m + n) < (j + 1) * m / (m + n) := by rw [e1, e2]; omega
    show spreadL v m w n (m + n + j) ++ (if (m + n + j) * m / (m + n) < (m + n + (j + 1)) * m / (m + n) then v else w) = spreadL v m w n (m + n) ++ (spreadL v m w n j ++ (if j * m / (m + n) < (j + 1) * m / (m + n) then v else w))
    rw [ih, List.append_assoc]
    by_cases hd : j * m / (m + n) < (j + 1) * m / (m + n)
    · rw [if_pos hd, if_pos (hc.2 hd)]
    · rw [if_neg hd, if_neg (fun h' => hd (hc.1 h'))]
theorem spreadL_repeat {v w : List UInt8} {m n : Nat} (h : 0 < m + n) : ∀ c, Lib.repeatL (spreadL v m w n (m + n)) c = spreadL v m w n (c * (m + n))
  | 0 => by simp [Lib.repeatL, spreadL]
  | c + 1 => by rw [Lib.repeatL, spreadL_repeat h c, ← spreadL_period h, Nat.add_mul, Nat.one_mul, Nat.add_comm]
theorem spreadL_len {a b : UInt8} {m n : Nat} : ∀ k, (spreadL [a] m [b] n k).length = k
  | 0 => rfl
  | k + 1 => by
    rw [spreadL, List.length_append, spreadL_len k]
    split <;> rfl
theorem spreadL_mem {a b : UInt8} {m n : Nat} : ∀ k, ∀ c ∈ spreadL [a] m [b] n k, c = a ∨ c = b
  | 0, c, h => by simp [spreadL] at h
  | k + 1, c, h => by
    rw [spreadL, List.mem_append] at h
    rcases h with h | h
    · exact spreadL_mem k c h
    · split at h <;> simp at h <;> simp [h]
theorem floor_step {m S : Nat} (k : Nat) (hm : m ≤ S) (hS : 0 < S) : k * m / S ≤ (k + 1) * m / S ∧ (k + 1) * m / S ≤ k * m / S + 1 := by
  rw [Nat.add_mul, Nat.one_mul]
  refine ⟨Nat.div_le_div_right (by omega), ?_⟩
  rw [← Nat.add_div_right _ hS]
  exact Nat.div_le_div_right (by omega)
theorem spreadL_bars {b : UInt8} {m n : Nat} (hb : b ≠ 66) (h : 0 < m + n) : ∀ k, barsN (spreadL [66] m [b] n k) = k * m / (m + n)
  | 0 => by simp [spreadL, barsN]
  | k + 1 => by
    have ih := spreadL_bars hb h k
    have hs := floor_step (m := m) (S := m + n) k (by omega) h
    have he : barsN (spreadL [66] m [b] n (k + 1)) = barsN (spreadL [66] m [b] n k) + barsN (if k * m / (m + n) < (k + 1) * m / (m + n) then [66] else [b]) := by
      rw [spreadL, barsN, List.countP_append]
      rfl
    rw [he, ih]
    split
    · have : barsN [66] = 1 := rfl
      omega
    · have : barsN [b] = 0 := by simp [barsN, hb]
      omega
theorem spreadL_take {a b : UInt8} {m n : Nat} : ∀ K k, k ≤ K → (spreadL [a] m [b] n K).take k = spreadL [a] m [b] n k
  | 0, k, h => by
    obtain rfl : k = 0 := by omega
    rfl
  | K + 1, k, h => by
    by_cases hk : k = K + 1
    · subst hk
      exact List.take_of_length_le (by rw [spreadL_len]; exact Nat.le_refl _)
    · rw [spreadL, List.take_append_of_le_length (by rw [spreadL_len]; omega)]
      exact spreadL_take K k (by omega)
theorem posK_flat : ∀ (l : List UInt8) (k : Knot), (∀ c ∈ l, c = 66 ∨ c = 78) → posK 1 k l = ⟨k.x + barsN l, k.y + (2 * (l.length : Int) - barsN l)⟩
  | [], k, _ => by simp [posK, barsN]
  | c :: r, k, h => by
    have ih := posK_flat r (stepK 1 k c) (fun c' h' => h c' (by simp [h']))
    have e : posK 1 k (c :: r) = posK 1 (stepK 1 k c) r := rfl
    rw [e, ih]
    have hb : barsN (c :: r) = barsN r + (if c = 66 then 1 else 0) := by simp [barsN, List.countP_cons]
    rw [hb]
    rcases h c (by simp) with rfl | rfl
    · simp [stepK, dxL, dyL]
      omega
    · simp [stepK, dxL, dyL]
      omega
theorem posK_steep : ∀ (l : List UInt8) (k : Knot), (∀ c ∈ l, c = 66 ∨ c = 84) → posK 1 k l = ⟨k.x + (2 * (l.length : Int) - barsN l), k.y + barsN l⟩
  | [], k, _ => by simp [posK, barsN]
  | c :: r, k, h => by
    have ih := posK_steep r (stepK 1 k c) (fun c' h' => h c' (by simp [h']))
    have e : posK 1 k (c :: r) = posK 1 (stepK 1 k c) r := rfl
    rw [e, ih]
    have hb : barsN (c :: r) = barsN r + (if c = 66 then 1 else 0) := by simp [barsN, List.countP_cons]
    rw [hb]
    rcases h c (by simp) with rfl | rfl
    · simp [stepK, dxL, dyL]
      omega
    · simp [stepK, dxL, dyL]
      omega

/-! ### shares -/
theorem lowest_facts {m S : Nat} (hS : 0 < S) (hm : m ≤ S) : m / m.gcd S ≤ S / m.gcd S ∧ 0 < S / m.gcd S ∧ S / m.gcd S ≤ S ∧ (∀ i, i * (m / m.gcd S) / (S / m.gcd S) = i * m / S) ∧ ∀ q, q * (S / m.gcd S) * m % S = 0 := by
  have hg : 0 < m.gcd S := Nat.gcd_pos_of_pos_right _ hS
  have e1 : m / m.gcd S * m.gcd S = m := Nat.div_mul_cancel (Nat.gcd_dvd_left _ _)
  have e2 : S / m.gcd S * m.gcd S = S := Nat.div_mul_cancel (Nat.gcd_dvd_right _ _)
  generalize m / m.gcd S = B at *
  generalize S / m.gcd S = L at *
  generalize m.gcd S = g at *
  have hL : 0 < L := by
    rcases Nat.eq_zero_or_pos L with h | h
    · subst h; omega
    · exact h
  refine ⟨?_, hL, ?_, fun i => ?_, fun q => ?_⟩
  · rw [← e1, ← e2] at hm
    exact Nat.le_of_mul_le_mul_right hm hg
  · rw [← e2]; exact Nat.le_mul_of_pos_right _ hg
  · rw [← e1, ← e2, ← Nat.mul_assoc, Nat.mul_div_mul_right _ _ hg]
  · rw [← e1, ← e2, Nat.mul_assoc q L, Nat.mul_left_comm L B g, ← Nat.mul_assoc, Nat.mul_mod_left]

/-- The share of bars of a ratio: bars and letters. -/
def shareB (P D : Nat) : Nat := 2 * min P D / (2 * min P D).gcd (P + D)
def shareL (P D : Nat) : Nat := (P + D) / (2 * min P D).gcd (P + D)
/-- The other letter of a ratio. -/
def otherC (P D : Nat) : UInt8 := if D < P then 84 else 78
def slW (P D : Nat) : List UInt8 := spreadL [66] (shareB P D) [otherC P D] (shareL P D - shareB P D) (shareL P D)
def slC (P D i : Nat) : Nat := i * (2 * min P D) / (P + D)
def slPos (P D i : Nat) : Knot := if D < P then ⟨2 * (i : Int) - slC P D i, slC P D i⟩ else ⟨slC P D i, 2 * (i : Int) - slC P D i⟩

theorem otherC_ne (P D : Nat) : otherC P D ≠ 66 := by unfold otherC; split <;> decide
theorem otherC_isL (P D : Nat) : isL (otherC P D) := by unfold otherC isL; split <;> simp
theorem min2 (P D : Nat) : 2 * min P D ≤ P + D := by omega
theorem slW_len (P D : Nat) : (slW P D).length = shareL P D := spreadL_len _
theorem slW_isL (P D : Nat) : ∀ c ∈ slW P D, isL c := fun c h => by
  rcases spreadL_mem _ c h with rfl | rfl
  · exact .inr (.inl rfl)
  · exact otherC_isL P D
theorem slW_take {P D : Nat} (hD : 1 ≤ D) (n i : Nat) (hi : i ≤ n * shareL P D) : (Lib.repeatL (slW P D) n).take i = spreadL [66] (shareB P D) [otherC P D] (shareL P D - shareB P D) i := by
  obtain ⟨h1, h2, -, -, -⟩ := lowest_facts (m := 2 * min P D) (S := P + D) (by omega) (min2 P D)
  change shareB P D ≤ shareL P D at h1
  change 0 < shareL P D at h2
  have e : shareB P D + (shareL P D - shareB P D) = shareL P D := by omega
  have h := spreadL_repeat (v := [66]) (w := [otherC P D]) (m := shareB P D) (n := shareL P D - shareB P D) (by omega) n
  rw [e] at h
  rw [slW, h]
  exact spreadL_take _ _ hi
theorem sl_pos {P D : Nat} (hD : 1 ≤ D) (n i : Nat) (hi : i ≤ n * shareL P D) : posK 1 ⟨0, 0⟩ ((Lib.repeatL (slW P D) n).take i) = slPos P D i := by
  obtain ⟨h1, h2, -, h4, -⟩ := lowest_facts (m := 2 * min P D) (S := P + D) (by omega) (min2 P D)
  change shareB P D ≤ shareL P D at h1
  change 0 < shareL P D at h2
  have hb := spreadL_bars (m := shareB P D) (n := shareL P D - shareB P D) (otherC_ne P D) (by omega) i
  rw [show shareB P D + (shareL P D - shareB P D) = shareL P D from by omega] at hb
  have hb' : barsN (spreadL [66] (shareB P D) [otherC P D] (shareL P D - shareB P D) i) = slC P D i := hb.trans (h4 i)
  have hl := spreadL_len (a := 66) (b := otherC P D) (m := shareB P D) (n := shareL P D - shareB P D) i
  have hm := spreadL_mem (a := 66) (b := otherC P D) (m := shareB P D) (n := shareL P D - shareB P D) i
  rw [slW_take hD n i hi]
  unfold slPos
  by_cases h : D < P
  · have ho : otherC P D = 84 := by simp [otherC, h]
    rw [ho] at hm hl hb' ⊢
    rw [posK_steep _ _ hm, hl, hb', if_pos h]
    simp
  · have ho : otherC P D = 78 := by simp [otherC, h]
    rw [ho] at hm hl hb' ⊢
    rw [posK_flat _ _ hm, hl, hb', if_neg h]
    simp
def slFar (P D i : Nat) : Int := (slPos P D i).x * D - P * (slPos P D i).y
theorem sl_far {P D : Nat} (hD : 1 ≤ D) (i : Nat) : (P ≤ D → slFar P D i ≤ 0 ∧ -(P : Int) - D < slFar P D i) ∧ (D < P → 0 ≤ slFar P D i ∧ slFar P D i < (P : Int) + D) ∧ ∀ q, slFar P D (q * shareL P D) = 0 := by
  have hmod : ∀ i, (P ≤ D → slFar P D i = -((i * (2 * min P D) % (P + D) : Nat) : Int)) ∧ (D < P → slFar P D i = ((i * (2 * min P D) % (P + D) : Nat) : Int)) := by
    intro i
    have e := Nat.div_add_mod (i * (2 * min P D)) (P + D)
    have e' : ((P : Int) + D) * (slC P D i : Int) + ((i * (2 * min P D) % (P + D) : Nat) : Int) = (i : Int) * (2 * (min P D : Nat)) := by
      have := congrArg (Nat.cast (R := Int)) e
      simpa [slC] using this
    generalize ((i * (2 * min P D) % (P + D) : Nat) : Int) = r at *
    constructor
    · intro h
      have hm : min P D = P := by omega
      rw [hm] at e'
      rw [slFar, slPos, if_neg (by omega)]
      simp only
      generalize (slC P D i : Int) = c at *
      grind
    · intro h
      have hm : min P D = D := by omega
      rw [hm] at e'
      rw [slFar, slPos, if_pos h]
      simp only
      generalize (slC P D i : Int) = c at *
      grind
  have hlt : ∀ i, i * (2 * min P D) % (P + D) < P + D := fun i => Nat.mod_lt _ (by omega)
  refine ⟨fun h => ?_, fun h => ?_, fun q => ?_⟩
  · rw [(hmod i).1 h]
    have := hlt i
    omega
  · rw [(hmod i).2 h]
    have := hlt i
    omega
  · obtain ⟨-, -, -, -, h5⟩ := lowest_facts (m := 2 * min P D) (S := P + D) (by omega) (min2 P D)
    have hz : q * shareL P D * (2 * min P D) % (P + D) = 0 := h5 q
    by_cases h : P ≤ D
    · rw [(hmod _).1 h, hz]; rfl
    · rw [(hmod _).2 (by omega), hz]; rfl
theorem slC_le (P D i : Nat) (hD : 1 ≤ D) : slC P D i ≤ i := by
  unfold slC
  have := Nat.div_le_div_right (c := P + D) (Nat.mul_le_mul_left i (min2 P D))
  rwa [Nat.mul_div_cancel _ (by omega)] at this
theorem sl_near (P D i : Nat) (hD : 1 ≤ D) : 0 ≤ (slPos P D i).x ∧ (slPos P D i).x ≤ 2 * i ∧ 0 ≤ (slPos P D i).y ∧ (slPos P D i).y ≤ 2 * i := by
  have := slC_le P D i hD
  unfold slPos
  split <;> simp only <;> omega
/-- The vector of the word has the ratio. -/
theorem sl_rate {P D : Nat} (hD : 1 ≤ D) (hg : P.gcd D = 1) : ∃ X Y : Nat, slPos P D (shareL P D) = ⟨X, Y⟩ ∧ 1 ≤ Y ∧ X / X.gcd Y = P ∧ Y / X.gcd Y = D ∧ X ≤ 2 * shareL P D ∧ Y ≤ 2 * shareL P D := by
  obtain ⟨h1, h2, -, h4, -⟩ := lowest_facts (m := 2 * min P D) (S := P + D) (by omega) (min2 P D)
  have h2' : 0 < shareL P D := h2
  have hfar := (sl_far (P := P) hD 0).2.2 1
  rw [Nat.one_mul, slFar] at hfar
  obtain ⟨n1, n2, n3, n4⟩ := sl_near P D (shareL P D) hD
  have hY : 1 ≤ (slPos P D (shareL P D)).y := by
    have hle := slC_le P D (shareL P D) hD
    unfold slPos
    by_cases h : D < P
    · rw [if_pos h]
      have hc : slC P D (shareL P D) = shareB P D := by
        have e : shareL P D * shareB P D / shareL P D = shareL P D * (2 * min P D) / (P + D) := h4 _
        rw [slC, ← e, Nat.mul_div_cancel_left _ h2']
      have hB : 0 < shareB P D := Nat.div_pos (Nat.le_of_dvd (by omega) (Nat.gcd_dvd_left _ _)) (Nat.gcd_pos_of_pos_right _ (by omega))
      simp only
      rw [hc]
      omega
    · rw [if_neg h]
      simp only
      omega
  generalize slPos P D (shareL P D) = K at *
  obtain ⟨x, y⟩ := K
  simp only at *
  refine ⟨x.toNat, y.toNat, by rw [Int.toNat_of_nonneg n1, Int.toNat_of_nonneg n3], by omega, ?_⟩
  have hx : ((x.toNat : Nat) : Int) = x := Int.toNat_of_nonneg n1
  have hy : ((y.toNat : Nat) : Int) = y := Int.toNat_of_nonneg n3
  generalize x.toNat = X at *
  generalize y.toNat = Y at *
  subst hx hy
  have hXY : X * D = P * Y := by
    have : ((X * D : Nat) : Int) = ((P * Y : Nat) : Int) := by push_cast; omega
    exact Int.ofNat.inj this
  have hdvd : D ∣ Y := by
    have : D ∣ P * Y := ⟨X, by rw [← hXY, Nat.mul_comm]⟩
    exact Nat.Coprime.dvd_of_dvd_mul_left (show D.Coprime P from (Nat.gcd_comm D P).trans hg) this
  obtain ⟨k, rfl⟩ := hdvd
  have hk : 0 < k := by
    rcases Nat.eq_zero_or_pos k with rfl | h
    · simp at hY
    · exact h
  have hX : X = P * k := by
    have e : X * D = (P * k) * D := by rw [hXY]; rw [Nat.mul_assoc, Nat.mul_comm D k]
    exact Nat.eq_of_mul_eq_mul_right (by omega) e
  subst hX
  have hgc : (P * k).gcd (D * k) = k := by rw [Nat.gcd_mul_right, hg, Nat.one_mul]
  rw [hgc]
  refine ⟨Nat.mul_div_cancel _ hk, Nat.mul_div_cancel _ hk, by omega, by omega⟩
theorem shareL_le {P D : Nat} (hD : 1 ≤ D) : 1 ≤ shareL P D ∧ shareL P D ≤ P + D ∧ shareB P D ≤ shareL P D := by
  obtain ⟨h1, h2, h3, -, -⟩ := lowest_facts (m := 2 * min P D) (S := P + D) (by omega) (min2 P D)
  exact ⟨h2, h3, h1⟩
end Go.Proofs.Ythihjphcjjpjpaa

/- Divisors and quotients in lowest terms: the program's and the reference's. -/
namespace Go.Proofs.Ythihjphcjjpjpaa
open Go.RowKit

theorem boxH2 (w : World) (u v : Value) (t : TypeId) : ∃ w1, w1 = w.alloc (.cells #[u, v] t) ∧ w1.heap[w.heap.size]? = some (.cells #[u, v] t (0, 0)) ∧ Below w.heap.size w w1 ∧ w.heap.size < w1.heap.size :=
  ⟨_, rfl, heap_alloc_new _ _, (Below.refl _ _).alloc (Nat.le_refl _) _, by simp⟩
theorem nat_tmod (p q : Nat) : (p : Int).tmod (q : Int) = ((p % q : Nat) : Int) := by rw [Int.tmod_eq_emod_of_nonneg (by omega)]; rfl
theorem nat_tdiv (p q : Nat) : (p : Int).tdiv (q : Int) = ((p / q : Nat) : Int) := by rw [Int.tdiv_eq_ediv_of_nonneg (by omega)]; rfl

set_option maxHeartbeats 1000000 in
set_option maxRecDepth 100000 in
theorem tpDivisor (a b : Nat) (w : World) (ha : a ≤ 4000000000) (hb : b ≤ 4000000000) :
    Calls Try.prog 76 #[.int .i64 a, .int .i64 b] w fun e w' => e = .returned (.int .i64 (a.gcd b : Nat)) ∧ Below w.heap.size w w' := by
  obtain ⟨g, hg⟩ : ∃ g, a.gcd b = g := ⟨_, rfl⟩
  rw [hg]
  have HG := Lib.hid hg
  clear hg
  go_enter Try.func76, Try.ntmps76
  go_wp2_with fail
  go_loopw [0, 1] (fun x y wr => ∃ p q : Nat, p ≤ 4000000000 ∧ q ≤ 4000000000 ∧ x = .int .i64 p ∧ y = .int .i64 q ∧ p.gcd q = g ∧ Below w.heap.size w wr) (fun _ y _ => (intOf y).toNat)
  case atStart => exact ⟨a, b, ha, hb, rfl, rfl, HG.out, Below.refl _ _⟩
  case round =>
    obtain ⟨p, q, hp, hq, rfl, rfl, hgg, hbw⟩ := hrel
    by_cases hz : q = 0
    · subst hz
      rw [Nat.gcd_zero_right] at hgg
      subst hgg
      go_wp2
      go_ret
      exact ⟨rfl, hbw⟩
    · have hz0 : ((q : Int) != 0) = true := by rw [bne_iff_ne]; omega
      have hz1 : ¬ (q : Int) = 0 := by omega
      have hm := nat_tmod p q
      have hlt : p % q < q := Nat.mod_lt _ (by omega)
      have HGG := Lib.hid (show q.gcd (p % q) = g by rw [← hgg, Nat.gcd_comm p q, Nat.gcd_rec q p, Nat.gcd_comm])
      clear hgg
      obtain ⟨r, hr⟩ : ∃ r, p % q = r := ⟨_, rfl⟩
      rw [hr] at hm hlt HGG
      clear hr hz
      go_wp2_with fail
      go_quiet (fail)
      have hb8 := below_drewN hbw nq
      go_wp2
      go_roundw
      case rel => exact ⟨q, r, hq, by omega, rfl, rfl, HGG.out, hb8⟩
      case measure => simp [intOf]; omega

set_option maxHeartbeats 1000000 in
set_option maxRecDepth 100000 in
theorem refGcd (a b : Nat) (w : World) (ha : a ≤ 4000000000) (hb : b ≤ 4000000000) :
    Calls Try.prog 43 #[.int .i64 a, .int .i64 b] w fun e w' => e = .returned (.int .i64 (a.gcd b : Nat)) ∧ Below w.heap.size w w' := by
  obtain ⟨g, hg⟩ : ∃ g, a.gcd b = g := ⟨_, rfl⟩
  rw [hg]
  have HG := Lib.hid hg
  clear hg
  go_enter Try.func43, Try.ntmps43
  go_wp2_with fail
  go_loopw [0, 1] (fun x y wr => ∃ p q : Nat, p ≤ 4000000000 ∧ q ≤ 4000000000 ∧ x = .int .i64 p ∧ y = .int .i64 q ∧ p.gcd q = g ∧ Below w.heap.size w wr) (fun _ y _ => (intOf y).toNat)
  case atStart => exact ⟨a, b, ha, hb, rfl, rfl, HG.out, Below.refl _ _⟩
  case round =>
    obtain ⟨p, q, hp, hq, rfl, rfl, hgg, hbw⟩ := hrel
    by_cases hz : q = 0
    · subst hz
      rw [Nat.gcd_zero_right] at hgg
      subst hgg
      go_wp2
      go_ret
      exact ⟨rfl, hbw⟩
    · have hz0 : ((q : Int) != 0) = true := by rw [bne_iff_ne]; omega
      have hz1 : ¬ (q : Int) = 0 := by omega
      have hm := nat_tmod p q
      have hlt : p % q < q := Nat.mod_lt _ (by omega)
      have HGG := Lib.hid (show q.gcd (p % q) = g by rw [← hgg, Nat.gcd_comm p q, Nat.gcd_rec q p, Nat.gcd_comm])
      clear hgg
      obtain ⟨r, hr⟩ : ∃ r, p % q = r := ⟨_, rfl⟩
      rw [hr] at hm hlt HGG
      clear hr hz
      go_wp2_with fail
      go_quiet (fail)
      have hb8 := below_drewN hbw nq
      go_wp2
      go_roundw
      case rel => exact ⟨q, r, hq, by omega, rfl, rfl, HGG.out, hb8⟩
      case measure => simp [intOf]; omega

set_option maxHeartbeats 1000000 in
set_option maxRecDepth 100000 in
theorem tpLowest (a b : Nat) (w : World) (ha : a ≤ 4000000000) (hb : b ≤ 4000000000) (h : 0 < b) :
    Calls Try.prog 52 #[.int .i64 a, .int .i64 b] w fun e w' => e = .returned (.agg #[.int .i64 (a / a.gcd b : Nat), .int .i64 (b / a.gcd b : Nat)]) ∧ Below w.heap.size w w' := by
  obtain ⟨g, hg⟩ : ∃ g, a.gcd b = g := ⟨_, rfl⟩
  have hg0 : 0 < g := by rw [← hg]; exact Nat.gcd_pos_of_pos_right _ h
  have hz1 : ¬ (g : Int) = 0 := by omega
  have hz0 : ((g : Int) != 0) = true := by rw [bne_iff_ne]; omega
  have h1 := nat_tdiv a g
  have h2 := nat_tdiv b g
  have h3 : a / g ≤ a := Nat.div_le_self _ _
  have h4 : b / g ≤ b := Nat.div_le_self _ _
  rw [hg]
  have HG := Lib.hid hg
  obtain ⟨u, hu⟩ : ∃ u, a / g = u := ⟨_, rfl⟩
  obtain ⟨v, hv⟩ : ∃ v, b / g = v := ⟨_, rfl⟩
  rw [hu] at h1 h3 ⊢
  rw [hv] at h2 h4 ⊢
  have hw1 : IntKind.i64.wrap (u : Int) = (u : Int) := by rw [IntKind.wrap_i64]; omega
  have hw2 : IntKind.i64.wrap (v : Int) = (v : Int) := by rw [IntKind.wrap_i64]; omega
  clear hu hv hg
  obtain ⟨w0, hw0, hB, hb0, hz⟩ := boxH2 w (.int .i64 0) (.int .i64 0) 52
  have hg1 : ¬ g = 0 := by omega
  have HW0 := Lib.hid hw0
  clear hw0
  go_enter Try.func52, Try.ntmps52
  go_wp2_with fail
  rw [← HW0.out]
  refine (tpDivisor a b _ ha hb).mono ?_
  rintro e w1 ⟨rfl, hb1⟩
  rw [HG.out]
  have hB1 := (hb1.block _ hz).trans hB
  have hbw := hb0.trans (hb1.mono hb0.size)
  obtain ⟨p0, p1, p2, p3⟩ := two_cell hB1
  obtain ⟨s1, s2⟩ := two_set hB1 (.int .i64 u) (.int .i64 v)
  obtain ⟨t0, t1, -, -⟩ := two_cell s1
  have hbf := hbw.grown s2 hbw.size (fun j e => by cases e; exact Nat.le_refl _)
  clear hB hb1 hB1 hbw hb0
  go_wp2_with fail
  go_region
  go_wp2
  exact bodyPost_ret (v := .agg #[.int .i64 u, .int .i64 v]) (by simp [results, Try.results52, go_sem, t0, t1]) rfl ⟨rfl, below_drew hbf⟩

set_option maxHeartbeats 1000000 in
set_option maxRecDepth 100000 in
theorem refLowest (a b : Nat) (w : World) (ha : a ≤ 4000000000) (hb : b ≤ 4000000000) (h : 0 < b) :
    Calls Try.prog 18 #[.int .i64 a, .int .i64 b] w fun e w' => e = .returned (.agg #[.int .i64 (a / a.gcd b : Nat), .int .i64 (b / a.gcd b : Nat)]) ∧ Below w.heap.size w w' := by
  obtain ⟨g, hg⟩ : ∃ g, a.gcd b = g := ⟨_, rfl⟩
  have hg0 : 0 < g := by rw [← hg]; exact Nat.gcd_pos_of_pos_right _ h
  have hz1 : ¬ (g : Int) = 0 := by omega
  have hz0 : ((g : Int) != 0) = true := by rw [bne_iff_ne]; omega
  have h1 := nat_tdiv a g
  have h2 := nat_tdiv b g
  have h3 : a / g ≤ a := Nat.div_le_self _ _
  have h4 : b / g ≤ b := Nat.div_le_self _ _
  rw [hg]
  have HG := Lib.hid hg
  obtain ⟨u, hu⟩ : ∃ u, a / g = u := ⟨_, rfl⟩
  obtain ⟨v, hv⟩ : ∃ v, b / g = v := ⟨_, rfl⟩
  rw [hu] at h1 h3 ⊢
  rw [hv] at h2 h4 ⊢
  have hw1 : IntKind.i64.wrap (u : Int) = (u : Int) := by rw [IntKind.wrap_i64]; omega
  have hw2 : IntKind.i64.wrap (v : Int) = (v : Int) := by rw [IntKind.wrap_i64]; omega
  clear hu hv hg
  obtain ⟨w0, hw0, hB, hb0, hz⟩ := boxH2 w (.int .i64 0) (.int .i64 0) 52
  have hg1 : ¬ g = 0 := by omega
  have HW0 := Lib.hid hw0
  clear hw0
  go_enter Try.func18, Try.ntmps18
  go_wp2_with fail
  rw [← HW0.out]
  refine (refGcd a b _ ha hb).mono ?_
  rintro e w1 ⟨rfl, hb1⟩
  rw [HG.out]
  have hB1 := (hb1.block _ hz).trans hB
  have hbw := hb0.trans (hb1.mono hb0.size)
  obtain ⟨p0, p1, p2, p3⟩ := two_cell hB1
  obtain ⟨s1, s2⟩ := two_set hB1 (.int .i64 u) (.int .i64 v)
  obtain ⟨t0, t1, -, -⟩ := two_cell s1
  have hbf := hbw.grown s2 hbw.size (fun j e => by cases e; exact Nat.le_refl _)
  clear hB hb1 hB1 hbw hb0
  go_wp2_with fail
  go_region
  go_wp2
  exact bodyPost_ret (v := .agg #[.int .i64 u, .int .i64 v]) (by simp [results, Try.results18, go_sem, t0, t1]) rfl ⟨rfl, below_drew hbf⟩
end Go.Proofs.Ythihjphcjjpjpaa

/- Spread words in memory: spread. -/
namespace Go.Proofs.Ythihjphcjjpjpaa
open Go.RowKit Go.Shelf

theorem Try.repT72 : Try.rep_ren.t 72 = 133 := by kernel_rfl
theorem Try.repT5 : Try.rep_ren.t 5 = 5 := by kernel_rfl
theorem Try.repF166 : Try.rep_ren.f 166 = 87 := by kernel_rfl
theorem Try.repF169 : Try.rep_ren.f 169 = 88 := by kernel_rfl
def BldIs (B b : Nat) (l : List UInt8) (w : World) : Prop := Lib.IsBuilderF 133 5 B b (Lib.byteCells l) w
theorem bldNew (w : World) : BldIs w.heap.size w.heap.size [] (w.alloc (.cells #[.pointer none, .slice none 0 0] 133)) := Lib.IsBuilderF.of (Lib.fresh_isBuilder 133 5 w)
theorem bldWrite (B b : Nat) (l : List UInt8) (s : ByteArray) (w : World) (h : BldIs B b l w) (hlen : l.length + s.size ≤ 1000000) (hBw : B ≤ w.heap.size) :
    Calls Try.prog 87 #[.pointer (some ⟨b, 0, none⟩), .string s] w fun e w' => e = .returned (.tuple #[.int .i64 s.size, .nilIface]) ∧ BldIs B b (l ++ s.data.toList) w' ∧ Below B w w' := by
  have k := Any.Builder_WriteString_k { Try.rep with } Try.repX B b (Lib.byteCells l) s w (by rw [Try.repT72, Try.repT5]; exact h) (by rw [Lib.byteCells_length]; omega) hBw
  rw [Try.repF166] at k
  refine k.mono fun e w' ⟨he, h1, h2, _⟩ => ⟨he, ?_, h2⟩
  rw [Try.repT72, Try.repT5, Lib.strCells_eq, ← Lib.byteCells_append] at h1
  exact .inr h1
theorem bldString (B b : Nat) (l : List UInt8) (w : World) (h : BldIs B b l w) (hBw : B ≤ w.heap.size) :
    Calls Try.prog 88 #[.pointer (some ⟨b, 0, none⟩)] w fun e w' => e = .returned (.string ⟨l.toArray⟩) ∧ BldIs B b l w' ∧ Below B w w' := by
  have k := Any.Builder_String_any_k { Try.rep with } Try.repX B b l w (by rw [Try.repT72, Try.repT5]; exact h) hBw
  rw [Try.repF169] at k
  refine k.mono fun e w' ⟨he, h1, h2, _⟩ => ⟨he, ?_, h2⟩
  rw [Try.repT72, Try.repT5] at h1
  exact h1
theorem BldIs.drewN {B b : Nat} {l : List UInt8} {w : World} (h : BldIs B b l w) (n : Nat) : BldIs B b l (World.drewN w n) := h
theorem spreadL_short {v u : List UInt8} {m n N : Nat} (hv : v.length ≤ N) (hu : u.length ≤ N) : ∀ k, (spreadL v m u n k).length ≤ k * N
  | 0 => by simp [spreadL]
  | k + 1 => by
    have ih := spreadL_short (m := m) (n := n) hv hu k
    have e : (k + 1) * N = k * N + N := by rw [Nat.add_mul, Nat.one_mul]
    rw [spreadL, List.length_append, e]
    split <;> omega

set_option maxHeartbeats 4000000 in
set_option maxRecDepth 100000 in
theorem tpSpread (v u : ByteArray) (m n : Nat) (w : World) (hv : v.size ≤ 64) (hu : u.size ≤ 64) (hm : m ≤ 1000) (hn : n ≤ 1000) :
    Calls Try.prog 77 #[.string v, .int .i64 m, .string u, .int .i64 n] w fun e w' => e = .returned (.string ⟨(spreadL v.data.toList m u.data.toList n (m + n)).toArray⟩) ∧ Below w.heap.size w w' := by
  have HSP := Lib.hid (show ∀ k, (spreadL v.data.toList m u.data.toList n k).length ≤ k * 64 from spreadL_short (by rw [← Lib.size_eq]; exact hv) (by rw [← Lib.size_eq]; exact hu))
  have HV := Lib.hid hv
  have HU := Lib.hid hu
  obtain ⟨S, hS⟩ : ∃ S : Nat → List UInt8, S = spreadL v.data.toList m u.data.toList n := ⟨_, rfl⟩
  have HS := Lib.hid hS
  rw [← hS] at HSP ⊢
  clear hv hu hS
  have b0 := bldNew w
  have bb0 : Below w.heap.size w (w.alloc (.cells #[.pointer none, .slice none 0 0] 133)) := (Below.refl _ _).alloc (Nat.le_refl _) _
  have m0 : (0 : Int) ≤ (m : Int) := by omega
  have n0 : (0 : Int) ≤ (n : Int) := by omega
  go_enter Try.func77, Try.ntmps77
  go_wp2_with fail
  go_loopw [10, 14] (fun _ x wr => ∃ k : Nat, k ≤ m + n ∧ x = .int .i64 k ∧ BldIs w.heap.size w.heap.size (S k) wr ∧ Below w.heap.size w wr) (fun _ x _ => m + n - (intOf x).toNat)
  case atStart => exact ⟨0, Nat.zero_le _, rfl, by rw [HS.out]; exact b0, bb0⟩
  case round =>
    obtain ⟨k, hk, rfl, hI, hb⟩ := hrel
    clear b0 bb0
    by_cases hlt : k < m + n
    · have q0 : ((k : Int) < (m : Int) + (n : Int)) := by omega
      have q1 : decide ((k : Int) < (m : Int) + (n : Int)) = true := by simpa using q0
      have hs0 : ¬ ((m : Int) + (n : Int)) = 0 := by omega
      have p1 : (k + 1) * m ≤ 3000000 := Nat.le_trans (Nat.mul_le_mul (by omega : k + 1 ≤ 2000) hm) (by decide)
      have p2 : k * m ≤ 3000000 := Nat.le_trans (Nat.mul_le_mul (by omega : k ≤ 2000) hm) (by decide)
      have t1 : (((k : Int) + 1) * (m : Int)).tdiv ((m : Int) + (n : Int)) = (((k + 1) * m / (m + n) : Nat) : Int) := by rw [← nat_tdiv]; push_cast; rfl
      have t2 : ((k : Int) * (m : Int)).tdiv ((m : Int) + (n : Int)) = ((k * m / (m + n) : Nat) : Int) := by rw [← nat_tdiv]; push_cast; rfl
      have w1 : IntKind.i64.wrap ((k : Int) + 1) = (k : Int) + 1 := by rw [IntKind.wrap_i64]; omega
      have w2 : IntKind.i64.wrap (((k : Int) + 1) * (m : Int)) = ((k : Int) + 1) * (m : Int) := by
        have e : ((k : Int) + 1) * (m : Int) = (((k + 1) * m : Nat) : Int) := by push_cast; rfl
        rw [e, IntKind.wrap_i64]; omega
      have w3 : IntKind.i64.wrap ((m : Int) + (n : Int)) = (m : Int) + (n : Int) := by rw [IntKind.wrap_i64]; omega
      have w4 : IntKind.i64.wrap ((k : Int) * (m : Int)) = (k : Int) * (m : Int) := by
        have e : (k : Int) * (m : Int) = ((k * m : Nat) : Int) := by push_cast; rfl
        rw [e, IntKind.wrap_i64]; omega
      have l1 : (k + 1) * m / (m + n) ≤ 3000000 := Nat.le_trans (Nat.div_le_self _ _) p1
      have l2 : k * m / (m + n) ≤ 3000000 := Nat.le_trans (Nat.div_le_self _ _) p2
      have HST := Lib.hid (show S (k + 1) = S k ++ (if k * m / (m + n) < (k + 1) * m / (m + n) then v.data.toList else u.data.toList) by rw [HS.out, spreadL])
      obtain ⟨x, hx⟩ : ∃ x, (k + 1) * m / (m + n) = x := ⟨_, rfl⟩
      obtain ⟨y, hy⟩ : ∃ y, k * m / (m + n) = y := ⟨_, rfl⟩
      rw [hx] at t1 l1 HST
      rw [hy] at t2 l2 HST
      have w5 : IntKind.i64.wrap (x : Int) = (x : Int) := by rw [IntKind.wrap_i64]; omega
      have w6 : IntKind.i64.wrap (y : Int) = (y : Int) := by rw [IntKind.wrap_i64]; omega
      have hlen := HSP.out k
      have hkn : k ≤ 2000 := by omega
      clear hx hy p1 p2
      by_cases hd : y < x
      · have hd1 : (y : Int) < (x : Int) := by omega
        have hd2 : decide ((y : Int) < (x : Int)) = true := by simpa using hd1
        rw [if_pos hd] at HST
        go_wp2_with fail
        go_quiet (fail)
        have hb8 := below_drewN hb nq
        have hI8 := hI.drewN nq
        generalize World.drewN wr nq = W8 at *
        clear nq
        have hz8 := hb8.size
        go_wp2_with fail
        refine (bldWrite _ _ _ v _ hI8 (by have := HV.out; omega) hz8).mono ?_
        rintro e W9 ⟨rfl, hI9, hb9⟩
        go_wp2
        go_roundw
        case rel => exact ⟨k + 1, by omega, by go_num, by rw [HST.out]; exact hI9, hb8.trans hb9⟩
        case measure => simp [intOf]; omega
      · have hd1 : ¬ (y : Int) < (x : Int) := by omega
        have hd2 : decide ((y : Int) < (x : Int)) = false := by simpa using hd1
        rw [if_neg hd] at HST
        go_wp2_with fail
        go_quiet (fail)
        have hb8 := below_drewN hb nq
        have hI8 := hI.drewN nq
        generalize World.drewN wr nq = W8 at *
        clear nq
        have hz8 := hb8.size
        go_wp2_with fail
        refine (bldWrite _ _ _ u _ hI8 (by have := HU.out; omega) hz8).mono ?_
        rintro e W9 ⟨rfl, hI9, hb9⟩
        go_wp2
        go_roundw
        case rel => exact ⟨k + 1, by omega, by go_num, by rw [HST.out]; exact hI9, hb8.trans hb9⟩
        case measure => simp [intOf]; omega
    · obtain rfl : k = m + n := by omega
      have hg1 : decide (((m + n : Nat) : Int) < (m : Int) + (n : Int)) = false := by simp
      have hz8 := hb.size
      go_wp2_with fail
      refine (bldString _ _ _ _ hI hz8).mono ?_
      rintro e W9 ⟨rfl, hI9, hb9⟩
      go_wp2
      go_ret
      exact ⟨rfl, hb.trans hb9⟩
end Go.Proofs.Ythihjphcjjpjpaa

/- The word of a ratio: shareOf, checkRatio, spreadWord, Exact. -/
namespace Go.Proofs.Ythihjphcjjpjpaa
open Go.RowKit Go.Shelf

theorem tpSpreadI (v u : ByteArray) (m n : Nat) (d : Int) (w : World) (hd : d = (n : Int)) (hv : v.size ≤ 64) (hu : u.size ≤ 64) (hm : m ≤ 1000) (hn : n ≤ 1000) :
    Calls Try.prog 77 #[.string v, .int .i64 m, .string u, .int .i64 d] w fun e w' => e = .returned (.string ⟨(spreadL v.data.toList m u.data.toList n (m + n)).toArray⟩) ∧ Below w.heap.size w w' := by
  subst hd
  exact tpSpread v u m n w hv hu hm hn
theorem tpLowestI (a b : Nat) (x y : Int) (w : World) (hx : x = (a : Int)) (hy : y = (b : Int)) (ha : a ≤ 4000000000) (hb : b ≤ 4000000000) (h : 0 < b) :
    Calls Try.prog 52 #[.int .i64 x, .int .i64 y] w fun e w' => e = .returned (.agg #[.int .i64 (a / a.gcd b : Nat), .int .i64 (b / a.gcd b : Nat)]) ∧ Below w.heap.size w w' := by
  subst hx hy
  exact tpLowest a b w ha hb h
theorem boxH22 (w : World) (a b c d : Value) (t t' : TypeId) : ∃ w1, w1 = (w.alloc (.cells #[a, b] t)).alloc (.cells #[c, d] t') ∧ w1.heap[w.heap.size]? = some (.cells #[a, b] t (0, 0)) ∧ w1.heap[w.heap.size + 1]? = some (.cells #[c, d] t' (0, 0)) ∧ Below w.heap.size w w1 ∧ w1.heap.size = w.heap.size + 2 := by
  refine ⟨_, rfl, ?_, ?_, ((Below.refl _ _).alloc (Nat.le_refl _) _).alloc (by simp) _, by simp⟩
  · rw [Below.heap_alloc _ _ _ (by simp)]
    exact heap_alloc_new _ _
  · have := heap_alloc_new (w.alloc (.cells #[a, b] t)) (.cells #[c, d] t')
    rwa [World.size_alloc] at this

set_option maxHeartbeats 2000000 in
set_option maxRecDepth 100000 in
theorem tpSpreadWord (P D B L : Nat) (w : World) (hBL : B ≤ L) (hL : L ≤ 1000) (_ : P ≤ 1000000000) (_ : D ≤ 1000000000) :
    Calls Try.prog 47 #[.agg #[.int .i64 P, .int .i64 D], .agg #[.int .i64 B, .int .i64 L]] w fun e w' => e = .returned (.string ⟨(spreadL [66] B [otherC P D] (L - B) L).toArray⟩) ∧ Below w.heap.size w w' := by
  obtain ⟨w1, hw1, h0, h1, hb1, hz1⟩ := boxH22 w (.int .i64 P) (.int .i64 D) (.int .i64 B) (.int .i64 L) 52 95
  obtain ⟨p0, p1, -, -⟩ := two_cell h0
  obtain ⟨q0, q1, -, -⟩ := two_cell h1
  have HW1 := Lib.hid hw1
  have hsub : (L : Int) - (B : Int) = ((L - B : Nat) : Int) := by omega
  have hE : B + (L - B) = L := by omega
  clear hw1 h0 h1 hz1
  by_cases h : D < P
  · have HO := Lib.hid (show otherC P D = 84 by simp [otherC, h])
    have hd1 : (D : Int) < (P : Int) := by omega
    have hd2 : decide ((D : Int) < (P : Int)) = true := by simpa using hd1
    go_enter Try.func47, Try.ntmps47
    go_wp2_with fail
    rw [← HW1.out]
    go_wp2_with fail
    refine (tpSpreadI ⟨#[66]⟩ ⟨#[84]⟩ B (L - B) _ _ (by omega) (by decide) (by decide) (by omega) (by omega)).mono ?_
    rintro e w2 ⟨rfl, hb2⟩
    go_wp2
    go_ret
    rw [HO.out]
    exact ⟨rfl, hb1.trans (hb2.mono hb1.size)⟩
  · have HO := Lib.hid (show otherC P D = 78 by simp [otherC, h])
    have hd1 : ¬ (D : Int) < (P : Int) := by omega
    have hd2 : decide ((D : Int) < (P : Int)) = false := by simpa using hd1
    go_enter Try.func47, Try.ntmps47
    go_wp2_with fail
    rw [← HW1.out]
    go_wp2_with fail
    refine (tpSpreadI ⟨#[66]⟩ ⟨#[78]⟩ B (L - B) _ _ (by omega) (by decide) (by decide) (by omega) (by omega)).mono ?_
    rintro e w2 ⟨rfl, hb2⟩
    go_wp2
    go_ret
    rw [HO.out]
    exact ⟨rfl, hb1.trans (hb2.mono hb1.size)⟩

set_option maxHeartbeats 2000000 in
set_option maxRecDepth 100000 in
theorem tpShareOf (P D : Nat) (w : World) (hD0 : 1 ≤ D) (hP : P ≤ 1000000000) (hD : D ≤ 1000000000) :
    Calls Try.prog 45 #[.agg #[.int .i64 P, .int .i64 D]] w fun e w' => e = .returned (.agg #[.int .i64 (shareB P D), .int .i64 (shareL P D)]) ∧ Below w.heap.size w w' := by
  obtain ⟨w1, hw1, h0, h1, hb1, hz1⟩ := boxH22 w (.int .i64 P) (.int .i64 D) (.int .i64 0) (.int .i64 0) 52 52
  obtain ⟨p0, p1, -, -⟩ := two_cell h0
  have HW1 := Lib.hid hw1
  obtain ⟨m, hm⟩ : ∃ m, min P D = m := ⟨_, rfl⟩
  have hmi : (if (D : Int) < (P : Int) then (D : Int) else (P : Int)) = (m : Int) := by
    subst hm
    split <;> omega
  have hm1 : m ≤ 1000000000 := by omega
  have hm2 : m ≤ D := by omega
  obtain ⟨B, hB⟩ : ∃ B, shareB P D = B := ⟨_, rfl⟩
  obtain ⟨L, hL⟩ : ∃ L, shareL P D = L := ⟨_, rfl⟩
  have HB := Lib.hid (show 2 * m / (2 * m).gcd (P + D) = B by rw [← hB, shareB, hm])
  have HL := Lib.hid (show (P + D) / (2 * m).gcd (P + D) = L by rw [← hL, shareL, hm])
  rw [hB, hL]
  clear hw1 hm hB hL
  go_enter Try.func45, Try.ntmps45
  go_wp2_with fail
  rw [← HW1.out]
  go_wp2_with fail
  refine (tpLowestI (2 * m) (P + D) _ _ _ (by omega) (by omega) (by omega) (by omega) (by omega)).mono ?_
  rintro e w2 ⟨rfl, hb2⟩
  have hbw := hb1.trans (hb2.mono hb1.size)
  have h2 := (hb2.block _ (by omega)).trans h1
  rw [HB.out, HL.out]
  obtain ⟨r0, r1, r2, r3⟩ := two_cell h2
  obtain ⟨s1, s2⟩ := two_set h2 (.int .i64 B) (.int .i64 L)
  obtain ⟨t0, t1, -, -⟩ := two_cell s1
  have hbf := hbw.grown s2 hbw.size (fun j e => by cases e; omega)
  clear h0 h1 h2 hb2 hbw
  go_wp2
  exact bodyPost_ret (v := .agg #[.int .i64 B, .int .i64 L]) (by simp [results, Try.results45, go_sem, t0, t1]) rfl ⟨rfl, hbf⟩

set_option maxHeartbeats 2000000 in
set_option maxRecDepth 100000 in
theorem tpCheckRatio (P D : Nat) (w : World) (hD0 : 1 ≤ D) (hP : P ≤ 999999999) (hD : D ≤ 999999999) (hg : P.gcd D = 1) :
    Calls Try.prog 44 #[.agg #[.int .i64 P, .int .i64 D]] w fun e w' => e = .returned (.int .i64 0) ∧ Below w.heap.size w w' := by
  obtain ⟨w1, hw1, h0, hb1, hz1⟩ := boxH2 w (.int .i64 P) (.int .i64 D) 52
  obtain ⟨p0, p1, -, -⟩ := two_cell h0
  have HW1 := Lib.hid hw1
  have HG := Lib.hid hg
  have HR0 := Lib.hid (show (if (P : Int) < 0 ∨ 999999999 < (P : Int) then (3 : Int) else 0) = 0 by rw [if_neg]; omega)
  have HR1 := Lib.hid (show (if (D : Int) < 1 ∨ 999999999 < (D : Int) then (3 : Int) else 0) = 0 by rw [if_neg]; omega)
  clear hw1 hg
  go_enter Try.func44, Try.ntmps44
  go_wp2_with fail
  rw [← HW1.out]
  go_wp2_with fail
  refine wp_region_still_tail 6 (by kernel_rfl) (by kernel_rfl) ?_
  simp only [List.take_succ_cons, List.take_zero, List.drop_succ_cons, List.drop_zero]
  still_step
  still_step
  still_call (Calls.mono (tpCheckRange _ _ _ _) fun _ _ h => ⟨h.1, h.2.symm⟩)
  still_step
  still_step
  still_call (Calls.mono (tpCheckRange _ _ _ _) fun _ _ h => ⟨h.1, h.2.symm⟩)
  refine wpStill_nil ?_
  change wpList _ _ _ _ _ w1.drew
  rw [HR0.out, HR1.out]
  go_wp2_with fail
  refine (tpFirst2 _ _ 0 0 32 _ (by exact heap_alloc_new _ _)).mono ?_
  rintro e w3 ⟨rfl, rfl⟩
  rw [show firstE [0, 0] = 0 from rfl]
  obtain ⟨w4, hw4, hb4, e0, e1⟩ : ∃ w4, w4 = (w1.alloc (.cells #[.int .i64 0, .int .i64 0] 32)).drew ∧ Below w1.heap.size w1 w4 ∧ w4.cell? ⟨w.heap.size, 0, none⟩ = some (.int .i64 P) ∧ w4.cell? ⟨w.heap.size, 1, none⟩ = some (.int .i64 D) := by
    have hb : Below w1.heap.size w1 (w1.alloc (.cells #[.int .i64 0, .int .i64 0] 32)).drew := below_drew ((Below.refl _ _).alloc (Nat.le_refl _) _)
    exact ⟨_, rfl, hb, (hb.cell (p := ⟨w.heap.size, 0, none⟩) hz1).trans p0, (hb.cell (p := ⟨w.heap.size, 1, none⟩) hz1).trans p1⟩
  rw [← hw4]
  clear hw4
  go_wp2_with fail
  refine (tpDivisor P D _ (by omega) (by omega)).mono ?_
  rintro e w5 ⟨rfl, hb5⟩
  rw [HG.out]
  go_wp2
  go_ret
  have hb14 := hb1.trans (hb4.mono hb1.size)
  exact ⟨rfl, hb14.trans (hb5.mono hb14.size)⟩

/-- The word that Exact returns. -/
def slB (P D : Nat) : ByteArray := ⟨(slW P D).toArray⟩
set_option maxHeartbeats 2000000 in
set_option maxRecDepth 100000 in
theorem tpExact (P D : Nat) (w : World) (hD0 : 1 ≤ D) (hS : P + D ≤ 64) (hg : P.gcd D = 1) :
    Calls Try.prog 19 #[.agg #[.int .i64 P, .int .i64 D]] w fun e w' => e = .returned (.tuple #[.string (slB P D), .int .i64 0]) ∧ Below w.heap.size w w' := by
  obtain ⟨w1, hw1, p0, p1, hb1, hz1⟩ := box2 w (.int .i64 P) (.int .i64 D) 52
  have HW1 := Lib.hid hw1
  have HG := Lib.hid hg
  obtain ⟨l1, l2, l3⟩ := shareL_le (P := P) hD0
  have HSW := Lib.hid (show (⟨(spreadL [66] (shareB P D) [otherC P D] (shareL P D - shareB P D) (shareL P D)).toArray⟩ : ByteArray) = slB P D from rfl)
  clear hw1 hg
  go_enter Try.func19, Try.ntmps19
  go_wp2_with fail
  rw [← HW1.out]
  go_wp2_with fail
  refine (tpCheckRatio P D _ hD0 (by omega) (by omega) HG.out).mono ?_
  rintro e w2 ⟨rfl, hb2⟩
  have p2 := (hb2.cell (p := ⟨w.heap.size, 0, none⟩) hz1).trans p0
  have p3 := (hb2.cell (p := ⟨w.heap.size, 1, none⟩) hz1).trans p1
  have hz2 := hb2.size
  have b2 := hb1.trans (hb2.mono hb1.size)
  go_wp2_with fail
  refine (tpShareOf P D _ hD0 (by omega) (by omega)).mono ?_
  rintro e w3 ⟨rfl, hb3⟩
  have p4 := (hb3.cell (p := ⟨w.heap.size, 0, none⟩) (by show w.heap.size < _; omega)).trans p2
  have p5 := (hb3.cell (p := ⟨w.heap.size, 1, none⟩) (by show w.heap.size < _; omega)).trans p3
  have hz3 := hb3.size
  have b3 := b2.trans (hb3.mono b2.size)
  obtain ⟨B, hB⟩ : ∃ B, shareB P D = B := ⟨_, rfl⟩
  obtain ⟨L, hL⟩ : ∃ L, shareL P D = L := ⟨_, rfl⟩
  rw [hB, hL] at HSW
  rw [hB] at l3 ⊢
  rw [hL] at l1 l2 l3 ⊢
  clear hB hL p0 p1 p2 p3
  obtain ⟨w4, hw4, q0, q1, hb4, hz4⟩ := box2 w3 (.int .i64 B) (.int .i64 L) 52
  have p6 := (hb4.cell (p := ⟨w.heap.size, 0, none⟩) (by show w.heap.size < _; omega)).trans p4
  have p7 := (hb4.cell (p := ⟨w.heap.size, 1, none⟩) (by show w.heap.size < _; omega)).trans p5
  have HW4 := Lib.hid hw4
  have hL64 : (L : Int) ≤ 64 := by omega
  have b4 := b3.trans (hb4.mono b3.size)
  clear hw4 p4 p5
  go_wp2_with fail
  rw [← HW4.out]
  go_wp2_with fail
  refine (tpCheckLength _ _ hL64).mono ?_
  rintro e w5 ⟨rfl, rfl⟩
  go_wp2_with fail
  refine (tpSpreadWord P D B L _ l3 (by omega) (by omega) (by omega)).mono ?_
  rintro e w6 ⟨rfl, hb6⟩
  rw [HSW.out]
  go_wp2
  go_ret2
  exact ⟨rfl, b4.trans (hb6.mono b4.size)⟩
end Go.Proofs.Ythihjphcjjpjpaa

/- An edge without an error: checkEdge of taper. -/
namespace Go.Proofs.Ythihjphcjjpjpaa
open Go.RowKit Go.Shelf Ck
attribute [local go_sem] Oper.semAt_some

theorem legs_ok (o : Bool) : ∀ (L : List UInt8) (k : Knot), (∀ c ∈ L, isL c) → okKnot k → k.x + 2 * (L.length : Int) ≤ 100000 → -100000 ≤ k.x - 2 * (L.length : Int) → k.y + 2 * (L.length : Int) ≤ 100000 →
    ∀ q ∈ legsL (sg o) k L, isL q.1 ∧ q.2.2 = stepK (sg o) q.2.1 q.1 ∧ okKnot q.2.1 ∧ okKnot q.2.2
  | [], _, _, _, _, _, _, q, hq => by simp [legsL] at hq
  | c :: r, k, hL, hk, h1, h2, h3, q, hq => by
    have hc := hL c (by simp)
    obtain ⟨n1, n2, n3, n4⟩ := step_near o (k := k) hc
    simp only [List.length_cons, Int.natCast_add, Int.natCast_one] at h1 h2 h3
    have hk' : okKnot (stepK (sg o) k c) := by
      obtain ⟨⟨a1, a2⟩, ⟨a3, a4⟩, a5⟩ := hk
      refine ⟨⟨by omega, by omega⟩, ⟨by omega, by omega⟩, ?_⟩
      rcases hc with rfl | rfl | rfl <;> cases o <;> simp [stepK, sg, dxL, dyL] <;> omega
    rw [legsL] at hq
    rcases List.mem_cons.1 hq with rfl | hq
    · exact ⟨hc, rfl, hk, hk'⟩
    · exact legs_ok o r _ (fun c' h' => hL c' (by simp [h'])) hk' (by omega) (by omega) (by omega) q hq

theorem one_cell' {W : World} {b : Nat} {u : Value} {t : TypeId} (h : W.heap[b]? = some (.cells #[u] t (0, 0))) : W.cell? ⟨b, 0, none⟩ = some u ∧ W.frozen? ⟨b, 0, none⟩ = false := by
  refine ⟨?_, ?_⟩ <;> simp [World.cell?, World.frozen?, h]
theorem one_set {W : World} {b : Nat} {u : Value} {t : TypeId} (h : W.heap[b]? = some (.cells #[u] t (0, 0))) (p : Value) : (W.setCell ⟨b, 0, none⟩ p).heap[b]? = some (.cells #[p] t (0, 0)) := by
  simp only [World.setCell, Array.getElem?_modify, if_true, h, Option.map_some]
  rfl
theorem bides_below {β : Type} {B n : Nat} {e : TypeId} {w : World} (hB : n ≤ B) (hn : n ≤ w.heap.size) : Bides B e (fun (_ : β) W => Below n w W) := fun _ _ _ _ hs hg hr =>
  hs.grown hg (by have := hs.size; omega) (fun k ek => Nat.le_trans hB (hr k ek).1)
theorem bides_block {β : Type} {B b : Nat} {e : TypeId} {o : Obj} (hb : b < B) : Bides B e (fun (_ : β) W => W.heap[b]? = some o) := fun _ _ _ _ hs hg hr =>
  (hg.block b (Array.getElem?_eq_some_iff.1 hs).1 (fun e' => by have := (hr b e'.symm).1; omega)).trans hs
theorem bides_size {β : Type} {B n : Nat} {e : TypeId} : Bides B e (fun (_ : β) W => n ≤ W.heap.size) := fun _ _ _ _ hs hg _ => Nat.le_trans hs hg.size

theorem legs_boxes (W0 : World) (x y n : Int) (s : ByteArray) (o : Bool) : ∃ W9, W9 = (((W0.alloc (.cells #[.int .i64 x, .int .i64 y] 23)).alloc (.cells #[.string s] 9)).alloc (.cells #[.int .i64 n] 3)).alloc (.cells #[.bool o] 4) ∧ Below W0.heap.size W0 W9 ∧ W9.heap.size = W0.heap.size + 4 ∧
    W9.heap[W0.heap.size]? = some (.cells #[.int .i64 x, .int .i64 y] 23 (0, 0)) ∧ W9.heap[W0.heap.size + 1]? = some (.cells #[.string s] 9 (0, 0)) ∧ W9.heap[W0.heap.size + 2]? = some (.cells #[.int .i64 n] 3 (0, 0)) ∧ W9.heap[W0.heap.size + 3]? = some (.cells #[.bool o] 4 (0, 0)) := by
  refine ⟨_, rfl, (((((Below.refl _ _).alloc (Nat.le_refl _) _).alloc (by simp) _).alloc (by simp; omega) _).alloc (by simp; omega) _), by simp, ?_, ?_, ?_, ?_⟩
  · rw [Below.heap_alloc _ _ _ (by simp; omega), Below.heap_alloc _ _ _ (by simp; omega), Below.heap_alloc _ _ _ (by simp)]
    exact heap_alloc_new _ _
  · rw [Below.heap_alloc _ _ _ (by simp), Below.heap_alloc _ _ _ (by simp)]
    have := heap_alloc_new (W0.alloc (.cells #[.int .i64 x, .int .i64 y] 23)) (.cells #[.string s] 9)
    rwa [World.size_alloc] at this
  · rw [Below.heap_alloc _ _ _ (by simp)]
    have := heap_alloc_new ((W0.alloc (.cells #[.int .i64 x, .int .i64 y] 23)).alloc (.cells #[.string s] 9)) (.cells #[.int .i64 n] 3)
    rwa [World.size_alloc, World.size_alloc] at this
  · have := heap_alloc_new (((W0.alloc (.cells #[.int .i64 x, .int .i64 y] 23)).alloc (.cells #[.string s] 9)).alloc (.cells #[.int .i64 n] 3)) (.cells #[.bool o] 4)
    rwa [World.size_alloc, World.size_alloc, World.size_alloc] at this

/-- An edge that is short and lies near the middle. -/
def EdgeOk (x y : Int) (s : ByteArray) (c : Nat) : Prop := Word s ∧ 1 ≤ c ∧ c * s.size ≤ 256 ∧ -90000 ≤ x ∧ x ≤ 90000 ∧ -90000 ≤ y ∧ y ≤ 90000 ∧ (x + y) % 2 = 0
theorem rep_len {s : ByteArray} {c : Nat} : (Lib.repeatL s.data.toList c).length = c * s.size := by rw [Lib.repeatL_length, ← Lib.size_eq]
theorem rep_letters {s : ByteArray} (hs : Word s) : ∀ (c : Nat), ∀ q ∈ Lib.repeatL s.data.toList c, isL q
  | 0, q, hq => by simp [Lib.repeatL] at hq
  | c + 1, q, hq => by rw [Lib.repeatL, List.mem_append] at hq; exact hq.elim (hs.1 q) (rep_letters hs c q)
theorem EdgeOk.legs {x y : Int} {s : ByteArray} {c : Nat} (h : EdgeOk x y s c) (o : Bool) : ∀ q ∈ legsL (sg o) ⟨x, y⟩ (Lib.repeatL s.data.toList c), isL q.1 ∧ q.2.2 = stepK (sg o) q.2.1 q.1 ∧ okKnot q.2.1 ∧ okKnot q.2.2 := by
  obtain ⟨hs, _, h2, x1, x2, y1, y2, hp⟩ := h
  have hl : (Lib.repeatL s.data.toList c).length ≤ 256 := by rw [rep_len]; exact h2
  exact legs_ok o _ _ (rep_letters hs c) ⟨⟨by simp; omega, by simp; omega⟩, ⟨by simp; omega, by simp; omega⟩, hp⟩ (by simp; omega) (by simp; omega) (by simp; omega)

set_option maxHeartbeats 4000000 in
set_option maxRecDepth 100000 in
theorem tpCheckEdge (x y : Int) (s : ByteArray) (c : Nat) (o : Bool) (w : World) (h : EdgeOk x y s c) :
    Calls Try.prog 32 #[.agg #[.int .i64 x, .int .i64 y], .string s, .int .i64 c, .bool o] w fun e w' => e = .returned (.int .i64 0) ∧ Below w.heap.size w w' := by
  have HL := Lib.hid (h.legs o)
  obtain ⟨hs, h1, h2, x1, x2, y1, y2, hp⟩ := h
  have HK := Lib.hid ((knotE_ok x y).2 ⟨⟨by simp; omega, by simp; omega⟩, ⟨by simp; omega, by simp; omega⟩, hp⟩)
  have HR := Lib.hid (show (if (c : Int) < 1 ∨ 256 < (c : Int) then (3 : Int) else 0) = 0 by
    rw [if_neg]
    have := Nat.mul_le_mul_left c hs.2.1
    omega)
  have hmul : (s.size : Int) * (c : Int) ≤ 256 := by
    rw [Int.mul_comm, ← Int.natCast_mul]
    omega
  have hmul0 : 0 ≤ (s.size : Int) * (c : Int) := Int.mul_nonneg (by omega) (by omega)
  have HS := Lib.hid hs
  clear hs h1 hp
  refine (callsIn_wide (n := 6)).1 (callsIn_of_wp_marks Try.func32 rfl trivial (wpIn_wide.2 ?_) rfl)
  simp only [Try.ntmps32, List.size_toArray, List.length_cons, List.length_nil, Nat.reduceAdd, Nat.reduceSub, Array.replicate_succ, Array.replicate_zero, List.push_toArray, List.append_toArray, List.nil_append, List.cons_append]
  obtain ⟨w1, hw1, hb1, hz1, ex, er⟩ : ∃ w1, w1 = (w.alloc (.cells #[.int .i64 x, .int .i64 y] 23)).alloc (.cells #[.int .i64 0] 32) ∧ Below w.heap.size w w1 ∧ w1.heap.size = w.heap.size + 2 ∧ w1.heap[w.heap.size]? = some (.cells #[.int .i64 x, .int .i64 y] 23 (0, 0)) ∧ w1.heap[w.heap.size + 1]? = some (.cells #[.int .i64 0] 32 (0, 0)) := by
    refine ⟨_, rfl, ((Below.refl _ _).alloc (Nat.le_refl _) _).alloc (by simp) _, by simp, ?_, ?_⟩
    · rw [Below.heap_alloc _ _ _ (by simp)]
      exact heap_alloc_new _ _
    · have := heap_alloc_new (w.alloc (.cells #[.int .i64 x, .int .i64 y] 23)) (.cells #[.int .i64 0] 32)
      rwa [World.size_alloc] at this
  have HW1 := Lib.hid hw1
  have HZ1 := Lib.hid hz1
  clear hw1 hz1
  go_wp2_with fail
  rw [← HW1.out]
  refine (netCheckKnot x y _).mono ?_
  rintro e w2 ⟨rfl, hb2⟩
  rw [HK.out]
  go_wp2_with fail
  refine (tpCheckWord s _ HS.out).mono ?_
  rintro e w3 ⟨rfl, hb3⟩
  go_wp2_with fail
  refine (tpCheckRange _ _ _ _).mono ?_
  rintro e w4 ⟨rfl, rfl⟩
  rw [HR.out]
  go_wp2_with fail
  refine (tpFirst3 _ _ 0 0 0 32 _ (by exact heap_alloc_new _ _)).mono ?_
  rintro e w5 ⟨rfl, rfl⟩
  rw [show firstE [0, 0, 0] = 0 from rfl]
  have b13 : Below w1.heap.size w1 w3 := hb2.trans (hb3.mono hb2.size)
  have b16 : Below w1.heap.size w1 (w3.alloc (.cells #[.int .i64 0, .int .i64 0, .int .i64 0] 32)) := b13.alloc b13.size _
  generalize w3.alloc (.cells #[.int .i64 0, .int .i64 0, .int .i64 0] 32) = w6 at *
  have hz1 := HZ1.out
  have ex6 := (b16.block _ (by omega)).trans ex
  have er6 := (b16.block _ (by omega)).trans er
  obtain ⟨f0, f1, -, -⟩ := two_cell ex6
  have bw6 := hb1.trans (b16.mono hb1.size)
  clear ex er hz1
  go_wp2_with fail
  refine (tpLegs x y s c o _).mono ?_
  rintro e w7 ⟨rfl, hw7⟩
  obtain ⟨W9, hW9, hb9, hz9, q0, q1, q2, q3⟩ := legs_boxes w6 x y c s o
  rw [← hW9] at hw7
  have hw7' := hw7.symm
  subst hw7'
  clear hW9
  have HZ9 := Lib.hid hz9
  have er9 := (hb9.block _ (Array.getElem?_eq_some_iff.1 er6).1).trans er6
  have her6 := (Array.getElem?_eq_some_iff.1 er6).1
  have bw9 := bw6.trans (hb9.mono bw6.size)
  clear hz9 f0 f1 hw7
  go_wp2_with fail
  have hvis := legs_visits w6.heap.size 4 w6.heap.size (w6.heap.size + 1) (w6.heap.size + 2) (w6.heap.size + 3) 82 (by omega) x y s c o W9 (by decide) HS.out h2 (by omega) (by omega) (by omega) (by omega) (by omega) (by rw [HZ9.out]; omega) q0 q1 q2 q3
  refine (wpIn_wide (n := 5)).1 ?_
  generalize hA0 : (Act.mk _ _) = A0
  refine wpIn_visits (n := 5) (by omega) (gf := 62) (lb := #[.pointer (some ⟨w6.heap.size, 0, none⟩), .pointer (some ⟨w6.heap.size + 1, 0, none⟩), .pointer (some ⟨w6.heap.size + 2, 0, none⟩), .pointer (some ⟨w6.heap.size + 3, 0, none⟩)]) (by rw [← hA0]; rfl) ?eg hvis KT.trans (KT.put (w := W9)) (fun _ => rfl)
    (fun _ W => Below w.heap.size w W ∧ (W.heap[w.heap.size + 1]? = some (.cells #[.int .i64 0] 32 (0, 0)) ∧ W9.heap.size ≤ W.heap.size))
    (Bides.and (bides_below bw9.size (Nat.le_refl _)) (Bides.and (bides_block (by rw [HZ9.out]; omega)) bides_size)) ⟨bw9, er9, Nat.le_refl _⟩ ?round ?done
  case eg => exact fun _ _ => by kernel_rfl
  case round =>
    rintro l pre q W hz ⟨hbW, herW, hsW⟩ ⟨r, hr⟩
    obtain ⟨hq1, hq2, hq3, hq4⟩ := HL.out q (by rw [hr]; simp)
    clear hq1 hq2 hq3
    have HKq := Lib.hid ((knotE_ok q.2.2.x q.2.2.y).2 hq4)
    subst hA0
    dsimp only [legArr]
    gi_wp2
    have hb0 : Below W.heap.size W (W.alloc (.cells #[.int .i32 (q.1.toNat : Int), .int .i64 q.2.1.x, .int .i64 q.2.1.y, .int .i64 q.2.2.x, .int .i64 q.2.2.y] 82)) := (Below.refl _ _).alloc (Nat.le_refl _) _
    refine ⟨Book.below hz hb0, KT.of_below hb0, fun Wb hg hobj _ => ?_⟩
    have hbx : Wb.heap[W.heap.size]? = some (.cells #[.int .i32 (q.1.toNat : Int), .int .i64 q.2.1.x, .int .i64 q.2.1.y, .int .i64 q.2.2.x, .int .i64 q.2.2.y] 82 (0, 0)) :=
      (hg.block _ (by simp) (fun e => by injection e; omega)).trans (heap_alloc_new _ _)
    obtain ⟨r0, r1, r2, r3, r4, -⟩ := five_of_block hbx
    obtain ⟨o1, ho1, ho2⟩ := hobj
    have hz9 := HZ9.out
    have hfk : Fence.wide.fn 28 := trivial
    have hfk' : (Fence.wide.inRound l).fn 28 := trivial
    have hn1 : 1 ≤ 5 - 1 - 1 := by decide
    have hbb : Below w.heap.size w Wb := (hbW.trans (hb0.mono hbW.size)).grown hg (by have := hbW.size; simp; omega) (fun k e => by cases e; have := bw9.size; omega)
    have heb : Wb.heap[w.heap.size + 1]? = some (.cells #[.int .i64 0] 32 (0, 0)) := (hg.block _ (by simp; omega) (fun e => by injection e; omega)).trans ((hb0.block _ (by omega)).trans herW)
    have hsb : W9.heap.size + 2 ≤ Wb.heap.size := by have := hg.size; simp at this; omega
    gi_wp2_with (gi_at_call 28; refine (CallsIn.inRound l (callsIn_wide.2 (netCheckKnot _ _ _))).mono ?_; rintro e W2 ⟨rfl, hb2⟩; rw [HKq.out])
    exact ⟨Book.below hsb hb2, KT.of_below hb2, hbb.trans (hb2.mono hbb.size), (hb2.block _ (Array.getElem?_eq_some_iff.1 heb).1).trans heb, by have := hb2.size; omega⟩
  case done =>
    rintro D ys W hD hS ⟨hbW, herW, hsW⟩ hK
    subst hA0
    obtain ⟨k0, k1⟩ := one_cell' herW
    have hDn : D ≠ w.heap.size + 1 := by have := HZ9.out; omega
    go_wp2
    have hK' : (W.setCell ⟨w.heap.size + 1, 0, none⟩ (.int .i64 0)).heap[D]? = some (.deferred (some [])) := (Below.heap_setCell _ _ _ D hDn).trans hK
    have hbf : Below w.heap.size w (W.setCell ⟨w.heap.size + 1, 0, none⟩ (.int .i64 0)) := hbW.setCell (by simp) _
    refine ⟨by simp, .inl ⟨_, _, rfl, run_takeDeferred hK', ?_⟩⟩
    refine ⟨.int .i64 0, ?_, rfl, hbf.trans (belowK_b (w := W9) (n₀ := w.heap.size) bw9.size _ D _ _ hD hK' rfl rfl)⟩
    have hcl := one_cell ((World.putObj_heap_other (r := D) (o := .deferred none) (k := w.heap.size + 1) (fun e => hDn e.symm)).trans (one_set herW (.int .i64 0)))
    simp [results, Try.results32, go_sem, hcl]
end Go.Proofs.Ythihjphcjjpjpaa

/- Contracts of merged and Union at valid nets. -/
namespace Go.Proofs.Ythihjphcjjpjpaa
open Go.RowKit

def TwoPost (l l' : List Ck.Bar) (w : World) (e : Ending) (w' : World) : Prop :=
  ∃ v, e = .returned (.tuple #[v, .int .i64 0]) ∧ w'.ownsRow w.heap.size 48 3 v (mergeU l l').length (bcellsL (mergeU l l')) ∧ Below w.heap.size w w'
theorem ownsRow_mono {w : World} {base base' : Nat} {e : TypeId} {size n : Nat} {v : Value} {xs : List Value} (h : w.ownsRow base e size v n xs) (hb : base' ≤ base) : w.ownsRow base' e size v n xs := by
  refine ⟨h.1, ?_⟩
  rcases h.2 with h2 | ⟨g, cap, cur, h1, h2, h3⟩
  · exact .inl h2
  · exact .inr ⟨g, cap, cur, h1, by omega, h3⟩

set_option maxHeartbeats 2000000 in
set_option maxRecDepth 100000 in
theorem netMerged (A A' : Option Addr) (c c' : Nat) (l l' : List Ck.Bar) (w : World) (hl : l.length ≤ 4096) (hl' : l'.length ≤ 4096) (hc : l.length ≤ c) (hcm : c ≤ maxLen) (hc' : l'.length ≤ c') (hcm' : c' ≤ maxLen) (hN : Ck.Net l) (hN' : Ck.Net l') (h : RB w w.heap.size A l) (h' : RB w w.heap.size A' l') :
    Calls Try.prog 36 #[.slice A l.length c, .slice A' l'.length c', .func (.func 38) #[] #[]] w (TwoPost l l' w) := by
  have HR := Lib.hid h
  have HR' := Lib.hid h'
  have HE := Lib.hid ((netE_zero l).2 ⟨hl, hN⟩)
  have HE' := Lib.hid ((netE_zero l').2 ⟨hl', hN'⟩)
  clear h h' hN hN'
  go_enter Try.func36, Try.ntmps36
  go_wp2_with fail
  refine (netCheckNet A c l _ hl hc hcm HR.out).mono ?_
  rintro e w1 ⟨rfl, hb1⟩
  rw [HE.out]
  go_wp2_with fail
  refine (netCheckNet A' c' l' _ hl' hc' hcm' ((HR'.out.below hb1).more hb1.size)).mono ?_
  rintro e w2 ⟨rfl, hb2⟩
  rw [HE'.out]
  have hq2 := hb1.trans (hb2.mono hb1.size)
  go_wp2_with fail
  refine (netFirst2 _ _ 0 0 32 _ (by exact heap_alloc_new _ _)).mono ?_
  rintro e w3 ⟨rfl, rfl⟩
  rw [show firstE [0, 0] = 0 from rfl]
  have hq3 := hq2.alloc hq2.size (.cells #[.int .i64 0, .int .i64 0] 32)
  go_wp2_with fail
  refine (netMergeU A A' c c' l l' _ hl hl' hc hcm hc' hcm' ((HR.out.below hq3).more hq3.size) ((HR'.out.below hq3).more hq3.size)).mono ?_
  rintro e w4 ⟨v, rfl, hown, hb4⟩
  have HO := Lib.hid (ownsRow_mono hown hq3.size)
  clear hown
  go_wp2
  go_ret2
  exact ⟨v, rfl, HO.out, hq3.trans (hb4.mono hq3.size)⟩
end Go.Proofs.Ythihjphcjjpjpaa

/- Sheet of the program, at a sheet without an error. -/
namespace Go.Proofs.Ythihjphcjjpjpaa
open Go.RowKit Go.Shelf Ck
attribute [local go_sem] Oper.semAt_some

theorem sheet_stops (n : Nat) (hn : 2 ≤ n) (x y : Int) (cols rows Br Bc Ba B1 B2 : Nat) (hc1 : cols ≤ 256) (hr1 : rows ≤ 256) (hx1 : -100000 ≤ x) (hx2 : x ≤ 100000) (hy1 : -100000 ≤ y) (hy2 : y ≤ 100000) (w : World) (hB : B2 ≤ w.heap.size) (hBr : B1 ≤ Br) (hBr' : Br < B2) (hBc : B1 ≤ Bc) (hBc' : Bc < B2) (hBa : B1 ≤ Ba) (hBa' : Ba < B2)
    (mr : w.cell? ⟨Br, 0, none⟩ = some (.int .i64 rows)) (mc : w.cell? ⟨Bc, 0, none⟩ = some (.int .i64 cols)) (mx : w.cell? ⟨Ba, 0, none⟩ = some (.int .i64 x)) (my : w.cell? ⟨Ba, 1, none⟩ = some (.int .i64 y)) :
    SeqStopsK Fence.wide n Try.prog 58 #[.pointer (some ⟨Br, 0, none⟩), .pointer (some ⟨Bc, 0, none⟩), .pointer (some ⟨Ba, 0, none⟩)] barArr (KR B1 B2) (fun ss => ss = sheetP x y cols rows) (fun _ => True) 200000 w := fun l J Jx W hW hJ _ hY h0 =>
  sheet1_in l Br Bc Ba B1 B2 n hn x y cols rows hc1 hr1 hx1 hx2 hy1 hy2 J Jx hY W hJ (Nat.le_trans hB hW.size) hBr hBr' hBc hBc' hBa hBa' ((hW.cell (p := ⟨Br, 0, none⟩) (by show Br < _; omega)).trans mr) ((hW.cell (p := ⟨Bc, 0, none⟩) (by show Bc < _; omega)).trans mc) ((hW.cell (p := ⟨Ba, 0, none⟩) (by show Ba < _; omega)).trans mx) ((hW.cell (p := ⟨Ba, 1, none⟩) (by show Ba < _; omega)).trans my) h0

theorem netSheetBars (x y c r : Int) (w : World) :
    Calls Try.prog 31 #[.agg #[.int .i64 x, .int .i64 y], .int .i64 c, .int .i64 r] w fun e w' => e = .returned (.func (.func 58) #[] #[.pointer (some ⟨w.heap.size + 2, 0, none⟩), .pointer (some ⟨w.heap.size + 1, 0, none⟩), .pointer (some ⟨w.heap.size, 0, none⟩)]) ∧
      w' = ((w.alloc (.cells #[.int .i64 x, .int .i64 y] 23)).alloc (.cells #[.int .i64 c] 3)).alloc (.cells #[.int .i64 r] 3) := by
  go_enter Try.func31, Try.ntmps31
  go_wp2
  go_ret
  exact ⟨by simp, rfl⟩

theorem KR.appended {W w1 : World} {Bo B1 B2 : Nat} {e : TypeId} {size k : Nat} {v : Value} {xs : List Value} {tmp : Obj} (hB : Bo < B1) (hz : B2 ≤ W.heap.size) (hrow : W.ownsRow B2 e size v k xs) (hgrow : (W.alloc tmp).grownBy w1 v.ownBlock) (v' : Value) : KR B1 B2 W (w1.setCell ⟨Bo, 0, none⟩ v') := by
  refine ⟨?_, fun b h1 h2 => ?_⟩
  · have := hgrow.size; simp at this ⊢; omega
  · have e1 : (w1.setCell ⟨Bo, 0, none⟩ v').heap[b]? = w1.heap[b]? := (grownBy_setCell' w1 Bo v').block b (by have := hgrow.size; simp at this; omega) (fun e => by cases e; omega)
    rw [e1, hgrow.block b (by simp; omega) (fun e => by have := ownsRow_base hrow b e.symm; omega)]
    exact Below.heap_alloc _ _ _ (by omega)

theorem sheet_boxes (W0 : World) (x y c r : Int) : ∃ W9, W9 = ((W0.alloc (.cells #[.int .i64 x, .int .i64 y] 23)).alloc (.cells #[.int .i64 c] 3)).alloc (.cells #[.int .i64 r] 3) ∧ Below W0.heap.size W0 W9 ∧ W9.heap.size = W0.heap.size + 3 ∧
    W9.cell? ⟨W0.heap.size, 0, none⟩ = some (.int .i64 x) ∧ W9.cell? ⟨W0.heap.size, 1, none⟩ = some (.int .i64 y) ∧ W9.cell? ⟨W0.heap.size + 1, 0, none⟩ = some (.int .i64 c) ∧ W9.cell? ⟨W0.heap.size + 2, 0, none⟩ = some (.int .i64 r) := by
  obtain ⟨w1, hw1, h0, h1, hb1, hz1⟩ := box2 W0 (.int .i64 x) (.int .i64 y) 23
  have hs1 : w1.heap.size = W0.heap.size + 1 := by rw [hw1]; simp
  have bc := (Boxed.new w1 3 (.int .i64 c)).cell
  have hs2 : (w1.alloc (.cells #[.int .i64 c] 3)).heap.size = W0.heap.size + 2 := by simp; omega
  have br := (Boxed.new (w1.alloc (.cells #[.int .i64 c] 3)) 3 (.int .i64 r)).cell
  have b2 : Below w1.heap.size w1 (w1.alloc (.cells #[.int .i64 c] 3)) := (Below.refl _ _).alloc (Nat.le_refl _) _
  have b3 : Below (w1.alloc (.cells #[.int .i64 c] 3)).heap.size (w1.alloc (.cells #[.int .i64 c] 3)) ((w1.alloc (.cells #[.int .i64 c] 3)).alloc (.cells #[.int .i64 r] 3)) := (Below.refl _ _).alloc (Nat.le_refl _) _
  rw [← hw1]
  rw [hs1] at bc
  rw [hs2] at br
  refine ⟨_, rfl, hb1.trans ((b2.trans (b3.mono b2.size)).mono hb1.size), by simp; omega, ?_, ?_, ?_, br⟩
  · exact ((b3.cell (p := ⟨W0.heap.size, 0, none⟩) (by show W0.heap.size < _; omega)).trans (b2.cell (p := ⟨W0.heap.size, 0, none⟩) (by show W0.heap.size < _; omega))).trans h0
  · exact ((b3.cell (p := ⟨W0.heap.size, 1, none⟩) (by show W0.heap.size < _; omega)).trans (b2.cell (p := ⟨W0.heap.size, 1, none⟩) (by show W0.heap.size < _; omega))).trans h1
  · exact (b3.cell (p := ⟨W0.heap.size + 1, 0, none⟩) (by show W0.heap.size + 1 < _; omega)).trans bc
/-- A box of three cells. -/
def Box3 (W : World) (B : Nat) (t : TypeId) (a b c : Value) : Prop := W.heap[B]? = some (.cells #[a, b, c] t (0, 0))
theorem Box3.cells {W : World} {B : Nat} {t : TypeId} {a b c : Value} (h : Box3 W B t a b c) : W.cell? ⟨B, 0, none⟩ = some a ∧ W.cell? ⟨B, 1, none⟩ = some b ∧ W.cell? ⟨B, 2, none⟩ = some c ∧ B < W.heap.size := by
  refine ⟨?_, ?_, ?_, (Array.getElem?_eq_some_iff.1 h).1⟩ <;> simp [World.cell?, show W.heap[B]? = _ from h]
theorem Box3.new (W : World) (t : TypeId) (a b c : Value) : Box3 (W.alloc (.cells #[a, b, c] t)) W.heap.size t a b c := World.alloc_heap_new W _
theorem box3_own (B : Nat) (t : TypeId) (a b c : Value) : Own (fun (_ : Unit) W => Box3 W B t a b c) := fun s X Y row hs hg hrow =>
  (hg.block B (Array.getElem?_eq_some_iff.1 hs).1 (fun e' => by obtain ⟨o, ho, hc⟩ := hrow B e'.symm; rw [show X.heap[B]? = _ from hs] at ho; cases ho; cases hc)).trans hs
theorem sheet_step {W w1 : World} {Bo B1 B2 : Nat} {t e : TypeId} {size k m : Nat} {v v' : Value} {xs ys : List Value} {tmp : Obj} (hte : t ≠ e) (hB : Bo < B1) (hB2 : B1 ≤ B2) (hz : B2 ≤ W.heap.size) (hv : Boxed W Bo t v) (hrow : W.ownsRow B2 e size v k xs) (hown' : w1.ownsRow B2 e size v' m ys) (hgrow : (W.alloc tmp).grownBy w1 v.ownBlock) :
    Boxed w1 Bo t v ∧ Boxed (w1.setCell ⟨Bo, 0, none⟩ v') Bo t v' ∧ KeepsOthers W (w1.setCell ⟨Bo, 0, none⟩ v') ∧ Below Bo W (w1.setCell ⟨Bo, 0, none⟩ v') ∧ (w1.setCell ⟨Bo, 0, none⟩ v').ownsRow B2 e size v' m ys ∧ KR B1 B2 W (w1.setCell ⟨Bo, 0, none⟩ v') := by
  obtain ⟨h1, h2, h3, h4, h5⟩ := hv.appended hte (ownsRow_mono hrow (by omega : Bo ≤ B2)) (by omega) (Nat.le_refl _) (ownsRow_mono hown' (by omega)) hgrow
  exact ⟨h1, h2, h4, h5, hown'.kept (grownBy_setCell' w1 Bo v') (.inr (h1.not_row hte hown').symm), KR.appended hB hz hrow hgrow v'⟩
def SheetPost (l : List Ck.Bar) (w : World) (e : Ending) (w' : World) : Prop :=
  ∃ v, e = .returned (.tuple #[v, .int .i64 0]) ∧ w'.ownsRow w.heap.size 48 3 v l.length (bcellsL l) ∧ Below w.heap.size w w'
theorem netSide (n : Int) (w : World) : Calls Try.prog 29 #[.int .i64 n, .int .i64 1, .int .i64 256] w fun e w' => e = .returned (.int .i64 (sideR n)) ∧ w = w' := netCheckRange n 1 256 w

set_option maxHeartbeats 2000000 in
set_option maxRecDepth 100000 in
theorem netSheet (x y : Int) (c r : Nat) (w : World) (hE : sheetE x y c r = 0) :
    Calls Try.prog 9 #[.agg #[.int .i64 x, .int .i64 y], .int .i64 c, .int .i64 r] w (SheetPost (sheetP x y c r) w) := by
  obtain ⟨hs, hm, hf1, hf2⟩ := sheetE_zero hE
  obtain ⟨hk, c1, c2, r1, r2⟩ := sheet1_zero hs
  obtain ⟨x1, x2, y1, y2⟩ := knotE_zero hk
  have HS := Lib.hid (show firstE [knotE x y, sideR c, sideR r] = 0 from hs)
  have HP := Lib.hid (show firstE [placeE (x + 2 * (c : Int)), placeE (y + (r : Int))] = 0 by simp [firstE, placeE, hf1, hf2])
  have hm1 : -200000 ≤ 2 * (c : Int) * (r : Int) := by
    have := Int.mul_nonneg (a := 2 * (c : Int)) (b := (r : Int)) (by omega) (by omega)
    omega
  obtain ⟨w1, hw1, h0, h1, hb1, hz1⟩ := box2 w (.int .i64 x) (.int .i64 y) 23
  have HW1 := Lib.hid hw1
  clear hw1 hE hs hk hf1 hf2
  refine (callsIn_wide (n := 3)).1 (callsIn_of_wp_marks Try.func9 rfl trivial (wpIn_wide.2 ?_) rfl)
  simp only [Try.ntmps9, List.size_toArray, List.length_cons, List.length_nil, Nat.reduceAdd, Nat.reduceSub, Array.replicate_succ, Array.replicate_zero, List.push_toArray, List.append_toArray, List.nil_append, List.cons_append]
  go_wp2_with fail
  rw [← HW1.out]
  refine (netCheckKnot x y _).mono ?_
  rintro e w2 ⟨rfl, hb2⟩
  go_wp2_with fail
  refine (netSide c _).mono ?_
  rintro e w3 ⟨rfl, rfl⟩
  go_wp2_with fail
  refine (netSide r _).mono ?_
  rintro e w4 ⟨rfl, rfl⟩
  go_wp2_with fail
  refine (netFirst3 _ _ (knotE x y) (sideR c) (sideR r) 32 _ (by exact heap_alloc_new _ _)).mono ?_
  rintro e w5 ⟨rfl, rfl⟩
  rw [HS.out]
  have hb3 : Below w.heap.size w (w2.alloc (.cells #[.int .i64 (knotE x y), .int .i64 (sideR c), .int .i64 (sideR r)] 32)) := (hb1.trans (hb2.mono (by omega))).alloc (by have := hb2.size; omega) _
  have hb4 : Below w1.heap.size w1 (w2.alloc (.cells #[.int .i64 (knotE x y), .int .i64 (sideR c), .int .i64 (sideR r)] 32)) := hb2.alloc hb2.size _
  generalize w2.alloc (.cells #[.int .i64 (knotE x y), .int .i64 (sideR c), .int .i64 (sideR r)] 32) = w6 at *
  have e0 := (hb4.cell (p := ⟨w.heap.size, 0, none⟩) hz1).trans h0
  have e1 := (hb4.cell (p := ⟨w.heap.size, 1, none⟩) hz1).trans h1
  clear h0 h1
  go_wp2_with fail
  refine wp_region_still_tail 11 (by kernel_rfl) (by kernel_rfl) ?_
  simp only [List.take_succ_cons, List.take_zero, List.drop_succ_cons, List.drop_zero]
  still_step
  still_step
  still_step
  still_step
  still_step
  still_call (Calls.mono (netCheckPlace _ _) fun _ _ h => ⟨h.1, h.2.symm⟩)
  still_step
  still_step
  still_step
  still_step
  still_call (Calls.mono (netCheckPlace _ _) fun _ _ h => ⟨h.1, h.2.symm⟩)
  refine wpStill_nil ?_
  change wpList _ _ _ _ _ w6.drew
  go_wp2_with fail
  refine (netFirst2 _ _ (placeE (x + 2 * (c : Int))) (placeE (y + (r : Int))) 32 _ (by exact heap_alloc_new _ _)).mono ?_
  rintro e w7 ⟨rfl, rfl⟩
  rw [HP.out]
  have hz6 := hb4.size
  have hb5 : Below w.heap.size w (w6.alloc (.cells #[.int .i64 (placeE (x + 2 * (c : Int))), .int .i64 (placeE (y + (r : Int)))] 32)).drew := below_drew (hb3.alloc (by omega) _)
  have hb6 : Below w1.heap.size w1 (w6.alloc (.cells #[.int .i64 (placeE (x + 2 * (c : Int))), .int .i64 (placeE (y + (r : Int)))] 32)).drew := below_drew (hb4.alloc (by omega) _)
  generalize (w6.alloc (.cells #[.int .i64 (placeE (x + 2 * (c : Int))), .int .i64 (placeE (y + (r : Int)))] 32)).drew = w8 at *
  have g0 := (hb6.cell (p := ⟨w.heap.size, 0, none⟩) hz1).trans ((hb4.cell (p := ⟨w.heap.size, 0, none⟩) hz1).symm.trans e0)
  have g1 := (hb6.cell (p := ⟨w.heap.size, 1, none⟩) hz1).trans ((hb4.cell (p := ⟨w.heap.size, 1, none⟩) hz1).symm.trans e1)
  clear e0 e1
  have hz8 := hb6.size
  have bO := Boxed.new w8 31 (.slice none 0 0)
  have hb7 : Below w8.heap.size w8 (w8.alloc (.cells #[.slice none 0 0] 31)) := (Below.refl _ _).alloc (Nat.le_refl _) _
  have hsz : (w8.alloc (.cells #[.slice none 0 0] 31)).heap.size = w8.heap.size + 1 := by simp
  have k0 := (hb7.cell (p := ⟨w.heap.size, 0, none⟩) (by show w.heap.size < _; omega)).trans g0
  have k1 := (hb7.cell (p := ⟨w.heap.size, 1, none⟩) (by show w.heap.size < _; omega)).trans g1
  obtain ⟨W0, hW0⟩ : ∃ W0, w8.alloc (.cells #[.slice none 0 0] 31) = W0 := ⟨_, rfl⟩
  rw [hW0] at bO hb7 hsz
  have HW0 := Lib.hid hW0
  clear hW0
  have HSZ := Lib.hid hsz
  clear hsz
  go_wp2_with fail
  rw [HW0.out]
  refine (netSheetBars x y c r _).mono ?_
  rintro e w9 ⟨rfl, hw9⟩
  obtain ⟨W9, hW9, hb9, hz9, m0, m1, m2, m3⟩ := sheet_boxes W0 x y c r
  rw [← hW9] at hw9
  have hw9' := hw9.symm
  subst hw9'
  have HW9 := Lib.hid hW9
  clear hW9
  have hz0 := HSZ.out
  have hbW : Below w.heap.size w W0 := by
    have := hb5.trans (hb7.mono hb5.size)
    exact this
  have bO9 : Boxed W9 w8.heap.size 31 (.slice none 0 0) := (hb9.block _ (by omega)).trans bO
  have hbw9 : Below w.heap.size w W9 := hbW.trans (hb9.mono hbW.size)
  have HZ9 := Lib.hid hz9
  have HZ0 := Lib.hid hz0
  clear hz9 hz0
  go_wp2_with fail
  have hseq := sheet_stops 2 (by omega) x y c r (W0.heap.size + 2) (W0.heap.size + 1) W0.heap.size W0.heap.size (W0.heap.size + 3) (by omega) (by omega) x1 x2 y1 y2 W9 (by rw [HZ9.out]; omega) (by omega) (by omega) (by omega) (by omega) (by omega) (by omega) m3 m2 m0 m1
  refine (wpIn_wide (n := 3)).1 ?_
  have q1 : IntKind.i64.wrap (2 * (c : Int)) = 2 * (c : Int) := by rw [IntKind.wrap_i64]; omega
  have q2 : IntKind.i64.wrap (x + 2 * (c : Int)) = x + 2 * (c : Int) := by rw [IntKind.wrap_i64]; omega
  have q3 : IntKind.i64.wrap (y + (r : Int)) = y + (r : Int) := by rw [IntKind.wrap_i64]; omega
  simp only [q1, q2, q3]
  clear q1 q2 q3
  obtain ⟨ib, hib, hb0, hb01, hb02⟩ := info_parts Try.info48
  have HB := Lib.hid hib
  have HB0 := Lib.hid hb0
  have HB1 := Lib.hid hb01
  have HB2 := Lib.hid hb02
  clear hib hb0 hb01 hb02
  generalize hA0 : (Act.mk _ _) = A0
  refine wpIn_rangeFunc_ownH rfl (by omega) (gf := 58) (lb := #[.pointer (some ⟨W0.heap.size + 2, 0, none⟩), .pointer (some ⟨W0.heap.size + 1, 0, none⟩), .pointer (some ⟨W0.heap.size, 0, none⟩)]) (by rw [← hA0]; rfl) trivial ?eg hseq KR.trans (KR.put (w := W9) (by rw [HZ9.out]; omega)) (Below.refl _ _) (fun _ => rfl)
    (fun pre W => (∃ v, Boxed W w8.heap.size 31 v ∧ W.ownsRow (W0.heap.size + 3) 48 3 v pre.length (bcellsL pre) ∧ True) ∧ Below w.heap.size w W ∧ Below W9.heap.size W9 W9 ∧ W9.heap.size ≤ W.heap.size)
    (fun _ _ _ => False)
    (OwnFrom.and (Own.from (holdsRow_own (W0.heap.size + 3) w8.heap.size 31 48 3 (fun pre : List Ck.Bar => pre.length) (fun pre => bcellsL pre) (fun _ _ => True)) _) (OwnFrom.and (ownFrom_below (Nat.le_refl _) (by rw [HZ9.out, HZ0.out]; omega)) ?sz))
    (fun _ _ _ _ _ hs _ _ => hs)
    ⟨⟨_, bO9, World.ownsRow_nil _ _ _ _, trivial⟩, hbw9, Below.refl _ _, Nat.le_refl _⟩
    (fun b a' W => ∃ Bx, w8.heap.size < Bx ∧ Box3 W Bx 48 (.int .i64 b.x) (.int .i64 b.y) (.int .i64 b.s) ∧ a' = { tmps := (A0.tmps.setIfInBounds 48 (.agg #[.int .i64 b.x, .int .i64 b.y, .int .i64 b.s])).setIfInBounds 11 (.pointer (some ⟨Bx, 0, none⟩)), defers := [] })
    (fun x a' _ X Y row hs hg hr => by obtain ⟨Bx, h1, h2, h3⟩ := hs; exact ⟨Bx, h1, box3_own Bx _ _ _ _ () X Y row h2 hg (fun r e => (hr r e).2), h3⟩)
    ?assign ?body ?done ?stop
  case eg => exact fun _ _ => by kernel_rfl
  case sz => exact fun s X Y row hs hg hr => ⟨hs.1, Nat.le_trans hs.2 hg.size⟩
  case assign =>
    rintro l pre b W K ⟨⟨v, hv, hrow, -⟩, hB1, hB2, hB3⟩ hK
    subst hA0
    have hz8 := HZ9.out
    have hz7 := HZ0.out
    dsimp only [barArr]
    gi_wp2
    exact hK _ _ ((KeepsOthers.alloc _ _).from _) (KR.of_below ((Below.refl _ _).alloc (Nat.le_refl _) _) (by omega)) ⟨⟨v, hv.alloc _, hrow.alloc _, trivial⟩, hB1.alloc hB1.size _, hB2, by simp; omega⟩ ⟨W.heap.size, by omega, Box3.new W _ _ _ _, by simp⟩
  case body =>
    rintro l pre b a' W hl ⟨r, hr⟩ ⟨⟨v, hv, hrow, -⟩, hB, hB2, hB3⟩ ⟨Bx, hBx, bX, rfl⟩ hlt
    subst hA0
    have hz8 := HZ9.out
    have hz7 := HZ0.out
    have hc := hv.cell
    obtain ⟨x0, x1', x2', xl⟩ := bX.cells
    gi_wp2_with (gi_at_builtin; refine wpListIn_append_own _ rfl _ _ 31 rfl (W0.heap.size + 3) 48 ib (.agg #[.int .i64 0, .int .i64 0, .int .i64 0]) 3 24 Try.underlying31 HB.out HB0.out HB1.out HB2.out rfl (by decide) _ _ _ rfl (hrow.alloc _) ⟨W.heap.size, 0, none⟩ 1 1 [.int .i64 b.x, .int .i64 b.y, .int .i64 b.s] rfl rfl (three_new _ _ _ _ _) (by intro u hu; simp at hu; rcases hu with rfl | rfl | rfl <;> rfl) (by unfold maxLen; omega) (by omega) (by simp; omega) ?_; intro v' w1 hown' hgrow _; obtain ⟨g', cap', rfl⟩ := ownsRow_succ hown'; obtain ⟨hv1, hv2, hk2, hb2, hr2⟩ := sheet_step (B1 := W0.heap.size) (by decide) (by omega) (by omega) (by omega) hv hrow hown' hgrow; have hc1 := hv1.cell; have hf1 := hv1.frozen)
    exact ⟨hk2.from _, hr2.2, ⟨_, hv2, by rw [bcellsL_snoc]; simpa using hr2.1, trivial⟩, hB.trans (hb2.mono (by omega)), hB2, Nat.le_trans hB3 hb2.size⟩
  case done =>
    rintro D ys W hD hS ⟨⟨v, hv, hrow, -⟩, hB, -, hB3⟩ hK
    subst hA0
    subst hS
    have hc := hv.cell
    go_wp2
    have hz8 := HZ9.out
    have hz7 := HZ0.out
    refine ⟨by simp, .inl ⟨_, _, rfl, run_takeDeferred hK, ?_⟩⟩
    refine ⟨_, results_tmp2 rfl _ _ _, v, rfl, ownsRow_mono (ownsRow_putObj hrow _ hK rfl) ?_, hB.trans (belowK_b (w := W9) (n₀ := w.heap.size) hbw9.size W D _ _ hD hK rfl rfl)⟩
    have := hbW.size
    omega
  case stop =>
    rintro D c pre W _ _ h _
    exact h.elim
end Go.Proofs.Ythihjphcjjpjpaa

/- The bars along an edge: Bars of taper. -/
namespace Go.Proofs.Ythihjphcjjpjpaa
open Go.RowKit Go.Shelf Ck
attribute [local go_sem] Oper.semAt_some

def barsOf (l : List (UInt8 × Knot × Knot)) : List Bar := l.flatMap fun q => if q.1 = 66 then [⟨q.2.1.x, q.2.1.y, q.2.2.x - q.2.1.x⟩] else []
theorem barsOf_snoc (l : List (UInt8 × Knot × Knot)) (q : UInt8 × Knot × Knot) : barsOf (l ++ [q]) = barsOf l ++ (if q.1 = 66 then [⟨q.2.1.x, q.2.1.y, q.2.2.x - q.2.1.x⟩] else []) := by simp [barsOf]
theorem barsOf_legs (σ : Int) : ∀ (L : List UInt8) (k : Knot), barsOf (legsL σ k L) = barsP σ k L
  | [], _ => rfl
  | c :: r, k => by
    have ih := barsOf_legs σ r (stepK σ k c)
    have e : barsOf (legsL σ k (c :: r)) = (if c = 66 then [⟨k.x, k.y, (stepK σ k c).x - k.x⟩] else []) ++ barsOf (legsL σ (stepK σ k c) r) := by simp [barsOf, legsL]
    rw [e, ih, barsP_cons]
    by_cases h : c = 66
    · subst h
      simp [step_B]
      omega
    · simp [h]
theorem bides_row {β : Type} {B Bo n₀ : Nat} {e te t : TypeId} {size : Nat} (k : β → Nat) (f : β → List Value) (hB : Bo < B) (hne : te ≠ e) : Bides B e (fun (s : β) W => ∃ v, Boxed W Bo t v ∧ W.ownsRow n₀ te size v (k s) (f s)) := by
  rintro s W W' r ⟨v, hv, hr⟩ hg hrow
  refine ⟨v, (hg.block Bo (Array.getElem?_eq_some_iff.1 hv).1 (fun e' => by have := (hrow Bo e'.symm).1; omega)).trans hv, hr.kept hg ?_⟩
  rcases hr.2 with ⟨rfl, _⟩ | ⟨g, cap, cur, rfl, _, hgb, _⟩
  · exact .inl rfl
  · refine .inr fun e' => ?_
    obtain ⟨_, o, ho, hk⟩ := hrow g (by simpa [Value.ownBlock] using e'.symm)
    rw [hgb] at ho
    cases ho
    rcases hk with hk | ⟨cs, f', hk, _⟩
    · cases hk
    · injection hk with _ h2
      exact hne h2
theorem KT.appended {W w1 : World} {Bo B1 n₀ : Nat} {e : TypeId} {size k : Nat} {v : Value} {xs : List Value} {tmp : Obj} (hB : Bo < B1) (hne : e ≠ 23) (hrow : W.ownsRow n₀ e size v k xs) (hgrow : (W.alloc tmp).grownBy w1 v.ownBlock) (v' : Value) : KT B1 e W (w1.setCell ⟨Bo, 0, none⟩ v') := by
  refine ⟨?_, fun b o hb ho hk => ?_⟩
  · have := hgrow.size; simp at this ⊢; omega
  · have hlt := (Array.getElem?_eq_some_iff.1 ho).1
    have hnb : some b ≠ v.ownBlock := by
      intro e'
      rcases hrow.2 with ⟨rfl, _⟩ | ⟨g, cap, cur, rfl, _, hgb, _⟩
      · simp [Value.ownBlock] at e'
      · obtain rfl : b = g := by simpa [Value.ownBlock] using e'
        rw [hgb] at ho
        cases ho
        rcases hk with hk | ⟨cs, t, f, hk, hk2⟩
        · cases hk
        · injection hk with _ h2
          rcases hk2 with hk2 | ⟨hk2, _⟩
          · exact hk2 h2.symm
          · exact hne (h2.trans hk2)
    rw [Below.heap_setCell _ _ _ b (by show b ≠ Bo; omega), hgrow.block b (by simp; omega) hnb, Below.heap_alloc _ _ _ hlt]
    exact ho

set_option maxHeartbeats 4000000 in
set_option maxRecDepth 100000 in
theorem tpBars (x y : Int) (s : ByteArray) (c : Nat) (o : Bool) (w : World) (h : EdgeOk x y s c) :
    Calls Try.prog 10 #[.agg #[.int .i64 x, .int .i64 y], .string s, .int .i64 c, .bool o] w (SheetPost (barsP (sg o) ⟨x, y⟩ (Lib.repeatL s.data.toList c)) w) := by
  have HE := Lib.hid h
  have HL := Lib.hid (h.legs o)
  have HLEN := Lib.hid (show (legsL (sg o) ⟨x, y⟩ (Lib.repeatL s.data.toList c)).length ≤ 256 by rw [legsL_length, rep_len]; exact h.2.2.1)
  obtain ⟨hs, h1, h2, x1, x2, y1, y2, hp⟩ := h
  have HS := Lib.hid hs
  clear hs h1 hp
  refine (callsIn_wide (n := 6)).1 (callsIn_of_wp_marks Try.func10 rfl trivial (wpIn_wide.2 ?_) rfl)
  simp only [Try.ntmps10, List.size_toArray, List.length_cons, List.length_nil, Nat.reduceAdd, Nat.reduceSub, Array.replicate_succ, Array.replicate_zero, List.push_toArray, List.append_toArray, List.nil_append, List.cons_append]
  obtain ⟨w1, hw1, e0, e1, hb1, hz1⟩ := box2 w (.int .i64 x) (.int .i64 y) 23
  have HW1 := Lib.hid hw1
  clear hw1
  go_wp2_with fail
  rw [← HW1.out]
  refine (tpCheckEdge x y s c o _ HE.out).mono ?_
  rintro e w2 ⟨rfl, hb2⟩
  have f0 := (hb2.cell (p := ⟨w.heap.size, 0, none⟩) hz1).trans e0
  have f1 := (hb2.cell (p := ⟨w.heap.size, 1, none⟩) hz1).trans e1
  have hbw := hb1.trans (hb2.mono hb1.size)
  have hz2 := hb2.size
  have bO := Boxed.new w2 31 (.slice none 0 0)
  have hb3 : Below w2.heap.size w2 (w2.alloc (.cells #[.slice none 0 0] 31)) := (Below.refl _ _).alloc (Nat.le_refl _) _
  have g0 := (hb3.cell (p := ⟨w.heap.size, 0, none⟩) (by show w.heap.size < _; omega)).trans f0
  have g1 := (hb3.cell (p := ⟨w.heap.size, 1, none⟩) (by show w.heap.size < _; omega)).trans f1
  have HSZ := Lib.hid (show (w2.alloc (.cells #[.slice none 0 0] 31)).heap.size = w2.heap.size + 1 by simp)
  obtain ⟨w6, hw6⟩ : ∃ w6, w2.alloc (.cells #[.slice none 0 0] 31) = w6 := ⟨_, rfl⟩
  rw [hw6] at bO hb3 HSZ
  have HW6 := Lib.hid hw6
  clear hw6 f0 f1 e0 e1
  go_wp2_with fail
  rw [HW6.out]
  refine (tpLegs x y s c o _).mono ?_
  rintro e w7 ⟨rfl, hw7⟩
  obtain ⟨W9, hW9, hb9, hz9, q0, q1, q2, q3⟩ := legs_boxes w6 x y c s o
  rw [← hW9] at hw7
  have hw7' := hw7.symm
  subst hw7'
  clear hW9
  have HZ9 := Lib.hid hz9
  have hz6 := HSZ.out
  have bO9 : Boxed W9 w2.heap.size 31 (.slice none 0 0) := (hb9.block _ (by omega)).trans bO
  have bw6 := hbw.trans (hb3.mono hbw.size)
  have bw9 := bw6.trans (hb9.mono bw6.size)
  have hwz := hbw.size
  obtain ⟨ib, hib, hi0, hi1, hi2⟩ := info_parts Try.info48
  have HB := Lib.hid hib
  have HB0 := Lib.hid hi0
  have HB1 := Lib.hid hi1
  have HB2 := Lib.hid hi2
  clear hz9 hw7 hz6 hib hi0 hi1 hi2
  go_wp2_with fail
  have hvis := legs_visits w6.heap.size 4 w6.heap.size (w6.heap.size + 1) (w6.heap.size + 2) (w6.heap.size + 3) 48 (by omega) x y s c o W9 (by decide) HS.out h2 (by omega) (by omega) (by omega) (by omega) (by omega) (by rw [HZ9.out]; omega) q0 q1 q2 q3
  refine (wpIn_wide (n := 5)).1 ?_
  generalize hA0 : (Act.mk _ _) = A0
  refine wpIn_visits (n := 5) (by omega) (gf := 62) (lb := #[.pointer (some ⟨w6.heap.size, 0, none⟩), .pointer (some ⟨w6.heap.size + 1, 0, none⟩), .pointer (some ⟨w6.heap.size + 2, 0, none⟩), .pointer (some ⟨w6.heap.size + 3, 0, none⟩)]) (by rw [← hA0]; rfl) ?eg hvis KT.trans (KT.put (w := W9)) (fun _ => rfl)
    (fun pre W => (∃ v, Boxed W w2.heap.size 31 v ∧ W.ownsRow w.heap.size 48 3 v (barsOf pre).length (bcellsL (barsOf pre))) ∧ (Below w.heap.size w W ∧ W9.heap.size ≤ W.heap.size))
    (Bides.and (bides_row (fun pre => (barsOf pre).length) (fun pre => bcellsL (barsOf pre)) (by rw [HZ9.out, HSZ.out]; omega) (by decide)) (Bides.and (bides_below bw9.size (Nat.le_refl _)) bides_size)) ⟨⟨_, bO9, World.ownsRow_nil _ _ _ _⟩, bw9, Nat.le_refl _⟩ ?round ?done
  case eg => exact fun _ _ => by kernel_rfl
  case round =>
    rintro l pre q W hz ⟨⟨v, hv, hrow⟩, hbW, hsW⟩ ⟨r, hr⟩
    obtain ⟨hq1, -, hq3, hq4⟩ := HL.out q (by rw [hr]; simp)
    have hpre : (barsOf pre).length ≤ 256 := by
      have h1 := HLEN.out
      rw [hr] at h1
      have : ∀ l : List (UInt8 × Knot × Knot), (barsOf l).length ≤ l.length := fun l => by
        induction l with
        | nil => simp [barsOf]
        | cons a t ih =>
          have e : barsOf (a :: t) = (if a.1 = 66 then [⟨a.2.1.x, a.2.1.y, a.2.2.x - a.2.1.x⟩] else []) ++ barsOf t := by simp [barsOf]
          rw [e, List.length_append, List.length_cons]
          split <;> simp <;> omega
      have := this pre
      simp at h1
      omega
    obtain ⟨⟨a1, a2⟩, -, -⟩ := hq3
    obtain ⟨⟨a3, a4⟩, -, -⟩ := hq4
    have HSNOC := Lib.hid (barsOf_snoc pre q)
    subst hA0
    dsimp only [legArr]
    gi_wp2
    have hb0 : Below W.heap.size W (W.alloc (.cells #[.int .i32 (q.1.toNat : Int), .int .i64 q.2.1.x, .int .i64 q.2.1.y, .int .i64 q.2.2.x, .int .i64 q.2.2.y] 82)) := (Below.refl _ _).alloc (Nat.le_refl _) _
    refine ⟨Book.below hz hb0, KT.of_below hb0, fun Wb hg hobj hbk => ?_⟩
    have hbx : Wb.heap[W.heap.size]? = some (.cells #[.int .i32 (q.1.toNat : Int), .int .i64 q.2.1.x, .int .i64 q.2.1.y, .int .i64 q.2.2.x, .int .i64 q.2.2.y] 82 (0, 0)) :=
      (hg.block _ (by simp) (fun e => by injection e; omega)).trans (heap_alloc_new _ _)
    obtain ⟨r0, r1, r2, r3, r4, -⟩ := five_of_block hbx
    obtain ⟨o1, ho1, ho2⟩ := hobj
    have hz9 := HZ9.out
    have hz6 := HSZ.out
    have hsb : W9.heap.size + 2 ≤ Wb.heap.size := by have := hg.size; simp at this; omega
    have hbb : Below w.heap.size w Wb := (hbW.trans (hb0.mono hbW.size)).grown hg (by have := hbW.size; simp; omega) (fun k e => by cases e; have := bw9.size; omega)
    have hI1 := bides_row (t := 31) (te := 48) (n₀ := w.heap.size) (size := 3) (fun pre => (barsOf pre).length) (fun pre => bcellsL (barsOf pre)) (show w2.heap.size < W9.heap.size by omega) (show 48 ≠ 23 by decide) pre _ Wb (some (W9.heap.size + 1)) ⟨v, hv.alloc _, hrow.alloc _⟩ hg (fun b e => by cases e; exact ⟨by omega, o1, ho1, .inl ho2⟩)
    obtain ⟨v, hvB, hrowB⟩ := hI1
    have hcB := hvB.cell
    have HBK := Lib.hid hbk
    have hwb : w.heap.size ≤ Wb.heap.size := by omega
    clear hv hrow hbk ho1 ho2 hbx
    by_cases h66 : q.1 = 66
    · have r0' : Wb.cell? ⟨W.heap.size, 0, none⟩ = some (.int .i32 66) := by rw [h66] at r0; exact r0
      have HSN := Lib.hid (show barsOf (pre ++ [q]) = barsOf pre ++ [⟨q.2.1.x, q.2.1.y, q.2.2.x - q.2.1.x⟩] by rw [HSNOC.out, if_pos h66])
      clear r0 h66 hq1 HSNOC
      gi_wp2_with (gi_at_builtin; refine wpListIn_append_own _ rfl _ _ 31 rfl w.heap.size 48 ib (.agg #[.int .i64 0, .int .i64 0, .int .i64 0]) 3 24 Try.underlying31 HB.out HB0.out HB1.out HB2.out rfl (by decide) _ _ _ rfl (hrowB.alloc _) ⟨Wb.heap.size, 0, none⟩ 1 1 [.int .i64 q.2.1.x, .int .i64 q.2.1.y, .int .i64 (q.2.2.x - q.2.1.x)] rfl rfl (three_new _ _ _ _ _) (by intro u hu; simp at hu; rcases hu with rfl | rfl | rfl <;> rfl) (by unfold maxLen; omega) (by omega) (by simp; omega) ?_; intro v' w1' hown' hgrow _; obtain ⟨g', cap', rfl⟩ := ownsRow_succ hown'; obtain ⟨hv1, hv2, hr2, hk2, hb2'⟩ := hvB.appended (by decide) hrowB hwb (by omega) hown' hgrow; have hkt := KT.appended (B1 := w6.heap.size) (Bo := w2.heap.size) (by omega) (by decide) hrowB hgrow (.slice (some ⟨g', 0, none⟩) ((barsOf pre).length + 1) cap'); have hc1 := hv1.cell; have hf1 := hv1.frozen)
      exact ⟨Book.others hk2 HBK.out.1 HBK.out.2, hkt, ⟨_, hv2, by rw [HSN.out, bcellsL_snoc]; simpa using hr2⟩, hbb.trans hb2', by have := hb2'.size; omega⟩
    · have hne : ((q.1.toNat : Int) == 66) = false := by
        rw [beq_eq_false_iff_ne]
        intro e
        exact h66 (UInt8.toNat.inj (by show q.1.toNat = 66; omega))
      have HSN := Lib.hid (show barsOf (pre ++ [q]) = barsOf pre by rw [HSNOC.out, if_neg h66, List.append_nil])
      clear h66 hq1 HSNOC
      gi_wp2
      exact ⟨Book.below hsb (Below.refl _ _), KT.of_below (Below.refl _ _), ⟨_, hvB, by rw [HSN.out]; exact hrowB⟩, hbb, by omega⟩
  case done =>
    rintro D ys W hD hS ⟨⟨v, hv, hrow⟩, hbW, hsW⟩ hK
    subst hA0
    subst hS
    have hc := hv.cell
    go_wp2
    refine ⟨by simp, .inl ⟨_, _, rfl, run_takeDeferred hK, ?_⟩⟩
    rw [barsOf_legs] at hrow
    exact ⟨_, results_tmp2 rfl _ _ _, v, rfl, ownsRow_putObj hrow _ hK rfl, hbW.trans (belowK_b (w := W9) (n₀ := w.heap.size) bw9.size W D _ _ hD hK rfl rfl)⟩
end Go.Proofs.Ythihjphcjjpjpaa
