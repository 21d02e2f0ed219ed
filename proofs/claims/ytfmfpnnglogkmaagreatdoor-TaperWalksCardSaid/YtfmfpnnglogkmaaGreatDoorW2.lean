/- Helpers, part 2. -/
import Derived.Test.YtfmfpnnglogkmaaGreatDoorW1
import Derived.Test.YtfmfpnnglogkmaaGreatDoorRows
import Derived.Shelf.Strings.Repeat
import Derived.Lib.OthersKept
import Derived.Lib.Strings
/- A loop over a function that keeps a variable of its own in a box of the type e: the body never leaves the loop. -/
namespace Go.Proofs.YtfmfpnnglogkmaaGreatDoor
open Go.RowKit Go.Shelf

/-- J holds on where memory grows, and where one block from B on is written that is no cells, or two cells of the type e. -/
def Bides {β : Type} (B : Nat) (e : TypeId) (J : β → World → Prop) : Prop :=
  ∀ s W W' r, J s W → W.grownBy W' r → (∀ b, r = some b → B ≤ b ∧ ∃ o, W.heap[b]? = some o ∧ (o.isCells = false ∨ ∃ cs f, o = .cells cs e f ∧ cs.size = 2)) → J s W'
theorem Bides.below {β : Type} {B : Nat} {e : TypeId} {J : β → World → Prop} (h : Bides B e J) {s : β} {W W' : World} (hs : J s W) (hb : Below W.heap.size W W') : J s W' :=
  h s W W' none hs ⟨hb.os, hb.tape, hb.output, hb.size, fun i hi _ => hb.block i hi⟩ (fun _ e => by cases e)
theorem Bides.put {β : Type} {B : Nat} {e : TypeId} {J : β → World → Prop} (h : Bides B e J) {s : β} {W : World} {l : Nat} {o : Obj} (o' : Obj) (hs : J s W) (hB : B ≤ l) (hl : W.heap[l]? = some o) (ho : o.isCells = false) : J s (W.putObj l o') :=
  h s W _ (some l) hs (grownBy_putObj' W l o') (fun b e => by cases e; exact ⟨hB, o, hl, .inl ho⟩)
theorem Bides.and {β : Type} {B : Nat} {e : TypeId} {J K : β → World → Prop} (h : Bides B e J) (k : Bides B e K) : Bides B e (fun s W => J s W ∧ K s W) := fun s W W' r hs hg hr => ⟨h s W W' r hs.1 hg hr, k s W W' r hs.2 hg hr⟩
/-- The loop's two blocks lie as they lay. -/
def Book (B : Nat) (W W' : World) : Prop := W'.heap[B]? = W.heap[B]? ∧ W'.heap[B + 1]? = W.heap[B + 1]? ∧ W.heap.size ≤ W'.heap.size
theorem Book.trans {B : Nat} {X Y Z : World} (h : Book B X Y) (k : Book B Y Z) : Book B X Z := ⟨k.1.trans h.1, k.2.1.trans h.2.1, Nat.le_trans h.2.2 k.2.2⟩
theorem Book.below {B : Nat} {W W' : World} (hB : B + 2 ≤ W.heap.size) (h : Below W.heap.size W W') : Book B W W' := ⟨h.block _ (by omega), h.block _ (by omega), h.size⟩
theorem Book.others {B : Nat} {W W' : World} (h : KeepsOthers W W') (h0 : ∃ o, W.heap[B]? = some o ∧ o.isCells = false) (h1 : ∃ o, W.heap[B + 1]? = some o ∧ o.isCells = false) : Book B W W' := by
  obtain ⟨o0, a0, b0⟩ := h0
  obtain ⟨o1, a1, b1⟩ := h1
  exact ⟨(h.same _ _ a0 b0).trans a0.symm, (h.same _ _ a1 b1).trans a1.symm, h.size⟩
def RoundEnd {α : Type} (B : Nat) (Kp : World → World → Prop) (I : List α → World → Prop) (xs : List α) (W : World) : Exit → Act → World → Prop
  | .normal, _, W' => Book B W W' ∧ Kp W W' ∧ I xs W'
  | _, _, _ => False

/-- What the loop asks of the function over which it goes. -/
def Visits {α : Type} (P : Program) (n : Nat) (e : TypeId) (gf : Nat) (lb : Array Value) (encs : α → Array Value) (Kp : World → World → Prop) (S : List α → Prop) (G : List α → α → Prop) (w : World) : Prop :=
  ∀ (l : Nat) (J : List α → World → Prop) (W : World), Below w.heap.size w W → Bides W.heap.size e J →
    (∀ pre x W1, J pre W1 → G pre x → YieldAt Fence.wide (n - 1) P l (encs x) W1 fun en W' => en = .returned (.bool true) ∧ J (pre ++ [x]) W' ∧ Kp W1 W') →
    J [] W → CallsIn Fence.wide n P gf (#[.func (.yield l) #[] #[]] ++ lb) W fun en W' => (∃ v, en = .returned v) ∧ ∃ xs, S xs ∧ J xs W'

theorem wpIn_visits {α : Type} {P : Program} {n : Nat} {e : TypeId} {g : Operand} {ps : Array Tmp} {assign body : Code} {Q : Exit → Act → World → Prop} {a : Act} {w : World} (h1 : 1 ≤ n)
    {gf : Nat} {lb : Array Value} (hg : a.eval g = .func (.func gf) #[] lb) (eg : ∀ args w, (callFunc gf args).run P w = .ok (.enter gf args) w)
    {encs : α → Array Value} {Kp : World → World → Prop} {S : List α → Prop} {G : List α → α → Prop} (hseq : Visits P (n - 1) e gf lb encs Kp S G w)
    (hKt : ∀ {A B C : World}, Kp A B → Kp B C → Kp A C) (hKb : ∀ (W : World) (l : Nat) (o o' : Obj), w.heap.size ≤ l → W.heap[l]? = some o → o.isCells = false → o.isWalk = false → Kp W (W.putObj l o')) (hps : ∀ x, (encs x).size = ps.size)
    (I : List α → World → Prop) (hI : Bides w.heap.size e I) (h0 : I [] w)
    (hround : ∀ (l : Nat) (pre : List α) (x : α) (W : World), w.heap.size + 2 ≤ W.heap.size → I pre W → G pre x →
      assign.wpIn (Fence.wide.inRound l) (n - 1 - 1) P (Exit.then (fun a' Wa => Book w.heap.size W Wa ∧ Kp W Wa ∧
        ∀ Wb, Wa.grownBy Wb (some (w.heap.size + 1)) → (∃ o, Wa.heap[w.heap.size + 1]? = some o ∧ o.isCells = false) → ((∃ o, Wb.heap[w.heap.size]? = some o ∧ o.isCells = false) ∧ ∃ o, Wb.heap[w.heap.size + 1]? = some o ∧ o.isCells = false) → body.wpIn (Fence.wide.inRound l) (n - 1 - 1) P (RoundEnd w.heap.size Kp I (pre ++ [x]) Wb) a' Wb) (fun _ _ _ => False))
        { tmps := (ps.zip (encs x)).foldl (fun t (p, v) => t.setIfInBounds p v) a.tmps, defers := [] } W)
    (hdone : ∀ (D : Nat) (xs : List α) (W : World), w.heap.size ≤ D → S xs → I xs W → W.heap[D]? = some (.deferred (some [])) → Q .normal { a with defers := { target := .collected D, args := #[] } :: a.defers } W) :
    (Code.rangeFunc g ps assign body).wpIn Fence.wide n P Q a w := by
  refine wpIn_rangeFunc fun fn _ => ?_
  obtain ⟨L, hL⟩ : ∃ L : LoopState → Option Code → Loop, L = fun s j => { state := s, pending := j, fn, tmps := a.tmps, params := ps, assign, body, defers := w.heap.size } := ⟨_, rfl⟩
  obtain ⟨W1, hW1⟩ : ∃ W1, W1 = (w.alloc (.deferred (some []))).alloc (.loop (L .ready none)) := ⟨_, rfl⟩
  have s1 : W1.heap.size = w.heap.size + 2 := by rw [hW1]; simp
  have b1 : Below w.heap.size w W1 := by rw [hW1]; exact ((Below.refl _ _).alloc (Nat.le_refl _) _).alloc (by simp) _
  have r1 : W1.heap[w.heap.size + 1]? = some (.loop (L .ready none)) := by
    rw [hW1]
    have := World.alloc_heap_new (w.alloc (.deferred (some []))) (.loop (L .ready none))
    rwa [World.size_alloc] at this
  have d1 : W1.heap[w.heap.size]? = some (.deferred (some [])) := by
    rw [hW1, Below.heap_alloc _ _ _ (by simp)]
    exact World.alloc_heap_new w _
  refine ⟨w.heap.size + 1, [{ target := .collected w.heap.size, args := #[] }], W1, { target := .fn (.func gf) lb, args := #[.func (.yield (w.heap.size + 1)) #[] #[]] }, W1, gf,
    #[.func (.yield (w.heap.size + 1)) #[] #[]] ++ lb, W1, by rw [hW1, hL]; exact run_enterLoop_outer _ _ _ _ _, ?_, fun _ _ => trivial, by simp [invoke, go_sem, eg], fun _ => h1, ?_⟩
  · simp only [resolve, hg]
    simp [go_sem]
  refine (hseq (w.heap.size + 1) (fun pre W => I pre W ∧ (W.heap[w.heap.size]? = some (.deferred (some [])) ∧ W.heap[w.heap.size + 1]? = some (.loop (L .ready none)))) W1 b1 ?bid ?yields ⟨hI.below h0 b1, d1, r1⟩).mono ?after
  case bid =>
    intro s X Y r hs hgr hr
    refine ⟨hI s X Y r hs.1 hgr fun b hb => ?_, ?_, ?_⟩
    · obtain ⟨h, o, ho⟩ := hr b hb
      exact ⟨by omega, o, ho⟩
    · exact (hgr.block _ (Array.getElem?_eq_some_iff.1 hs.2.1).1 (fun h => by have := (hr _ h.symm).1; omega)).trans hs.2.1
    · exact (hgr.block _ (Array.getElem?_eq_some_iff.1 hs.2.2).1 (fun h => by have := (hr _ h.symm).1; omega)).trans hs.2.2
  case yields =>
    rintro pre x W ⟨hi, hd, hl⟩ hlen
    have hz := (Array.getElem?_eq_some_iff.1 hl).1
    have hy := run_yield (P := P) (args := encs x) hl (by rw [hL]; exact hps x)
    rw [hL] at hy
    refine ⟨fn, _, assign, body, hy, roundIn_of_wpIn trivial (wpIn_mono (hround _ pre x W (by omega) hi hlen) ?_)⟩
    rintro en a' Wa hp
    cases en with
    | normal =>
      obtain ⟨⟨k1, k2, k3⟩, kp, hbody⟩ := hp
      have hla := k2.trans hl
      have hza := (Array.getElem?_eq_some_iff.1 hla).1
      refine ⟨_, run_beginRound hla (by rw [hL]), ?_⟩
      have hlb : (Wa.putObj (w.heap.size + 1) (.loop { L .ready none with state := .busy })).heap[w.heap.size + 1]? = some (.loop { L .ready none with state := .busy }) := World.putObj_heap_same hza
      have hdb : (Wa.putObj (w.heap.size + 1) (.loop { L .ready none with state := .busy })).heap[w.heap.size]? = some (.deferred (some [])) := (World.putObj_heap_other (by omega)).trans (k1.trans hd)
      have kb : Kp Wa (Wa.putObj (w.heap.size + 1) (.loop { L .ready none with state := .busy })) := hKb _ _ _ _ (by omega) hla rfl rfl
      refine wpIn_mono (hbody _ (grownBy_putObj' _ _ _) ⟨_, hla, rfl⟩ ⟨⟨_, hdb, rfl⟩, ⟨_, hlb, rfl⟩⟩) ?_
      rintro e3 a3 W3 hp3
      cases e3 with
      | normal =>
        obtain ⟨⟨m1, m2, m3⟩, kp3, hi3⟩ := hp3
        have hl3 := m2.trans hlb
        have hz3 := (Array.getElem?_eq_some_iff.1 hl3).1
        refine ⟨_, _, run_endRound none hl3, rfl, ⟨hI.put _ hi3 (by omega) hl3 rfl, (World.putObj_heap_other (by omega)).trans (m1.trans hdb), ?_⟩, hKt kp (hKt (hKt kb kp3) (hKb _ _ _ _ (by omega) hl3 rfl rfl))⟩
        rw [World.putObj_heap_same hz3, hL]
        rfl
      | _ => exact hp3.elim
    | _ => exact hp.elim
  case after =>
    rintro en W2 ⟨⟨v, rfl⟩, xs, hS, hi, hd, hl⟩
    exact ⟨none, _, by have := run_endLoop (P := P) hl (by rw [hL]; simp); rw [hL] at this; exact this, hdone _ xs _ (Nat.le_refl _) hS (hI.put _ hi (by omega) hl rfl) ((World.putObj_heap_other (by omega)).trans hd)⟩
end Go.Proofs.YtfmfpnnglogkmaaGreatDoor

/- strings.Repeat of the library laid at this program. -/
namespace Go.Proofs.YtfmfpnnglogkmaaGreatDoor
open Go.Shelf
def Tryz.rep_ren : Go.Shelf.Ren := ⟨fun | 105 => 112 | 212 => 121 | 99 => 122 | 165 => 123 | 166 => 78 | 170 => 124 | 169 => 81 | 263 => 134 | 264 => 135 | 206 => 136 | 240 => 107 | 241 => 137 | 276 => 118 | 277 => 144 | n => n, fun | 9 => 9 | 3 => 3 | 4 => 4 | 20 => 20 | 0 => 0 | 46 => 159 | 109 => 160 | 5 => 5 | 72 => 122 | 76 => 126 | 51 => 158 | 146 => 172 | 53 => 167 | 148 => 174 | 70 => 119 | 37 => 120 | 75 => 125 | 127 => 151 | 164 => 155 | 80 => 130 | n => n, fun | n => n⟩
theorem Tryz.rep : Go.Proofs.Lays.n105 Tryz.prog Tryz.rep_ren := {
  mixed := by kernel_rfl,
  f99 := Tryz.func122.trans (congrArg some (by kernel_rfl)),
  f105 := Tryz.func112.trans (congrArg some (by kernel_rfl)),
  f165 := Tryz.func123.trans (congrArg some (by kernel_rfl)),
  f166 := Tryz.func78.trans (congrArg some (by kernel_rfl)),
  f169 := Tryz.func81.trans (congrArg some (by kernel_rfl)),
  f170 := Tryz.func124.trans (congrArg some (by kernel_rfl)),
  f206 := Tryz.func136.trans (congrArg some (by kernel_rfl)),
  f212 := Tryz.func121.trans (congrArg some (by kernel_rfl)),
  f240 := Tryz.func107.trans (congrArg some (by kernel_rfl)),
  f241 := Tryz.func137.trans (congrArg some (by kernel_rfl)),
  f263 := Tryz.func134.trans (congrArg some (by kernel_rfl)),
  f264 := Tryz.func135.trans (congrArg some (by kernel_rfl)),
  f276 := Tryz.func118.trans (congrArg some (by kernel_rfl)),
  f277 := Tryz.func144.trans (congrArg some (by kernel_rfl)),
  t0 := Tryz.underlying0,
  a0 := Tryz.isAgg0,
  z0 := Tryz.sizeOf0,
  v0 := Tryz.zeroValue0,
  t3 := Tryz.underlying3,
  a3 := Tryz.isAgg3,
  z3 := Tryz.sizeOf3,
  v3 := Tryz.zeroValue3,
  t4 := Tryz.underlying4,
  a4 := Tryz.isAgg4,
  z4 := Tryz.sizeOf4,
  v4 := Tryz.zeroValue4,
  t5 := Tryz.underlying5,
  a5 := Tryz.isAgg5,
  z5 := Tryz.sizeOf5,
  v5 := Tryz.zeroValue5,
  t9 := Tryz.underlying9,
  a9 := Tryz.isAgg9,
  z9 := Tryz.sizeOf9,
  v9 := Tryz.zeroValue9,
  t20 := Tryz.underlying20,
  a20 := Tryz.isAgg20,
  z20 := Tryz.sizeOf20,
  v20 := Tryz.zeroValue20,
  t37 := Tryz.underlying120,
  a37 := Tryz.isAgg120,
  z37 := Tryz.sizeOf120,
  v37 := Tryz.zeroValue120,
  t46 := Tryz.underlying159,
  a46 := Tryz.isAgg159,
  z46 := Tryz.sizeOf159,
  v46 := Tryz.zeroValue159,
  t51 := Tryz.underlying158,
  a51 := Tryz.isAgg158,
  z51 := Tryz.sizeOf158,
  v51 := Tryz.zeroValue158,
  t53 := Tryz.underlying167,
  a53 := Tryz.isAgg167,
  z53 := Tryz.sizeOf167,
  v53 := Tryz.zeroValue167,
  t70 := Tryz.underlying119,
  a70 := Tryz.isAgg119,
  z70 := Tryz.sizeOf119,
  v70 := Tryz.zeroValue119,
  t72 := Tryz.underlying122,
  a72 := Tryz.isAgg122,
  z72 := Tryz.sizeOf122,
  v72 := Tryz.zeroValue122,
  t75 := Tryz.underlying125,
  a75 := Tryz.isAgg125,
  z75 := Tryz.sizeOf125,
  v75 := Tryz.zeroValue125,
  t76 := Tryz.underlying126,
  a76 := Tryz.isAgg126,
  z76 := Tryz.sizeOf126,
  v76 := Tryz.zeroValue126,
  t109 := Tryz.underlying160,
  a109 := Tryz.isAgg160,
  z109 := Tryz.sizeOf160,
  v109 := Tryz.zeroValue160,
  t127 := Tryz.underlying151,
  a127 := Tryz.isAgg151,
  z127 := Tryz.sizeOf151,
  v127 := Tryz.zeroValue151,
  t146 := Tryz.underlying172,
  a146 := Tryz.isAgg172,
  z146 := Tryz.sizeOf172,
  v146 := Tryz.zeroValue172,
  t148 := Tryz.underlying174,
  a148 := Tryz.isAgg174,
  z148 := Tryz.sizeOf174,
  v148 := Tryz.zeroValue174,
  t164 := Tryz.underlying155,
  a164 := Tryz.isAgg155,
  z164 := Tryz.sizeOf155,
  v164 := Tryz.zeroValue155 }
end Go.Proofs.YtfmfpnnglogkmaaGreatDoor

/- The errors of a sheet, and the program's first at three errors. -/
namespace Go.Proofs.YtfmfpnnglogkmaaGreatDoor
open Go.RowKit

theorem three_err {w : World} {g : Nat} {a b c : Int} {t : TypeId} (h : w.heap[g]? = some (.cells #[.int .i64 a, .int .i64 b, .int .i64 c] t (0, 0))) : ∀ i (hi : i < [a, b, c].length), w.cell? ⟨g, i, none⟩ = some (.int .i64 [a, b, c][i]) := by
  intro i hi
  have hi' : i = 0 ∨ i = 1 ∨ i = 2 := by simp at hi; omega
  rcases hi' with rfl | rfl | rfl <;> simp [World.cell?, h]
theorem netFirst3 (g d : Nat) (a b c : Int) (t : TypeId) (w : World) (h : w.heap[g]? = some (.cells #[.int .i64 a, .int .i64 b, .int .i64 c] t (0, 0))) :
    Calls Tryz.prog 116 #[.slice (some ⟨g, 0, none⟩) 3 d] w fun e w' => e = .returned (.int .i64 (firstE [a, b, c])) ∧ w = w' :=
  netFirst g d [a, b, c] w (by simp) (three_err h)
def sideR (n : Int) : Int := if n < 1 ∨ 256 < n then 3 else 0
def sheet1 (x y c r : Int) : Int := firstE [knotE x y, sideR c, sideR r]
def sheetE (x y c r : Int) : Int := if sheet1 x y c r = 0 then (if 4096 < 2 * c * r then 5 else if farB (x + 2 * c) || farB (y + r) then 3 else 0) else sheet1 x y c r
theorem sheet1_zero {x y c r : Int} (h : sheet1 x y c r = 0) : knotE x y = 0 ∧ 1 ≤ c ∧ c ≤ 256 ∧ 1 ≤ r ∧ r ≤ 256 := by
  unfold sheet1 firstE firstE firstE firstE at h
  split at h
  · rename_i h1
    split at h
    · rename_i h2
      split at h
      · rename_i h3
        unfold sideR at h2 h3
        split at h2
        · omega
        · split at h3 <;> omega
      · omega
    · omega
  · omega
theorem sheetE_zero {x y c r : Int} (h : sheetE x y c r = 0) : sheet1 x y c r = 0 ∧ 2 * c * r ≤ 4096 ∧ farB (x + 2 * c) = false ∧ farB (y + r) = false := by
  unfold sheetE at h
  split at h
  · rename_i h1
    split at h
    · omega
    · rename_i h2
      split at h
      · omega
      · rename_i h3
        simp at h3
        exact ⟨h1, by omega, h3.1, h3.2⟩
  · rename_i h1; exact absurd h h1
end Go.Proofs.YtfmfpnnglogkmaaGreatDoor

/- Plain mathematics: what a bar more makes of the knots, the parts and the meshes of a list of bars; no net has fewer than 0 holes. -/
namespace Go.Proofs.YtfmfpnnglogkmaaGreatDoor.Ck

/-! ### one bar more, and what is connected -/
theorem conn_add {l l' : List Bar} {b : Bar} (hm : ∀ x, x ∈ l' ↔ x = b ∨ x ∈ l) {k m : Knot} (h : Conn l' k m) : Conn l k m ∨ (Conn l k b.lo ∧ Conn l b.hi m) ∨ (Conn l k b.hi ∧ Conn l b.lo m) := by
  induction h with
  | refl => exact .inl (.refl _)
  | step x hx ha _ ih =>
    rcases (hm x).1 hx with rfl | hx
    · rcases ha with ⟨rfl, rfl⟩ | ⟨rfl, rfl⟩
      · rcases ih with h | ⟨_, h⟩ | ⟨_, h⟩
        · exact .inr (.inl ⟨.refl _, h⟩)
        · exact .inr (.inl ⟨.refl _, h⟩)
        · exact .inl h
      · rcases ih with h | ⟨_, h⟩ | ⟨_, h⟩
        · exact .inr (.inr ⟨.refl _, h⟩)
        · exact .inl h
        · exact .inr (.inr ⟨.refl _, h⟩)
    · have c := Conn.one hx ha
      rcases ih with h | ⟨h, h'⟩ | ⟨h, h'⟩
      · exact .inl (c.trans h)
      · exact .inr (.inl ⟨c.trans h, h'⟩)
      · exact .inr (.inr ⟨c.trans h, h'⟩)
theorem Conn.eq_of_out {l : List Bar} {k m : Knot} (h : Conn l k m) (hk : k ∉ ends l) : k = m := by
  cases h with
  | refl => rfl
  | step b hb ha _ => exact absurd (ha.ends hb).1 hk

/-- R has one knot of each part. -/
def Rep (l : List Bar) (R : List Knot) : Prop := (∀ r ∈ R, r ∈ ends l) ∧ R.Pairwise (fun a b => ¬ Conn l a b) ∧ ∀ k ∈ ends l, ∃ r ∈ R, Conn l r k
theorem Rep.nodup {l : List Bar} {R : List Knot} (h : Rep l R) : R.Nodup := h.2.1.imp fun {a b} (hn : ¬ Conn l a b) (e : a = b) => hn (by rw [e]; exact .refl _)
theorem Rep.one {l : List Bar} {R : List Knot} (h : Rep l R) {a b : Knot} (ha : a ∈ R) (hb : b ∈ R) (hc : Conn l a b) : a = b := by
  by_cases e : a = b
  · exact e
  · exact absurd hc (List.Pairwise.forall_of_forall_of_flip (R := fun a b => a ≠ b → ¬ Conn l a b) (fun x _ hne => absurd rfl hne) (h.2.1.imp fun {a b} (hn : ¬ Conn l a b) (_ : a ≠ b) => hn) (h.2.1.imp fun {a b} (hn : ¬ Conn l a b) (_ : b ≠ a) (hc : Conn l b a) => hn hc.symm) ha hb e)
theorem Rep.le {l : List Bar} {R R' : List Knot} (h : Rep l R) (h' : Rep l R') : R.length ≤ R'.length := by
  have each : ∀ r, ∃ r', r ∈ R → r' ∈ R' ∧ Conn l r' r := fun r => by
    by_cases hr : r ∈ R
    · obtain ⟨r', h1, h2⟩ := h'.2.2 r (h.1 r hr)
      exact ⟨r', fun _ => ⟨h1, h2⟩⟩
    · exact ⟨r, fun h => absurd h hr⟩
  obtain ⟨f, hf⟩ := Classical.axiomOfChoice each
  have hn : (R.map f).Nodup := by
    rw [List.Nodup, List.pairwise_map]
    refine List.Pairwise.imp_of_mem ?_ h.2.1
    intro a b ha hb hnc e
    exact hnc (((hf a ha).2.symm).trans (e ▸ (hf b hb).2))
  have := hn.length_le_of_subset (l₂ := R') (fun x hx => by
    obtain ⟨r, hr, rfl⟩ := List.mem_map.1 hx
    exact (hf r hr).1)
  rwa [List.length_map] at this
theorem Rep.length {l : List Bar} {R R' : List Knot} (h : Rep l R) (h' : Rep l R') : R.length = R'.length := Nat.le_antisymm (h.le h') (h'.le h)
theorem CntIs.reps {l : List Bar} : ∀ {r : List Bar} {seen : List Knot} {n : Nat}, CntIs l seen r n →
    ∃ R : List Knot, R.length = n ∧ (∀ x ∈ R, ∃ c ∈ r, x = c.lo) ∧ R.Pairwise (fun a b => ¬ Conn l a b) ∧ (∀ x ∈ R, ∀ s ∈ seen, ¬ Conn l s x) ∧ ∀ c ∈ r, (∃ s ∈ seen, Conn l s c.lo) ∨ ∃ x ∈ R, Conn l x c.lo
  | [], _, _, .nil _ => ⟨[], rfl, by simp, .nil, by simp, by simp⟩
  | b :: r, seen, _, .old e h => by
    obtain ⟨R, h1, h2, h3, h4, h5⟩ := h.reps
    refine ⟨R, h1, fun x hx => ?_, h3, fun x hx s hs => h4 x hx s (by simp [hs]), fun c hc => ?_⟩
    · obtain ⟨c, hc, e⟩ := h2 x hx
      exact ⟨c, by simp [hc], e⟩
    · rcases List.mem_cons.1 hc with rfl | hc
      · exact .inl e
      · rcases h5 c hc with ⟨s, hs, hsc⟩ | h
        · rcases List.mem_cons.1 hs with rfl | hs
          · obtain ⟨s0, hs0, h0⟩ := e
            exact .inl ⟨s0, hs0, h0.trans hsc⟩
          · exact .inl ⟨s, hs, hsc⟩
        · exact .inr h
  | b :: r, seen, _, .fresh e h => by
    obtain ⟨R, h1, h2, h3, h4, h5⟩ := h.reps
    refine ⟨b.lo :: R, by simp [h1], fun x hx => ?_, List.pairwise_cons.2 ⟨fun x hx => h4 x hx b.lo (by simp), h3⟩, fun x hx s hs => ?_, fun c hc => ?_⟩
    · rcases List.mem_cons.1 hx with rfl | hx
      · exact ⟨b, by simp, rfl⟩
      · obtain ⟨c, hc, e⟩ := h2 x hx
        exact ⟨c, by simp [hc], e⟩
    · rcases List.mem_cons.1 hx with rfl | hx
      · exact fun hc => e ⟨s, hs, hc⟩
      · exact h4 x hx s (by simp [hs])
    · rcases List.mem_cons.1 hc with rfl | hc
      · exact .inr ⟨_, by simp, .refl _⟩
      · rcases h5 c hc with ⟨s, hs, hsc⟩ | ⟨x, hx, h⟩
        · rcases List.mem_cons.1 hs with rfl | hs
          · exact .inr ⟨_, by simp, hsc⟩
          · exact .inl ⟨s, hs, hsc⟩
        · exact .inr ⟨x, by simp [hx], h⟩
theorem PartsIs.rep {l : List Bar} {p : Nat} (h : PartsIs l p) : ∃ R, Rep l R ∧ R.length = p := by
  obtain ⟨R, h1, h2, h3, _, h5⟩ := CntIs.reps h
  refine ⟨R, ⟨fun r hr => ?_, h3, fun k hk => ?_⟩, h1⟩
  · obtain ⟨c, hc, rfl⟩ := h2 r hr
    exact lo_ends hc
  · obtain ⟨c, hc, e⟩ := mem_ends.1 hk
    rcases h5 c hc with ⟨s, hs, _⟩ | ⟨x, hx, hxc⟩
    · simp at hs
    · rcases e with rfl | rfl
      · exact ⟨x, hx, hxc⟩
      · exact ⟨x, hx, hxc.trans (.one hc (.inl ⟨rfl, rfl⟩))⟩
theorem PartsIs.eq_rep {l : List Bar} {p : Nat} (h : PartsIs l p) {R : List Knot} (hR : Rep l R) : p = R.length := by
  obtain ⟨R', h1, h2⟩ := h.rep
  rw [← h2, h1.length hR]

/-! ### the parts of a list with one bar more -/
theorem ends_add {l l' : List Bar} {b : Bar} (hm : ∀ x, x ∈ l' ↔ x = b ∨ x ∈ l) (k : Knot) : k ∈ ends l' ↔ k = b.lo ∨ k = b.hi ∨ k ∈ ends l := by
  rw [mem_ends, mem_ends]
  constructor
  · rintro ⟨x, hx, h⟩
    rcases (hm x).1 hx with rfl | hx
    · rcases h with h | h
      · exact .inl h
      · exact .inr (.inl h)
    · exact .inr (.inr ⟨x, hx, h⟩)
  · rintro (h | h | ⟨x, hx, h⟩)
    · exact ⟨b, (hm b).2 (.inl rfl), .inl h⟩
    · exact ⟨b, (hm b).2 (.inl rfl), .inr h⟩
    · exact ⟨x, (hm x).2 (.inr hx), h⟩
theorem conn_more {l l' : List Bar} {b : Bar} (hm : ∀ x, x ∈ l' ↔ x = b ∨ x ∈ l) {k m : Knot} (h : Conn l k m) : Conn l' k m := h.mono fun x hx => (hm x).2 (.inr hx)
theorem conn_bar {l l' : List Bar} {b : Bar} (hm : ∀ x, x ∈ l' ↔ x = b ∨ x ∈ l) : Conn l' b.lo b.hi := .one ((hm b).2 (.inl rfl)) (.inl ⟨rfl, rfl⟩)
/-- Both ends were connected: the parts stay. -/
theorem rep_same {l l' : List Bar} {b : Bar} (hm : ∀ x, x ∈ l' ↔ x = b ∨ x ∈ l) (hlo : b.lo ∈ ends l) (hhi : b.hi ∈ ends l) (hc : Conn l b.lo b.hi) {R : List Knot} (h : Rep l R) : Rep l' R := by
  have back : ∀ {k m : Knot}, Conn l' k m → Conn l k m := fun hk => by
    rcases conn_add hm hk with h | ⟨h, h'⟩ | ⟨h, h'⟩
    · exact h
    · exact (h.trans hc).trans h'
    · exact (h.trans hc.symm).trans h'
  refine ⟨fun r hr => (ends_add hm r).2 (.inr (.inr (h.1 r hr))), h.2.1.imp fun hn hc' => hn (back hc'), fun k hk => ?_⟩
  have hk' : k ∈ ends l := by
    rcases (ends_add hm k).1 hk with rfl | rfl | h
    · exact hlo
    · exact hhi
    · exact h
  obtain ⟨r, hr, hrk⟩ := h.2.2 k hk'
  exact ⟨r, hr, conn_more hm hrk⟩
/-- Both ends were knots of different parts: these are one part now. -/
theorem rep_less {l l' : List Bar} {b : Bar} (hm : ∀ x, x ∈ l' ↔ x = b ∨ x ∈ l) (hlo : b.lo ∈ ends l) (hhi : b.hi ∈ ends l) (hc : ¬ Conn l b.lo b.hi) {R : List Knot} (h : Rep l R) : ∃ R', Rep l' R' ∧ R'.length + 1 = R.length := by
  obtain ⟨r1, h1, c1⟩ := h.2.2 _ hlo
  obtain ⟨r2, h2, c2⟩ := h.2.2 _ hhi
  have hne : r1 ≠ r2 := by
    rintro rfl
    exact hc (c1.symm.trans c2)
  have hnd := h.nodup
  have mem : ∀ x, x ∈ R.erase r2 ↔ x ≠ r2 ∧ x ∈ R := fun x => hnd.mem_erase_iff
  refine ⟨R.erase r2, ⟨fun r hr => (ends_add hm r).2 (.inr (.inr (h.1 r ((mem r).1 hr).2))), ?_, fun k hk => ?_⟩, ?_⟩
  · refine List.Pairwise.imp_of_mem ?_ (h.2.1.sublist (List.erase_sublist ..))
    intro a c ha hc' hn hac
    obtain ⟨ha1, ha2⟩ := (mem a).1 ha
    obtain ⟨hc1, hc2⟩ := (mem c).1 hc'
    rcases conn_add hm hac with h' | ⟨_, h'⟩ | ⟨h', _⟩
    · exact hn h'
    · exact hc1 (h.one h2 hc2 (c2.trans h')).symm
    · exact ha1 (h.one ha2 h2 (h'.trans c2.symm))
  · have go : ∀ k ∈ ends l, ∃ r ∈ R.erase r2, Conn l' r k := fun k hk => by
      obtain ⟨r, hr, hrk⟩ := h.2.2 k hk
      by_cases e : r = r2
      · subst e
        exact ⟨r1, (mem r1).2 ⟨hne, h1⟩, ((conn_more hm c1).trans (conn_bar hm)).trans ((conn_more hm c2.symm).trans (conn_more hm hrk))⟩
      · exact ⟨r, (mem r).2 ⟨e, hr⟩, conn_more hm hrk⟩
    rcases (ends_add hm k).1 hk with rfl | rfl | hk
    · exact go _ hlo
    · exact go _ hhi
    · exact go _ hk
  · rw [List.length_erase_of_mem h2]
    have : 0 < R.length := List.length_pos_of_mem h2
    omega
/-- One end was a knot, the other one was none: the parts stay. -/
theorem rep_hang {l l' : List Bar} {b : Bar} (hm : ∀ x, x ∈ l' ↔ x = b ∨ x ∈ l) (hx : b.lo ∈ ends l ∧ b.hi ∉ ends l ∨ b.lo ∉ ends l ∧ b.hi ∈ ends l) {R : List Knot} (h : Rep l R) : Rep l' R := by
  have back : ∀ {k m : Knot}, k ∈ ends l → m ∈ ends l → Conn l' k m → Conn l k m := fun hk hm' hc => by
    rcases conn_add hm hc with h' | ⟨h1, h2⟩ | ⟨h1, h2⟩
    · exact h'
    · rcases hx with ⟨_, hn⟩ | ⟨hn, _⟩
      · exact absurd (h2.eq_of_out hn ▸ hm') hn
      · exact absurd (h1.symm.eq_of_out hn ▸ hk) hn
    · rcases hx with ⟨_, hn⟩ | ⟨hn, _⟩
      · exact absurd (h1.symm.eq_of_out hn ▸ hk) hn
      · exact absurd (h2.eq_of_out hn ▸ hm') hn
  refine ⟨fun r hr => (ends_add hm r).2 (.inr (.inr (h.1 r hr))), List.Pairwise.imp_of_mem (fun {a c} ha hc hn hac => hn (back (h.1 a ha) (h.1 c hc) hac)) h.2.1, fun k hk => ?_⟩
  have go : ∀ k ∈ ends l, ∃ r ∈ R, Conn l' r k := fun k hk => by
    obtain ⟨r, hr, hrk⟩ := h.2.2 k hk
    exact ⟨r, hr, conn_more hm hrk⟩
  rcases (ends_add hm k).1 hk with rfl | rfl | hk
  · rcases hx with ⟨hl, _⟩ | ⟨_, hh⟩
    · exact go _ hl
    · obtain ⟨r, hr, hrk⟩ := go _ hh
      exact ⟨r, hr, hrk.trans (conn_bar hm).symm⟩
  · rcases hx with ⟨hl, _⟩ | ⟨_, hh⟩
    · obtain ⟨r, hr, hrk⟩ := go _ hl
      exact ⟨r, hr, hrk.trans (conn_bar hm)⟩
    · exact go _ hh
  · exact go _ hk
/-- No end was a knot: one part more. -/
theorem rep_more {l l' : List Bar} {b : Bar} (hm : ∀ x, x ∈ l' ↔ x = b ∨ x ∈ l) (hlo : b.lo ∉ ends l) (hhi : b.hi ∉ ends l) {R : List Knot} (h : Rep l R) : Rep l' (b.lo :: R) := by
  have back : ∀ {k m : Knot}, k ∈ ends l → m ∈ ends l → Conn l' k m → Conn l k m := fun hk hm' hc => by
    rcases conn_add hm hc with h' | ⟨h1, h2⟩ | ⟨h1, h2⟩
    · exact h'
    · exact absurd (h2.eq_of_out hhi ▸ hm') hhi
    · exact absurd (h2.eq_of_out hlo ▸ hm') hlo
  refine ⟨fun r hr => ?_, List.pairwise_cons.2 ⟨fun r hr hc => ?_, List.Pairwise.imp_of_mem (fun {a c} ha hc hn hac => hn (back (h.1 a ha) (h.1 c hc) hac)) h.2.1⟩, fun k hk => ?_⟩
  · rcases List.mem_cons.1 hr with rfl | hr
    · exact (ends_add hm _).2 (.inl rfl)
    · exact (ends_add hm r).2 (.inr (.inr (h.1 r hr)))
  · have hr' := h.1 r hr
    rcases conn_add hm hc with h' | ⟨_, h2⟩ | ⟨h1, _⟩
    · exact hlo (h'.eq_of_out hlo ▸ hr')
    · exact hhi (h2.eq_of_out hhi ▸ hr')
    · have e := h1.eq_of_out hlo
      have := congrArg Knot.y e
      simp only [Bar.lo, Bar.hi] at this
      omega
  · rcases (ends_add hm k).1 hk with rfl | rfl | hk
    · exact ⟨_, by simp, .refl _⟩
    · exact ⟨_, by simp, conn_bar hm⟩
    · obtain ⟨r, hr, hrk⟩ := h.2.2 k hk
      exact ⟨r, by simp [hr], conn_more hm hrk⟩

/-! ### the knots of a list with one bar more -/
theorem lo_ne_hi (b : Bar) : b.lo ≠ b.hi := fun e => by
  have := congrArg Knot.y e
  simp only [Bar.lo, Bar.hi] at this
  omega
theorem nK_cons {ks : List Knot} (h : ks.Nodup) {l : List Bar} (hm : ∀ k, k ∈ ks ↔ k ∈ ends l) : nK l = ks.length := (nK_eq h hm).symm
theorem nK_more {l l' : List Bar} {b : Bar} (hm : ∀ x, x ∈ l' ↔ x = b ∨ x ∈ l) : nK l' = nK l + (if b.lo ∈ ends l then 0 else 1) + (if b.hi ∈ ends l then 0 else 1) := by
  have hn := nub_nodup (ends l)
  have hne := lo_ne_hi b
  by_cases h1 : b.lo ∈ ends l <;> by_cases h2 : b.hi ∈ ends l
  · rw [if_pos h1, if_pos h2]
    exact nK_cons hn fun k => by
      rw [mem_nub, ends_add hm]
      constructor
      · exact fun h => .inr (.inr h)
      · rintro (rfl | rfl | h)
        · exact h1
        · exact h2
        · exact h
  · rw [if_pos h1, if_neg h2]
    refine (nK_cons (ks := b.hi :: nub (ends l)) (List.nodup_cons.2 ⟨fun h => h2 (mem_nub.1 h), hn⟩) fun k => ?_).trans (by simp [nK])
    rw [List.mem_cons, mem_nub, ends_add hm]
    constructor
    · rintro (h | h)
      · exact .inr (.inl h)
      · exact .inr (.inr h)
    · rintro (rfl | h | h)
      · exact .inr h1
      · exact .inl h
      · exact .inr h
  · rw [if_neg h1, if_pos h2]
    refine (nK_cons (ks := b.lo :: nub (ends l)) (List.nodup_cons.2 ⟨fun h => h1 (mem_nub.1 h), hn⟩) fun k => ?_).trans (by simp [nK])
    rw [List.mem_cons, mem_nub, ends_add hm]
    constructor
    · rintro (h | h)
      · exact .inl h
      · exact .inr (.inr h)
    · rintro (h | rfl | h)
      · exact .inl h
      · exact .inr h2
      · exact .inr h
  · rw [if_neg h1, if_neg h2]
    refine (nK_cons (ks := b.lo :: b.hi :: nub (ends l)) (List.nodup_cons.2 ⟨fun h => ?_, List.nodup_cons.2 ⟨fun h => h2 (mem_nub.1 h), hn⟩⟩) fun k => ?_).trans (by simp [nK])
    · rcases List.mem_cons.1 h with h | h
      · exact hne h
      · exact h1 (mem_nub.1 h)
    · rw [List.mem_cons, List.mem_cons, mem_nub, ends_add hm]

/-- Bars and parts, less the knots: a bar more between connected knots makes it one more, any other one leaves it. -/
theorem rank_more {l l' : List Bar} {b : Bar} (hm : ∀ x, x ∈ l' ↔ x = b ∨ x ∈ l) {p p' : Nat} (hp : PartsIs l p) (hp' : PartsIs l' p') :
    (b.lo ∈ ends l ∧ b.hi ∈ ends l ∧ Conn l b.lo b.hi ∧ p' = p ∧ nK l' = nK l) ∨ (¬ (b.lo ∈ ends l ∧ b.hi ∈ ends l ∧ Conn l b.lo b.hi) ∧ 1 + p' + nK l = p + nK l') := by
  obtain ⟨R, hR, rfl⟩ := hp.rep
  have hk := nK_more hm
  by_cases h1 : b.lo ∈ ends l <;> by_cases h2 : b.hi ∈ ends l
  · by_cases hc : Conn l b.lo b.hi
    · exact .inl ⟨h1, h2, hc, hp'.eq_rep (rep_same hm h1 h2 hc hR), by rw [hk, if_pos h1, if_pos h2, Nat.add_zero]⟩
    · obtain ⟨R', hR', hl⟩ := rep_less hm h1 h2 hc hR
      have := hp'.eq_rep hR'
      rw [if_pos h1, if_pos h2] at hk
      exact .inr ⟨fun h => hc h.2.2, by omega⟩
  · have := hp'.eq_rep (rep_hang hm (.inl ⟨h1, h2⟩) hR)
    rw [if_pos h1, if_neg h2] at hk
    exact .inr ⟨fun h => h2 h.2.1, by omega⟩
  · have := hp'.eq_rep (rep_hang hm (.inr ⟨h1, h2⟩) hR)
    rw [if_neg h1, if_pos h2] at hk
    exact .inr ⟨fun h => h1 h.1, by omega⟩
  · have := hp'.eq_rep (rep_more hm h1 h2 hR)
    rw [List.length_cons] at this
    rw [if_neg h1, if_neg h2] at hk
    exact .inr ⟨fun h => h1 h.1, by omega⟩

/-! ### no net has fewer than 0 holes -/
theorem countP_one {l : List Bar} (hn : l.Nodup) (P P' : Bar → Bool) (x0 : Bar) (h : ∀ x ∈ l, P' x = true → P x = true ∨ x = x0) : l.countP P' ≤ l.countP P + 1 := by
  induction l with
  | nil => simp
  | cons a r ih =>
    obtain ⟨h1, h2⟩ := List.nodup_cons.1 hn
    by_cases ha : a = x0
    · have : r.countP P' ≤ r.countP P := List.countP_mono_left fun x hx hp => by
        rcases h x (by simp [hx]) hp with h' | h'
        · exact h'
        · subst h'; exact absurd (ha ▸ hx) h1
      rw [List.countP_cons, List.countP_cons]
      split <;> split <;> omega
    · have := ih h2 fun x hx => h x (by simp [hx])
      have hh := h a (by simp)
      rw [List.countP_cons, List.countP_cons]
      by_cases hp : P' a = true
      · rcases hh hp with h' | h'
        · simp [hp, h']; omega
        · exact absurd h' ha
      · simp [hp]
        split <;> omega
theorem euler_snoc {l : List Bar} {b : Bar} (hN : Net (l ++ [b])) : nM (l ++ [b]) ≤ nM l ∨ (nM (l ++ [b]) ≤ nM l + 1 ∧ b.lo ∈ ends l ∧ b.hi ∈ ends l ∧ Conn l b.lo b.hi) := by
  have hlt : ∀ x ∈ l, Blt x b := fun x hx => (List.pairwise_append.1 hN.2).2.2 x hx b (by simp)
  have hnd : l.Nodup := (List.nodup_append.1 hN.nodup).1
  have hin : ∀ x, x ∈ l ++ [b] ↔ x ∈ l ∨ x = b := fun x => by simp
  have hb : isMesh (l ++ [b]) b = false := by
    have hno : (⟨b.x - 1, b.y + 1, 1⟩ : Bar) ∉ l ++ [b] := fun h => by
      rcases (hin _).1 h with h | h
      · have := hlt _ h
        unfold Blt at this
        simp only at this
        omega
      · have := congrArg Bar.y h
        simp only at this
        omega
    simp [isMesh, hno]
  have hcount : nM (l ++ [b]) = l.countP (isMesh (l ++ [b])) := by
    rw [nM, List.countP_append]
    simp [hb]
  have hlast : ∀ x ∈ l, isMesh (l ++ [b]) x = true → isMesh l x = true ∨ (b = ⟨x.x + 1, x.y + 1, -1⟩ ∧ x.s = -1 ∧ (⟨x.x, x.y, 1⟩ : Bar) ∈ l ∧ (⟨x.x - 1, x.y + 1, 1⟩ : Bar) ∈ l) := fun x hx hm => by
    simp only [isMesh, Bool.and_eq_true, decide_eq_true_eq] at hm ⊢
    obtain ⟨m1, m2, m3, m4⟩ := hm
    rcases (hin _).1 m4 with h4 | h4
    · have g4 := hlt _ h4
      have h2 : (⟨x.x, x.y, 1⟩ : Bar) ∈ l := by
        rcases (hin _).1 m2 with h | h
        · exact h
        · rw [← h] at g4; unfold Blt at g4; simp only at g4; omega
      have h3 : (⟨x.x - 1, x.y + 1, 1⟩ : Bar) ∈ l := by
        rcases (hin _).1 m3 with h | h
        · exact h
        · rw [← h] at g4; unfold Blt at g4; simp only at g4; omega
      exact .inl ⟨m1, h2, h3, h4⟩
    · have h2 : (⟨x.x, x.y, 1⟩ : Bar) ∈ l := by
        rcases (hin _).1 m2 with h | h
        · exact h
        · rw [← h] at h4
          have := congrArg Bar.y h4
          simp only at this
          omega
      have h3 : (⟨x.x - 1, x.y + 1, 1⟩ : Bar) ∈ l := by
        rcases (hin _).1 m3 with h | h
        · exact h
        · rw [← h] at h4
          have := congrArg Bar.x h4
          simp only at this
          omega
      exact .inr ⟨h4.symm, m1, h2, h3⟩
  by_cases hnew : ∃ x ∈ l, b = ⟨x.x + 1, x.y + 1, -1⟩ ∧ x.s = -1 ∧ (⟨x.x, x.y, 1⟩ : Bar) ∈ l ∧ (⟨x.x - 1, x.y + 1, 1⟩ : Bar) ∈ l
  · obtain ⟨x, hx, hbx, hs, h2, h3⟩ := hnew
    refine .inr ⟨?_, ?_⟩
    · rw [hcount, nM]
      refine countP_one hnd _ _ x fun z hz hm => ?_
      rcases hlast z hz hm with h | ⟨h, hzs, _, _⟩
      · exact .inl h
      · right
        rw [hbx] at h
        obtain ⟨e1, e2, _⟩ := (Bar.mk.injEq ..).mp h
        exact Bar.ext' (by omega) (by omega) (by omega)
    · have c1 : Conn l ⟨x.x + 1, x.y + 1⟩ ⟨x.x, x.y⟩ := .one h2 (.inr ⟨rfl, rfl⟩)
      have c2 : Conn l ⟨x.x, x.y⟩ ⟨x.x - 1, x.y + 1⟩ := .one hx (.inl ⟨rfl, by simp [Bar.hi, hs]; omega⟩)
      have c3 : Conn l ⟨x.x - 1, x.y + 1⟩ ⟨x.x, x.y + 2⟩ := .one h3 (.inl ⟨rfl, by simp [Bar.hi]; omega⟩)
      have e1 : b.lo = ⟨x.x + 1, x.y + 1⟩ := by rw [hbx]; rfl
      have e2 : b.hi = ⟨x.x, x.y + 2⟩ := by rw [hbx]; simp [Bar.hi]; omega
      rw [e1, e2]
      refine ⟨mem_ends.2 ⟨_, h2, .inr rfl⟩, mem_ends.2 ⟨_, h3, .inr (by simp [Bar.hi]; omega)⟩, (c1.trans c2).trans c3⟩
  · left
    rw [hcount, nM]
    refine List.countP_mono_left fun z hz hm => ?_
    rcases hlast z hz hm with h | h
    · exact h
    · exact absurd ⟨z, hz, h⟩ hnew
theorem euler : ∀ (n : Nat) {l : List Bar}, l.length = n → Net l → ∀ {p : Nat}, PartsIs l p → nM l + nK l ≤ l.length + p
  | 0, l, hl, _, _, _ => by
    have : l = [] := List.eq_nil_of_length_eq_zero hl
    subst this
    simp [nM, nK, ends, nub]
  | n + 1, l, hl, hN, p, hp => by
    have hne : l ≠ [] := fun e => by subst e; simp at hl
    obtain ⟨r, b, rfl⟩ : ∃ r b, l = r ++ [b] := ⟨l.dropLast, l.getLast hne, (List.dropLast_concat_getLast hne).symm⟩
    have hN' : Net r := ⟨fun x hx => hN.1 x (by simp [hx]), (List.pairwise_append.1 hN.2).1⟩
    obtain ⟨q, hq⟩ := CntIs.total (l := r) r []
    have ih := euler n (by simpa using hl) hN' hq
    have hm : ∀ x, x ∈ r ++ [b] ↔ x = b ∨ x ∈ r := fun x => by simp [or_comm]
    have hr := rank_more hm hq hp
    have hs := euler_snoc hN
    rw [List.length_append, List.length_singleton]
    rcases hr with ⟨_, _, _, e1, e2⟩ | ⟨hn, e⟩
    · rcases hs with h | ⟨h, _⟩ <;> omega
    · rcases hs with h | ⟨_, h1, h2, h3⟩
      · omega
      · exact absurd ⟨h1, h2, h3⟩ hn
end Go.Proofs.YtfmfpnnglogkmaaGreatDoor.Ck

/- Edges of tapers: plain mathematics of the bars that a word follows. -/
namespace Go.Proofs.YtfmfpnnglogkmaaGreatDoor
open Ck

def dxL (c : UInt8) : Int := if c = 84 then 2 else if c = 66 then 1 else 0
def dyL (c : UInt8) : Int := if c = 78 then 2 else if c = 66 then 1 else 0
def isL (c : UInt8) : Prop := c = 78 ∨ c = 66 ∨ c = 84
def stepK (σ : Int) (k : Knot) (c : UInt8) : Knot := ⟨k.x + σ * dxL c, k.y + dyL c⟩
def barsP (σ : Int) : Knot → List UInt8 → List Bar
  | _, [] => []
  | k, c :: r => if c = 66 then ⟨k.x, k.y, σ⟩ :: barsP σ (stepK σ k c) r else barsP σ (stepK σ k c) r
/-- Does the word begin with a bar? -/
def headB : List UInt8 → Bool
  | 66 :: _ => true
  | _ => false
/-- The runs of bars, counted at their ends. -/
def endsR : List UInt8 → Nat
  | [] => 0
  | c :: r => (if c = 66 then (if headB r = true then 0 else 1) else 0) + endsR r
def barsN (l : List UInt8) : Nat := l.countP fun c => decide (c = 66)

theorem dyL_nonneg (c : UInt8) : 0 ≤ dyL c := by unfold dyL; split <;> (try split) <;> omega
theorem step_y (σ : Int) (k : Knot) (c : UInt8) : (stepK σ k c).y = k.y + dyL c := rfl
theorem step_B (σ : Int) (k : Knot) : stepK σ k 66 = ⟨k.x + σ, k.y + 1⟩ := by simp [stepK, dxL, dyL]
theorem barsP_cons (σ : Int) (k : Knot) (c : UInt8) (r : List UInt8) : barsP σ k (c :: r) = if c = 66 then ⟨k.x, k.y, σ⟩ :: barsP σ (stepK σ k c) r else barsP σ (stepK σ k c) r := rfl
theorem barsP_ge {σ : Int} : ∀ {l : List UInt8} {k : Knot} {b : Bar}, b ∈ barsP σ k l → k.y ≤ b.y ∧ b.s = σ
  | [], _, _, h => by simp [barsP] at h
  | c :: r, k, b, h => by
    have hd := dyL_nonneg c
    rw [barsP_cons] at h
    split at h
    · rcases List.mem_cons.1 h with rfl | h
      · exact ⟨Int.le_refl _, rfl⟩
      · have := barsP_ge h
        rw [step_y] at this
        exact ⟨by omega, this.2⟩
    · have := barsP_ge h
      rw [step_y] at this
      exact ⟨by omega, this.2⟩
theorem barsP_pair {σ : Int} : ∀ (l : List UInt8) (k : Knot), (barsP σ k l).Pairwise fun a b => a.y < b.y
  | [], _ => by simp [barsP]
  | c :: r, k => by
    rw [barsP_cons]
    split
    · rename_i h
      subst h
      refine List.pairwise_cons.2 ⟨fun b hb => ?_, barsP_pair r _⟩
      have := (barsP_ge hb).1
      rw [step_B] at this
      simp only at this ⊢
      omega
    · exact barsP_pair r _
theorem barsP_length {σ : Int} : ∀ (l : List UInt8) (k : Knot), (barsP σ k l).length = barsN l
  | [], _ => rfl
  | c :: r, k => by
    rw [barsP_cons, barsN, List.countP_cons]
    split
    · rename_i h
      simp [h, barsP_length r, barsN]
    · rename_i h
      simp [h, barsP_length r, barsN]
/-- The height of a knot along the way: each letter adds 2. -/
theorem ends_far {σ : Int} (hσ : σ = 1 ∨ σ = -1) : ∀ {l : List UInt8} {k e : Knot}, (∀ c ∈ l, isL c) → e ∈ ends (barsP σ k l) → σ * k.x + k.y ≤ σ * e.x + e.y
  | [], _, _, _, h => by simp [barsP, ends] at h
  | c :: r, k, e, hl, h => by
    have hc := hl c (by simp)
    have hr : ∀ c ∈ r, isL c := fun c' h' => hl c' (by simp [h'])
    have hs : σ * (stepK σ k c).x + (stepK σ k c).y = σ * k.x + k.y + 2 := by
      rcases hc with rfl | rfl | rfl <;> rcases hσ with rfl | rfl <;> simp [stepK, dxL, dyL] <;> omega
    rw [barsP_cons] at h
    split at h
    · rename_i h66
      rw [mem_ends] at h
      obtain ⟨b, hb, he⟩ := h
      rcases List.mem_cons.1 hb with rfl | hb
      · rcases he with rfl | rfl
        · exact Int.le_refl _
        · rcases hσ with rfl | rfl <;> simp [Bar.hi] <;> omega
      · have := ends_far hσ hr (mem_ends.2 ⟨b, hb, he⟩)
        omega
    · have := ends_far hσ hr h
      omega
theorem start_end {σ : Int} (hσ : σ = 1 ∨ σ = -1) {l : List UInt8} {k : Knot} (hl : ∀ c ∈ l, isL c) : k ∈ ends (barsP σ k l) ↔ headB l = true := by
  match l with
  | [] => simp [barsP, ends, headB]
  | c :: r =>
    have hr : ∀ c ∈ r, isL c := fun c' h' => hl c' (by simp [h'])
    have hs : σ * (stepK σ k c).x + (stepK σ k c).y = σ * k.x + k.y + 2 := by
      rcases hl c (by simp) with rfl | rfl | rfl <;> rcases hσ with rfl | rfl <;> simp [stepK, dxL, dyL] <;> omega
    by_cases h66 : c = 66
    · subst h66
      refine ⟨fun _ => rfl, fun _ => mem_ends.2 ⟨⟨k.x, k.y, σ⟩, by rw [barsP_cons]; simp, .inl rfl⟩⟩
    · have hh : headB (c :: r) = false := by
        unfold headB
        split
        · rename_i h; cases h; exact absurd rfl h66
        · rfl
      rw [hh, barsP_cons, if_neg h66]
      refine ⟨fun h => ?_, fun h => by cases h⟩
      have := ends_far hσ hr h
      omega
/-- Knots and parts of an edge. -/
theorem barsP_parts {σ : Int} (hσ : σ = 1 ∨ σ = -1) : ∀ {l : List UInt8} {k : Knot}, (∀ c ∈ l, isL c) → PartsIs (barsP σ k l) (endsR l) ∧ nK (barsP σ k l) = barsN l + endsR l
  | [], k, _ => ⟨.nil _, by simp [barsP, nK, ends, nub, barsN, endsR]⟩
  | c :: r, k, hl => by
    have hr : ∀ c ∈ r, isL c := fun c' h' => hl c' (by simp [h'])
    obtain ⟨ih1, ih2⟩ := barsP_parts hσ (l := r) (k := stepK σ k c) hr
    by_cases h66 : c = 66
    · subst h66
      rw [barsP_cons, if_pos rfl]
      have hm : ∀ x, x ∈ (⟨k.x, k.y, σ⟩ :: barsP σ (stepK σ k 66) r : List Bar) ↔ x = (⟨k.x, k.y, σ⟩ : Bar) ∨ x ∈ barsP σ (stepK σ k 66) r := fun x => List.mem_cons
      obtain ⟨p', hp'⟩ := CntIs.total (l := ⟨k.x, k.y, σ⟩ :: barsP σ (stepK σ k 66) r) (⟨k.x, k.y, σ⟩ :: barsP σ (stepK σ k 66) r) []
      have hlo : (⟨k.x, k.y, σ⟩ : Bar).lo ∉ ends (barsP σ (stepK σ k 66) r) := fun h => by
        have := ends_far hσ hr h
        rw [step_B] at this
        rcases hσ with rfl | rfl <;> simp [Bar.lo] at this <;> omega
      have hhi : (⟨k.x, k.y, σ⟩ : Bar).hi ∈ ends (barsP σ (stepK σ k 66) r) ↔ headB r = true := by
        rw [← start_end hσ (k := stepK σ k 66) hr, step_B]
        exact Iff.rfl
      have hk := nK_more hm
      rw [if_neg hlo] at hk
      have he : endsR (66 :: r) = (if headB r = true then 0 else 1) + endsR r := by simp [endsR]
      have hn : barsN (66 :: r) = barsN r + 1 := by simp [barsN]
      rcases rank_more hm ih1 hp' with h | ⟨_, h⟩
      · exact absurd h.1 hlo
      · by_cases hb : headB r = true
        · rw [if_pos (hhi.2 hb)] at hk
          rw [if_pos hb] at he
          have : p' = endsR (66 :: r) := by omega
          subst this
          exact ⟨hp', by omega⟩
        · rw [if_neg (fun h' => hb (hhi.1 h'))] at hk
          rw [if_neg hb] at he
          have : p' = endsR (66 :: r) := by omega
          subst this
          exact ⟨hp', by omega⟩
    · have he : endsR (c :: r) = endsR r := by simp [endsR, h66]
      have hn : barsN (c :: r) = barsN r := by simp [barsN, h66]
      rw [barsP_cons, if_neg h66, he, hn]
      exact ⟨ih1, ih2⟩
theorem barsP_meshes {σ : Int} (l : List UInt8) (k : Knot) : nM (barsP σ k l) = 0 := by
  rw [nM, List.countP_eq_zero]
  intro b hb h
  simp only [isMesh, Bool.and_eq_true, decide_eq_true_eq] at h
  have h1 := (barsP_ge hb).2
  have h2 := (barsP_ge h.2.1).2
  simp only at h2
  omega
/-- The runs of bars, counted at their beginnings; the letter before them is known. -/
def startsR : UInt8 → List UInt8 → Nat
  | _, [] => 0
  | a, c :: r => (if c = 66 ∧ a ≠ 66 then 1 else 0) + startsR c r
theorem starts_ends : ∀ (l : List UInt8) (a : UInt8), startsR a l + (if a = 66 ∧ headB l = true then 1 else 0) = endsR l
  | [], a => by simp [startsR, endsR, headB]
  | c :: r, a => by
    have ih := starts_ends r c
    have hh : headB (c :: r) = decide (c = 66) := by
      by_cases h : c = 66
      · subst h; rfl
      · unfold headB
        split
        · rename_i h'; cases h'; exact absurd rfl h
        · simp [h]
    rw [startsR, endsR, hh]
    by_cases h1 : c = 66 <;> by_cases h2 : a = 66 <;> by_cases h3 : headB r = true <;> simp [h1, h2, h3] at ih ⊢ <;> omega
/-- Mirrored and shifted edges. -/
def mirB (b : Bar) : Bar := ⟨-b.x, b.y, -b.s⟩
theorem barsP_mirror (σ : Int) : ∀ (l : List UInt8) (k : Knot), barsP (-σ) ⟨-k.x, k.y⟩ l = (barsP σ k l).map mirB
  | [], _ => rfl
  | c :: r, k => by
    have hs : stepK (-σ) ⟨-k.x, k.y⟩ c = ⟨-(stepK σ k c).x, (stepK σ k c).y⟩ := by
      simp only [stepK, Int.neg_mul, Int.neg_add]
    rw [barsP_cons, barsP_cons, hs, barsP_mirror σ r]
    split <;> simp [mirB]
def shB (dx dy : Int) (b : Bar) : Bar := ⟨b.x + dx, b.y + dy, b.s⟩
theorem barsP_shift (σ dx dy : Int) : ∀ (l : List UInt8) (k : Knot), barsP σ ⟨k.x + dx, k.y + dy⟩ l = (barsP σ k l).map (shB dx dy)
  | [], _ => rfl
  | c :: r, k => by
    have hs : stepK σ ⟨k.x + dx, k.y + dy⟩ c = ⟨(stepK σ k c).x + dx, (stepK σ k c).y + dy⟩ := by
      simp only [stepK, Knot.mk.injEq]
      omega
    rw [barsP_cons, barsP_cons, hs, barsP_shift σ dx dy r]
    split <;> simp [shB]
theorem barsP_lt {σ : Int} (l : List UInt8) (k : Knot) : (barsP σ k l).Pairwise Blt := (barsP_pair l k).imp fun h => .inl h
/-- How far a word leads. -/
theorem barsP_near {σ : Int} (hσ : σ = 1 ∨ σ = -1) : ∀ {l : List UInt8} {k : Knot} {b : Bar}, b ∈ barsP σ k l → k.x - 2 * (l.length : Int) ≤ b.x ∧ b.x ≤ k.x + 2 * (l.length : Int) ∧ b.y ≤ k.y + 2 * (l.length : Int) ∧ (((k.x + k.y) % 2 = 0 → (∀ c ∈ l, isL c) → (b.x + b.y) % 2 = 0))
  | [], _, _, h => by simp [barsP] at h
  | c :: r, k, b, h => by
    have hd : 0 ≤ dxL c ∧ dxL c ≤ 2 ∧ 0 ≤ dyL c ∧ dyL c ≤ 2 ∧ (isL c → dxL c + dyL c = 2) := by
      refine ⟨?_, ?_, ?_, ?_, fun h => ?_⟩
      · unfold dxL; split <;> (try split) <;> omega
      · unfold dxL; split <;> (try split) <;> omega
      · unfold dyL; split <;> (try split) <;> omega
      · unfold dyL; split <;> (try split) <;> omega
      · rcases h with rfl | rfl | rfl <;> simp [dxL, dyL]
    have hx : (stepK σ k c).x = k.x + σ * dxL c := rfl
    have hrec : b ∈ barsP σ (stepK σ k c) r → k.x - 2 * ((c :: r).length : Int) ≤ b.x ∧ b.x ≤ k.x + 2 * ((c :: r).length : Int) ∧ b.y ≤ k.y + 2 * ((c :: r).length : Int) ∧ (((k.x + k.y) % 2 = 0 → (∀ c' ∈ c :: r, isL c') → (b.x + b.y) % 2 = 0)) := fun hb => by
      obtain ⟨h1, h2, h3, h4⟩ := barsP_near hσ hb
      rw [hx] at h1 h2
      rw [step_y] at h3
      simp only [List.length_cons]
      refine ⟨?_, ?_, ?_, fun he hl => h4 ?_ fun c' h' => hl c' (by simp [h'])⟩
      · rcases hσ with rfl | rfl <;> omega
      · rcases hσ with rfl | rfl <;> omega
      · omega
      · have := hd.2.2.2.2 (hl c (by simp))
        rw [hx, step_y]
        rcases hσ with rfl | rfl <;> omega
    rw [barsP_cons] at h
    split at h
    · rcases List.mem_cons.1 h with rfl | h
      · simp only [List.length_cons]
        exact ⟨by omega, by omega, by omega, fun he _ => he⟩
      · exact hrec h
    · exact hrec h
end Go.Proofs.YtfmfpnnglogkmaaGreatDoor

/- Contracts of the small functions of taper, and of the reference's. -/
namespace Go.Proofs.YtfmfpnnglogkmaaGreatDoor
open Go.RowKit

set_option maxHeartbeats 400000 in
theorem tpCheckRange (n lo hi : Int) (w : World) :
    Calls Tryz.prog 75 #[.int .i64 n, .int .i64 lo, .int .i64 hi] w fun e w' => e = .returned (.int .i64 (if n < lo ∨ hi < n then 3 else 0)) ∧ w = w' := by
  by_cases h1 : n < lo
  · go_enter Tryz.func75, Tryz.ntmps75
    go_wp2
    go_ret
    simp
  · by_cases h2 : hi < n
    all_goals
      go_enter Tryz.func75, Tryz.ntmps75
      go_wp2
      go_ret
      simp <;> omega

set_option maxHeartbeats 400000 in
theorem tpFirst (b c : Nat) (es : List Int) (w : World) (hn : es.length ≤ 100) (hc : ∀ i (h : i < es.length), w.cell? ⟨b, i, none⟩ = some (.int .i64 es[i])) :
    Calls Tryz.prog 74 #[.slice (some ⟨b, 0, none⟩) es.length c] w fun e w' => e = .returned (.int .i64 (firstE es)) ∧ w = w' := by
  have HC := Lib.hid hc
  have hn' : (es.length : Int) ≤ 100 := by omega
  clear hc
  go_enter Tryz.func74, Tryz.ntmps74
  go_wp2_with fail
  go_loop [4, 7] (fun _ i => ∃ k : Nat, k ≤ es.length ∧ i = .int .i64 k ∧ firstE es = firstE (es.drop k)) (fun _ i => es.length - (intOf i).toNat)
  case atStart => exact ⟨0, Nat.zero_le _, rfl, rfl⟩
  case round =>
    obtain ⟨k, hk, rfl, he⟩ := hrel
    have HE := Lib.hid he
    clear he
    by_cases hlt : k < es.length
    · have hcell := HC.out k hlt
      by_cases hz : es[k] = 0
      · have HF := Lib.hid (show firstE (es.drop k) = firstE (es.drop (k + 1)) by
          rw [List.drop_eq_getElem_cons hlt]
          simp only [firstE, hz, if_true])
        rw [hz] at hcell
        clear hz
        go_wp2
        go_round
        case rel => exact ⟨k + 1, by omega, by go_num, HE.out.trans HF.out⟩
        case measure => simp [intOf]; omega
      · have HF := Lib.hid (show firstE (es.drop k) = es[k] by
          rw [List.drop_eq_getElem_cons hlt]
          simp only [firstE, if_neg hz])
        have hz1 : (es[k] != 0) = true := by rw [bne_iff_ne]; exact hz
        clear hz
        go_wp2
        go_ret
        exact ⟨ret_i (HE.out.trans HF.out).symm, rfl⟩
    · obtain rfl : k = es.length := by omega
      have HF := Lib.hid (show firstE (es.drop es.length) = 0 by rw [List.drop_length]; rfl)
      go_wp2
      go_ret
      exact ⟨ret_i (HE.out.trans HF.out).symm, rfl⟩

theorem tpFirst2 (g d : Nat) (a b : Int) (t : TypeId) (w : World) (h : w.heap[g]? = some (.cells #[.int .i64 a, .int .i64 b] t (0, 0))) :
    Calls Tryz.prog 74 #[.slice (some ⟨g, 0, none⟩) 2 d] w fun e w' => e = .returned (.int .i64 (firstE [a, b])) ∧ w = w' :=
  tpFirst g d [a, b] w (by simp) (two_cells h)
theorem tpFirst3 (g d : Nat) (a b c : Int) (t : TypeId) (w : World) (h : w.heap[g]? = some (.cells #[.int .i64 a, .int .i64 b, .int .i64 c] t (0, 0))) :
    Calls Tryz.prog 74 #[.slice (some ⟨g, 0, none⟩) 3 d] w fun e w' => e = .returned (.int .i64 (firstE [a, b, c])) ∧ w = w' :=
  tpFirst g d [a, b, c] w (by simp) (three_err h)

/-! ### letters -/
def okC (c : UInt8) : Bool := c = 78 || c = 66 || c = 84
theorem okC_iff (c : UInt8) : okC c = true ↔ isL c := by simp [okC, isL, or_assoc]
set_option maxHeartbeats 400000 in
theorem tpIsLetter (c : UInt8) (w : World) (h : isL c) : Calls Tryz.prog 110 #[.int .i32 c.toNat] w fun e w' => e = .returned (.bool true) ∧ w = w' := by
  rcases h with rfl | rfl | rfl
  all_goals
    go_enter Tryz.func110, Tryz.ntmps110
    go_wp2
    go_ret
    exact ⟨rfl, rfl⟩
set_option maxHeartbeats 400000 in
theorem refIsLetter (c : UInt8) (w : World) : Calls Tryz.prog 67 #[.int .u8 c.toNat] w fun e w' => e = .returned (.bool (okC c)) ∧ w = w' := by
  by_cases h : isL c
  · have hk : okC c = true := (okC_iff c).2 h
    rw [hk]
    clear hk
    rcases h with rfl | rfl | rfl
    all_goals
      go_enter Tryz.func67, Tryz.ntmps67
      go_wp2
      go_ret
      exact ⟨rfl, rfl⟩
  · have hk : okC c = false := by rw [Bool.eq_false_iff]; exact fun h' => h ((okC_iff c).1 h')
    have n0 : ¬ (c.toNat : Int) = 78 := fun e => h (.inl (UInt8.toNat.inj (by show c.toNat = 78; omega)))
    have n1 : ¬ (c.toNat : Int) = 66 := fun e => h (.inr (.inl (UInt8.toNat.inj (by show c.toNat = 66; omega))))
    have n2 : ¬ (c.toNat : Int) = 84 := fun e => h (.inr (.inr (UInt8.toNat.inj (by show c.toNat = 84; omega))))
    rw [hk]
    clear h hk
    go_enter Tryz.func67, Tryz.ntmps67
    go_wp2
    go_ret
    simp [n0, n1, n2]
set_option maxHeartbeats 400000 in
theorem tpCheckLength (n : Int) (w : World) (h : n ≤ 64) : Calls Tryz.prog 70 #[.int .i64 n] w fun e w' => e = .returned (.int .i64 0) ∧ w = w' := by
  go_enter Tryz.func70, Tryz.ntmps70
  go_wp2
  go_ret
  exact ⟨rfl, rfl⟩
/-! ### further -/
set_option maxHeartbeats 1000000 in
theorem tpFurther (x y a b : Int) (o : Bool) (w : World) (hx1 : -200000 ≤ x) (hx2 : x ≤ 200000) (hy1 : -200000 ≤ y) (hy2 : y ≤ 200000) (ha1 : 0 ≤ a) (ha2 : a ≤ 2) (hb1 : 0 ≤ b) (hb2 : b ≤ 2) :
    Calls Tryz.prog 101 #[.agg #[.int .i64 x, .int .i64 y], .agg #[.int .i64 a, .int .i64 b], .bool o] w fun e w' => e = .returned (.agg #[.int .i64 (if o then x + a else x - a), .int .i64 (y + b)]) ∧ Below w.heap.size w w' := by
  cases o
  · go_enter Tryz.func101, Tryz.ntmps101
    go_wp2
    exact bodyPost_ret (v := .agg #[.int .i64 (x - a), .int .i64 (y + b)]) (by simp [results, Tryz.results101, go_sem]) rfl ⟨by simp, (((Below.refl _ _).alloc (Nat.le_refl _) _).alloc (by simp) _).alloc (by simp; omega) _⟩
  · go_enter Tryz.func101, Tryz.ntmps101
    go_wp2
    exact bodyPost_ret (v := .agg #[.int .i64 (x + a), .int .i64 (y + b)]) (by simp [results, Tryz.results101, go_sem]) rfl ⟨by simp, (((Below.refl _ _).alloc (Nat.le_refl _) _).alloc (by simp) _).alloc (by simp; omega) _⟩

/-! ### the reference's CheckWord -/
def wordE (l : List UInt8) : Int := if l = [] then 12 else if 64 < l.length then 26 else if l.all okC then 0 else 1
theorem byte_at (s : ByteArray) (k : Nat) (_ : k < s.size) (h' : k < s.data.toList.length) : s.data.toList[k] = s[k] := by
  rw [Array.getElem_toList]
  rfl
set_option maxHeartbeats 1000000 in
theorem refCheckWord (s : ByteArray) (w : World) (hs : s.size ≤ 1000) :
    Calls Tryz.prog 28 #[.string s] w fun e w' => e = .returned (.int .i64 (wordE s.data.toList)) ∧ w = w' := by
  go_enter Tryz.func28, Tryz.ntmps28
  go_wp2_with fail
  · rename_i h
    go_ret
    have h0 : s.data.toList = [] := by rw [← Lib.toList_data]; exact List.isEmpty_iff.1 h
    exact ⟨by rw [h0]; rfl, rfl⟩
  · rename_i h1 _ _ h2
    go_ret
    rw [Lib.toList_data] at h1
    have h0 : ¬ s.data.toList = [] := fun e => by rw [e] at h1; cases h1
    have h3 : 64 < s.data.toList.length := by rw [← Lib.size_eq]; omega
    exact ⟨ret_i (by rw [wordE, if_neg h0, if_pos h3]), rfl⟩
  · rename_i h1 h2 _ _
    rw [Lib.toList_data] at h1
    have h0 : ¬ s.data.toList = [] := fun e => by rw [e] at h1; cases h1
    have hsz : s.data.toList.length = s.size := (Lib.size_eq s).symm
    have HW := Lib.hid (show wordE s.data.toList = if s.data.toList.all okC then 0 else 1 by simp only [wordE, if_neg h0]; rw [if_neg (by omega)])
    have HZ := Lib.hid hsz
    clear h1 h2 h0 hsz
    go_loop [3] (fun i => ∃ k : Nat, k ≤ s.size ∧ i = .int .i64 k ∧ (s.data.toList.take k).all okC = true) (fun i => s.size - (intOf i).toNat)
    case atStart => exact ⟨0, Nat.zero_le _, rfl, by simp⟩
    case round =>
      obtain ⟨k, hk, rfl, hall⟩ := hrel
      by_cases hlt : k < s.size
      · have b0 : (0 : Int) ≤ (k : Int) := by omega
        have b1 : (k : Int) < (s.size : Int) := by omega
        have HA := Lib.hid hall
        clear hall
        go_wp2_with fail
        refine (refIsLetter (s[k]) _).mono ?_
        rintro e w2 ⟨rfl, rfl⟩
        have hkl : k < s.data.toList.length := by rw [HZ.out]; exact hlt
        have hel : s.data.toList[k] = s[k] := byte_at s k hlt hkl
        by_cases hok : okC (s[k]) = true
        · have HA2 := Lib.hid (show (s.data.toList.take (k + 1)).all okC = true by
            rw [List.take_succ_eq_append_getElem hkl, List.all_append, HA.out, hel]
            simp [hok])
          rw [hok]
          clear hok hel
          go_wp2
          go_round
          case rel => exact ⟨k + 1, by omega, by go_num, HA2.out⟩
          case measure => simp [intOf]; omega
        · have hf : okC (s[k]) = false := by simpa using hok
          have HE := Lib.hid (show wordE s.data.toList = 1 by
            rw [HW.out, if_neg]
            intro h
            rw [List.all_eq_true] at h
            have := h _ (List.getElem_mem hkl)
            rw [hel, hf] at this
            cases this)
          rw [hf]
          clear hok hel hf
          go_wp2
          go_ret
          exact ⟨ret_i HE.out.symm, rfl⟩
      · have HE := Lib.hid (show wordE s.data.toList = 0 by
          rw [HW.out, if_pos]
          rwa [List.take_of_length_le (by rw [HZ.out]; omega)] at hall)
        clear hall
        go_wp2
        go_ret
        exact ⟨ret_i HE.out.symm, rfl⟩
end Go.Proofs.YtfmfpnnglogkmaaGreatDoor

/- Words without an error: checkLetters and CheckWord of taper. -/
namespace Go.Proofs.YtfmfpnnglogkmaaGreatDoor
open Go.RowKit

theorem isL_small {c : UInt8} (h : isL c) : c.toNat < 128 := by rcases h with rfl | rfl | rfl <;> decide
set_option maxHeartbeats 1000000 in
set_option maxRecDepth 100000 in
theorem tpCheckLetters (s : ByteArray) (w : World) (hl : ∀ c ∈ s.data.toList, isL c) :
    Calls Tryz.prog 106 #[.string s] w fun e w' => e = .returned (.int .i64 0) ∧ Below w.heap.size w w' := by
  have hk0 : (w.iter s 0).heap[w.heap.size]? = some (.stringIter s 0) := by have := World.iter_heap w s 0; simpa using this
  have hb0 : Below w.heap.size w (w.iter s 0) := (Below.refl _ w).alloc (Nat.le_refl _) _
  have HL := Lib.hid hl
  clear hl
  go_enter Tryz.func106, Tryz.ntmps106
  go_wp2_with fail
  go_loopw [4] (fun _ wr => ∃ pos : Nat, pos ≤ s.size ∧ wr.heap[w.heap.size]? = some (.stringIter s pos) ∧ Below w.heap.size w wr) (fun _ wr => s.size - wr.iterPos w.heap.size)
  case atStart => exact ⟨0, Nat.zero_le _, hk0, hb0⟩
  case round =>
    obtain ⟨pos, hps, hk, hb⟩ := hrel
    clear hk0 hb0
    by_cases hp : pos < s.size
    · have hkl : pos < s.data.toList.length := by rw [← Lib.size_eq]; exact hp
      have hL : isL (s[pos]) := by rw [← byte_at s pos hp hkl]; exact HL.out _ (List.getElem_mem hkl)
      have hnext : ∀ ty, (Instr.next (.pointer (some ⟨w.heap.size, 0, none⟩)) true ty).run Tryz.prog wr = _ := fun ty => Lib.run_next_ascii_at wr w.heap.size s pos ty hk hp (isL_small hL)
      have hk1 := Lib.iterAt_heap wr w.heap.size s pos (pos + 1) hk
      have hb1 : Below w.heap.size w (wr.iterAt w.heap.size s (pos + 1)) := Lib.below_iterAt hb (Nat.le_refl _) s (pos + 1)
      have hmu : wr.iterPos w.heap.size = pos := by simp [World.iterPos, hk]
      generalize wr.iterAt w.heap.size s (pos + 1) = W1 at hnext hk1 hb1
      go_wp2_with fail
      refine (tpIsLetter (s[pos]) _ hL).mono ?_
      rintro e w2 ⟨rfl, rfl⟩
      go_wp2
      go_roundw
      case rel => exact ⟨pos + 1, by omega, hk1, hb1⟩
      case measure =>
        have hmu2 : W1.iterPos w.heap.size = pos + 1 := by simp [World.iterPos, hk1]
        rw [hmu, hmu2]
        omega
    · have hnext : ∀ ty, (Instr.next (.pointer (some ⟨w.heap.size, 0, none⟩)) true ty).run Tryz.prog wr = _ := fun ty => Lib.run_next_end_at wr w.heap.size s pos ty hk hp
      go_wp2
      go_ret
      exact ⟨rfl, hb⟩
/-- A word without an error. -/
def Word (s : ByteArray) : Prop := (∀ c ∈ s.data.toList, isL c) ∧ 1 ≤ s.size ∧ s.size ≤ 64
theorem wordE_zero {s : ByteArray} (h : wordE s.data.toList = 0) : Word s := by
  have hz := Lib.size_eq s
  unfold wordE at h
  split at h
  · cases h
  · rename_i h1
    split at h
    · cases h
    · rename_i h2
      split at h
      · rename_i h3
        rw [List.all_eq_true] at h3
        refine ⟨fun c hc => (okC_iff c).1 (h3 c hc), ?_, by omega⟩
        cases hl : s.data.toList with
        | nil => exact absurd hl h1
        | cons a r => rw [hz, hl]; simp
      · cases h
set_option maxHeartbeats 1000000 in
set_option maxRecDepth 100000 in
theorem tpCheckWord (s : ByteArray) (w : World) (h : Word s) :
    Calls Tryz.prog 72 #[.string s] w fun e w' => e = .returned (.int .i64 0) ∧ Below w.heap.size w w' := by
  obtain ⟨hl, h1, h2⟩ := h
  have hne : s.toList.isEmpty = false := by
    rw [Lib.toList_data]
    have := Lib.size_eq s
    cases hs : s.data.toList with
    | nil => rw [hs, List.length_nil] at this; omega
    | cons a r => rfl
  have hn64 : (s.size : Int) ≤ 64 := by omega
  go_enter Tryz.func72, Tryz.ntmps72
  go_wp2_with fail
  refine (tpCheckLength _ _ hn64).mono ?_
  rintro e w1 ⟨rfl, rfl⟩
  go_wp2_with fail
  refine (tpCheckLetters s _ hl).mono ?_
  rintro e w2 ⟨rfl, hb⟩
  go_wp2_with fail
  refine (tpFirst2 _ _ 0 0 30 _ (by exact heap_alloc_new _ _)).mono ?_
  rintro e w3 ⟨rfl, rfl⟩
  rw [show firstE [0, 0] = 0 from rfl]
  go_wp2
  go_ret
  exact ⟨rfl, hb.alloc hb.size _⟩
end Go.Proofs.YtfmfpnnglogkmaaGreatDoor

/- The map of the letters' vectors. -/
namespace Go.Proofs.YtfmfpnnglogkmaaGreatDoor
open Go.RowKit Go.ChangeMaps Go.MapKept

def ve (c a b : Int) (n : Nat) : MapEntry := { key := .int .i32 c, val := .agg #[.int .i64 a, .int .i64 b], born := n }
/-- Block b is the map of the three vectors. -/
def VecAt (w : World) (b : Nat) : Prop := w.heap[b]? = some (.map #[ve 78 0 2 0, ve 66 1 1 1, ve 84 2 0 2] 3)
theorem VecAt.lt {w : World} {b : Nat} (h : VecAt w b) : b < w.heap.size := (Array.getElem?_eq_some_iff.1 h).1
theorem VecAt.of_block {w w' : World} {b : Nat} (h : VecAt w b) (hb : w'.heap[b]? = w.heap[b]?) : VecAt w' b := hb.trans h
theorem vecUpdate {w : World} {b : Nat} {es : Array MapEntry} {clock : Nat} (h1 : w.heap[b]? = some (.map es clock)) (c x y : Int)
    (hc : (Instr.checkKey false 10000 21 (.int .i32 c)).run Tryz.prog w = .ok () w ∧ (Instr.checkKey true 10000 21 (.int .i32 c)).run Tryz.prog w = .ok () w)
    (hf : (Instr.findKey 21 (.int .i32 c) es.toList).run Tryz.prog w = .ok none w) :
    (Instr.mapUpdate 145 (.map (some b)) (.int .i32 c) (.agg #[.int .i64 x, .int .i64 y])).run Tryz.prog w = .ok () (setBlock w b (.map (es.push (ve c x y clock)) (clock + 1))) := by
  simp [Instr.mapUpdate, run_underlying Tryz.underlying145, MapKept.run_getObj_map h1, hc.1, hf, MapKept.run_setObj_map _ h1, Result.andThen, setBlock, ve]
theorem vecLookup {w : World} {b : Nat} (h : VecAt w b) {c : UInt8} (hc : isL c) :
    (Instr.lookup 145 (.map (some b)) (.int .i32 c.toNat) false).run Tryz.prog w = .ok (.agg #[.int .i64 (dxL c), .int .i64 (dyL c)]) w := by
  rcases hc with rfl | rfl | rfl
  · have h1 : (Instr.checkKey false 10000 21 (.int .i32 78)).run Tryz.prog w = .ok () w := by kernel_rfl
    have h2 : (Instr.findKey 21 (.int .i32 78) [ve 78 0 2 0, ve 66 1 1 1, ve 84 2 0 2]).run Tryz.prog w = .ok (some (0, .agg #[.int .i64 0, .int .i64 2])) w := by kernel_rfl
    simp [Instr.lookup, run_underlying Tryz.underlying145, MapKept.run_getObj_map h, h1, h2, Result.andThen, dxL, dyL]
  · have h1 : (Instr.checkKey false 10000 21 (.int .i32 66)).run Tryz.prog w = .ok () w := by kernel_rfl
    have h2 : (Instr.findKey 21 (.int .i32 66) [ve 78 0 2 0, ve 66 1 1 1, ve 84 2 0 2]).run Tryz.prog w = .ok (some (1, .agg #[.int .i64 1, .int .i64 1])) w := by kernel_rfl
    simp [Instr.lookup, run_underlying Tryz.underlying145, MapKept.run_getObj_map h, h1, h2, Result.andThen, dxL, dyL]
  · have h1 : (Instr.checkKey false 10000 21 (.int .i32 84)).run Tryz.prog w = .ok () w := by kernel_rfl
    have h2 : (Instr.findKey 21 (.int .i32 84) [ve 78 0 2 0, ve 66 1 1 1, ve 84 2 0 2]).run Tryz.prog w = .ok (some (2, .agg #[.int .i64 2, .int .i64 0])) w := by kernel_rfl
    simp [Instr.lookup, run_underlying Tryz.underlying145, MapKept.run_getObj_map h, h1, h2, Result.andThen, dxL, dyL]

theorem vec_three (w : World) : ∃ w1 w2 w3, (Instr.mapUpdate 145 (.map (some w.heap.size)) (.int .i32 78) (.agg #[.int .i64 0, .int .i64 2])).run Tryz.prog (w.alloc (.map #[] 0)) = .ok () w1 ∧
    (Instr.mapUpdate 145 (.map (some w.heap.size)) (.int .i32 66) (.agg #[.int .i64 1, .int .i64 1])).run Tryz.prog w1 = .ok () w2 ∧
    (Instr.mapUpdate 145 (.map (some w.heap.size)) (.int .i32 84) (.agg #[.int .i64 2, .int .i64 0])).run Tryz.prog w2 = .ok () w3 ∧ VecAt w3 w.heap.size ∧ Below w.heap.size w w3 := by
  have g0 : (w.alloc (.map #[] 0)).heap[w.heap.size]? = some (.map #[] 0) := heap_alloc_new _ _
  have b0 : Below w.heap.size w (w.alloc (.map #[] 0)) := (Below.refl _ _).alloc (Nat.le_refl _) _
  have grown : ∀ (w1 : World) (es : Array MapEntry) (cl : Nat) (o : Obj), w1.heap[w.heap.size]? = some (.map es cl) → Below w.heap.size w w1 → Below w.heap.size w (setBlock w1 w.heap.size o) := fun w1 es cl o h hb =>
    hb.grown (row := some w.heap.size) ⟨rfl, rfl, rfl, by simp [setBlock], fun i _ hi => heap_setBlock_other h _ (fun e => hi (by rw [e]))⟩ hb.size (fun k e => by cases e; exact Nat.le_refl _)
  have u1 := vecUpdate g0 78 0 2 ⟨by kernel_rfl, by kernel_rfl⟩ (by kernel_rfl)
  have g1 := heap_setBlock_same g0 (.map (#[].push (ve 78 0 2 0)) 1)
  have b1 := grown _ _ _ (.map (#[].push (ve 78 0 2 0)) 1) g0 b0
  have u2 := vecUpdate g1 66 1 1 ⟨by kernel_rfl, by kernel_rfl⟩ (by kernel_rfl)
  have g2 := heap_setBlock_same g1 (.map ((#[].push (ve 78 0 2 0)).push (ve 66 1 1 1)) 2)
  have b2 := grown _ _ _ (.map ((#[].push (ve 78 0 2 0)).push (ve 66 1 1 1)) 2) g1 b1
  have u3 := vecUpdate g2 84 2 0 ⟨by kernel_rfl, by kernel_rfl⟩ (by kernel_rfl)
  have g3 := heap_setBlock_same g2 (.map (((#[].push (ve 78 0 2 0)).push (ve 66 1 1 1)).push (ve 84 2 0 2)) 3)
  have b3 := grown _ _ _ (.map (((#[].push (ve 78 0 2 0)).push (ve 66 1 1 1)).push (ve 84 2 0 2)) 3) g2 b2
  exact ⟨_, _, _, u1, u2, u3, g3, b3⟩
set_option maxHeartbeats 1000000 in
set_option maxRecDepth 100000 in
theorem tpVectors (w : World) :
    Calls Tryz.prog 100 #[] w fun e w' => e = .returned (.map (some w.heap.size)) ∧ VecAt w' w.heap.size ∧ Below w.heap.size w w' := by
  have hmm := @run_makeMap Tryz.prog
  obtain ⟨w1, w2, w3, u1, u2, u3, hv, hb⟩ := vec_three w
  go_enter Tryz.func100, Tryz.ntmps100
  go_wp2
  go_ret
  exact ⟨rfl, hv, hb⟩
end Go.Proofs.YtfmfpnnglogkmaaGreatDoor

/- A word several times; the closure of legs. -/
namespace Go.Proofs.YtfmfpnnglogkmaaGreatDoor
open Go.RowKit Go.Shelf

theorem Tryz.repX : Builder.Extra Tryz.prog Tryz.rep_ren := {
  sizeBuilder := by kernel_rfl,
  liesBuilder := by kernel_rfl,
  t5 := Tryz.rep.t5,
  a5 := Tryz.rep.a5,
  z5 := Tryz.rep.z5,
  v5 := Tryz.rep.v5,
  infoByte := by kernel_rfl,
  cellsByte := by kernel_rfl,
  sizeByte := by kernel_rfl,
  neB5 := by decide }
theorem Tryz.repF : Tryz.rep_ren.f 105 = 112 := by kernel_rfl
theorem strRepeat (s : ByteArray) (c : Nat) (w : World) (hs : s.size ≤ 64) (hc : c ≤ 256) :
    Calls Tryz.prog 112 #[.string s, .int .i64 c] w fun e w' => e = .returned (.string ⟨(Lib.repeatL s.data.toList c).toArray⟩) ∧ Below w.heap.size w w' := by
  have hb : s.size * c ≤ 140737488355328 := Nat.le_trans (Nat.mul_le_mul hs hc) (by decide)
  have h := Any.strings_Repeat Tryz.rep Tryz.repX s c w (by omega) hb
  rw [Tryz.repF] at h
  exact h
theorem tpRepeated (s : ByteArray) (c : Nat) (w : World) (hs : s.size ≤ 64) (hc : c ≤ 256) :
    Calls Tryz.prog 83 #[.string s, .int .i64 c] w fun e w' => e = .returned (.string ⟨(Lib.repeatL s.data.toList c).toArray⟩) ∧ Below w.heap.size w w' := by
  go_enter Tryz.func83, Tryz.ntmps83
  go_wp2_with fail
  refine (strRepeat s c _ hs hc).mono ?_
  rintro e w1 ⟨rfl, hb⟩
  go_wp2
  go_ret
  exact ⟨rfl, hb⟩
theorem tpLegs (x y : Int) (s : ByteArray) (n : Int) (o : Bool) (w : World) :
    Calls Tryz.prog 62 #[.agg #[.int .i64 x, .int .i64 y], .string s, .int .i64 n, .bool o] w fun e w' =>
      e = .returned (.func (.func 99) #[] #[.pointer (some ⟨w.heap.size, 0, none⟩), .pointer (some ⟨w.heap.size + 1, 0, none⟩), .pointer (some ⟨w.heap.size + 2, 0, none⟩), .pointer (some ⟨w.heap.size + 3, 0, none⟩)]) ∧
      w' = (((w.alloc (.cells #[.int .i64 x, .int .i64 y] 43)).alloc (.cells #[.string s] 9)).alloc (.cells #[.int .i64 n] 3)).alloc (.cells #[.bool o] 4) := by
  go_enter Tryz.func62, Tryz.ntmps62
  go_wp2
  go_ret
  exact ⟨by simp, rfl⟩
end Go.Proofs.YtfmfpnnglogkmaaGreatDoor

/- The letters of an edge, one after another: what legs visits. -/
namespace Go.Proofs.YtfmfpnnglogkmaaGreatDoor
open Go.RowKit Go.Shelf Ck

def sg (o : Bool) : Int := if o then 1 else -1
theorem sg_or (o : Bool) : sg o = 1 ∨ sg o = -1 := by cases o <;> simp [sg]
def legsL (σ : Int) : Knot → List UInt8 → List (UInt8 × Knot × Knot)
  | _, [] => []
  | k, c :: r => (c, k, stepK σ k c) :: legsL σ (stepK σ k c) r
def posK (σ : Int) (k : Knot) (l : List UInt8) : Knot := l.foldl (stepK σ) k
theorem posK_snoc (σ : Int) (k : Knot) (l : List UInt8) (c : UInt8) : posK σ k (l ++ [c]) = stepK σ (posK σ k l) c := by simp [posK]
theorem legsL_snoc (σ : Int) : ∀ (l : List UInt8) (k : Knot) (c : UInt8), legsL σ k (l ++ [c]) = legsL σ k l ++ [(c, posK σ k l, stepK σ (posK σ k l) c)]
  | [], _, _ => rfl
  | a :: r, k, c => by
    rw [List.cons_append, legsL, legsL_snoc σ r]
    rfl
theorem legsL_append (σ : Int) : ∀ (l : List UInt8) (k : Knot) (r : List UInt8), legsL σ k (l ++ r) = legsL σ k l ++ legsL σ (posK σ k l) r
  | [], _, _ => rfl
  | a :: l, k, r => by
    rw [List.cons_append, legsL, legsL_append σ l]
    rfl
theorem legsL_length (σ : Int) : ∀ (l : List UInt8) (k : Knot), (legsL σ k l).length = l.length
  | [], _ => rfl
  | _ :: r, k => by rw [legsL, List.length_cons, legsL_length σ r, List.length_cons]
theorem step_near (o : Bool) {k : Knot} {c : UInt8} (hc : isL c) : (stepK (sg o) k c).x ≤ k.x + 2 ∧ k.x - 2 ≤ (stepK (sg o) k c).x ∧ (stepK (sg o) k c).y ≤ k.y + 2 ∧ k.y ≤ (stepK (sg o) k c).y := by
  rcases hc with rfl | rfl | rfl <;> cases o <;> simp [stepK, sg, dxL, dyL] <;> omega
def legArr (x : UInt8 × Knot × Knot) : Array Value := #[.agg #[.int .i32 (x.1.toNat : Int), .int .i64 x.2.1.x, .int .i64 x.2.1.y, .int .i64 x.2.2.x, .int .i64 x.2.2.y]]
/-- From block B1 on: maps, iterators, boxes of a knot, and cells of other types than e lie as they lay. -/
def KT (B1 : Nat) (e : TypeId) (W W' : World) : Prop := W.heap.size ≤ W'.heap.size ∧ ∀ b o, B1 ≤ b → W.heap[b]? = some o → (o.isWalk = true ∨ ∃ cs t f, o = .cells cs t f ∧ (t ≠ e ∨ t = 43 ∧ cs.size = 2)) → W'.heap[b]? = some o
theorem KT.trans {B1 : Nat} {e : TypeId} {A B C : World} (h : KT B1 e A B) (k : KT B1 e B C) : KT B1 e A C := ⟨Nat.le_trans h.1 k.1, fun b o hb ho hk => k.2 b o hb (h.2 b o hb ho hk) hk⟩
theorem KT.put {B1 : Nat} {e : TypeId} {w : World} (W : World) (l : Nat) (o o' : Obj) (_ : w.heap.size ≤ l) (hl : W.heap[l]? = some o) (h1 : o.isCells = false) (h2 : o.isWalk = false) : KT B1 e W (W.putObj l o') :=
  ⟨by simp, fun b ob _ hob hk => by
    have : b ≠ l := by
      rintro rfl
      rw [hl] at hob
      cases hob
      rcases hk with hk | ⟨cs, t, f, rfl, _⟩
      · rw [h2] at hk; cases hk
      · cases h1
    exact (World.putObj_heap_other this).trans hob⟩
theorem KT.of_below {B1 : Nat} {e : TypeId} {W W' : World} (h : Below W.heap.size W W') : KT B1 e W W' := ⟨h.size, fun b _ _ ho _ => (h.block b (Array.getElem?_eq_some_iff.1 ho).1).trans ho⟩

theorem tpFurtherK (k : Knot) (c : UInt8) (o : Bool) (w : World) (hc : isL c) (hx1 : -200000 ≤ k.x) (hx2 : k.x ≤ 200000) (hy1 : -200000 ≤ k.y) (hy2 : k.y ≤ 200000) :
    Calls Tryz.prog 101 #[.agg #[.int .i64 k.x, .int .i64 k.y], .agg #[.int .i64 (dxL c), .int .i64 (dyL c)], .bool o] w fun e w' => e = .returned (.agg #[.int .i64 (stepK (sg o) k c).x, .int .i64 (stepK (sg o) k c).y]) ∧ Below w.heap.size w w' := by
  have hd : 0 ≤ dxL c ∧ dxL c ≤ 2 ∧ 0 ≤ dyL c ∧ dyL c ≤ 2 := by rcases hc with rfl | rfl | rfl <;> simp [dxL, dyL]
  refine (tpFurther k.x k.y (dxL c) (dyL c) o w hx1 hx2 hy1 hy2 hd.1 hd.2.1 hd.2.2.1 hd.2.2.2).mono fun e w' h => ⟨?_, h.2⟩
  rw [h.1]
  cases o <;> simp [stepK, sg, Int.sub_eq_add_neg]
theorem two_cell {W : World} {b : Nat} {u v : Value} {t : TypeId} (h : W.heap[b]? = some (.cells #[u, v] t (0, 0))) : W.cell? ⟨b, 0, none⟩ = some u ∧ W.cell? ⟨b, 1, none⟩ = some v ∧ W.frozen? ⟨b, 0, none⟩ = false ∧ W.frozen? ⟨b, 1, none⟩ = false := by
  refine ⟨?_, ?_, ?_, ?_⟩ <;> simp [World.cell?, World.frozen?, h]
theorem two_set {W : World} {b : Nat} {u v : Value} {t : TypeId} (h : W.heap[b]? = some (.cells #[u, v] t (0, 0))) (p q : Value) :
    ((W.setCell ⟨b, 0, none⟩ p).setCell ⟨b, 1, none⟩ q).heap[b]? = some (.cells #[p, q] t (0, 0)) ∧ W.grownBy ((W.setCell ⟨b, 0, none⟩ p).setCell ⟨b, 1, none⟩ q) (some b) := by
  have e0 : (W.setCell ⟨b, 0, none⟩ p).heap[b]? = some (.cells #[p, v] t (0, 0)) := by
    simp only [World.setCell, Array.getElem?_modify, if_true, h, Option.map_some]
    rfl
  have e1 : ((W.setCell ⟨b, 0, none⟩ p).setCell ⟨b, 1, none⟩ q).heap[b]? = some (.cells #[p, q] t (0, 0)) := by
    generalize W.setCell ⟨b, 0, none⟩ p = X at *
    simp only [World.setCell, Array.getElem?_modify, if_true, e0, Option.map_some]
    rfl
  refine ⟨e1, ⟨rfl, rfl, rfl, by simp [World.setCell], fun i _ hne => ?_⟩⟩
  have : i ≠ b := fun e => hne (by rw [e])
  exact (Below.heap_setCell _ _ _ i this).trans (Below.heap_setCell _ _ _ i this)
theorem one_cell {W : World} {b : Nat} {u : Value} {t : TypeId} (h : W.heap[b]? = some (.cells #[u] t (0, 0))) : W.cell? ⟨b, 0, none⟩ = some u := by
  simp [World.cell?, h]

set_option maxHeartbeats 4000000 in
set_option maxRecDepth 100000 in
theorem legs_visits (B1 n Ba Bs Bn Bb : Nat) (te : TypeId) (hn : 3 ≤ n) (x y : Int) (s : ByteArray) (c : Nat) (o : Bool) (w : World) (ht2 : 4 ≠ te) (hs : Word s) (hlen : c * s.size ≤ 256) (hx1 : -100000 ≤ x) (hx2 : x ≤ 100000) (hy1 : -100000 ≤ y) (hy2 : y ≤ 100000)
    (hBb1 : B1 ≤ Bb) (_ : B1 ≤ w.heap.size)
    (ha : w.heap[Ba]? = some (.cells #[.int .i64 x, .int .i64 y] 43 (0, 0))) (hb : w.heap[Bs]? = some (.cells #[.string s] 9 (0, 0))) (hcn : w.heap[Bn]? = some (.cells #[.int .i64 c] 3 (0, 0))) (ho : w.heap[Bb]? = some (.cells #[.bool o] 4 (0, 0))) :
    Visits Tryz.prog n 43 99 #[.pointer (some ⟨Ba, 0, none⟩), .pointer (some ⟨Bs, 0, none⟩), .pointer (some ⟨Bn, 0, none⟩), .pointer (some ⟨Bb, 0, none⟩)] legArr (KT B1 te) (fun ss => ss = legsL (sg o) ⟨x, y⟩ (Lib.repeatL s.data.toList c)) (fun pre x' => ∃ r, legsL (sg o) ⟨x, y⟩ (Lib.repeatL s.data.toList c) = pre ++ x' :: r) w := by
  intro l J W hbw hJ hY h0
  have h1n : 1 ≤ n := by omega
  have fv : Fence.wide.fn 100 := trivial
  have fr : Fence.wide.fn 83 := trivial
  have ff : Fence.wide.fn 101 := trivial
  have za := (Array.getElem?_eq_some_iff.1 ha).1
  have zb := (Array.getElem?_eq_some_iff.1 hb).1
  have zc := (Array.getElem?_eq_some_iff.1 hcn).1
  have zo := (Array.getElem?_eq_some_iff.1 ho).1
  have hWz := hbw.size
  -- what is repeated
  have hc256 : c ≤ 256 := by have := Nat.mul_le_mul_left c hs.2.1; omega
  obtain ⟨L, hL⟩ : ∃ L, Lib.repeatL s.data.toList c = L := ⟨_, rfl⟩
  have hLl : L.length ≤ 256 := by rw [← hL, Lib.repeatL_length, ← Lib.size_eq]; exact hlen
  have hLL : ∀ q ∈ L, isL q := by
    rw [← hL]
    clear hL hLl hlen hcn hc256 hY
    induction c with
    | zero => intro q hq; simp [Lib.repeatL] at hq
    | succ c ih => intro q hq; rw [Lib.repeatL, List.mem_append] at hq; exact hq.elim (hs.1 q) (ih q)
  obtain ⟨S, hS⟩ : ∃ S : ByteArray, S = ⟨L.toArray⟩ := ⟨_, rfl⟩
  have hSz : S.size = L.length := by rw [hS]; simp [ByteArray.size]
  have hSd : S.data.toList = L := by rw [hS]
  have HS := Lib.hid hS
  have HSZ := Lib.hid hSz
  have HSD := Lib.hid hSd
  clear hS hSz hSd
  obtain ⟨a0, a1, -, -⟩ := two_cell ((hbw.block Ba za).trans ha)
  have b0 := one_cell ((hbw.block Bs zb).trans hb)
  have c0 := one_cell ((hbw.block Bn zc).trans hcn)
  have hoW := (hbw.block Bb zo).trans ho
  refine callsIn_of_wp Tryz.func99 rfl trivial ?_ rfl
  simp only [Tryz.ntmps99, List.size_toArray, List.length_cons, List.length_nil, Nat.reduceAdd, Nat.reduceSub, Array.replicate_succ, Array.replicate_zero, List.push_toArray, List.append_toArray, List.nil_append, List.cons_append]
  have hj0 := h0
  clear h0
  gi_wp2_with (first
    | (gi_at_call 100; refine (callsIn_wide.2 (tpVectors _)).mono ?_; rintro e w1 ⟨rfl, hv1, hb1⟩; have hzv := hv1.lt; have hz1 := hb1.size; have e0 := (hb1.cell (p := ⟨Ba, 0, none⟩) (by show Ba < _; omega)).trans a0; have e1 := (hb1.cell (p := ⟨Ba, 1, none⟩) (by show Ba < _; omega)).trans a1; obtain ⟨w2, hw2, -, -, hb2, hz2⟩ := box2 w1 (.int .i64 x) (.int .i64 y) 43; have e2 := ((hb2.cell (p := ⟨Bs, 0, none⟩) (by show Bs < _; omega)).trans (hb1.cell (p := ⟨Bs, 0, none⟩) (by show Bs < _; omega))).trans b0; have e3 := ((hb2.cell (p := ⟨Bn, 0, none⟩) (by show Bn < _; omega)).trans (hb1.cell (p := ⟨Bn, 0, none⟩) (by show Bn < _; omega))).trans c0; have hw2' := hw2.symm; clear hw2)
    | (gi_at_call 83; refine (callsIn_wide.2 (tpRepeated s c _ (by have := hs.2.2; omega) hc256)).mono ?_; rintro e w3 ⟨rfl, hb3⟩; rw [hL, ← HS.out]))
  have HJ := Lib.hid hJ
  have hz3 := hb3.size
  -- the worlds up to the loop
  have hjr : J [] (w3.iter S 0) := hJ.below (hJ.below (hJ.below (hJ.below hj0 (hb1.mono (Nat.le_refl _))) (hw2' ▸ hb2)) hb3) ((Below.refl _ _).alloc (Nat.le_refl _) _)
  have hBw : Below W.heap.size W (w3.iter S 0) := (((hb1.trans (hb2.mono hz1)).trans (hb3.mono (by omega)))).alloc (by omega) _
  have hit0 : (w3.iter S 0).heap[w3.heap.size]? = some (.stringIter S 0) := World.iter_heap w3 S 0
  have hv3 : VecAt (w3.iter S 0) W.heap.size := by
    have q1 := hv1.lt
    refine hv1.of_block ?_
    rw [show (w3.iter S 0).heap[W.heap.size]? = w3.heap[W.heap.size]? from Below.heap_alloc _ _ _ (by omega), hb3.block _ (by omega), hb2.block _ q1]
  have hf3 : (w3.iter S 0).heap[w1.heap.size]? = some (.cells #[.int .i64 x, .int .i64 y] 43 (0, 0)) := by
    rw [show (w3.iter S 0).heap[w1.heap.size]? = w3.heap[w1.heap.size]? from Below.heap_alloc _ _ _ (by omega), hb3.block _ hz2, ← hw2']
    exact heap_alloc_new _ _
  have ho3 := (hBw.block Bb (by omega)).trans hoW
  generalize w3.iter S 0 = w4 at *
  clear hw2' hb2 hb3 hv1 hb1 e0 e1 e2 e3 hj0 a0 a1 b0 c0
  gi_loopw [9] (fun _ wr => ∃ (pos : Nat) (k : Knot), pos ≤ L.length ∧ k = posK (sg o) ⟨x, y⟩ (L.take pos) ∧ (k.x ≤ 100000 + 2 * (pos : Int) ∧ -100000 - 2 * (pos : Int) ≤ k.x ∧ k.y ≤ 100000 + 2 * (pos : Int) ∧ -100000 ≤ k.y) ∧
      wr.heap[w3.heap.size]? = some (.stringIter S pos) ∧ VecAt wr W.heap.size ∧ wr.heap[w1.heap.size]? = some (.cells #[.int .i64 k.x, .int .i64 k.y] 43 (0, 0)) ∧ wr.heap[Bb]? = some (.cells #[.bool o] 4 (0, 0)) ∧ J (legsL (sg o) ⟨x, y⟩ (L.take pos)) wr) (fun _ wr => S.size - wr.iterPos w3.heap.size)
  case atStart => exact ⟨0, ⟨x, y⟩, Nat.zero_le _, rfl, ⟨by simp; omega, by simp; omega, by simp; omega, hy1⟩, hit0, hv3, hf3, ho3, hjr⟩
  case round =>
    obtain ⟨pos, k, hpos, hk, ⟨kx1, kx2, ky1, ky2⟩, hit, hv, hf, hob, hj⟩ := hrel
    clear hit0 hv3 hf3 ho3 hjr
    by_cases hp : pos < S.size
    · have hSz := HSZ.out
      have hpl : pos < L.length := by omega
      have hkl : pos < S.data.toList.length := by rw [HSD.out]; exact hpl
      have hel : S[pos] = L[pos] := by rw [← byte_at S pos hp hkl]; simp only [HSD.out]
      obtain ⟨q, hq⟩ : ∃ q, q = L[pos] := ⟨_, rfl⟩
      have hLq : isL q := hq ▸ hLL _ (List.getElem_mem hpl)
      rw [← hq] at hel
      have hnext : ∀ ty, (Instr.next (.pointer (some ⟨w3.heap.size, 0, none⟩)) true ty).run Tryz.prog wr = _ := fun ty => Lib.run_next_ascii_at wr w3.heap.size S pos ty hit hp (by rw [hel]; exact isL_small hLq)
      rw [hel] at hnext
      have hmu : wr.iterPos w3.heap.size = pos := by simp [World.iterPos, hit]
      have hit1 := Lib.iterAt_heap wr w3.heap.size S pos (pos + 1) hit
      have hzi := (Array.getElem?_eq_some_iff.1 hit).1
      have hv1 := hv.of_block (Lib.iterAt_other wr w3.heap.size W.heap.size S (pos + 1) (by omega))
      have hf1 := (Lib.iterAt_other wr w3.heap.size w1.heap.size S (pos + 1) (by omega)).trans hf
      have hob1 := (Lib.iterAt_other wr w3.heap.size Bb S (pos + 1) (by omega)).trans hob
      have hgi : wr.grownBy (wr.iterAt w3.heap.size S (pos + 1)) (some w3.heap.size) := ⟨rfl, rfl, rfl, by simp [World.iterAt], fun i _ hi => Lib.iterAt_other _ _ _ _ _ (fun e => hi (by rw [e]))⟩
      have hj1 := HJ.out _ _ _ (some w3.heap.size) hj hgi (fun b e => by cases e; exact ⟨by omega, _, hit, .inl rfl⟩)
      generalize wr.iterAt w3.heap.size S (pos + 1) = W1 at hnext hit1 hv1 hf1 hob1 hj1
      clear hgi
      obtain ⟨f0, f1, -, -⟩ := two_cell hf1
      have o1 := one_cell hob1
      have hlk := vecLookup hv1 hLq
      obtain ⟨k', hk'⟩ : ∃ k', k' = stepK (sg o) k q := ⟨_, rfl⟩
      obtain ⟨n1, n2, n3, n4⟩ := step_near o (k := k) hLq
      rw [← hk'] at n1 n2 n3 n4
      have HK := Lib.hid hk'
      have HKK := Lib.hid hk
      have HQ := Lib.hid hq
      have HSNOC := Lib.hid (show legsL (sg o) ⟨x, y⟩ (L.take (pos + 1)) = legsL (sg o) ⟨x, y⟩ (L.take pos) ++ [(q, k, k')] by
        rw [List.take_succ_eq_append_getElem hpl, legsL_snoc, ← hk, ← hq, ← hk'])
      have HPOS := Lib.hid (show k' = posK (sg o) ⟨x, y⟩ (L.take (pos + 1)) by
        rw [List.take_succ_eq_append_getElem hpl, posK_snoc, ← hk, ← hq, ← hk'])
      have hlen' : ∃ r, legsL (sg o) ⟨x, y⟩ (Lib.repeatL s.data.toList c) = legsL (sg o) ⟨x, y⟩ (L.take pos) ++ (q, k, k') :: r := by
        refine ⟨legsL (sg o) (posK (sg o) ⟨x, y⟩ (L.take (pos + 1))) (L.drop (pos + 1)), ?_⟩
        have e1 := legsL_append (sg o) (L.take (pos + 1)) ⟨x, y⟩ (L.drop (pos + 1))
        rw [List.take_append_drop, HSNOC.out] at e1
        rw [hL, e1]
        simp
      have HLEN := Lib.hid hlen'
      clear hk' hk hq hel hkl hlen' hf hv hob hit hj
      gi_wp2_with (gi_at_call 101; refine (callsIn_wide.2 (tpFurtherK k q o _ hLq (by omega) (by omega) (by omega) (by omega))).mono ?_; rintro e W2 ⟨rfl, hb2⟩; rw [← HK.out]; have hzi2 := (Array.getElem?_eq_some_iff.1 hit1).1; have hz2' := hb2.size; have g1 := (hb2.block _ (Array.getElem?_eq_some_iff.1 hf1).1).trans hf1; obtain ⟨W3, hW3, m0, m1, hb3, hz3'⟩ := box2 W2 (.int .i64 k'.x) (.int .i64 k'.y) 43; have b13 := hb2.trans (hb3.mono hz2'); obtain ⟨g0, g1', -, -⟩ := two_cell ((b13.block _ (Array.getElem?_eq_some_iff.1 hf1).1).trans hf1); have hj3 := HJ.out.below hj1 b13; obtain ⟨fn, tmps, assign, body, hy, hR⟩ := hY _ (q, k, k') _ hj3 HLEN.out; dsimp only [legArr] at hy; have hW3' := hW3.symm; have T3 : W3.heap[W2.heap.size]? = some (.cells #[.int .i64 k'.x, .int .i64 k'.y] 43 (0, 0)) := (by rw [hW3]; exact heap_alloc_new _ _); clear hW3; have G3 := (b13.block _ (Array.getElem?_eq_some_iff.1 hf1).1).trans hf1; have I3 := (b13.block _ (Array.getElem?_eq_some_iff.1 hit1).1).trans hit1; have V3 := hv1.of_block (b13.block _ hv1.lt); have O3 := (b13.block _ (Array.getElem?_eq_some_iff.1 hob1).1).trans hob1)
      refine hR.mono ?_
      rintro e W4 ⟨rfl, hJ4, hk4⟩
      have hzi1 := (Array.getElem?_eq_some_iff.1 I3).1
      have T4 := hk4.2 _ _ (by omega) T3 (.inr ⟨_, _, _, rfl, .inr ⟨rfl, rfl⟩⟩)
      have G4 := hk4.2 _ _ (by omega) G3 (.inr ⟨_, _, _, rfl, .inr ⟨rfl, rfl⟩⟩)
      have I4 := hk4.2 _ _ (by omega) I3 (.inl rfl)
      have V4 : VecAt W4 W.heap.size := hk4.2 _ _ (by omega) V3 (.inl rfl)
      have O4 := hk4.2 _ _ hBb1 O3 (.inr ⟨_, _, _, rfl, .inl ht2⟩)
      obtain ⟨t0, t1, -, -⟩ := two_cell T4
      obtain ⟨u0, u1, u2, u3⟩ := two_cell G4
      clear T3 G3 I3 V3 O3 g0 g1 g1' m0 m1 f0 f1 o1 hlk hnext hW3'
      gi_wp2
      obtain ⟨G5, hg5⟩ := two_set G4 (.int .i64 k'.x) (.int .i64 k'.y)
      have hj5 := HJ.out _ _ _ (some w1.heap.size) hJ4 hg5 (fun b e => by cases e; exact ⟨hz1, _, G4, .inr ⟨_, _, rfl, rfl⟩⟩)
      rw [← HSNOC.out] at hj5
      have I5 := (hg5.block _ (Array.getElem?_eq_some_iff.1 I4).1 (fun e => by injection e; omega)).trans I4
      have V5 : VecAt _ W.heap.size := (hg5.block _ V4.lt (fun e => by injection e; omega)).trans V4
      have O5 := (hg5.block _ (Array.getElem?_eq_some_iff.1 O4).1 (fun e => by injection e; omega)).trans O4
      generalize (W4.setCell ⟨w1.heap.size, 0, none⟩ (.int .i64 k'.x)).setCell ⟨w1.heap.size, 1, none⟩ (.int .i64 k'.y) = W5 at *
      have hmu5 : W5.iterPos w3.heap.size = pos + 1 := by simp [World.iterPos, I5]
      go_roundw
      case rel => exact ⟨pos + 1, k', by omega, HPOS.out, ⟨by omega, by omega, by omega, by omega⟩, I5, V5, G5, O5, hj5⟩
      case measure =>
        rw [hmu, hmu5]
        omega
    · have hSz := HSZ.out
      obtain rfl : pos = L.length := by omega
      have hnext : ∀ ty, (Instr.next (.pointer (some ⟨w3.heap.size, 0, none⟩)) true ty).run Tryz.prog wr = _ := fun ty => Lib.run_next_end_at wr w3.heap.size S L.length ty hit hp
      rw [List.take_length] at hj
      have HJE := Lib.hid hj
      clear hj hk
      gi_wp2
      go_end0
      exact ⟨⟨_, rfl⟩, _, by rw [hL], HJE.out⟩
end Go.Proofs.YtfmfpnnglogkmaaGreatDoor

/- An edge without an error: checkEdge of taper. -/
namespace Go.Proofs.YtfmfpnnglogkmaaGreatDoor
open Go.RowKit Go.Shelf Ck
attribute [local go_sem] Oper.semAt_some

theorem legs_ok (o : Bool) : ∀ (L : List UInt8) (k : Knot), (∀ c ∈ L, isL c) → okKnot k → k.x + 2 * (L.length : Int) ≤ 100000 → -100000 ≤ k.x - 2 * (L.length : Int) → k.y + 2 * (L.length : Int) ≤ 100000 →
    ∀ q ∈ legsL (sg o) k L, isL q.1 ∧ q.2.2 = stepK (sg o) q.2.1 q.1 ∧ okKnot q.2.1 ∧ okKnot q.2.2
  | [], _, _, _, _, _, _, q, hq => by simp [legsL] at hq
  | c :: r, k, hL, hk, h1, h2, h3, q, hq => by
    have hc := hL c (by simp)
    obtain ⟨n1, n2, n3, n4⟩ := step_near o (k := k) hc
    simp only [List.length_cons, Int.natCast_add, Int.natCast_one] at h1 h2 h3
    have hk' : okKnot (stepK (sg o) k c) := by
      obtain ⟨⟨a1, a2⟩, ⟨a3, a4⟩, a5⟩ := hk
      refine ⟨⟨by omega, by omega⟩, ⟨by omega, by omega⟩, ?_⟩
      rcases hc with rfl | rfl | rfl <;> cases o <;> simp [stepK, sg, dxL, dyL] <;> omega
    rw [legsL] at hq
    rcases List.mem_cons.1 hq with rfl | hq
    · exact ⟨hc, rfl, hk, hk'⟩
    · exact legs_ok o r _ (fun c' h' => hL c' (by simp [h'])) hk' (by omega) (by omega) (by omega) q hq

theorem one_cell' {W : World} {b : Nat} {u : Value} {t : TypeId} (h : W.heap[b]? = some (.cells #[u] t (0, 0))) : W.cell? ⟨b, 0, none⟩ = some u ∧ W.frozen? ⟨b, 0, none⟩ = false := by
  refine ⟨?_, ?_⟩ <;> simp [World.cell?, World.frozen?, h]
theorem one_set {W : World} {b : Nat} {u : Value} {t : TypeId} (h : W.heap[b]? = some (.cells #[u] t (0, 0))) (p : Value) : (W.setCell ⟨b, 0, none⟩ p).heap[b]? = some (.cells #[p] t (0, 0)) := by
  simp only [World.setCell, Array.getElem?_modify, if_true, h, Option.map_some]
  rfl
theorem bides_below {β : Type} {B n : Nat} {e : TypeId} {w : World} (hB : n ≤ B) (hn : n ≤ w.heap.size) : Bides B e (fun (_ : β) W => Below n w W) := fun _ _ _ _ hs hg hr =>
  hs.grown hg (by have := hs.size; omega) (fun k ek => Nat.le_trans hB (hr k ek).1)
theorem bides_block {β : Type} {B b : Nat} {e : TypeId} {o : Obj} (hb : b < B) : Bides B e (fun (_ : β) W => W.heap[b]? = some o) := fun _ _ _ _ hs hg hr =>
  (hg.block b (Array.getElem?_eq_some_iff.1 hs).1 (fun e' => by have := (hr b e'.symm).1; omega)).trans hs
theorem bides_size {β : Type} {B n : Nat} {e : TypeId} : Bides B e (fun (_ : β) W => n ≤ W.heap.size) := fun _ _ _ _ hs hg _ => Nat.le_trans hs hg.size

theorem legs_boxes (W0 : World) (x y n : Int) (s : ByteArray) (o : Bool) : ∃ W9, W9 = (((W0.alloc (.cells #[.int .i64 x, .int .i64 y] 43)).alloc (.cells #[.string s] 9)).alloc (.cells #[.int .i64 n] 3)).alloc (.cells #[.bool o] 4) ∧ Below W0.heap.size W0 W9 ∧ W9.heap.size = W0.heap.size + 4 ∧
    W9.heap[W0.heap.size]? = some (.cells #[.int .i64 x, .int .i64 y] 43 (0, 0)) ∧ W9.heap[W0.heap.size + 1]? = some (.cells #[.string s] 9 (0, 0)) ∧ W9.heap[W0.heap.size + 2]? = some (.cells #[.int .i64 n] 3 (0, 0)) ∧ W9.heap[W0.heap.size + 3]? = some (.cells #[.bool o] 4 (0, 0)) := by
  refine ⟨_, rfl, (((((Below.refl _ _).alloc (Nat.le_refl _) _).alloc (by simp) _).alloc (by simp; omega) _).alloc (by simp; omega) _), by simp, ?_, ?_, ?_, ?_⟩
  · rw [Below.heap_alloc _ _ _ (by simp; omega), Below.heap_alloc _ _ _ (by simp; omega), Below.heap_alloc _ _ _ (by simp)]
    exact heap_alloc_new _ _
  · rw [Below.heap_alloc _ _ _ (by simp), Below.heap_alloc _ _ _ (by simp)]
    have := heap_alloc_new (W0.alloc (.cells #[.int .i64 x, .int .i64 y] 43)) (.cells #[.string s] 9)
    rwa [World.size_alloc] at this
  · rw [Below.heap_alloc _ _ _ (by simp)]
    have := heap_alloc_new ((W0.alloc (.cells #[.int .i64 x, .int .i64 y] 43)).alloc (.cells #[.string s] 9)) (.cells #[.int .i64 n] 3)
    rwa [World.size_alloc, World.size_alloc] at this
  · have := heap_alloc_new (((W0.alloc (.cells #[.int .i64 x, .int .i64 y] 43)).alloc (.cells #[.string s] 9)).alloc (.cells #[.int .i64 n] 3)) (.cells #[.bool o] 4)
    rwa [World.size_alloc, World.size_alloc, World.size_alloc] at this

/-- An edge that is short and lies near the middle. -/
def EdgeOk (x y : Int) (s : ByteArray) (c : Nat) : Prop := Word s ∧ 1 ≤ c ∧ c * s.size ≤ 256 ∧ -90000 ≤ x ∧ x ≤ 90000 ∧ -90000 ≤ y ∧ y ≤ 90000 ∧ (x + y) % 2 = 0
theorem rep_len {s : ByteArray} {c : Nat} : (Lib.repeatL s.data.toList c).length = c * s.size := by rw [Lib.repeatL_length, ← Lib.size_eq]
theorem rep_letters {s : ByteArray} (hs : Word s) : ∀ (c : Nat), ∀ q ∈ Lib.repeatL s.data.toList c, isL q
  | 0, q, hq => by simp [Lib.repeatL] at hq
  | c + 1, q, hq => by rw [Lib.repeatL, List.mem_append] at hq; exact hq.elim (hs.1 q) (rep_letters hs c q)
theorem EdgeOk.legs {x y : Int} {s : ByteArray} {c : Nat} (h : EdgeOk x y s c) (o : Bool) : ∀ q ∈ legsL (sg o) ⟨x, y⟩ (Lib.repeatL s.data.toList c), isL q.1 ∧ q.2.2 = stepK (sg o) q.2.1 q.1 ∧ okKnot q.2.1 ∧ okKnot q.2.2 := by
  obtain ⟨hs, _, h2, x1, x2, y1, y2, hp⟩ := h
  have hl : (Lib.repeatL s.data.toList c).length ≤ 256 := by rw [rep_len]; exact h2
  exact legs_ok o _ _ (rep_letters hs c) ⟨⟨by simp; omega, by simp; omega⟩, ⟨by simp; omega, by simp; omega⟩, hp⟩ (by simp; omega) (by simp; omega) (by simp; omega)

set_option maxHeartbeats 4000000 in
set_option maxRecDepth 100000 in
theorem tpCheckEdge (x y : Int) (s : ByteArray) (c : Nat) (o : Bool) (w : World) (h : EdgeOk x y s c) :
    Calls Tryz.prog 61 #[.agg #[.int .i64 x, .int .i64 y], .string s, .int .i64 c, .bool o] w fun e w' => e = .returned (.int .i64 0) ∧ Below w.heap.size w w' := by
  have HL := Lib.hid (h.legs o)
  obtain ⟨hs, h1, h2, x1, x2, y1, y2, hp⟩ := h
  have HK := Lib.hid ((knotE_ok x y).2 ⟨⟨by simp; omega, by simp; omega⟩, ⟨by simp; omega, by simp; omega⟩, hp⟩)
  have HR := Lib.hid (show (if (c : Int) < 1 ∨ 256 < (c : Int) then (3 : Int) else 0) = 0 by
    rw [if_neg]
    have := Nat.mul_le_mul_left c hs.2.1
    omega)
  have hmul : (s.size : Int) * (c : Int) ≤ 256 := by
    rw [Int.mul_comm, ← Int.natCast_mul]
    omega
  have hmul0 : 0 ≤ (s.size : Int) * (c : Int) := Int.mul_nonneg (by omega) (by omega)
  have HS := Lib.hid hs
  clear hs h1 hp
  refine (callsIn_wide (n := 6)).1 (callsIn_of_wp_marks Tryz.func61 rfl trivial (wpIn_wide.2 ?_) rfl)
  simp only [Tryz.ntmps61, List.size_toArray, List.length_cons, List.length_nil, Nat.reduceAdd, Nat.reduceSub, Array.replicate_succ, Array.replicate_zero, List.push_toArray, List.append_toArray, List.nil_append, List.cons_append]
  obtain ⟨w1, hw1, hb1, hz1, ex, er⟩ : ∃ w1, w1 = (w.alloc (.cells #[.int .i64 x, .int .i64 y] 43)).alloc (.cells #[.int .i64 0] 30) ∧ Below w.heap.size w w1 ∧ w1.heap.size = w.heap.size + 2 ∧ w1.heap[w.heap.size]? = some (.cells #[.int .i64 x, .int .i64 y] 43 (0, 0)) ∧ w1.heap[w.heap.size + 1]? = some (.cells #[.int .i64 0] 30 (0, 0)) := by
    refine ⟨_, rfl, ((Below.refl _ _).alloc (Nat.le_refl _) _).alloc (by simp) _, by simp, ?_, ?_⟩
    · rw [Below.heap_alloc _ _ _ (by simp)]
      exact heap_alloc_new _ _
    · have := heap_alloc_new (w.alloc (.cells #[.int .i64 x, .int .i64 y] 43)) (.cells #[.int .i64 0] 30)
      rwa [World.size_alloc] at this
  have HW1 := Lib.hid hw1
  have HZ1 := Lib.hid hz1
  clear hw1 hz1
  go_wp2_with fail
  rw [← HW1.out]
  refine (netCheckKnot x y _).mono ?_
  rintro e w2 ⟨rfl, hb2⟩
  rw [HK.out]
  go_wp2_with fail
  refine (tpCheckWord s _ HS.out).mono ?_
  rintro e w3 ⟨rfl, hb3⟩
  go_wp2_with fail
  refine (tpCheckRange _ _ _ _).mono ?_
  rintro e w4 ⟨rfl, rfl⟩
  rw [HR.out]
  go_wp2_with fail
  refine (tpFirst3 _ _ 0 0 0 30 _ (by exact heap_alloc_new _ _)).mono ?_
  rintro e w5 ⟨rfl, rfl⟩
  rw [show firstE [0, 0, 0] = 0 from rfl]
  have b13 : Below w1.heap.size w1 w3 := hb2.trans (hb3.mono hb2.size)
  have b16 : Below w1.heap.size w1 (w3.alloc (.cells #[.int .i64 0, .int .i64 0, .int .i64 0] 30)) := b13.alloc b13.size _
  generalize w3.alloc (.cells #[.int .i64 0, .int .i64 0, .int .i64 0] 30) = w6 at *
  have hz1 := HZ1.out
  have ex6 := (b16.block _ (by omega)).trans ex
  have er6 := (b16.block _ (by omega)).trans er
  obtain ⟨f0, f1, -, -⟩ := two_cell ex6
  have bw6 := hb1.trans (b16.mono hb1.size)
  clear ex er hz1
  go_wp2_with fail
  refine (tpLegs x y s c o _).mono ?_
  rintro e w7 ⟨rfl, hw7⟩
  obtain ⟨W9, hW9, hb9, hz9, q0, q1, q2, q3⟩ := legs_boxes w6 x y c s o
  rw [← hW9] at hw7
  have hw7' := hw7.symm
  subst hw7'
  clear hW9
  have HZ9 := Lib.hid hz9
  have er9 := (hb9.block _ (Array.getElem?_eq_some_iff.1 er6).1).trans er6
  have her6 := (Array.getElem?_eq_some_iff.1 er6).1
  have bw9 := bw6.trans (hb9.mono bw6.size)
  clear hz9 f0 f1 hw7
  go_wp2_with fail
  have hvis := legs_visits w6.heap.size 4 w6.heap.size (w6.heap.size + 1) (w6.heap.size + 2) (w6.heap.size + 3) 104 (by omega) x y s c o W9 (by decide) HS.out h2 (by omega) (by omega) (by omega) (by omega) (by omega) (by rw [HZ9.out]; omega) q0 q1 q2 q3
  refine (wpIn_wide (n := 5)).1 ?_
  generalize hA0 : (Act.mk _ _) = A0
  refine wpIn_visits (n := 5) (by omega) (gf := 99) (lb := #[.pointer (some ⟨w6.heap.size, 0, none⟩), .pointer (some ⟨w6.heap.size + 1, 0, none⟩), .pointer (some ⟨w6.heap.size + 2, 0, none⟩), .pointer (some ⟨w6.heap.size + 3, 0, none⟩)]) (by rw [← hA0]; rfl) ?eg hvis KT.trans (KT.put (w := W9)) (fun _ => rfl)
    (fun _ W => Below w.heap.size w W ∧ (W.heap[w.heap.size + 1]? = some (.cells #[.int .i64 0] 30 (0, 0)) ∧ W9.heap.size ≤ W.heap.size))
    (Bides.and (bides_below bw9.size (Nat.le_refl _)) (Bides.and (bides_block (by rw [HZ9.out]; omega)) bides_size)) ⟨bw9, er9, Nat.le_refl _⟩ ?round ?done
  case eg => exact fun _ _ => by kernel_rfl
  case round =>
    rintro l pre q W hz ⟨hbW, herW, hsW⟩ ⟨r, hr⟩
    obtain ⟨hq1, hq2, hq3, hq4⟩ := HL.out q (by rw [hr]; simp)
    clear hq1 hq2 hq3
    have HKq := Lib.hid ((knotE_ok q.2.2.x q.2.2.y).2 hq4)
    subst hA0
    dsimp only [legArr]
    gi_wp2
    have hb0 : Below W.heap.size W (W.alloc (.cells #[.int .i32 (q.1.toNat : Int), .int .i64 q.2.1.x, .int .i64 q.2.1.y, .int .i64 q.2.2.x, .int .i64 q.2.2.y] 104)) := (Below.refl _ _).alloc (Nat.le_refl _) _
    refine ⟨Book.below hz hb0, KT.of_below hb0, fun Wb hg hobj _ => ?_⟩
    have hbx : Wb.heap[W.heap.size]? = some (.cells #[.int .i32 (q.1.toNat : Int), .int .i64 q.2.1.x, .int .i64 q.2.1.y, .int .i64 q.2.2.x, .int .i64 q.2.2.y] 104 (0, 0)) :=
      (hg.block _ (by simp) (fun e => by injection e; omega)).trans (heap_alloc_new _ _)
    obtain ⟨r0, r1, r2, r3, r4, -⟩ := five_of_block hbx
    obtain ⟨o1, ho1, ho2⟩ := hobj
    have hz9 := HZ9.out
    have hfk : Fence.wide.fn 98 := trivial
    have hfk' : (Fence.wide.inRound l).fn 98 := trivial
    have hn1 : 1 ≤ 5 - 1 - 1 := by decide
    have hbb : Below w.heap.size w Wb := (hbW.trans (hb0.mono hbW.size)).grown hg (by have := hbW.size; simp; omega) (fun k e => by cases e; have := bw9.size; omega)
    have heb : Wb.heap[w.heap.size + 1]? = some (.cells #[.int .i64 0] 30 (0, 0)) := (hg.block _ (by simp; omega) (fun e => by injection e; omega)).trans ((hb0.block _ (by omega)).trans herW)
    have hsb : W9.heap.size + 2 ≤ Wb.heap.size := by have := hg.size; simp at this; omega
    gi_wp2_with (gi_at_call 98; refine (CallsIn.inRound l (callsIn_wide.2 (netCheckKnot _ _ _))).mono ?_; rintro e W2 ⟨rfl, hb2⟩; rw [HKq.out])
    exact ⟨Book.below hsb hb2, KT.of_below hb2, hbb.trans (hb2.mono hbb.size), (hb2.block _ (Array.getElem?_eq_some_iff.1 heb).1).trans heb, by have := hb2.size; omega⟩
  case done =>
    rintro D ys W hD hS ⟨hbW, herW, hsW⟩ hK
    subst hA0
    obtain ⟨k0, k1⟩ := one_cell' herW
    have hDn : D ≠ w.heap.size + 1 := by have := HZ9.out; omega
    go_wp2
    have hK' : (W.setCell ⟨w.heap.size + 1, 0, none⟩ (.int .i64 0)).heap[D]? = some (.deferred (some [])) := (Below.heap_setCell _ _ _ D hDn).trans hK
    have hbf : Below w.heap.size w (W.setCell ⟨w.heap.size + 1, 0, none⟩ (.int .i64 0)) := hbW.setCell (by simp) _
    refine ⟨by simp, .inl ⟨_, _, rfl, run_takeDeferred hK', ?_⟩⟩
    refine ⟨.int .i64 0, ?_, rfl, hbf.trans (belowK_b (w := W9) (n₀ := w.heap.size) bw9.size _ D _ _ hD hK' rfl rfl)⟩
    have hcl := one_cell ((World.putObj_heap_other (r := D) (o := .deferred none) (k := w.heap.size + 1) (fun e => hDn e.symm)).trans (one_set herW (.int .i64 0)))
    simp [results, Tryz.results61, go_sem, hcl]
end Go.Proofs.YtfmfpnnglogkmaaGreatDoor

/- Sheet of the program, at a sheet without an error. -/
namespace Go.Proofs.YtfmfpnnglogkmaaGreatDoor
open Go.RowKit Go.Shelf Ck
attribute [local go_sem] Oper.semAt_some

theorem KR.appended {W w1 : World} {Bo B1 B2 : Nat} {e : TypeId} {size k : Nat} {v : Value} {xs : List Value} {tmp : Obj} (hB : Bo < B1) (hz : B2 ≤ W.heap.size) (hrow : W.ownsRow B2 e size v k xs) (hgrow : (W.alloc tmp).grownBy w1 v.ownBlock) (v' : Value) : KR B1 B2 W (w1.setCell ⟨Bo, 0, none⟩ v') := by
  refine ⟨?_, fun b h1 h2 => ?_⟩
  · have := hgrow.size; simp at this ⊢; omega
  · have e1 : (w1.setCell ⟨Bo, 0, none⟩ v').heap[b]? = w1.heap[b]? := (grownBy_setCell' w1 Bo v').block b (by have := hgrow.size; simp at this; omega) (fun e => by cases e; omega)
    rw [e1, hgrow.block b (by simp; omega) (fun e => by have := ownsRow_base hrow b e.symm; omega)]
    exact Below.heap_alloc _ _ _ (by omega)

theorem sheet_boxes (W0 : World) (x y c r : Int) : ∃ W9, W9 = ((W0.alloc (.cells #[.int .i64 x, .int .i64 y] 43)).alloc (.cells #[.int .i64 c] 3)).alloc (.cells #[.int .i64 r] 3) ∧ Below W0.heap.size W0 W9 ∧ W9.heap.size = W0.heap.size + 3 ∧
    W9.cell? ⟨W0.heap.size, 0, none⟩ = some (.int .i64 x) ∧ W9.cell? ⟨W0.heap.size, 1, none⟩ = some (.int .i64 y) ∧ W9.cell? ⟨W0.heap.size + 1, 0, none⟩ = some (.int .i64 c) ∧ W9.cell? ⟨W0.heap.size + 2, 0, none⟩ = some (.int .i64 r) := by
  obtain ⟨w1, hw1, h0, h1, hb1, hz1⟩ := box2 W0 (.int .i64 x) (.int .i64 y) 43
  have hs1 : w1.heap.size = W0.heap.size + 1 := by rw [hw1]; simp
  have bc := (Boxed.new w1 3 (.int .i64 c)).cell
  have hs2 : (w1.alloc (.cells #[.int .i64 c] 3)).heap.size = W0.heap.size + 2 := by simp; omega
  have br := (Boxed.new (w1.alloc (.cells #[.int .i64 c] 3)) 3 (.int .i64 r)).cell
  have b2 : Below w1.heap.size w1 (w1.alloc (.cells #[.int .i64 c] 3)) := (Below.refl _ _).alloc (Nat.le_refl _) _
  have b3 : Below (w1.alloc (.cells #[.int .i64 c] 3)).heap.size (w1.alloc (.cells #[.int .i64 c] 3)) ((w1.alloc (.cells #[.int .i64 c] 3)).alloc (.cells #[.int .i64 r] 3)) := (Below.refl _ _).alloc (Nat.le_refl _) _
  rw [← hw1]
  rw [hs1] at bc
  rw [hs2] at br
  refine ⟨_, rfl, hb1.trans ((b2.trans (b3.mono b2.size)).mono hb1.size), by simp; omega, ?_, ?_, ?_, br⟩
  · exact ((b3.cell (p := ⟨W0.heap.size, 0, none⟩) (by show W0.heap.size < _; omega)).trans (b2.cell (p := ⟨W0.heap.size, 0, none⟩) (by show W0.heap.size < _; omega))).trans h0
  · exact ((b3.cell (p := ⟨W0.heap.size, 1, none⟩) (by show W0.heap.size < _; omega)).trans (b2.cell (p := ⟨W0.heap.size, 1, none⟩) (by show W0.heap.size < _; omega))).trans h1
  · exact (b3.cell (p := ⟨W0.heap.size + 1, 0, none⟩) (by show W0.heap.size + 1 < _; omega)).trans bc
/-- A box of three cells. -/
def Box3 (W : World) (B : Nat) (t : TypeId) (a b c : Value) : Prop := W.heap[B]? = some (.cells #[a, b, c] t (0, 0))
theorem Box3.cells {W : World} {B : Nat} {t : TypeId} {a b c : Value} (h : Box3 W B t a b c) : W.cell? ⟨B, 0, none⟩ = some a ∧ W.cell? ⟨B, 1, none⟩ = some b ∧ W.cell? ⟨B, 2, none⟩ = some c ∧ B < W.heap.size := by
  refine ⟨?_, ?_, ?_, (Array.getElem?_eq_some_iff.1 h).1⟩ <;> simp [World.cell?, show W.heap[B]? = _ from h]
theorem Box3.new (W : World) (t : TypeId) (a b c : Value) : Box3 (W.alloc (.cells #[a, b, c] t)) W.heap.size t a b c := World.alloc_heap_new W _
theorem box3_own (B : Nat) (t : TypeId) (a b c : Value) : Own (fun (_ : Unit) W => Box3 W B t a b c) := fun s X Y row hs hg hrow =>
  (hg.block B (Array.getElem?_eq_some_iff.1 hs).1 (fun e' => by obtain ⟨o, ho, hc⟩ := hrow B e'.symm; rw [show X.heap[B]? = _ from hs] at ho; cases ho; cases hc)).trans hs
theorem sheet_step {W w1 : World} {Bo B1 B2 : Nat} {t e : TypeId} {size k m : Nat} {v v' : Value} {xs ys : List Value} {tmp : Obj} (hte : t ≠ e) (hB : Bo < B1) (hB2 : B1 ≤ B2) (hz : B2 ≤ W.heap.size) (hv : Boxed W Bo t v) (hrow : W.ownsRow B2 e size v k xs) (hown' : w1.ownsRow B2 e size v' m ys) (hgrow : (W.alloc tmp).grownBy w1 v.ownBlock) :
    Boxed w1 Bo t v ∧ Boxed (w1.setCell ⟨Bo, 0, none⟩ v') Bo t v' ∧ KeepsOthers W (w1.setCell ⟨Bo, 0, none⟩ v') ∧ Below Bo W (w1.setCell ⟨Bo, 0, none⟩ v') ∧ (w1.setCell ⟨Bo, 0, none⟩ v').ownsRow B2 e size v' m ys ∧ KR B1 B2 W (w1.setCell ⟨Bo, 0, none⟩ v') := by
  obtain ⟨h1, h2, h3, h4, h5⟩ := hv.appended hte (ownsRow_mono hrow (by omega : Bo ≤ B2)) (by omega) (Nat.le_refl _) (ownsRow_mono hown' (by omega)) hgrow
  exact ⟨h1, h2, h4, h5, hown'.kept (grownBy_setCell' w1 Bo v') (.inr (h1.not_row hte hown').symm), KR.appended hB hz hrow hgrow v'⟩
def SheetPost (l : List Ck.Bar) (w : World) (e : Ending) (w' : World) : Prop :=
  ∃ v, e = .returned (.tuple #[v, .int .i64 0]) ∧ w'.ownsRow w.heap.size 74 3 v l.length (bcellsL l) ∧ Below w.heap.size w w'
theorem netSide (n : Int) (w : World) : Calls Tryz.prog 129 #[.int .i64 n, .int .i64 1, .int .i64 256] w fun e w' => e = .returned (.int .i64 (sideR n)) ∧ w = w' := netCheckRange n 1 256 w

end Go.Proofs.YtfmfpnnglogkmaaGreatDoor

/- The bars along an edge: Bars of taper. -/
namespace Go.Proofs.YtfmfpnnglogkmaaGreatDoor
open Go.RowKit Go.Shelf Ck
attribute [local go_sem] Oper.semAt_some

def barsOf (l : List (UInt8 × Knot × Knot)) : List Bar := l.flatMap fun q => if q.1 = 66 then [⟨q.2.1.x, q.2.1.y, q.2.2.x - q.2.1.x⟩] else []
theorem barsOf_snoc (l : List (UInt8 × Knot × Knot)) (q : UInt8 × Knot × Knot) : barsOf (l ++ [q]) = barsOf l ++ (if q.1 = 66 then [⟨q.2.1.x, q.2.1.y, q.2.2.x - q.2.1.x⟩] else []) := by simp [barsOf]
theorem barsOf_legs (σ : Int) : ∀ (L : List UInt8) (k : Knot), barsOf (legsL σ k L) = barsP σ k L
  | [], _ => rfl
  | c :: r, k => by
    have ih := barsOf_legs σ r (stepK σ k c)
    have e : barsOf (legsL σ k (c :: r)) = (if c = 66 then [⟨k.x, k.y, (stepK σ k c).x - k.x⟩] else []) ++ barsOf (legsL σ (stepK σ k c) r) := by simp [barsOf, legsL]
    rw [e, ih, barsP_cons]
    by_cases h : c = 66
    · subst h
      simp [step_B]
      omega
    · simp [h]
theorem bides_row {β : Type} {B Bo n₀ : Nat} {e te t : TypeId} {size : Nat} (k : β → Nat) (f : β → List Value) (hB : Bo < B) (hne : te ≠ e) : Bides B e (fun (s : β) W => ∃ v, Boxed W Bo t v ∧ W.ownsRow n₀ te size v (k s) (f s)) := by
  rintro s W W' r ⟨v, hv, hr⟩ hg hrow
  refine ⟨v, (hg.block Bo (Array.getElem?_eq_some_iff.1 hv).1 (fun e' => by have := (hrow Bo e'.symm).1; omega)).trans hv, hr.kept hg ?_⟩
  rcases hr.2 with ⟨rfl, _⟩ | ⟨g, cap, cur, rfl, _, hgb, _⟩
  · exact .inl rfl
  · refine .inr fun e' => ?_
    obtain ⟨_, o, ho, hk⟩ := hrow g (by simpa [Value.ownBlock] using e'.symm)
    rw [hgb] at ho
    cases ho
    rcases hk with hk | ⟨cs, f', hk, _⟩
    · cases hk
    · injection hk with _ h2
      exact hne h2
theorem KT.appended {W w1 : World} {Bo B1 n₀ : Nat} {e : TypeId} {size k : Nat} {v : Value} {xs : List Value} {tmp : Obj} (hB : Bo < B1) (hne : e ≠ 43) (hrow : W.ownsRow n₀ e size v k xs) (hgrow : (W.alloc tmp).grownBy w1 v.ownBlock) (v' : Value) : KT B1 e W (w1.setCell ⟨Bo, 0, none⟩ v') := by
  refine ⟨?_, fun b o hb ho hk => ?_⟩
  · have := hgrow.size; simp at this ⊢; omega
  · have hlt := (Array.getElem?_eq_some_iff.1 ho).1
    have hnb : some b ≠ v.ownBlock := by
      intro e'
      rcases hrow.2 with ⟨rfl, _⟩ | ⟨g, cap, cur, rfl, _, hgb, _⟩
      · simp [Value.ownBlock] at e'
      · obtain rfl : b = g := by simpa [Value.ownBlock] using e'
        rw [hgb] at ho
        cases ho
        rcases hk with hk | ⟨cs, t, f, hk, hk2⟩
        · cases hk
        · injection hk with _ h2
          rcases hk2 with hk2 | ⟨hk2, _⟩
          · exact hk2 h2.symm
          · exact hne (h2.trans hk2)
    rw [Below.heap_setCell _ _ _ b (by show b ≠ Bo; omega), hgrow.block b (by simp; omega) hnb, Below.heap_alloc _ _ _ hlt]
    exact ho

set_option maxHeartbeats 4000000 in
set_option maxRecDepth 100000 in
theorem tpBars (x y : Int) (s : ByteArray) (c : Nat) (o : Bool) (w : World) (h : EdgeOk x y s c) :
    Calls Tryz.prog 18 #[.agg #[.int .i64 x, .int .i64 y], .string s, .int .i64 c, .bool o] w (SheetPost (barsP (sg o) ⟨x, y⟩ (Lib.repeatL s.data.toList c)) w) := by
  have HE := Lib.hid h
  have HL := Lib.hid (h.legs o)
  have HLEN := Lib.hid (show (legsL (sg o) ⟨x, y⟩ (Lib.repeatL s.data.toList c)).length ≤ 256 by rw [legsL_length, rep_len]; exact h.2.2.1)
  obtain ⟨hs, h1, h2, x1, x2, y1, y2, hp⟩ := h
  have HS := Lib.hid hs
  clear hs h1 hp
  refine (callsIn_wide (n := 6)).1 (callsIn_of_wp_marks Tryz.func18 rfl trivial (wpIn_wide.2 ?_) rfl)
  simp only [Tryz.ntmps18, List.size_toArray, List.length_cons, List.length_nil, Nat.reduceAdd, Nat.reduceSub, Array.replicate_succ, Array.replicate_zero, List.push_toArray, List.append_toArray, List.nil_append, List.cons_append]
  obtain ⟨w1, hw1, e0, e1, hb1, hz1⟩ := box2 w (.int .i64 x) (.int .i64 y) 43
  have HW1 := Lib.hid hw1
  clear hw1
  go_wp2_with fail
  rw [← HW1.out]
  refine (tpCheckEdge x y s c o _ HE.out).mono ?_
  rintro e w2 ⟨rfl, hb2⟩
  have f0 := (hb2.cell (p := ⟨w.heap.size, 0, none⟩) hz1).trans e0
  have f1 := (hb2.cell (p := ⟨w.heap.size, 1, none⟩) hz1).trans e1
  have hbw := hb1.trans (hb2.mono hb1.size)
  have hz2 := hb2.size
  have bO := Boxed.new w2 49 (.slice none 0 0)
  have hb3 : Below w2.heap.size w2 (w2.alloc (.cells #[.slice none 0 0] 49)) := (Below.refl _ _).alloc (Nat.le_refl _) _
  have g0 := (hb3.cell (p := ⟨w.heap.size, 0, none⟩) (by show w.heap.size < _; omega)).trans f0
  have g1 := (hb3.cell (p := ⟨w.heap.size, 1, none⟩) (by show w.heap.size < _; omega)).trans f1
  have HSZ := Lib.hid (show (w2.alloc (.cells #[.slice none 0 0] 49)).heap.size = w2.heap.size + 1 by simp)
  obtain ⟨w6, hw6⟩ : ∃ w6, w2.alloc (.cells #[.slice none 0 0] 49) = w6 := ⟨_, rfl⟩
  rw [hw6] at bO hb3 HSZ
  have HW6 := Lib.hid hw6
  clear hw6 f0 f1 e0 e1
  go_wp2_with fail
  rw [HW6.out]
  refine (tpLegs x y s c o _).mono ?_
  rintro e w7 ⟨rfl, hw7⟩
  obtain ⟨W9, hW9, hb9, hz9, q0, q1, q2, q3⟩ := legs_boxes w6 x y c s o
  rw [← hW9] at hw7
  have hw7' := hw7.symm
  subst hw7'
  clear hW9
  have HZ9 := Lib.hid hz9
  have hz6 := HSZ.out
  have bO9 : Boxed W9 w2.heap.size 49 (.slice none 0 0) := (hb9.block _ (by omega)).trans bO
  have bw6 := hbw.trans (hb3.mono hbw.size)
  have bw9 := bw6.trans (hb9.mono bw6.size)
  have hwz := hbw.size
  obtain ⟨ib, hib, hi0, hi1, hi2⟩ := info_parts Tryz.info74
  have HB := Lib.hid hib
  have HB0 := Lib.hid hi0
  have HB1 := Lib.hid hi1
  have HB2 := Lib.hid hi2
  clear hz9 hw7 hz6 hib hi0 hi1 hi2
  go_wp2_with fail
  have hvis := legs_visits w6.heap.size 4 w6.heap.size (w6.heap.size + 1) (w6.heap.size + 2) (w6.heap.size + 3) 74 (by omega) x y s c o W9 (by decide) HS.out h2 (by omega) (by omega) (by omega) (by omega) (by omega) (by rw [HZ9.out]; omega) q0 q1 q2 q3
  refine (wpIn_wide (n := 5)).1 ?_
  generalize hA0 : (Act.mk _ _) = A0
  refine wpIn_visits (n := 5) (by omega) (gf := 99) (lb := #[.pointer (some ⟨w6.heap.size, 0, none⟩), .pointer (some ⟨w6.heap.size + 1, 0, none⟩), .pointer (some ⟨w6.heap.size + 2, 0, none⟩), .pointer (some ⟨w6.heap.size + 3, 0, none⟩)]) (by rw [← hA0]; rfl) ?eg hvis KT.trans (KT.put (w := W9)) (fun _ => rfl)
    (fun pre W => (∃ v, Boxed W w2.heap.size 49 v ∧ W.ownsRow w.heap.size 74 3 v (barsOf pre).length (bcellsL (barsOf pre))) ∧ (Below w.heap.size w W ∧ W9.heap.size ≤ W.heap.size))
    (Bides.and (bides_row (fun pre => (barsOf pre).length) (fun pre => bcellsL (barsOf pre)) (by rw [HZ9.out, HSZ.out]; omega) (by decide)) (Bides.and (bides_below bw9.size (Nat.le_refl _)) bides_size)) ⟨⟨_, bO9, World.ownsRow_nil _ _ _ _⟩, bw9, Nat.le_refl _⟩ ?round ?done
  case eg => exact fun _ _ => by kernel_rfl
  case round =>
    rintro l pre q W hz ⟨⟨v, hv, hrow⟩, hbW, hsW⟩ ⟨r, hr⟩
    obtain ⟨hq1, -, hq3, hq4⟩ := HL.out q (by rw [hr]; simp)
    have hpre : (barsOf pre).length ≤ 256 := by
      have h1 := HLEN.out
      rw [hr] at h1
      have : ∀ l : List (UInt8 × Knot × Knot), (barsOf l).length ≤ l.length := fun l => by
        induction l with
        | nil => simp [barsOf]
        | cons a t ih =>
          have e : barsOf (a :: t) = (if a.1 = 66 then [⟨a.2.1.x, a.2.1.y, a.2.2.x - a.2.1.x⟩] else []) ++ barsOf t := by simp [barsOf]
          rw [e, List.length_append, List.length_cons]
          split <;> simp <;> omega
      have := this pre
      simp at h1
      omega
    obtain ⟨⟨a1, a2⟩, -, -⟩ := hq3
    obtain ⟨⟨a3, a4⟩, -, -⟩ := hq4
    have HSNOC := Lib.hid (barsOf_snoc pre q)
    subst hA0
    dsimp only [legArr]
    gi_wp2
    have hb0 : Below W.heap.size W (W.alloc (.cells #[.int .i32 (q.1.toNat : Int), .int .i64 q.2.1.x, .int .i64 q.2.1.y, .int .i64 q.2.2.x, .int .i64 q.2.2.y] 104)) := (Below.refl _ _).alloc (Nat.le_refl _) _
    refine ⟨Book.below hz hb0, KT.of_below hb0, fun Wb hg hobj hbk => ?_⟩
    have hbx : Wb.heap[W.heap.size]? = some (.cells #[.int .i32 (q.1.toNat : Int), .int .i64 q.2.1.x, .int .i64 q.2.1.y, .int .i64 q.2.2.x, .int .i64 q.2.2.y] 104 (0, 0)) :=
      (hg.block _ (by simp) (fun e => by injection e; omega)).trans (heap_alloc_new _ _)
    obtain ⟨r0, r1, r2, r3, r4, -⟩ := five_of_block hbx
    obtain ⟨o1, ho1, ho2⟩ := hobj
    have hz9 := HZ9.out
    have hz6 := HSZ.out
    have hsb : W9.heap.size + 2 ≤ Wb.heap.size := by have := hg.size; simp at this; omega
    have hbb : Below w.heap.size w Wb := (hbW.trans (hb0.mono hbW.size)).grown hg (by have := hbW.size; simp; omega) (fun k e => by cases e; have := bw9.size; omega)
    have hI1 := bides_row (t := 49) (te := 74) (n₀ := w.heap.size) (size := 3) (fun pre => (barsOf pre).length) (fun pre => bcellsL (barsOf pre)) (show w2.heap.size < W9.heap.size by omega) (show 74 ≠ 43 by decide) pre _ Wb (some (W9.heap.size + 1)) ⟨v, hv.alloc _, hrow.alloc _⟩ hg (fun b e => by cases e; exact ⟨by omega, o1, ho1, .inl ho2⟩)
    obtain ⟨v, hvB, hrowB⟩ := hI1
    have hcB := hvB.cell
    have HBK := Lib.hid hbk
    have hwb : w.heap.size ≤ Wb.heap.size := by omega
    clear hv hrow hbk ho1 ho2 hbx
    by_cases h66 : q.1 = 66
    · have r0' : Wb.cell? ⟨W.heap.size, 0, none⟩ = some (.int .i32 66) := by rw [h66] at r0; exact r0
      have HSN := Lib.hid (show barsOf (pre ++ [q]) = barsOf pre ++ [⟨q.2.1.x, q.2.1.y, q.2.2.x - q.2.1.x⟩] by rw [HSNOC.out, if_pos h66])
      clear r0 h66 hq1 HSNOC
      gi_wp2_with (gi_at_builtin; refine wpListIn_append_own _ rfl _ _ 49 rfl w.heap.size 74 ib (.agg #[.int .i64 0, .int .i64 0, .int .i64 0]) 3 24 Tryz.underlying49 HB.out HB0.out HB1.out HB2.out rfl (by decide) _ _ _ rfl (hrowB.alloc _) ⟨Wb.heap.size, 0, none⟩ 1 1 [.int .i64 q.2.1.x, .int .i64 q.2.1.y, .int .i64 (q.2.2.x - q.2.1.x)] rfl rfl (three_new _ _ _ _ _) (by intro u hu; simp at hu; rcases hu with rfl | rfl | rfl <;> rfl) (by unfold maxLen; omega) (by omega) (by simp; omega) ?_; intro v' w1' hown' hgrow _; obtain ⟨g', cap', rfl⟩ := ownsRow_succ hown'; obtain ⟨hv1, hv2, hr2, hk2, hb2'⟩ := hvB.appended (by decide) hrowB hwb (by omega) hown' hgrow; have hkt := KT.appended (B1 := w6.heap.size) (Bo := w2.heap.size) (by omega) (by decide) hrowB hgrow (.slice (some ⟨g', 0, none⟩) ((barsOf pre).length + 1) cap'); have hc1 := hv1.cell; have hf1 := hv1.frozen)
      exact ⟨Book.others hk2 HBK.out.1 HBK.out.2, hkt, ⟨_, hv2, by rw [HSN.out, bcellsL_snoc]; simpa using hr2⟩, hbb.trans hb2', by have := hb2'.size; omega⟩
    · have hne : ((q.1.toNat : Int) == 66) = false := by
        rw [beq_eq_false_iff_ne]
        intro e
        exact h66 (UInt8.toNat.inj (by show q.1.toNat = 66; omega))
      have HSN := Lib.hid (show barsOf (pre ++ [q]) = barsOf pre by rw [HSNOC.out, if_neg h66, List.append_nil])
      clear h66 hq1 HSNOC
      gi_wp2
      exact ⟨Book.below hsb (Below.refl _ _), KT.of_below (Below.refl _ _), ⟨_, hvB, by rw [HSN.out]; exact hrowB⟩, hbb, by omega⟩
  case done =>
    rintro D ys W hD hS ⟨⟨v, hv, hrow⟩, hbW, hsW⟩ hK
    subst hA0
    subst hS
    have hc := hv.cell
    go_wp2
    refine ⟨by simp, .inl ⟨_, _, rfl, run_takeDeferred hK, ?_⟩⟩
    rw [barsOf_legs] at hrow
    exact ⟨_, results_tmp2 rfl _ _ _, v, rfl, ownsRow_putObj hrow _ hK rfl, hbW.trans (belowK_b (w := W9) (n₀ := w.heap.size) bw9.size W D _ _ hD hK rfl rfl)⟩
end Go.Proofs.YtfmfpnnglogkmaaGreatDoor

/- The meshes along an edge: Meshes of taper. -/
namespace Go.Proofs.YtfmfpnnglogkmaaGreatDoor
open Go.RowKit Go.Shelf Ck
attribute [local go_sem] Oper.semAt_some

/-- The centre of the mesh that a letter other than B goes through. -/
def midK (σ : Int) (k : Knot) (c : UInt8) : Knot := if c = 84 then ⟨k.x + σ, k.y⟩ else ⟨k.x, k.y + 1⟩
def midsOf (σ : Int) (l : List (UInt8 × Knot × Knot)) : List Knot := l.flatMap fun q => if q.1 = 66 then [] else [midK σ q.2.1 q.1]
theorem midsOf_snoc (σ : Int) (l : List (UInt8 × Knot × Knot)) (q : UInt8 × Knot × Knot) : midsOf σ (l ++ [q]) = midsOf σ l ++ (if q.1 = 66 then [] else [midK σ q.2.1 q.1]) := by simp [midsOf]
def midsP (σ : Int) : Knot → List UInt8 → List Knot
  | _, [] => []
  | k, c :: r => if c = 66 then midsP σ (stepK σ k c) r else midK σ k c :: midsP σ (stepK σ k c) r
theorem midsOf_legs (σ : Int) : ∀ (L : List UInt8) (k : Knot), midsOf σ (legsL σ k L) = midsP σ k L
  | [], _ => rfl
  | c :: r, k => by
    have ih := midsOf_legs σ r (stepK σ k c)
    have e : midsOf σ (legsL σ k (c :: r)) = (if c = 66 then [] else [midK σ k c]) ++ midsOf σ (legsL σ (stepK σ k c) r) := by simp [midsOf, legsL]
    rw [e, ih, midsP]
    by_cases h : c = 66 <;> simp [h]
theorem mids_half (o : Bool) {k : Knot} {c : UInt8} (hc : isL c) (h : c ≠ 66) : (k.x + (stepK (sg o) k c).x).tdiv 2 = (midK (sg o) k c).x ∧ (k.y + (stepK (sg o) k c).y).tdiv 2 = (midK (sg o) k c).y := by
  have hd : ∀ z : Int, (z + z).tdiv 2 = z := fun z => by rw [← Int.two_mul, Int.mul_comm, Int.mul_tdiv_cancel _ (by decide)]
  rcases hc with rfl | rfl | rfl
  · refine ⟨?_, ?_⟩
    · have : (stepK (sg o) k 78).x = k.x := by simp [stepK, dxL]
      rw [this, hd]; rfl
    · have : k.y + (stepK (sg o) k 78).y = (k.y + 1) + (k.y + 1) := by simp [stepK, dyL]; omega
      rw [this, hd]; rfl
  · exact absurd rfl h
  · refine ⟨?_, ?_⟩
    · have : k.x + (stepK (sg o) k 84).x = (k.x + sg o) + (k.x + sg o) := by simp [stepK, dxL]; omega
      rw [this, hd]; rfl
    · have : (stepK (sg o) k 84).y = k.y := by simp [stepK, dyL]
      rw [this, hd]; rfl
theorem mid_near (o : Bool) (k : Knot) (c : UInt8) : k.x - 1 ≤ (midK (sg o) k c).x ∧ (midK (sg o) k c).x ≤ k.x + 1 ∧ k.y - 1 ≤ (midK (sg o) k c).y ∧ (midK (sg o) k c).y ≤ k.y + 1 := by
  unfold midK sg
  cases o <;> split <;> simp <;> omega
theorem infoP : (Tryz.prog.info? 66).map (fun i => (i.zero, i.size, i.bytes)) = some (some (.agg #[.int .i64 0, .int .i64 0]), 2, 16) := by kernel_rfl
def MidPost (l : List Knot) (w : World) (e : Ending) (w' : World) : Prop :=
  ∃ v, e = .returned (.tuple #[v, .int .i64 0]) ∧ w'.ownsRow w.heap.size 66 2 v l.length (kcellsL l) ∧ Below w.heap.size w w'

set_option maxHeartbeats 4000000 in
set_option maxRecDepth 100000 in
theorem tpMeshes (x y : Int) (s : ByteArray) (c : Nat) (o : Bool) (w : World) (h : EdgeOk x y s c) :
    Calls Tryz.prog 19 #[.agg #[.int .i64 x, .int .i64 y], .string s, .int .i64 c, .bool o] w (MidPost (midsP (sg o) ⟨x, y⟩ (Lib.repeatL s.data.toList c)) w) := by
  have HE := Lib.hid h
  have HL := Lib.hid (h.legs o)
  have HLEN := Lib.hid (show (legsL (sg o) ⟨x, y⟩ (Lib.repeatL s.data.toList c)).length ≤ 256 by rw [legsL_length, rep_len]; exact h.2.2.1)
  obtain ⟨hs, h1, h2, x1, x2, y1, y2, hp⟩ := h
  have HS := Lib.hid hs
  clear hs h1 hp
  refine (callsIn_wide (n := 6)).1 (callsIn_of_wp_marks Tryz.func19 rfl trivial (wpIn_wide.2 ?_) rfl)
  simp only [Tryz.ntmps19, List.size_toArray, List.length_cons, List.length_nil, Nat.reduceAdd, Nat.reduceSub, Array.replicate_succ, Array.replicate_zero, List.push_toArray, List.append_toArray, List.nil_append, List.cons_append]
  obtain ⟨w1, hw1, e0, e1, hb1, hz1⟩ := box2 w (.int .i64 x) (.int .i64 y) 43
  have HW1 := Lib.hid hw1
  clear hw1
  go_wp2_with fail
  rw [← HW1.out]
  refine (tpCheckEdge x y s c o _ HE.out).mono ?_
  rintro e w2 ⟨rfl, hb2⟩
  have f0 := (hb2.cell (p := ⟨w.heap.size, 0, none⟩) hz1).trans e0
  have f1 := (hb2.cell (p := ⟨w.heap.size, 1, none⟩) hz1).trans e1
  have hbw := hb1.trans (hb2.mono hb1.size)
  have hz2 := hb2.size
  have bO := Boxed.new w2 52 (.slice none 0 0)
  have hb3 : Below w2.heap.size w2 (w2.alloc (.cells #[.slice none 0 0] 52)) := (Below.refl _ _).alloc (Nat.le_refl _) _
  have g0 := (hb3.cell (p := ⟨w.heap.size, 0, none⟩) (by show w.heap.size < _; omega)).trans f0
  have g1 := (hb3.cell (p := ⟨w.heap.size, 1, none⟩) (by show w.heap.size < _; omega)).trans f1
  have HSZ := Lib.hid (show (w2.alloc (.cells #[.slice none 0 0] 52)).heap.size = w2.heap.size + 1 by simp)
  obtain ⟨w6, hw6⟩ : ∃ w6, w2.alloc (.cells #[.slice none 0 0] 52) = w6 := ⟨_, rfl⟩
  rw [hw6] at bO hb3 HSZ
  have HW6 := Lib.hid hw6
  clear hw6 f0 f1 e0 e1
  go_wp2_with fail
  rw [HW6.out]
  refine (tpLegs x y s c o _).mono ?_
  rintro e w7 ⟨rfl, hw7⟩
  obtain ⟨W9, hW9, hb9, hz9, q0, q1, q2, q3⟩ := legs_boxes w6 x y c s o
  rw [← hW9] at hw7
  have hw7' := hw7.symm
  subst hw7'
  clear hW9
  have HZ9 := Lib.hid hz9
  have hz6 := HSZ.out
  have bO9 : Boxed W9 w2.heap.size 52 (.slice none 0 0) := (hb9.block _ (by omega)).trans bO
  have bw6 := hbw.trans (hb3.mono hbw.size)
  have bw9 := bw6.trans (hb9.mono bw6.size)
  have hwz := hbw.size
  obtain ⟨ib, hib, hi0, hi1, hi2⟩ := info_parts infoP
  have HB := Lib.hid hib
  have HB0 := Lib.hid hi0
  have HB1 := Lib.hid hi1
  have HB2 := Lib.hid hi2
  clear hz9 hw7 hz6 hib hi0 hi1 hi2
  go_wp2_with fail
  have hvis := legs_visits w6.heap.size 4 w6.heap.size (w6.heap.size + 1) (w6.heap.size + 2) (w6.heap.size + 3) 66 (by omega) x y s c o W9 (by decide) HS.out h2 (by omega) (by omega) (by omega) (by omega) (by omega) (by rw [HZ9.out]; omega) q0 q1 q2 q3
  refine (wpIn_wide (n := 5)).1 ?_
  generalize hA0 : (Act.mk _ _) = A0
  refine wpIn_visits (n := 5) (by omega) (gf := 99) (lb := #[.pointer (some ⟨w6.heap.size, 0, none⟩), .pointer (some ⟨w6.heap.size + 1, 0, none⟩), .pointer (some ⟨w6.heap.size + 2, 0, none⟩), .pointer (some ⟨w6.heap.size + 3, 0, none⟩)]) (by rw [← hA0]; rfl) ?eg hvis KT.trans (KT.put (w := W9)) (fun _ => rfl)
    (fun pre W => (∃ v, Boxed W w2.heap.size 52 v ∧ W.ownsRow w.heap.size 66 2 v (midsOf (sg o) pre).length (kcellsL (midsOf (sg o) pre))) ∧ (Below w.heap.size w W ∧ W9.heap.size ≤ W.heap.size))
    (Bides.and (bides_row (fun pre => (midsOf (sg o) pre).length) (fun pre => kcellsL (midsOf (sg o) pre)) (by rw [HZ9.out, HSZ.out]; omega) (by decide)) (Bides.and (bides_below bw9.size (Nat.le_refl _)) bides_size)) ⟨⟨_, bO9, World.ownsRow_nil _ _ _ _⟩, bw9, Nat.le_refl _⟩ ?round ?done
  case eg => exact fun _ _ => by kernel_rfl
  case round =>
    rintro l pre q W hz ⟨⟨v, hv, hrow⟩, hbW, hsW⟩ ⟨r, hr⟩
    obtain ⟨hq1, hq2, hq3, hq4⟩ := HL.out q (by rw [hr]; simp)
    have HQ2 := Lib.hid hq2
    clear hq2
    have hpre : (midsOf (sg o) pre).length ≤ 256 := by
      have h1 := HLEN.out
      rw [hr] at h1
      have : ∀ l : List (UInt8 × Knot × Knot), (midsOf (sg o) l).length ≤ l.length := fun l => by
        induction l with
        | nil => simp [midsOf]
        | cons a t ih =>
          have e : midsOf (sg o) (a :: t) = (if a.1 = 66 then [] else [midK (sg o) a.2.1 a.1]) ++ midsOf (sg o) t := by simp [midsOf]
          rw [e, List.length_append, List.length_cons]
          split <;> simp <;> omega
      have := this pre
      simp at h1
      omega
    obtain ⟨⟨a1, a2⟩, ⟨b1, b2⟩, -⟩ := hq3
    obtain ⟨⟨a3, a4⟩, ⟨b3, b4⟩, -⟩ := hq4
    have HSNOC := Lib.hid (midsOf_snoc (sg o) pre q)
    subst hA0
    dsimp only [legArr]
    gi_wp2
    have hb0 : Below W.heap.size W (W.alloc (.cells #[.int .i32 (q.1.toNat : Int), .int .i64 q.2.1.x, .int .i64 q.2.1.y, .int .i64 q.2.2.x, .int .i64 q.2.2.y] 104)) := (Below.refl _ _).alloc (Nat.le_refl _) _
    refine ⟨Book.below hz hb0, KT.of_below hb0, fun Wb hg hobj hbk => ?_⟩
    have hbx : Wb.heap[W.heap.size]? = some (.cells #[.int .i32 (q.1.toNat : Int), .int .i64 q.2.1.x, .int .i64 q.2.1.y, .int .i64 q.2.2.x, .int .i64 q.2.2.y] 104 (0, 0)) :=
      (hg.block _ (by simp) (fun e => by injection e; omega)).trans (heap_alloc_new _ _)
    obtain ⟨r0, r1, r2, r3, r4, -⟩ := five_of_block hbx
    obtain ⟨o1, ho1, ho2⟩ := hobj
    have hz9 := HZ9.out
    have hz6 := HSZ.out
    have hsb : W9.heap.size + 2 ≤ Wb.heap.size := by have := hg.size; simp at this; omega
    have hbb : Below w.heap.size w Wb := (hbW.trans (hb0.mono hbW.size)).grown hg (by have := hbW.size; simp; omega) (fun k e => by cases e; have := bw9.size; omega)
    have hI1 := bides_row (t := 52) (te := 66) (n₀ := w.heap.size) (size := 2) (fun pre => (midsOf (sg o) pre).length) (fun pre => kcellsL (midsOf (sg o) pre)) (show w2.heap.size < W9.heap.size by omega) (show 66 ≠ 43 by decide) pre _ Wb (some (W9.heap.size + 1)) ⟨v, hv.alloc _, hrow.alloc _⟩ hg (fun b e => by cases e; exact ⟨by omega, o1, ho1, .inl ho2⟩)
    obtain ⟨v, hvB, hrowB⟩ := hI1
    have hcB := hvB.cell
    have HBK := Lib.hid hbk
    have hwb : w.heap.size ≤ Wb.heap.size := by omega
    clear hv hrow hbk ho1 ho2 hbx
    by_cases h66 : q.1 = 66
    · have r0' : Wb.cell? ⟨W.heap.size, 0, none⟩ = some (.int .i32 66) := by rw [h66] at r0; exact r0
      have HSN := Lib.hid (show midsOf (sg o) (pre ++ [q]) = midsOf (sg o) pre by rw [HSNOC.out, if_pos h66, List.append_nil])
      clear r0 h66 hq1 HSNOC
      gi_wp2
      exact ⟨Book.below hsb (Below.refl _ _), KT.of_below (Below.refl _ _), ⟨_, hvB, by rw [HSN.out]; exact hrowB⟩, hbb, by omega⟩
    · have hne : ((q.1.toNat : Int) == 66) = false := by
        rw [beq_eq_false_iff_ne]
        intro e
        exact h66 (UInt8.toNat.inj (by show q.1.toNat = 66; omega))
      have hne' : ((q.1.toNat : Int) != 66) = true := by
        rw [bne_iff_ne]
        intro e
        exact h66 (UInt8.toNat.inj (by show q.1.toNat = 66; omega))
      obtain ⟨hm1, hm2⟩ := mids_half o (k := q.2.1) hq1 h66
      rw [← HQ2.out] at hm1 hm2
      have HSN := Lib.hid (show midsOf (sg o) (pre ++ [q]) = midsOf (sg o) pre ++ [midK (sg o) q.2.1 q.1] by rw [HSNOC.out, if_neg h66])
      obtain ⟨mb1, mb2, mb3, mb4⟩ := mid_near o q.2.1 q.1
      obtain ⟨m, hm⟩ : ∃ m, m = midK (sg o) q.2.1 q.1 := ⟨_, rfl⟩
      rw [← hm] at hm1 hm2 HSN mb1 mb2 mb3 mb4
      clear h66 hq1 HSNOC hm
      gi_wp2_with (gi_at_builtin; refine wpListIn_append_own _ rfl _ _ 52 rfl w.heap.size 66 ib (.agg #[.int .i64 0, .int .i64 0]) 2 16 Tryz.underlying52 HB.out HB0.out HB1.out HB2.out rfl (by decide) _ _ _ rfl (hrowB.alloc _) ⟨Wb.heap.size, 0, none⟩ 1 1 [.int .i64 m.x, .int .i64 m.y] rfl rfl (two_new _ _ _ _) (by intro u hu; simp at hu; rcases hu with rfl | rfl <;> rfl) (by unfold maxLen; omega) (by omega) (by simp; omega) ?_; intro v' w1' hown' hgrow _; obtain ⟨g', cap', rfl⟩ := ownsRow_succ hown'; obtain ⟨hv1, hv2, hr2, hk2, hb2'⟩ := hvB.appended (by decide) hrowB hwb (by omega) hown' hgrow; have hkt := KT.appended (B1 := w6.heap.size) (Bo := w2.heap.size) (by omega) (by decide) hrowB hgrow (.slice (some ⟨g', 0, none⟩) ((midsOf (sg o) pre).length + 1) cap'); have hc1 := hv1.cell; have hf1 := hv1.frozen)
      exact ⟨Book.others hk2 HBK.out.1 HBK.out.2, hkt, ⟨_, hv2, by rw [HSN.out, kcellsL_snoc]; simpa using hr2⟩, hbb.trans hb2', by have := hb2'.size; omega⟩
  case done =>
    rintro D ys W hD hS ⟨⟨v, hv, hrow⟩, hbW, hsW⟩ hK
    subst hA0
    subst hS
    have hc := hv.cell
    go_wp2
    refine ⟨by simp, .inl ⟨_, _, rfl, run_takeDeferred hK, ?_⟩⟩
    rw [midsOf_legs] at hrow
    exact ⟨_, results_tmp2 rfl _ _ _, v, rfl, ownsRow_putObj hrow _ hK rfl, hbW.trans (belowK_b (w := W9) (n₀ := w.heap.size) bw9.size W D _ _ hD hK rfl rfl)⟩
end Go.Proofs.YtfmfpnnglogkmaaGreatDoor
