/- Helpers, part 1. -/
import Derived.Test.YtfmfpnnglogkmaaGreatDoorRows
import Derived.WalkKit
import Derived.WalkSpells
import Derived.WalkLawsBesides
import Derived.Lib.Hide
import Derived.IntWalk
import Derived.MapKept
import Derived.Laws.StructEq
import Derived.ChangeMaps5
import Derived.WideKeyEntry
import Derived.Maps.Range
import Derived.Sort.MapsRangeIn
import Derived.RangeFuncSeq
import Derived.Deep.RegionWith
import Derived.Deep.QuietTactic
import Derived.Deep.DeepCutAuto
import Derived.BigQuiet
import Derived.StillTailTactics
import Derived.Deep.RegionHeld3
import Derived.Laws.BitsAllLaws
import Derived.Carry
import Derived.Maps.OwnOps
import Derived.WalkSmall
import Derived.Deep.LoopGhost
import Derived.Maps.AppendAt
import Derived.Laws.MakeOwn
import Derived.Deep.AppendLies
import Derived.Deep.RegionLaw
import Derived.RangeFuncNested
import Derived.RangeFuncBound
import Derived.RangeFuncCalls
import Derived.RangeFuncLeaves
import Derived.Shelf.Abstract
import Derived.OwnWalkIn
import Derived.TacticsInMore
import Derived.LoopNIn
import Derived.LoopIn
import Derived.Shelf.AbstractIn
/- Plain mathematics of nets: bars, knots, meshes and connected parts of lists of bars; how their numbers add up for two lists far from one another. No program is spoken of here. -/
namespace Go.Proofs.YtfmfpnnglogkmaaGreatDoor.Ck

structure Knot where
  x : Int
  y : Int
deriving DecidableEq

structure Bar where
  x : Int
  y : Int
  s : Int
deriving DecidableEq

def Bar.lo (b : Bar) : Knot := ⟨b.x, b.y⟩
def Bar.hi (b : Bar) : Knot := ⟨b.x + b.s, b.y + 1⟩
def Blt (a b : Bar) : Prop := a.y < b.y ∨ a.y = b.y ∧ (a.x < b.x ∨ a.x = b.x ∧ a.s < b.s)
theorem Bar.ext' {a b : Bar} (h1 : a.x = b.x) (h2 : a.y = b.y) (h3 : a.s = b.s) : a = b := by
  cases a; cases b; cases h1; cases h2; cases h3; rfl
def inPlace (n : Int) : Prop := -100000 ≤ n ∧ n ≤ 100000
def okKnot (k : Knot) : Prop := inPlace k.x ∧ inPlace k.y ∧ (k.x + k.y) % 2 = 0
def okBar (b : Bar) : Prop := okKnot b.lo ∧ (b.s = -1 ∨ b.s = 1) ∧ inPlace b.hi.x ∧ inPlace b.hi.y
def Net (l : List Bar) : Prop := (∀ b ∈ l, okBar b) ∧ l.Pairwise Blt
def near (b : Bar) : Prop := -200 ≤ b.x ∧ b.x ≤ 200 ∧ -200 ≤ b.y ∧ b.y ≤ 200

theorem Blt.trans {a b c : Bar} (h : Blt a b) (k : Blt b c) : Blt a c := by unfold Blt at *; omega
theorem Blt.irrefl {a : Bar} (h : Blt a a) : False := by unfold Blt at h; omega
theorem Blt.tri (a b : Bar) : Blt a b ∨ a = b ∨ Blt b a := by
  obtain ⟨a1, a2, a3⟩ := a
  obtain ⟨b1, b2, b3⟩ := b
  simp only [Blt, Bar.mk.injEq]
  omega
theorem Net.nodup {l : List Bar} (h : Net l) : l.Nodup := h.2.imp (fun {a b} (k : Blt a b) e => by subst e; exact k.irrefl)

def ends (l : List Bar) : List Knot := l.flatMap fun b => [b.lo, b.hi]
theorem mem_ends {l : List Bar} {k : Knot} : k ∈ ends l ↔ ∃ b ∈ l, k = b.lo ∨ k = b.hi := by simp [ends]
theorem ends_append (a b : List Bar) : ends (a ++ b) = ends a ++ ends b := by simp [ends]

/-! ### lists without repetition -/
def nub : List Knot → List Knot
  | [] => []
  | k :: r => if k ∈ r then nub r else k :: nub r
theorem mem_nub {k : Knot} : ∀ {l : List Knot}, k ∈ nub l ↔ k ∈ l
  | [] => Iff.rfl
  | m :: r => by
    unfold nub
    split
    · rename_i h
      rw [mem_nub, List.mem_cons]
      exact ⟨Or.inr, fun h' => h'.elim (fun e => e ▸ h) id⟩
    · rw [List.mem_cons, List.mem_cons, mem_nub]
theorem nub_nodup : ∀ l : List Knot, (nub l).Nodup
  | [] => by simp [nub]
  | m :: r => by
    unfold nub
    split
    · exact nub_nodup r
    · rename_i h
      exact List.nodup_cons.2 ⟨fun h' => h (mem_nub.1 h'), nub_nodup r⟩
theorem same_length {a b : List Knot} (ha : a.Nodup) (hb : b.Nodup) (h : ∀ k, k ∈ a ↔ k ∈ b) : a.length = b.length :=
  ((List.perm_ext_iff_of_nodup ha hb).2 h).length_eq

def nK (l : List Bar) : Nat := (nub (ends l)).length
theorem nK_eq {l : List Bar} {ks : List Knot} (hn : ks.Nodup) (hm : ∀ k, k ∈ ks ↔ k ∈ ends l) : ks.length = nK l :=
  same_length hn (nub_nodup _) fun k => by rw [hm, mem_nub]
theorem nK_add {a b : List Bar} (h : ∀ k ∈ ends a, k ∉ ends b) : nK (a ++ b) = nK a + nK b := by
  rw [nK, nK, nK, ← List.length_append]
  refine same_length (nub_nodup _) ?_ fun k => ?_
  · exact List.nodup_append.2 ⟨nub_nodup _, nub_nodup _, fun x hx y hy e => h x (mem_nub.1 hx) (mem_nub.1 (e ▸ hy))⟩
  · rw [mem_nub, ends_append, List.mem_append, List.mem_append, mem_nub, mem_nub]
theorem knots_union {a b u : List Bar} {k l m : List Knot} (hk : k.Nodup) (hl : l.Nodup) (hm : m.Nodup) (mk : ∀ p, p ∈ k ↔ p ∈ ends a) (ml : ∀ p, p ∈ l ↔ p ∈ ends b) (mm : ∀ p, p ∈ m ↔ p ∈ ends u)
    (hu : ∀ x, x ∈ u ↔ x ∈ a ∨ x ∈ b) : m.length + k.countP (fun p => decide (p ∈ l)) = k.length + l.length := by
  have he : ∀ p, p ∈ ends u ↔ p ∈ ends a ∨ p ∈ ends b := by
    intro p
    simp only [mem_ends, hu]
    constructor
    · rintro ⟨x, hx | hx, h⟩
      · exact .inl ⟨x, hx, h⟩
      · exact .inr ⟨x, hx, h⟩
    · rintro (⟨x, hx, h⟩ | ⟨x, hx, h⟩)
      · exact ⟨x, .inl hx, h⟩
      · exact ⟨x, .inr hx, h⟩
  have h1 : m.length = (l ++ k.filter (fun p => !decide (p ∈ l))).length := by
    refine same_length hm (List.nodup_append.2 ⟨hl, hk.filter _, ?_⟩) fun p => ?_
    · intro x hx y hy e
      subst e
      have := (List.mem_filter.1 hy).2
      simp [hx] at this
    · rw [mm, he, List.mem_append, List.mem_filter]
      by_cases hp : p ∈ l
      · simp [hp, (ml p).1 hp]
      · have : p ∉ ends b := fun h => hp ((ml p).2 h)
        simp [hp, this, mk]
  rw [h1, List.length_append, ← List.countP_eq_length_filter]
  have h2 := List.length_eq_countP_add_countP (l := k) (fun p => decide (p ∈ l))
  have h3 : List.countP (fun p => !decide (p ∈ l)) k = List.countP (fun a => decide ¬(decide (a ∈ l)) = true) k := List.countP_congr fun x _ => by simp
  omega

/-! ### meshes -/
def isMesh (l : List Bar) (b : Bar) : Bool := decide (b.s = -1) && (decide ((⟨b.x, b.y, 1⟩ : Bar) ∈ l) && (decide ((⟨b.x - 1, b.y + 1, 1⟩ : Bar) ∈ l) && decide ((⟨b.x + 1, b.y + 1, -1⟩ : Bar) ∈ l)))
def nM (l : List Bar) : Nat := l.countP (isMesh l)
theorem nM_add {a b : List Bar} (ha : ∀ x ∈ a, x.y ≤ 200) (hb : ∀ x ∈ b, 800 ≤ x.y) : nM (a ++ b) = nM a + nM b := by
  have h1 : ∀ x : Bar, x.y ≤ 201 → (x ∈ a ++ b ↔ x ∈ a) := fun x hx => by
    rw [List.mem_append]
    exact ⟨fun h => h.elim id (fun h' => absurd (hb x h') (by omega)), .inl⟩
  have h2 : ∀ x : Bar, 201 ≤ x.y → (x ∈ a ++ b ↔ x ∈ b) := fun x hx => by
    rw [List.mem_append]
    exact ⟨fun h => h.elim (fun h' => absurd (ha x h') (by omega)) id, .inr⟩
  rw [nM, List.countP_append, nM, nM]
  congr 1
  · refine List.countP_congr fun x hx => ?_
    have := ha x hx
    unfold isMesh
    rw [decide_eq_decide.2 (h1 ⟨x.x, x.y, 1⟩ (by simp; omega)), decide_eq_decide.2 (h1 ⟨x.x - 1, x.y + 1, 1⟩ (by simp; omega)), decide_eq_decide.2 (h1 ⟨x.x + 1, x.y + 1, -1⟩ (by simp; omega))]
  · refine List.countP_congr fun x hx => ?_
    have := hb x hx
    unfold isMesh
    rw [decide_eq_decide.2 (h2 ⟨x.x, x.y, 1⟩ (by simp; omega)), decide_eq_decide.2 (h2 ⟨x.x - 1, x.y + 1, 1⟩ (by simp; omega)), decide_eq_decide.2 (h2 ⟨x.x + 1, x.y + 1, -1⟩ (by simp; omega))]

/-! ### parts -/
def Adj (b : Bar) (k m : Knot) : Prop := k = b.lo ∧ m = b.hi ∨ k = b.hi ∧ m = b.lo
inductive Conn (l : List Bar) : Knot → Knot → Prop
  | refl (k : Knot) : Conn l k k
  | step {k m n : Knot} (b : Bar) : b ∈ l → Adj b k m → Conn l m n → Conn l k n
theorem Conn.trans {l : List Bar} {k m n : Knot} (h : Conn l k m) (h' : Conn l m n) : Conn l k n := by
  induction h with
  | refl => exact h'
  | step b hb ha _ ih => exact .step b hb ha (ih h')
theorem Adj.symm {b : Bar} {k m : Knot} (h : Adj b k m) : Adj b m k := h.elim (fun h => .inr ⟨h.2, h.1⟩) (fun h => .inl ⟨h.2, h.1⟩)
theorem Conn.one {l : List Bar} {b : Bar} {k m : Knot} (hb : b ∈ l) (h : Adj b k m) : Conn l k m := .step b hb h (.refl m)
theorem Conn.symm {l : List Bar} {k m : Knot} (h : Conn l k m) : Conn l m k := by
  induction h with
  | refl => exact .refl _
  | step b hb ha _ ih => exact ih.trans (.one hb ha.symm)
theorem Conn.mono {l l' : List Bar} (hl : ∀ b ∈ l, b ∈ l') {k m : Knot} (h : Conn l k m) : Conn l' k m := by
  induction h with
  | refl => exact .refl _
  | step b hb ha _ ih => exact .step b (hl b hb) ha ih
theorem Adj.ends {l : List Bar} {b : Bar} {k m : Knot} (hb : b ∈ l) (h : Adj b k m) : k ∈ ends l ∧ m ∈ ends l := by
  rw [mem_ends, mem_ends]
  rcases h with ⟨h1, h2⟩ | ⟨h1, h2⟩
  · exact ⟨⟨b, hb, .inl h1⟩, ⟨b, hb, .inr h2⟩⟩
  · exact ⟨⟨b, hb, .inr h1⟩, ⟨b, hb, .inl h2⟩⟩

inductive CntIs (l : List Bar) : List Knot → List Bar → Nat → Prop
  | nil (seen : List Knot) : CntIs l seen [] 0
  | old {seen : List Knot} {b : Bar} {r : List Bar} {n : Nat} : (∃ s ∈ seen, Conn l s b.lo) → CntIs l (b.lo :: seen) r n → CntIs l seen (b :: r) n
  | fresh {seen : List Knot} {b : Bar} {r : List Bar} {n : Nat} : (¬ ∃ s ∈ seen, Conn l s b.lo) → CntIs l (b.lo :: seen) r n → CntIs l seen (b :: r) (n + 1)
def PartsIs (l : List Bar) (n : Nat) : Prop := CntIs l [] l n
theorem CntIs.det {l : List Bar} : ∀ {r : List Bar} {seen : List Knot} {n m : Nat}, CntIs l seen r n → CntIs l seen r m → n = m
  | [], _, _, _, .nil _, .nil _ => rfl
  | _ :: _, _, _, _, .old _ h, .old _ h' => h.det h'
  | _ :: _, _, _, _, .old e _, .fresh e' _ => absurd e e'
  | _ :: _, _, _, _, .fresh e _, .old e' _ => absurd e' e
  | _ :: _, _, _, _, .fresh _ h, .fresh _ h' => congrArg (· + 1) (h.det h')
theorem CntIs.total {l : List Bar} : ∀ (r : List Bar) (seen : List Knot), ∃ n, CntIs l seen r n
  | [], seen => ⟨0, .nil seen⟩
  | b :: r, seen => by
    obtain ⟨n, h⟩ := CntIs.total (l := l) r (b.lo :: seen)
    by_cases e : ∃ s ∈ seen, Conn l s b.lo
    · exact ⟨n, .old e h⟩
    · exact ⟨n + 1, .fresh e h⟩
theorem CntIs.mono {l l' : List Bar} : ∀ {r : List Bar} {seen seen' : List Knot} {n : Nat}, (∀ b ∈ r, ∀ t : List Knot, (∀ x ∈ t, ∃ c ∈ r, x = c.lo) → ((∃ s ∈ t ++ seen, Conn l s b.lo) ↔ ∃ s ∈ t ++ seen', Conn l' s b.lo)) → CntIs l seen r n → CntIs l' seen' r n
  | [], _, _, _, _, .nil _ => .nil _
  | b :: r, seen, seen', _, hc, .old e h =>
    .old ((hc b (by simp) [] (by simp)).1 e) (h.mono fun c hcr t ht => by
      have := hc c (by simp [hcr]) (t ++ [b.lo]) (by
        intro x hx
        rcases List.mem_append.1 hx with hx | hx
        · obtain ⟨d, hd, e⟩ := ht x hx; exact ⟨d, by simp [hd], e⟩
        · exact ⟨b, by simp, by simpa using hx⟩)
      simpa using this)
  | b :: r, seen, seen', _, hc, .fresh e h =>
    .fresh (fun e' => e ((hc b (by simp) [] (by simp)).2 e')) (h.mono fun c hcr t ht => by
      have := hc c (by simp [hcr]) (t ++ [b.lo]) (by
        intro x hx
        rcases List.mem_append.1 hx with hx | hx
        · obtain ⟨d, hd, e⟩ := ht x hx; exact ⟨d, by simp [hd], e⟩
        · exact ⟨b, by simp, by simpa using hx⟩)
      simpa using this)
theorem CntIs.append {l : List Bar} : ∀ {r r' : List Bar} {seen : List Knot} {n m : Nat}, CntIs l seen r n → CntIs l ((r.map Bar.lo).reverse ++ seen) r' m → CntIs l seen (r ++ r') (n + m)
  | [], _, _, _, _, .nil _, h' => by simpa using h'
  | b :: r, r', seen, _, m, .old e h, h' => .old e (h.append (by simpa using h'))
  | b :: r, r', seen, _, m, .fresh (n := n) e h, h' => by
    rw [show n + 1 + m = (n + m) + 1 from by omega]
    exact .fresh e (h.append (by simpa using h'))

theorem Conn.left {a b : List Bar} (hd : ∀ k ∈ ends a, k ∉ ends b) {k m : Knot} (h : Conn (a ++ b) k m) : k ∈ ends a → Conn a k m ∧ m ∈ ends a := by
  induction h with
  | refl => exact fun h => ⟨.refl _, h⟩
  | step c hc ha _ ih =>
    intro hk
    rcases List.mem_append.1 hc with hc | hc
    · obtain ⟨h1, h2⟩ := ih (ha.ends hc).2
      exact ⟨.step c hc ha h1, h2⟩
    · exact absurd (ha.ends hc).1 (hd _ hk)
theorem Conn.right {a b : List Bar} (hd : ∀ k ∈ ends a, k ∉ ends b) {k m : Knot} (h : Conn (a ++ b) k m) : k ∈ ends b → Conn b k m ∧ m ∈ ends b := by
  induction h with
  | refl => exact fun h => ⟨.refl _, h⟩
  | step c hc ha _ ih =>
    intro hk
    rcases List.mem_append.1 hc with hc | hc
    · exact absurd hk (hd _ (ha.ends hc).1)
    · obtain ⟨h1, h2⟩ := ih (ha.ends hc).2
      exact ⟨.step c hc ha h1, h2⟩
theorem lo_ends {l : List Bar} {b : Bar} (h : b ∈ l) : b.lo ∈ ends l := mem_ends.2 ⟨b, h, .inl rfl⟩

theorem PartsIs.add {a b : List Bar} {p q : Nat} (hd : ∀ k ∈ ends a, k ∉ ends b) (hp : PartsIs a p) (hq : PartsIs b q) : PartsIs (a ++ b) (p + q) := by
  have inl : ∀ {k m : Knot}, Conn a k m → Conn (a ++ b) k m := fun h => h.mono fun _ h => List.mem_append.2 (.inl h)
  have inr : ∀ {k m : Knot}, Conn b k m → Conn (a ++ b) k m := fun h => h.mono fun _ h => List.mem_append.2 (.inr h)
  refine CntIs.append (hp.mono (l' := a ++ b) (seen' := []) fun x _ t ht => ?_) (hq.mono fun x hx t ht => ?_)
  · constructor
    · rintro ⟨s, hs, h⟩; exact ⟨s, hs, inl h⟩
    · rintro ⟨s, hs, h⟩
      obtain ⟨c, hc, rfl⟩ := ht s (by simpa using hs)
      exact ⟨_, hs, (h.left hd (lo_ends hc)).1⟩
  · constructor
    · rintro ⟨s, hs, h⟩; exact ⟨s, by simp at hs ⊢; exact .inl hs, inr h⟩
    · rintro ⟨s, hs, h⟩
      rcases List.mem_append.1 hs with hs | hs
      · obtain ⟨c, hc, rfl⟩ := ht s hs
        exact ⟨_, by simp [hs], (h.right hd (lo_ends hc)).1⟩
      · have : s ∈ ends a := by
          simp at hs
          obtain ⟨c, hc, rfl⟩ := hs
          exact lo_ends hc
        exact absurd (lo_ends hx) (hd _ (h.left hd this).2)

/-! ### shifts -/
def Bar.shift (dx dy : Int) (b : Bar) : Bar := ⟨b.x + dx, b.y + dy, b.s⟩
def Knot.shift (dx dy : Int) (k : Knot) : Knot := ⟨k.x + dx, k.y + dy⟩
theorem shift_lo (dx dy : Int) (b : Bar) : (b.shift dx dy).lo = b.lo.shift dx dy := rfl
theorem shift_hi (dx dy : Int) (b : Bar) : (b.shift dx dy).hi = b.hi.shift dx dy := by simp [Bar.shift, Bar.hi, Knot.shift]; omega
theorem Knot.shift_inj {dx dy : Int} {k m : Knot} (h : k.shift dx dy = m.shift dx dy) : k = m := by
  obtain ⟨a, b⟩ := k
  obtain ⟨c, d⟩ := m
  simp only [Knot.shift, Knot.mk.injEq] at h ⊢
  omega
theorem Conn.shift {l : List Bar} {k m : Knot} (dx dy : Int) (h : Conn l k m) : Conn (l.map (Bar.shift dx dy)) (k.shift dx dy) (m.shift dx dy) := by
  induction h with
  | refl => exact .refl _
  | step b hb ha _ ih =>
    refine .step (b.shift dx dy) (List.mem_map_of_mem hb) ?_ ih
    rcases ha with ⟨rfl, rfl⟩ | ⟨rfl, rfl⟩
    · exact .inl ⟨(shift_lo ..).symm, (shift_hi ..).symm⟩
    · exact .inr ⟨(shift_hi ..).symm, (shift_lo ..).symm⟩
theorem Bar.shift_back (dx dy : Int) (b : Bar) : (b.shift dx dy).shift (-dx) (-dy) = b :=
  Bar.ext' (show b.x + dx + -dx = b.x by omega) (show b.y + dy + -dy = b.y by omega) rfl
theorem Knot.shift_back (dx dy : Int) (b : Knot) : (b.shift dx dy).shift (-dx) (-dy) = b := by
  obtain ⟨x, y⟩ := b
  simp only [Knot.shift, Knot.mk.injEq]
  omega
theorem Conn.unshift {l : List Bar} {k m : Knot} (dx dy : Int) (h : Conn (l.map (Bar.shift dx dy)) (k.shift dx dy) (m.shift dx dy)) : Conn l k m := by
  have := h.shift (-dx) (-dy)
  rw [List.map_map, Knot.shift_back, Knot.shift_back] at this
  have e : (Bar.shift (-dx) (-dy) ∘ Bar.shift dx dy) = id := funext fun b => Bar.shift_back dx dy b
  rwa [e, List.map_id] at this
theorem CntIs.shift {l : List Bar} (dx dy : Int) : ∀ {r : List Bar} {seen : List Knot} {n : Nat}, CntIs l seen r n → CntIs (l.map (Bar.shift dx dy)) (seen.map (Knot.shift dx dy)) (r.map (Bar.shift dx dy)) n
  | [], _, _, .nil _ => .nil _
  | b :: r, seen, _, .old e h => by
    obtain ⟨s, hs, hc⟩ := e
    exact .old ⟨_, List.mem_map_of_mem hs, hc.shift dx dy⟩ (h.shift dx dy)
  | b :: r, seen, _, .fresh e h => by
    refine .fresh (fun ⟨s, hs, hc⟩ => ?_) (h.shift dx dy)
    obtain ⟨t, ht, rfl⟩ := List.mem_map.1 hs
    exact e ⟨t, ht, hc.unshift dx dy⟩
theorem PartsIs.shift {l : List Bar} {n : Nat} (dx dy : Int) (h : PartsIs l n) : PartsIs (l.map (Bar.shift dx dy)) n := CntIs.shift dx dy h
theorem ends_shift (dx dy : Int) (l : List Bar) : ends (l.map (Bar.shift dx dy)) = (ends l).map (Knot.shift dx dy) := by
  simp only [ends, List.flatMap_map, List.map_flatMap]
  congr
  funext b
  simp [shift_lo, shift_hi]
theorem nub_map (dx dy : Int) : ∀ l : List Knot, nub (l.map (Knot.shift dx dy)) = (nub l).map (Knot.shift dx dy)
  | [] => rfl
  | k :: r => by
    have e : k.shift dx dy ∈ r.map (Knot.shift dx dy) ↔ k ∈ r := by
      constructor
      · intro h
        obtain ⟨m, hm, e⟩ := List.mem_map.1 h
        exact Knot.shift_inj e ▸ hm
      · exact fun h => List.mem_map_of_mem h
    rw [List.map_cons, nub, nub]
    by_cases h : k ∈ r
    · rw [if_pos (e.2 h), if_pos h, nub_map dx dy r]
    · rw [if_neg (fun h' => h (e.1 h')), if_neg h, List.map_cons, nub_map dx dy r]
theorem nK_shift (dx dy : Int) (l : List Bar) : nK (l.map (Bar.shift dx dy)) = nK l := by
  rw [nK, nK, ends_shift, nub_map, List.length_map]
theorem mem_shift {dx dy : Int} {l : List Bar} {b : Bar} : b ∈ l.map (Bar.shift dx dy) ↔ (⟨b.x - dx, b.y - dy, b.s⟩ : Bar) ∈ l := by
  rw [List.mem_map]
  constructor
  · rintro ⟨c, hc, rfl⟩
    have e : (⟨(c.shift dx dy).x - dx, (c.shift dx dy).y - dy, (c.shift dx dy).s⟩ : Bar) = c :=
      Bar.ext' (show c.x + dx - dx = c.x by omega) (show c.y + dy - dy = c.y by omega) rfl
    rw [e]; exact hc
  · intro h
    exact ⟨_, h, Bar.ext' (show b.x - dx + dx = b.x by omega) (show b.y - dy + dy = b.y by omega) rfl⟩
theorem nM_shift (dx dy : Int) (l : List Bar) : nM (l.map (Bar.shift dx dy)) = nM l := by
  rw [nM, nM, List.countP_map]
  refine List.countP_congr fun b _ => ?_
  have h : ∀ x y s : Int, ((⟨x, y, s⟩ : Bar) ∈ l.map (Bar.shift dx dy)) ↔ (⟨x - dx, y - dy, s⟩ : Bar) ∈ l := fun x y s => mem_shift
  simp only [Function.comp, isMesh, Bar.shift, h]
  rw [show b.x + dx - dx = b.x from by omega, show b.y + dy - dy = b.y from by omega, show b.x + dx - 1 - dx = b.x - 1 from by omega, show b.y + dy + 1 - dy = b.y + 1 from by omega, show b.x + dx + 1 - dx = b.x + 1 from by omega]
  exact Iff.rfl
end Go.Proofs.YtfmfpnnglogkmaaGreatDoor.Ck

/- Lists of bars in memory: what it means that a slice holds a list of bars, and that this is kept. -/
namespace Go.Proofs.YtfmfpnnglogkmaaGreatDoor
open Go.RowKit

theorem ret_i {a b : Int} (h : a = b) : Ending.returned (.int .i64 a) = .returned (.int .i64 b) := by rw [h]
theorem ret_b {a b : Bool} (h : a = b) : Ending.returned (.bool a) = .returned (.bool b) := by rw [h]

def bv (b : Ck.Bar) : Value := .agg #[.int .i64 b.x, .int .i64 b.y, .int .i64 b.s]
def kv (k : Ck.Knot) : Value := .agg #[.int .i64 k.x, .int .i64 k.y]
def bcells (b : Ck.Bar) : List Value := [.int .i64 b.x, .int .i64 b.y, .int .i64 b.s]
def kcells (k : Ck.Knot) : List Value := [.int .i64 k.x, .int .i64 k.y]

/-- The slice at A holds the bars l, below block B. -/
def RB (w : World) (B : Nat) (A : Option Addr) (l : List Ck.Bar) : Prop :=
  0 < l.length → ∃ b off, A = some ⟨b, off, none⟩ ∧ b < B ∧ ∀ i (h : i < l.length), w.cell? ⟨b, off + i * 3, none⟩ = some (.int .i64 l[i].x) ∧ w.cell? ⟨b, off + i * 3 + 1, none⟩ = some (.int .i64 l[i].y) ∧ w.cell? ⟨b, off + i * 3 + 2, none⟩ = some (.int .i64 l[i].s)
/-- The slice at A holds the knots l, below block B. -/
def RK (w : World) (B : Nat) (A : Option Addr) (l : List Ck.Knot) : Prop :=
  0 < l.length → ∃ b off, A = some ⟨b, off, none⟩ ∧ b < B ∧ ∀ i (h : i < l.length), w.cell? ⟨b, off + i * 2, none⟩ = some (.int .i64 l[i].x) ∧ w.cell? ⟨b, off + i * 2 + 1, none⟩ = some (.int .i64 l[i].y)

theorem RB.below {w w' : World} {B : Nat} {A : Option Addr} {l : List Ck.Bar} (h : RB w B A l) (hb : Below B w w') : RB w' B A l := fun hl => by
  obtain ⟨b, off, rfl, hB, hc⟩ := h hl
  exact ⟨b, off, rfl, hB, fun i hi => ⟨(hb.cell (p := ⟨b, _, none⟩) hB).trans (hc i hi).1, (hb.cell (p := ⟨b, _, none⟩) hB).trans (hc i hi).2.1, (hb.cell (p := ⟨b, _, none⟩) hB).trans (hc i hi).2.2⟩⟩
theorem RB.more {w : World} {B B' : Nat} {A : Option Addr} {l : List Ck.Bar} (h : RB w B A l) (hB : B ≤ B') : RB w B' A l := fun hl => by
  obtain ⟨b, off, h1, h2, hc⟩ := h hl
  exact ⟨b, off, h1, by omega, hc⟩
theorem RK.below {w w' : World} {B : Nat} {A : Option Addr} {l : List Ck.Knot} (h : RK w B A l) (hb : Below B w w') : RK w' B A l := fun hl => by
  obtain ⟨b, off, rfl, hB, hc⟩ := h hl
  exact ⟨b, off, rfl, hB, fun i hi => ⟨(hb.cell (p := ⟨b, _, none⟩) hB).trans (hc i hi).1, (hb.cell (p := ⟨b, _, none⟩) hB).trans (hc i hi).2⟩⟩
theorem RK.more {w : World} {B B' : Nat} {A : Option Addr} {l : List Ck.Knot} (h : RK w B A l) (hB : B ≤ B') : RK w B' A l := fun hl => by
  obtain ⟨b, off, h1, h2, hc⟩ := h hl
  exact ⟨b, off, h1, by omega, hc⟩
theorem below_drewN {B : Nat} {a w : World} (h : Below B a w) (n : Nat) : Below B a (w.drewN n) := ⟨h.os, h.tape, h.output, h.size, h.block⟩
theorem below_drew {B : Nat} {a w : World} (h : Below B a w) : Below B a w.drew := ⟨h.os, h.tape, h.output, h.size, h.block⟩
theorem bcell {W w1 : World} (hb : Below W.heap.size W w1) : (∀ b o, b < W.heap.size → w1.cell? ⟨b, o, none⟩ = W.cell? ⟨b, o, none⟩) ∧ (∀ b o, b < W.heap.size → w1.frozen? ⟨b, o, none⟩ = W.frozen? ⟨b, o, none⟩) :=
  ⟨fun b o h => hb.cell (p := ⟨b, o, none⟩) h, fun b o h => hb.frozen (p := ⟨b, o, none⟩) h⟩
theorem box2 (w : World) (a b : Value) (t : TypeId) : ∃ w1, w1 = w.alloc (.cells #[a, b] t) ∧ w1.cell? ⟨w.heap.size, 0, none⟩ = some a ∧ w1.cell? ⟨w.heap.size, 1, none⟩ = some b ∧ Below w.heap.size w w1 ∧ w.heap.size < w1.heap.size :=
  ⟨_, rfl, by rw [World.cell?_alloc_at _ _ _ _ rfl]; rfl, by rw [World.cell?_alloc_at _ _ _ _ rfl]; rfl, (Below.refl _ _).alloc (Nat.le_refl _) _, by simp⟩
theorem box3 (w : World) (a b c : Value) (t : TypeId) : ∃ w1, w1 = w.alloc (.cells #[a, b, c] t) ∧ w1.cell? ⟨w.heap.size, 0, none⟩ = some a ∧ w1.cell? ⟨w.heap.size, 1, none⟩ = some b ∧ w1.cell? ⟨w.heap.size, 2, none⟩ = some c ∧ Below w.heap.size w w1 ∧ w.heap.size < w1.heap.size :=
  ⟨_, rfl, by rw [World.cell?_alloc_at _ _ _ _ rfl]; rfl, by rw [World.cell?_alloc_at _ _ _ _ rfl]; rfl, by rw [World.cell?_alloc_at _ _ _ _ rfl]; rfl, (Below.refl _ _).alloc (Nat.le_refl _) _, by simp⟩
theorem box33 (w : World) (a b c a' b' c' : Value) (t t' : TypeId) : ∃ w1, w1 = (w.alloc (.cells #[a, b, c] t)).alloc (.cells #[a', b', c'] t') ∧ w1.cell? ⟨w.heap.size, 0, none⟩ = some a ∧ w1.cell? ⟨w.heap.size, 1, none⟩ = some b ∧ w1.cell? ⟨w.heap.size, 2, none⟩ = some c ∧
    w1.cell? ⟨w.heap.size + 1, 0, none⟩ = some a' ∧ w1.cell? ⟨w.heap.size + 1, 1, none⟩ = some b' ∧ w1.cell? ⟨w.heap.size + 1, 2, none⟩ = some c' := by
  obtain ⟨w0, rfl, h0, h1, h2, _, hz⟩ := box3 w a b c t
  have hs : (w.alloc (.cells #[a, b, c] t)).heap.size = w.heap.size + 1 := by simp
  obtain ⟨w1, rfl, k0, k1, k2, hb, _⟩ := box3 (w.alloc (.cells #[a, b, c] t)) a' b' c' t'
  rw [hs] at k0 k1 k2
  exact ⟨_, rfl, (hb.cell (p := ⟨_, _, none⟩) hz).trans h0, (hb.cell (p := ⟨_, _, none⟩) hz).trans h1, (hb.cell (p := ⟨_, _, none⟩) hz).trans h2, k0, k1, k2⟩
end Go.Proofs.YtfmfpnnglogkmaaGreatDoor

/- A map from knots to ints that the call itself has made: what its block holds, and what its operations do. -/
namespace Go.Proofs.YtfmfpnnglogkmaaGreatDoor
open Go.RowKit Go.ChangeMaps Go.MapKept

def kvv (k : Ck.Knot) : Value := .agg #[.int .i64 k.x, .int .i64 k.y]
def mget : List (Ck.Knot × Int) → Ck.Knot → Int
  | [], _ => 0
  | p :: r, k => if k = p.1 then p.2 else mget r k
def mput : List (Ck.Knot × Int) → Ck.Knot → Int → List (Ck.Knot × Int)
  | [], k, v => [(k, v)]
  | p :: r, k, v => if k = p.1 then (k, v) :: r else p :: mput r k v
def fnd : List (Ck.Knot × Int) → Ck.Knot → Nat → Option (Nat × Value)
  | [], _, _ => none
  | p :: r, k, i => if k = p.1 then some (i, .int .i64 p.2) else fnd r k (i + 1)

theorem eqKnot (a b : Ck.Knot) (w : World) : (Op.equal 43 (kvv a) (kvv b)).run Tryz.prog w = .ok (decide (a = b)) w := by
  have u3 := Tryz.underlying3
  have a3 := Tryz.isAgg3
  have z3 := Tryz.sizeOf3
  have hS : Tryz.prog.underlying 43 = some (.struct (Tryz.prog.fieldsOf 43)) := by kernel_rfl
  have hp : Tryz.prog.stoodInHeld 43 = false := by kernel_rfl
  obtain ⟨x, y⟩ := a
  obtain ⟨x', y'⟩ := b
  simp only [kvv, Op.equal]
  rw [show Op.maxDepth = 9999 + 1 from rfl, run_equalIn_struct w 9999 43 _ _ hS hp]
  simp only [Program.fieldsOf, Tryz.underlying43]
  go_simp
  by_cases h1 : x = x' <;> by_cases h2 : y = y' <;> simp [h1, h2]

/-- The entries es hold the pairs m. -/
def Ents (es : Array MapEntry) (m : List (Ck.Knot × Int)) : Prop := es.toList.map (fun e => (e.key, e.val)) = m.map fun p => (kvv p.1, Value.int .i64 p.2)
theorem run_findAsking (k : Ck.Knot) (w : World) : ∀ (l : List MapEntry) (m : List (Ck.Knot × Int)) (i : Nat), l.map (fun e => (e.key, e.val)) = m.map (fun p => (kvv p.1, Value.int .i64 p.2)) →
    (Instr.findAsking 43 (kvv k) l i).run Tryz.prog w = .ok (fnd m k i) w
  | [], [], _, _ => rfl
  | [], _ :: _, _, h => by simp at h
  | _ :: _, [], _, h => by simp at h
  | e :: l, p :: m, i, h => by
    simp only [List.map_cons, List.cons.injEq, Prod.mk.injEq] at h
    obtain ⟨⟨h1, h2⟩, h3⟩ := h
    simp only [Instr.findAsking, Sem.run_bind, h1, eqKnot, Result.andThen, fnd, h2]
    by_cases hk : k = p.1
    · simp [hk]
    · simp [hk, run_findAsking k w l m (i + 1) h3]
theorem run_findKey (k : Ck.Knot) (w : World) (es : Array MapEntry) (m : List (Ck.Knot × Int)) (h : Ents es m) : (Instr.findKey 43 (kvv k) es.toList).run Tryz.prog w = .ok (fnd m k 0) w := by
  have hu := Tryz.underlying43
  unfold Ents at h
  simp only [Instr.findKey, Sem.run_bind, run_underlying hu, Result.andThen]
  cases hl : es.toList with
  | nil =>
    rw [hl] at h
    cases m with
    | nil => rfl
    | cons _ _ => simp at h
  | cons e l =>
    rw [hl] at h
    have hn : ∀ fs, Instr.findNow (.struct fs) (kvv k) (e :: l) 0 = none := fun fs => by
      unfold Instr.findNow Instr.sameNow
      rfl
    simp only [hn]
    exact run_findAsking k w (e :: l) m 0 h
theorem run_checkKnot (b : Bool) (k : Ck.Knot) (w : World) : (Instr.checkKey b 10000 43 (kvv k)).run Tryz.prog w = .ok () w := by
  obtain ⟨x, y⟩ := k
  cases b <;> kernel_rfl

theorem fnd_spec (k : Ck.Knot) : ∀ (m : List (Ck.Knot × Int)) (i : Nat), (fnd m k i = none ∧ k ∉ m.map (·.1) ∧ mget m k = 0 ∧ ∀ v, mput m k v = m ++ [(k, v)]) ∨
    ∃ j, fnd m k i = some (i + j, .int .i64 (mget m k)) ∧ m[j]? = some (k, mget m k) ∧ ∀ v, mput m k v = m.set j (k, v)
  | [], i => .inl ⟨rfl, by simp, rfl, fun _ => rfl⟩
  | p :: m, i => by
    by_cases hk : k = p.1
    · refine .inr ⟨0, by simp [fnd, mget, hk], by simp [mget, hk], fun v => by simp [mput, hk]⟩
    · rcases fnd_spec k m (i + 1) with ⟨h1, h2, h3, h4⟩ | ⟨j, h1, h2, h3⟩
      · refine .inl ⟨by simp [fnd, hk, h1], by simp only [List.map_cons, List.mem_cons, not_or]; exact ⟨hk, h2⟩, by simp [mget, hk, h3], fun v => by simp [mput, hk, h4]⟩
      · refine .inr ⟨j + 1, by simp [fnd, hk, h1, mget]; omega, by simp [h2, mget, hk], fun v => by simp [mput, hk, h3]⟩

/-- Block b of w is a map that holds the pairs m, each key once. -/
def MIs (w : World) (b : Nat) (m : List (Ck.Knot × Int)) : Prop :=
  ∃ es clock, w.heap[b]? = some (.map es clock) ∧ Ents es m ∧ (m.map (·.1)).Nodup ∧ (es.toList.map (·.born)).Nodup ∧ ∀ e ∈ es.toList, e.born < clock
theorem MIs.made (w : World) : MIs (w.alloc (.map #[] 0)) w.heap.size [] := ⟨#[], 0, heap_alloc_new _ _, rfl, by simp, by simp, by simp⟩
theorem MIs.of_block {w w' : World} {b : Nat} {m : List (Ck.Knot × Int)} (h : MIs w b m) (hb : w'.heap[b]? = w.heap[b]?) : MIs w' b m := by
  obtain ⟨es, clock, h1, h2⟩ := h
  exact ⟨es, clock, hb.trans h1, h2⟩
theorem MIs.below {w w' : World} {b B : Nat} {m : List (Ck.Knot × Int)} (h : MIs w b m) (hb : Below B w w') (hB : b < B) : MIs w' b m := h.of_block (hb.block b hB)
theorem MIs.drew {w : World} {b : Nat} {m : List (Ck.Knot × Int)} (h : MIs w b m) : MIs w.drew b m := h
theorem MIs.lt {w : World} {b : Nat} {m : List (Ck.Knot × Int)} (h : MIs w b m) : b < w.heap.size := by
  obtain ⟨_, _, h1, _⟩ := h
  exact (Array.getElem?_eq_some_iff.1 h1).1

theorem stays (k : Ck.Knot) (w : World) (old : Value) (h : old = kvv k) : (Instr.keyThatStays old (kvv k)).run Tryz.prog w = .ok (kvv k) w := by
  have hs : Instr.sameBits 10000 (kvv k) (kvv k) = true := by
    rw [show (10000 : Nat) = 9998 + 1 + 1 from rfl]
    simp [Instr.sameBits, kvv]
  subst h
  simp [Instr.keyThatStays, hs]
theorem Ents.key {es : Array MapEntry} {m : List (Ck.Knot × Int)} (h : Ents es m) {j : Nat} {p : Ck.Knot × Int} (hj : m[j]? = some p) : ∃ e, es.toList[j]? = some e ∧ e.key = kvv p.1 ∧ e.val = .int .i64 p.2 := by
  have h' := congrArg (fun l => l[j]?) h
  simp only [List.getElem?_map, hj, Option.map_some] at h'
  cases he : es.toList[j]? with
  | none => rw [he] at h'; simp at h'
  | some e =>
    rw [he] at h'
    simp at h'
    exact ⟨e, rfl, h'.1, h'.2⟩
theorem Ents.set {es es' : Array MapEntry} {m : List (Ck.Knot × Int)} (h : Ents es m) {j : Nat} {p : Ck.Knot × Int} {e : MapEntry} (he : es'.toList = es.toList.set j e) (hk : e.key = kvv p.1) (hv : e.val = .int .i64 p.2) : Ents es' (m.set j p) := by
  unfold Ents at h ⊢
  rw [he, List.map_set, List.map_set, h, hk, hv]
theorem modify_set (es : Array MapEntry) (j : Nat) (e : MapEntry) (f : MapEntry → MapEntry) (h : es.toList[j]? = some e) : (es.modify j f).toList = es.toList.set j (f e) := by
  rw [Array.toList_modify]
  have hj : j < es.toList.length := (List.getElem?_eq_some_iff.1 h).1
  apply List.ext_getElem?
  intro i
  rw [List.getElem?_modify, List.getElem?_set]
  by_cases hi : j = i
  · subst hi
    simp only [if_true, h]
    rw [if_pos hj]
    rfl
  · simp [hi]

end Go.Proofs.YtfmfpnnglogkmaaGreatDoor

/- m[k]++ on such a map: the entry, and the store into it. -/
namespace Go.Proofs.YtfmfpnnglogkmaaGreatDoor
open Go.RowKit Go.ChangeMaps Go.MapKept

theorem map_fst_set {m : List (Ck.Knot × Int)} {j : Nat} {k : Ck.Knot} {u : Int} (h : m[j]? = some (k, u)) (v : Int) : (m.set j (k, v)).map (·.1) = m.map (·.1) := by
  rw [List.map_set]
  apply List.ext_getElem?
  intro i
  rw [List.getElem?_set]
  split
  · rename_i hi
    subst hi
    simp [h]
    exact (List.getElem?_eq_some_iff.1 h).1
  · rfl
theorem map_born_set {l : List MapEntry} {j : Nat} {e e' : MapEntry} (h : l[j]? = some e) (hb : e'.born = e.born) : (l.set j e').map (·.born) = l.map (·.born) := by
  rw [List.map_set]
  apply List.ext_getElem?
  intro i
  rw [List.getElem?_set]
  split
  · rename_i hi
    subst hi
    simp [h, hb]
    exact (List.getElem?_eq_some_iff.1 h).1
  · rfl
theorem mem_set_born {l : List MapEntry} {j c : Nat} {e e' : MapEntry} (h : l[j]? = some e) (hb : e'.born = e.born) (h5 : ∀ x ∈ l, x.born < c) : ∀ x ∈ l.set j e', x.born < c := by
  intro x hx
  rcases List.mem_or_eq_of_mem_set hx with hx | rfl
  · exact h5 x hx
  · rw [hb]; exact h5 e (List.mem_of_getElem? h)

theorem mput_self_set {m : List (Ck.Knot × Int)} {j : Nat} {k : Ck.Knot} (h : m[j]? = some (k, mget m k)) : m.set j (k, mget m k) = m := by
  apply List.ext_getElem?
  intro i
  rw [List.getElem?_set]
  split
  · rename_i hi
    subst hi
    rw [if_pos (List.getElem?_eq_some_iff.1 h).1, h]
  · rfl

end Go.Proofs.YtfmfpnnglogkmaaGreatDoor

/- The range over a map from knots to ints that the call has made: what has come of it so far, and its step. -/
namespace Go.Proofs.YtfmfpnnglogkmaaGreatDoor
open Go.RowKit Go.ChangeMaps Go.MapKept

/-- Block r is an iterator over the map in block b, which holds the pairs m; the keys ks have come. -/
def KRange (w : World) (b r : Nat) (m : List (Ck.Knot × Int)) (ks : List Ck.Knot) : Prop :=
  ∃ es clock since seen c0, w.heap[b]? = some (.map es clock) ∧ Ents es m ∧ (m.map (·.1)).Nodup ∧ (es.toList.map (·.born)).Nodup ∧ w.heap[r]? = some (.mapIter (some b) since seen c0) ∧
    (∀ x ∈ es.toList, x.born < since) ∧ since ≤ c0 ∧ since ≤ clock ∧ ks.Nodup ∧ ∀ k, k ∈ ks ↔ ∃ x ∈ es.toList, x.key = kvv k ∧ seen.contains x.born = true
theorem kvv_inj {a b : Ck.Knot} (h : kvv a = kvv b) : a = b := by
  obtain ⟨x, y⟩ := a
  obtain ⟨x', y'⟩ := b
  simpa [kvv] using h
theorem Ents.keys {es : Array MapEntry} {m : List (Ck.Knot × Int)} (h : Ents es m) : es.toList.map (·.key) = m.map fun p => kvv p.1 := by
  have := congrArg (List.map Prod.fst) h
  simpa [List.map_map, Function.comp_def] using this
theorem Ents.mem {es : Array MapEntry} {m : List (Ck.Knot × Int)} (h : Ents es m) {x : MapEntry} (hx : x ∈ es.toList) : ∃ p ∈ m, x.key = kvv p.1 ∧ x.val = .int .i64 p.2 := by
  have : (x.key, x.val) ∈ m.map fun p => (kvv p.1, Value.int .i64 p.2) := h ▸ List.mem_map_of_mem (f := fun e : MapEntry => (e.key, e.val)) hx
  obtain ⟨p, hp, e⟩ := List.mem_map.1 this
  simp only [Prod.mk.injEq] at e
  exact ⟨p, hp, e.1.symm, e.2.symm⟩
theorem Ents.has {es : Array MapEntry} {m : List (Ck.Knot × Int)} (h : Ents es m) (k : Ck.Knot) : k ∈ m.map (·.1) ↔ ∃ x ∈ es.toList, x.key = kvv k := by
  constructor
  · intro hk
    obtain ⟨p, hp, rfl⟩ := List.mem_map.1 hk
    have : kvv p.1 ∈ es.toList.map (·.key) := by rw [h.keys]; exact List.mem_map_of_mem (f := fun p : Ck.Knot × Int => kvv p.1) hp
    obtain ⟨x, hx, e⟩ := List.mem_map.1 this
    exact ⟨x, hx, e⟩
  · rintro ⟨x, hx, e⟩
    obtain ⟨p, hp, e1, _⟩ := h.mem hx
    rw [e] at e1
    rw [kvv_inj e1]
    exact List.mem_map_of_mem hp
theorem Ents.one {es : Array MapEntry} {m : List (Ck.Knot × Int)} (h : Ents es m) (hn : (m.map (·.1)).Nodup) {x y : MapEntry} (hx : x ∈ es.toList) (hy : y ∈ es.toList) (e : x.key = y.key) : x = y := by
  have hk : (es.toList.map (·.key)).Nodup := by
    rw [h.keys, show (m.map fun p => kvv p.1) = (m.map (·.1)).map kvv from by simp [List.map_map, Function.comp_def]]
    exact List.pairwise_map.2 (hn.imp fun {a b} hne e => hne (kvv_inj e))
  exact entry_eq_of_key (List.pairwise_map.1 hk) hx hy e

theorem KRange.owns {w : World} {b r : Nat} {m : List (Ck.Knot × Int)} {ks : List Ck.Knot} (h : KRange w b r m ks) : ∃ es clock since seen c0, w.heap[b]? = some (.map es clock) ∧ w.heap[r]? = some (.mapIter (some b) since seen c0) := by
  obtain ⟨es, clock, since, seen, c0, h1, _, _, _, h2, _⟩ := h
  exact ⟨es, clock, since, seen, c0, h1, h2⟩
theorem KRange.iter_walk {w : World} {b r : Nat} {m : List (Ck.Knot × Int)} {ks : List Ck.Knot} (h : KRange w b r m ks) : ∃ o : Obj, w.heap[r]? = some o ∧ o.isWalk = true := by
  obtain ⟨es, clock, since, seen, c0, _, h2⟩ := h.owns
  exact ⟨_, h2, rfl⟩
theorem KRange.nodup {w : World} {b r : Nat} {m : List (Ck.Knot × Int)} {ks : List Ck.Knot} (h : KRange w b r m ks) : ks.Nodup := by
  obtain ⟨es, clock, since, seen, c0, _, _, _, _, _, _, _, _, h1, _⟩ := h
  exact h1
theorem KRange.sub {w : World} {b r : Nat} {m : List (Ck.Knot × Int)} {ks : List Ck.Knot} (h : KRange w b r m ks) : ∀ k ∈ ks, k ∈ m.map (·.1) := by
  obtain ⟨es, clock, since, seen, c0, _, h2, _, _, _, _, _, _, _, h1⟩ := h
  intro k hk
  obtain ⟨x, hx, e, _⟩ := (h1 k).1 hk
  exact (h2.has k).2 ⟨x, hx, e⟩
theorem KRange.lt_of_new {w : World} {b r : Nat} {m : List (Ck.Knot × Int)} {ks : List Ck.Knot} (h : KRange w b r m ks) {k : Ck.Knot} (hk : k ∈ m.map (·.1)) (hn : k ∉ ks) : ks.length < m.length := by
  have h1 : (k :: ks).Nodup := List.nodup_cons.2 ⟨hn, h.nodup⟩
  have h2 := h1.length_le_of_subset (l₂ := m.map (·.1)) (fun x hx => by
    rcases List.mem_cons.1 hx with rfl | hx
    · exact hk
    · exact h.sub x hx)
  simp only [List.length_cons, List.length_map] at h2; omega
theorem KRange.of_walks {w w' : World} {b r : Nat} {m : List (Ck.Knot × Int)} {ks : List Ck.Knot} (h : KRange w b r m ks) (hk : KeepsWalks w w') : KRange w' b r m ks := by
  obtain ⟨es, clock, since, seen, c0, h1, h2, h3, h4, h5, h6⟩ := h
  exact ⟨es, clock, since, seen, c0, hk.same b _ h1 rfl, h2, h3, h4, hk.same r _ h5 rfl, h6⟩
theorem KRange.left_eq {w w' : World} {b r : Nat} {m : List (Ck.Knot × Int)} {ks : List Ck.Knot} (h : KRange w b r m ks) (hk : KeepsWalks w w') : w'.rangeLeft b r = w.rangeLeft b r := by
  obtain ⟨es, clock, since, seen, c0, h1, h2⟩ := h.owns
  simp only [World.rangeLeft, h1, h2, hk.same b _ h1 rfl, hk.same r _ h2 rfl]

theorem KRange.next {w : World} {b r : Nat} {m : List (Ck.Knot × Int)} {ks : List Ck.Knot} (h : KRange w b r m ks) (ty : TypeId) :
    ((∀ k, k ∈ ks ↔ k ∈ m.map (·.1)) ∧ (Instr.next (.pointer (some ⟨r, 0, none⟩)) false ty).run Tryz.prog w = .ok (.tuple #[.bool false]) w) ∨
    ∃ k v w', (k, v) ∈ m ∧ k ∉ ks ∧ (Instr.next (.pointer (some ⟨r, 0, none⟩)) false ty).run Tryz.prog w = .ok (.tuple #[.bool true, kvv k, .int .i64 v]) w' ∧ KRange w' b r m (ks ++ [k]) ∧ w'.rangeLeft b r < w.rangeLeft b r ∧ w.grownBy w' (some r) ∧ w'.heap.size = w.heap.size ∧
      (Instr.entry (.pointer (some ⟨r, 0, none⟩))).run Tryz.prog w' = .ok (.tuple #[kvv k, .int .i64 v]) w' := by
  obtain ⟨es, clock, since, seen, c0, hb, h2, h3, h4, hr, hold, hsc, hsk, hks, hiff⟩ := h
  have hne : r ≠ b := by rintro rfl; rw [hb] at hr; cases hr
  rcases run_next_at (P := Tryz.prog) w ty r b since c0 seen es clock hr hb hold hsc with ⟨h0, hrun⟩ | ⟨e, he, w1, hal, hrun⟩
  · refine .inl ⟨fun k => ?_, hrun⟩
    rw [hiff, h2.has]
    constructor
    · rintro ⟨x, hx, hk, _⟩; exact ⟨x, hx, hk⟩
    · rintro ⟨x, hx, hk⟩; exact ⟨x, hx, hk, all_seen es seen h0 x hx⟩
  · obtain ⟨hem, hes⟩ := mem_left he
    obtain ⟨p, hp, hkey, hval⟩ := h2.mem hem
    have hr1 : w1.heap[r]? = some (.mapIter (some b) since seen c0) := by rcases hal with rfl | rfl <;> exact hr
    have hb1 : w1.heap[b]? = some (.map es clock) := by rcases hal with rfl | rfl <;> exact hb
    have hset := heap_set (o' := .mapIter (some b) since (seen.push e.born) clock) hr1
    have hb' : (setBlock w1 r (.mapIter (some b) since (seen.push e.born) clock)).heap[b]? = some (.map es clock) := (hset.2 b (fun e1 => hne e1.symm)).trans hb1
    have hnew : p.1 ∉ ks := fun hk => by
      obtain ⟨x, hx, hxk, hxs⟩ := (hiff p.1).1 hk
      rw [h2.one h3 hx hem (hxk.trans hkey.symm), hes] at hxs
      cases hxs
    refine .inr ⟨p.1, p.2, _, hp, hnew, by rw [hrun, hkey, hval], ⟨es, clock, since, seen.push e.born, clock, hb', h2, h3, h4, hset.1, hold, hsk, hsk, ?_, fun k => ?_⟩, ?_, ?_, ?_, ?_⟩
    · exact List.nodup_append.2 ⟨hks, by simp, fun a ha c hc => by
        simp at hc; subst hc; exact fun e => hnew (e ▸ ha)⟩
    · rw [List.mem_append, hiff, List.mem_singleton]
      constructor
      · rintro (⟨x, hx, hk, hs⟩ | rfl)
        · exact ⟨x, hx, hk, by rw [contains_push, hs]; rfl⟩
        · exact ⟨e, hem, hkey, by rw [contains_push]; simp⟩
      · rintro ⟨x, hx, hk, hs⟩
        rw [contains_push] at hs
        cases hc : seen.contains x.born
        · rw [hc, Bool.false_or] at hs
          have hbe : x.born = e.born := by simpa using hs
          refine .inr ?_
          have hxe : x = e := born_inj h4 hx hem hbe
          subst hxe
          exact kvv_inj (hk.symm.trans hkey)
        · exact .inl ⟨x, hx, hk, hc⟩
    · have e1 : World.rangeLeft w b r = (leftOf es seen).size := by simp only [World.rangeLeft, hb, hr]
      have e2 : ∀ W : World, W.heap[b]? = some (.map es clock) → W.heap[r]? = some (.mapIter (some b) since (seen.push e.born) clock) → W.rangeLeft b r = (leftOf es (seen.push e.born)).size := fun W h1 h2 => by simp only [World.rangeLeft, h1, h2]
      rw [e1, e2 _ hb' hset.1]
      exact left_shrinks es seen e he
    · rcases hal with rfl | rfl <;> exact ⟨rfl, rfl, rfl, by simp [setBlock], fun i _ hi => hset.2 i (fun e1 => hi (by rw [e1]))⟩
    · rcases hal with rfl | rfl <;> simp [setBlock]
    · rw [run_entry_at _ r b since seen es clock e hset.1 hb' hem h4, hkey, hval]

def PairOf (m : List (Ck.Knot × Int)) (k : Ck.Knot) (v : Int) : Prop := (k, v) ∈ m
def KeyOf (m : List (Ck.Knot × Int)) (k : Ck.Knot) : Prop := k ∈ m.map (·.1)
section
variable {F : Fence} {n : Nat} (w : World) {ops : Array Oper} {rest : List Oper} {o : Oper} {a : Act} {Q : Exit → Act → World → Prop}
theorem wpListIn_next_knots (hg : o.guard = none) (it : Operand) (hop : o.op = Op.next it false) (b r : Nat) (ps : List (Ck.Knot × Int)) (ks : List Ck.Knot) (hit : a.eval it = .pointer (some ⟨r, 0, none⟩)) (h : KRange w b r ps ks)
    (hDone : (∀ k, k ∈ ks ↔ KeyOf ps k) → wpListIn F n Tryz.prog ops Q rest (a.put o.dst (.tuple #[.bool false])) w)
    (hMore : ∀ (k : Ck.Knot) (v : Int) (w' : World), KeyOf ps k → k ∉ ks → KRange w' b r ps (ks ++ [k]) → w'.rangeLeft b r < w.rangeLeft b r → w.grownBy w' (some r) → w'.heap.size = w.heap.size →
      (Instr.entry (.pointer (some ⟨r, 0, none⟩))).run Tryz.prog w' = .ok (.tuple #[.agg #[.int .i64 k.x, .int .i64 k.y], .int .i64 v]) w' → wpListIn F n Tryz.prog ops Q rest (a.put o.dst (.tuple #[.bool true, .agg #[.int .i64 k.x, .int .i64 k.y], .int .i64 v])) w') :
    wpListIn F n Tryz.prog ops Q (o :: rest) a w := by
  refine wpListIn_plain hg fun K' hK' => ?_
  unfold Oper.wpIn
  refine ⟨by simp [Oper.about, hop], ?_⟩
  rw [Oper.semAt_plain F _ _ (by rw [hop]; intro c hc'; cases hc')]
  rcases h.next o.type with ⟨hl, hrun⟩ | ⟨k, v, w', h1, h2, hrun, h3, h4, h5, h6, h7⟩
  · simp [execOp, hop, hit, hrun, Result.andThen]
    exact hK' _ _ (hDone hl)
  · simp [execOp, hop, hit, hrun, Result.andThen]
    exact hK' _ _ (hMore k v w' (show KeyOf ps k from List.mem_map_of_mem (f := fun p : Ck.Knot × Int => p.1) h1) h2 h3 h4 h5 h6 h7)
theorem wpListIn_next_pairs (hg : o.guard = none) (it : Operand) (hop : o.op = Op.next it false) (b r : Nat) (ps : List (Ck.Knot × Int)) (ks : List Ck.Knot) (hit : a.eval it = .pointer (some ⟨r, 0, none⟩)) (h : KRange w b r ps ks)
    (hDone : (∀ k, k ∈ ks ↔ KeyOf ps k) → wpListIn F n Tryz.prog ops Q rest (a.put o.dst (.tuple #[.bool false])) w)
    (hMore : ∀ (k : Ck.Knot) (v : Int) (w' : World), PairOf ps k v → k ∉ ks → KRange w' b r ps (ks ++ [k]) → w'.rangeLeft b r < w.rangeLeft b r → w.grownBy w' (some r) → w'.heap.size = w.heap.size →
      (Instr.entry (.pointer (some ⟨r, 0, none⟩))).run Tryz.prog w' = .ok (.tuple #[.agg #[.int .i64 k.x, .int .i64 k.y], .int .i64 v]) w' → wpListIn F n Tryz.prog ops Q rest (a.put o.dst (.tuple #[.bool true, .agg #[.int .i64 k.x, .int .i64 k.y], .int .i64 v])) w') :
    wpListIn F n Tryz.prog ops Q (o :: rest) a w := by
  refine wpListIn_plain hg fun K' hK' => ?_
  unfold Oper.wpIn
  refine ⟨by simp [Oper.about, hop], ?_⟩
  rw [Oper.semAt_plain F _ _ (by rw [hop]; intro c hc'; cases hc')]
  rcases h.next o.type with ⟨hl, hrun⟩ | ⟨k, v, w', h1, h2, hrun, h3, h4, h5, h6, h7⟩
  · simp [execOp, hop, hit, hrun, Result.andThen]
    exact hK' _ _ (hDone hl)
  · simp [execOp, hop, hit, hrun, Result.andThen]
    exact hK' _ _ (hMore k v w' h1 h2 h3 h4 h5 h6 h7)
end
end Go.Proofs.YtfmfpnnglogkmaaGreatDoor

/- Contracts of the reference's small functions: ranges, knots, bars, the order of bars. Each for every argument that is an int of the language. -/
namespace Go.Proofs.YtfmfpnnglogkmaaGreatDoor
open Go.RowKit


def farB (n : Int) : Bool := decide (n < -100000 ∨ 100000 < n)
set_option maxHeartbeats 400000 in
theorem refFar (n : Int) (w : World) :
    Calls Tryz.prog 102 #[.int .i64 n] w fun e w' => e = .returned (.bool (farB n)) ∧ w = w' := by
  by_cases h1 : n < -100000
  all_goals
    have hf : farB n = (decide (n < -100000) || decide (100000 < n)) := by simp [farB]
    have HF := Lib.hid hf
    clear hf
    go_enter Tryz.func102, Tryz.ntmps102
    go_wp2
    go_ret
    rw [HF.out]
    simp <;> omega

def evenB (x y : Int) : Bool := decide ((x + y) % 2 = 0)
set_option maxHeartbeats 400000 in
theorem refEven (x y : Int) (w : World) (h1 : -100000 ≤ x) (h2 : x ≤ 100000) (h3 : -100000 ≤ y) (h4 : y ≤ 100000) :
    Calls Tryz.prog 103 #[.int .i64 x, .int .i64 y] w fun e w' => e = .returned (.bool (evenB x y)) ∧ w = w' := by
  have hf : evenB x y = decide ((x + y) % 2 = 0) := rfl
  have HF := Lib.hid hf
  clear hf
  go_enter Tryz.func103, Tryz.ntmps103
  go_wp2
  go_ret
  refine ⟨?_, rfl⟩
  rw [HF.out]
  have h : ((x + y).tmod 2 == 0) = decide ((x + y) % 2 = 0) := by
    rw [Bool.eq_iff_iff]
    simp only [beq_iff_eq, decide_eq_true_eq]
    rw [← Int.dvd_iff_tmod_eq_zero, ← Int.dvd_iff_emod_eq_zero]
  exact congrArg (fun b => Ending.returned (.bool b)) h

def knotE (x y : Int) : Int := if farB x then 3 else if farB y then 3 else if evenB x y then 0 else 14
theorem farB_no {n : Int} (h : farB n = false) : -100000 ≤ n ∧ n ≤ 100000 := by simpa [farB] using h

set_option maxHeartbeats 400000 in
theorem refCheckKnot (x y : Int) (w : World) :
    Calls Tryz.prog 64 #[.agg #[.int .i64 x, .int .i64 y]] w fun e w' => e = .returned (.int .i64 (knotE x y)) ∧ Below w.heap.size w w' := by
  cases hx : farB x
  · cases hy : farB y
    · obtain ⟨h1, h2⟩ := farB_no hx
      obtain ⟨h3, h4⟩ := farB_no hy
      cases he : evenB x y
      all_goals
        have HK := Lib.hid (show knotE x y = _ by simp only [knotE, hx, hy, he]; rfl)
        have HX := Lib.hid hx
        have HY := Lib.hid hy
        have HE := Lib.hid he
        clear hx hy he
        go_enter Tryz.func64, Tryz.ntmps64
        go_wp2_with fail
        refine (refFar x _).mono ?_
        rintro e w' ⟨rfl, rfl⟩
        rw [HX.out]
        go_wp2_with fail
        refine (refFar y _).mono ?_
        rintro e w' ⟨rfl, rfl⟩
        rw [HY.out]
        go_wp2_with fail
        refine (refEven x y _ h1 h2 h3 h4).mono ?_
        rintro e w' ⟨rfl, rfl⟩
        rw [HE.out]
        go_wp2
        go_ret
        exact ⟨ret_i HK.out.symm, (Below.refl _ _).alloc (Nat.le_refl _) _⟩
    · have HK := Lib.hid (show knotE x y = 3 by simp [knotE, hx, hy])
      have HX := Lib.hid hx
      have HY := Lib.hid hy
      clear hx hy
      go_enter Tryz.func64, Tryz.ntmps64
      go_wp2_with fail
      refine (refFar x _).mono ?_
      rintro e w' ⟨rfl, rfl⟩
      rw [HX.out]
      go_wp2_with fail
      refine (refFar y _).mono ?_
      rintro e w' ⟨rfl, rfl⟩
      rw [HY.out]
      go_wp2
      go_ret
      exact ⟨ret_i HK.out.symm, (Below.refl _ _).alloc (Nat.le_refl _) _⟩
  · have HK := Lib.hid (show knotE x y = 3 by simp [knotE, hx])
    have HX := Lib.hid hx
    clear hx
    go_enter Tryz.func64, Tryz.ntmps64
    go_wp2_with fail
    refine (refFar x _).mono ?_
    rintro e w' ⟨rfl, rfl⟩
    rw [HX.out]
    go_wp2
    go_ret
    exact ⟨ret_i HK.out.symm, (Below.refl _ _).alloc (Nat.le_refl _) _⟩
end Go.Proofs.YtfmfpnnglogkmaaGreatDoor

/- Contracts of the reference's functions on bars: the ends, the error of a bar, the order of bars. -/
namespace Go.Proofs.YtfmfpnnglogkmaaGreatDoor
open Go.RowKit

def barE (x y s : Int) : Int := if knotE x y = 0 then (if s = 1 ∨ s = -1 then knotE (x + s) (y + 1) else 13) else knotE x y
theorem knotE_zero {x y : Int} (h : knotE x y = 0) : -100000 ≤ x ∧ x ≤ 100000 ∧ -100000 ≤ y ∧ y ≤ 100000 := by
  unfold knotE at h
  split at h
  · omega
  · rename_i h1
    split at h
    · omega
    · rename_i h2
      have a := farB_no (by simpa using h1)
      have b := farB_no (by simpa using h2)
      omega

end Go.Proofs.YtfmfpnnglogkmaaGreatDoor

/- Contracts of the reference's order of bars and of its check of a net. -/
namespace Go.Proofs.YtfmfpnnglogkmaaGreatDoor
open Go.RowKit

def lessB (x y s x' y' s' : Int) : Bool := if y = y' then (if x = x' then decide (s < s') else decide (x < x')) else decide (y < y')

def netFrom : Option Ck.Bar → List Ck.Bar → Int
  | _, [] => 0
  | none, b :: r => if barE b.x b.y b.s = 0 then netFrom (some b) r else barE b.x b.y b.s
  | some p, b :: r => if barE b.x b.y b.s = 0 then (if lessB p.x p.y p.s b.x b.y b.s then netFrom (some b) r else 11) else barE b.x b.y b.s
def prevAt (l : List Ck.Bar) : Nat → Option Ck.Bar
  | 0 => none
  | k + 1 => l[k]?
def netE (l : List Ck.Bar) : Int := if 4096 < l.length then 5 else netFrom none l

theorem netFrom_bad {l : List Ck.Bar} {k : Nat} (hk : k < l.length) (h : ¬ barE l[k].x l[k].y l[k].s = 0) : netFrom (prevAt l k) (l.drop k) = barE l[k].x l[k].y l[k].s := by
  rw [List.drop_eq_getElem_cons hk]
  cases prevAt l k <;> simp [netFrom, h]
theorem netFrom_step0 {l : List Ck.Bar} (hk : 0 < l.length) (h : barE l[0].x l[0].y l[0].s = 0) : netFrom (prevAt l 0) (l.drop 0) = netFrom (prevAt l 1) (l.drop 1) := by
  rw [List.drop_eq_getElem_cons hk]
  simp [prevAt, netFrom, h, List.getElem?_eq_getElem hk]
theorem netFrom_step {l : List Ck.Bar} {k : Nat} (hk : k + 1 < l.length) (h : barE l[k+1].x l[k+1].y l[k+1].s = 0) (h2 : lessB l[k].x l[k].y l[k].s l[k+1].x l[k+1].y l[k+1].s = true) : netFrom (prevAt l (k + 1)) (l.drop (k + 1)) = netFrom (prevAt l (k + 1 + 1)) (l.drop (k + 1 + 1)) := by
  rw [List.drop_eq_getElem_cons hk]
  simp only [prevAt, List.getElem?_eq_getElem hk, List.getElem?_eq_getElem (Nat.lt_of_succ_lt hk), netFrom, h, h2, if_true]
theorem netFrom_stop {l : List Ck.Bar} {k : Nat} (hk : k + 1 < l.length) (h : barE l[k+1].x l[k+1].y l[k+1].s = 0) (h2 : lessB l[k].x l[k].y l[k].s l[k+1].x l[k+1].y l[k+1].s = false) : netFrom (prevAt l (k + 1)) (l.drop (k + 1)) = 11 := by
  rw [List.drop_eq_getElem_cons hk]
  simp only [prevAt, List.getElem?_eq_getElem (Nat.lt_of_succ_lt hk), netFrom, h, h2, if_true]
  rfl
theorem netFrom_end (l : List Ck.Bar) : netFrom (prevAt l l.length) (l.drop l.length) = 0 := by
  rw [List.drop_length]
  cases prevAt l l.length <;> rfl

end Go.Proofs.YtfmfpnnglogkmaaGreatDoor

/- Contracts of the program's small functions of netting: ranges, the first error, knots, sides, ends. -/
namespace Go.Proofs.YtfmfpnnglogkmaaGreatDoor
open Go.RowKit

set_option maxHeartbeats 400000 in
theorem netCheckRange (n lo hi : Int) (w : World) :
    Calls Tryz.prog 129 #[.int .i64 n, .int .i64 lo, .int .i64 hi] w fun e w' => e = .returned (.int .i64 (if n < lo ∨ hi < n then 3 else 0)) ∧ w = w' := by
  by_cases h1 : n < lo
  · go_enter Tryz.func129, Tryz.ntmps129
    go_wp2
    go_ret
    simp
  · by_cases h2 : hi < n
    all_goals
      go_enter Tryz.func129, Tryz.ntmps129
      go_wp2
      go_ret
      simp <;> omega

def placeE (n : Int) : Int := if farB n then 3 else 0
theorem placeE_eq (n : Int) : (if n < -100000 ∨ 100000 < n then 3 else 0) = placeE n := by simp [placeE, farB]
set_option maxHeartbeats 400000 in
theorem netCheckPlace (n : Int) (w : World) :
    Calls Tryz.prog 117 #[.int .i64 n] w fun e w' => e = .returned (.int .i64 (placeE n)) ∧ w = w' := by
  go_enter Tryz.func117, Tryz.ntmps117
  go_wp2_with fail
  refine (netCheckRange _ _ _ _).mono ?_
  rintro e w' ⟨rfl, rfl⟩
  rw [placeE_eq]
  go_wp2
  go_ret
  exact ⟨rfl, rfl⟩

def sideE (s : Int) : Int := if s = 1 ∨ s = -1 then 0 else 13
def firstE : List Int → Int
  | [] => 0
  | e :: r => if e = 0 then firstE r else e
set_option maxHeartbeats 400000 in
theorem netFirst (b c : Nat) (es : List Int) (w : World) (hn : es.length ≤ 100) (hc : ∀ i (h : i < es.length), w.cell? ⟨b, i, none⟩ = some (.int .i64 es[i])) :
    Calls Tryz.prog 116 #[.slice (some ⟨b, 0, none⟩) es.length c] w fun e w' => e = .returned (.int .i64 (firstE es)) ∧ w = w' := by
  have HC := Lib.hid hc
  have hn' : (es.length : Int) ≤ 100 := by omega
  clear hc
  go_enter Tryz.func116, Tryz.ntmps116
  go_wp2_with fail
  go_loop [4, 7] (fun _ i => ∃ k : Nat, k ≤ es.length ∧ i = .int .i64 k ∧ firstE es = firstE (es.drop k)) (fun _ i => es.length - (intOf i).toNat)
  case atStart => exact ⟨0, Nat.zero_le _, rfl, rfl⟩
  case round =>
    obtain ⟨k, hk, rfl, he⟩ := hrel
    have HE := Lib.hid he
    clear he
    by_cases hlt : k < es.length
    · have hcell := HC.out k hlt
      by_cases hz : es[k] = 0
      · have HF := Lib.hid (show firstE (es.drop k) = firstE (es.drop (k + 1)) by
          rw [List.drop_eq_getElem_cons hlt]
          simp only [firstE, hz, if_true])
        rw [hz] at hcell
        clear hz
        go_wp2
        go_round
        case rel => exact ⟨k + 1, by omega, by go_num, HE.out.trans HF.out⟩
        case measure => simp [intOf]; omega
      · have HF := Lib.hid (show firstE (es.drop k) = es[k] by
          rw [List.drop_eq_getElem_cons hlt]
          simp only [firstE, if_neg hz])
        have hz1 : (es[k] != 0) = true := by rw [bne_iff_ne]; exact hz
        clear hz
        go_wp2
        go_ret
        exact ⟨ret_i (HE.out.trans HF.out).symm, rfl⟩
    · obtain rfl : k = es.length := by omega
      have HF := Lib.hid (show firstE (es.drop es.length) = 0 by rw [List.drop_length]; rfl)
      go_wp2
      go_ret
      exact ⟨ret_i (HE.out.trans HF.out).symm, rfl⟩

end Go.Proofs.YtfmfpnnglogkmaaGreatDoor

/- Contracts of the program's CheckKnot and CheckBar. -/
namespace Go.Proofs.YtfmfpnnglogkmaaGreatDoor
open Go.RowKit

theorem tmod2 (n : Int) : (n.tmod 2 != 0) = !decide (n % 2 = 0) := by
  rw [Bool.eq_iff_iff]
  simp only [bne_iff_ne, ne_eq, Bool.not_eq_true', decide_eq_false_iff_not]
  rw [← Int.dvd_iff_tmod_eq_zero, ← Int.dvd_iff_emod_eq_zero]
theorem firstE_one {a : Int} (h : ¬ a = 0) (b : Int) : firstE [a, b] = a := by simp [firstE, h]
theorem firstE_two (b : Int) : firstE [0, b] = b := by unfold firstE firstE firstE; split <;> simp_all
theorem two_cells {w : World} {g : Nat} {a b : Int} {t : TypeId} (h : w.heap[g]? = some (.cells #[.int .i64 a, .int .i64 b] t (0, 0))) : ∀ i (hi : i < [a, b].length), w.cell? ⟨g, i, none⟩ = some (.int .i64 [a, b][i]) := by
  intro i hi
  have hi' : i = 0 ∨ i = 1 := by simp at hi; omega
  rcases hi' with rfl | rfl <;> simp [World.cell?, h]

theorem netFirst2 (g c : Nat) (a b : Int) (t : TypeId) (w : World) (h : w.heap[g]? = some (.cells #[.int .i64 a, .int .i64 b] t (0, 0))) :
    Calls Tryz.prog 116 #[.slice (some ⟨g, 0, none⟩) 2 c] w fun e w' => e = .returned (.int .i64 (firstE [a, b])) ∧ w = w' :=
  netFirst g c [a, b] w (by simp) (two_cells h)
def sumE (x y : Int) : Int := firstE [placeE x, placeE y]
theorem sumE_bad {x y : Int} (h : ¬ (farB x = false ∧ farB y = false)) : sumE x y = 3 ∧ knotE x y = 3 := by
  cases hx : farB x <;> cases hy : farB y <;> simp_all [sumE, knotE, placeE, firstE]
theorem sumE_ok {x y : Int} (hx : farB x = false) (hy : farB y = false) : sumE x y = 0 := by simp [sumE, placeE, firstE, hx, hy]

set_option maxHeartbeats 1000000 in
set_option maxRecDepth 100000 in
theorem netCheckKnot (x y : Int) (w : World) :
    Calls Tryz.prog 98 #[.agg #[.int .i64 x, .int .i64 y]] w fun e w' => e = .returned (.int .i64 (knotE x y)) ∧ Below w.heap.size w w' := by
  by_cases hg : farB x = false ∧ farB y = false
  · obtain ⟨hx, hy⟩ := hg
    obtain ⟨h1, h2⟩ := farB_no hx
    obtain ⟨h3, h4⟩ := farB_no hy
    have HS := Lib.hid (sumE_ok hx hy)
    cases he : evenB x y
    all_goals
      have ht := tmod2 (x + y)
      have he' : decide ((x + y) % 2 = 0) = _ := he
      rw [he'] at ht
      have HK := Lib.hid (show knotE x y = _ by simp only [knotE, hx, hy, he]; rfl)
      clear hx hy he he'
      go_enter Tryz.func98, Tryz.ntmps98
      go_wp2_with fail
      obtain ⟨w1, hw1, c0, c1, hb1, hz1⟩ := box2 w (.int .i64 x) (.int .i64 y) 43
      rw [← hw1]
      clear hw1
      refine wp_region_still_tail 6 (by kernel_rfl) (by kernel_rfl) ?_
      simp only [List.take_succ_cons, List.take_zero, List.drop_succ_cons, List.drop_zero]
      still_step
      still_step
      still_call (Calls.mono (netCheckPlace _ _) fun _ _ h => ⟨h.1, h.2.symm⟩)
      still_step
      still_step
      still_call (Calls.mono (netCheckPlace _ _) fun _ _ h => ⟨h.1, h.2.symm⟩)
      refine wpStill_nil ?_
      change wpList _ _ _ _ _ w1.drew
      go_wp2_with fail
      refine (netFirst2 _ _ (placeE x) (placeE y) 30 _ (by exact heap_alloc_new _ _)).mono ?_
      rintro e w2 ⟨rfl, rfl⟩
      rw [show firstE [placeE x, placeE y] = 0 from HS.out]
      go_wp2
      go_ret
      exact ⟨ret_i HK.out.symm, (below_drew hb1).alloc (by show _ ≤ w1.heap.size; omega) _⟩
  · obtain ⟨hs, hk⟩ := sumE_bad hg
    have HS := Lib.hid hs
    have HK := Lib.hid hk
    clear hs hk hg
    go_enter Tryz.func98, Tryz.ntmps98
    go_wp2_with fail
    obtain ⟨w1, hw1, c0, c1, hb1, hz1⟩ := box2 w (.int .i64 x) (.int .i64 y) 43
    rw [← hw1]
    clear hw1
    refine wp_region_still_tail 6 (by kernel_rfl) (by kernel_rfl) ?_
    simp only [List.take_succ_cons, List.take_zero, List.drop_succ_cons, List.drop_zero]
    still_step
    still_step
    still_call (Calls.mono (netCheckPlace _ _) fun _ _ h => ⟨h.1, h.2.symm⟩)
    still_step
    still_step
    still_call (Calls.mono (netCheckPlace _ _) fun _ _ h => ⟨h.1, h.2.symm⟩)
    refine wpStill_nil ?_
    change wpList _ _ _ _ _ w1.drew
    go_wp2_with fail
    refine (netFirst2 _ _ (placeE x) (placeE y) 30 _ (by exact heap_alloc_new _ _)).mono ?_
    rintro e w2 ⟨rfl, rfl⟩
    rw [show firstE [placeE x, placeE y] = 3 from HS.out]
    go_wp2
    go_ret
    exact ⟨ret_i HK.out.symm, (below_drew hb1).alloc (by show _ ≤ w1.heap.size; omega) _⟩
end Go.Proofs.YtfmfpnnglogkmaaGreatDoor

/- The contract of the program's CheckBar. -/
namespace Go.Proofs.YtfmfpnnglogkmaaGreatDoor
open Go.RowKit

theorem keep3 {W w1 w2 : World} {g : Nat} {x y s : Value} (h : w1.cell? ⟨g, 0, none⟩ = some x ∧ w1.cell? ⟨g, 1, none⟩ = some y ∧ w1.cell? ⟨g, 2, none⟩ = some s ∧ Below g W w1 ∧ g < w1.heap.size) (hb : Below w1.heap.size w1 w2) :
    w2.cell? ⟨g, 0, none⟩ = some x ∧ w2.cell? ⟨g, 1, none⟩ = some y ∧ w2.cell? ⟨g, 2, none⟩ = some s ∧ Below g W w2 ∧ g < w2.heap.size := by
  obtain ⟨h0, h1, h2, h3, h4⟩ := h
  exact ⟨(hb.cell (p := ⟨g, 0, none⟩) h4).trans h0, (hb.cell (p := ⟨g, 1, none⟩) h4).trans h1, (hb.cell (p := ⟨g, 2, none⟩) h4).trans h2, h3.trans (hb.mono (by omega)), by have := hb.size; omega⟩

theorem knotX (u v : Value) (w : World) : (Instr.field 43 (.agg #[u, v]) 0).run Tryz.prog w = .ok u w := by kernel_rfl
theorem knotY (u v : Value) (w : World) : (Instr.field 43 (.agg #[u, v]) 1).run Tryz.prog w = .ok v w := by kernel_rfl

theorem barE_ok {x y s : Int} (hk : knotE x y = 0) (hs : s = 1 ∨ s = -1) : firstE [placeE (x + s), placeE (y + 1)] = barE x y s := by
  have hp : (x + y) % 2 = 0 := by
    unfold knotE at hk
    split at hk
    · omega
    · split at hk
      · omega
      · split at hk
        · rename_i h; simpa [evenB] using h
        · omega
  have he : evenB (x + s) (y + 1) = true := by simp only [evenB, decide_eq_true_eq]; omega
  simp only [barE, if_true, if_pos hs, knotE, he]
  have hk' := hk
  simp only [knotE] at hk'
  simp only [hk', ite_true]
  unfold placeE firstE firstE
  cases farB (x + s) <;> cases farB (y + 1) <;> simp [firstE]

end Go.Proofs.YtfmfpnnglogkmaaGreatDoor

/- Contracts of the order of bars in the program: cmp.Compare, cmp.Or, compareBars, checkOrder. -/
namespace Go.Proofs.YtfmfpnnglogkmaaGreatDoor
open Go.RowKit

def cmpE (a b : Int) : Int := if a < b then -1 else if b < a then 1 else 0

set_option maxHeartbeats 400000 in
theorem cmpIsNaN (a : Int) (w : World) :
    Calls Tryz.prog 96 #[.int .i64 a] w fun e w' => e = .returned (.bool false) ∧ w = w' := by
  go_enter Tryz.func96, Tryz.ntmps96
  go_wp2
  go_ret
  simp

set_option maxHeartbeats 400000 in
theorem cmpCompare (a b : Int) (w : World) :
    Calls Tryz.prog 52 #[.int .i64 a, .int .i64 b] w fun e w' => e = .returned (.int .i64 (cmpE a b)) ∧ w = w' := by
  by_cases h1 : a < b
  · have HC := Lib.hid (show cmpE a b = -1 by simp [cmpE, h1])
    go_enter Tryz.func52, Tryz.ntmps52
    go_wp2_with (go_at_call 96; refine (cmpIsNaN _ _).mono ?_; rintro e w' ⟨rfl, rfl⟩)
    go_ret
    exact ⟨ret_i HC.out.symm, rfl⟩
  · by_cases h2 : b < a
    · have HC := Lib.hid (show cmpE a b = 1 by simp [cmpE, h1, h2])
      go_enter Tryz.func52, Tryz.ntmps52
      go_wp2_with (go_at_call 96; refine (cmpIsNaN _ _).mono ?_; rintro e w' ⟨rfl, rfl⟩)
      go_ret
      exact ⟨ret_i HC.out.symm, rfl⟩
    · have HC := Lib.hid (show cmpE a b = 0 by simp [cmpE, h1, h2])
      go_enter Tryz.func52, Tryz.ntmps52
      go_wp2_with (go_at_call 96; refine (cmpIsNaN _ _).mono ?_; rintro e w' ⟨rfl, rfl⟩)
      go_ret
      exact ⟨ret_i HC.out.symm, rfl⟩

set_option maxHeartbeats 400000 in
theorem cmpOr (b c : Nat) (es : List Int) (w : World) (hn : es.length ≤ 100) (hc : ∀ i (h : i < es.length), w.cell? ⟨b, i, none⟩ = some (.int .i64 es[i])) :
    Calls Tryz.prog 50 #[.slice (some ⟨b, 0, none⟩) es.length c] w fun e w' => e = .returned (.int .i64 (firstE es)) ∧ w = w' := by
  have HC := Lib.hid hc
  have hn' : (es.length : Int) ≤ 100 := by omega
  clear hc
  go_enter Tryz.func50, Tryz.ntmps50
  go_wp2_with fail
  go_loop [5, 8] (fun _ i => ∃ k : Nat, k ≤ es.length ∧ i = .int .i64 k ∧ firstE es = firstE (es.drop k)) (fun _ i => es.length - (intOf i).toNat)
  case atStart => exact ⟨0, Nat.zero_le _, rfl, rfl⟩
  case round =>
    obtain ⟨k, hk, rfl, he⟩ := hrel
    have HE := Lib.hid he
    clear he
    by_cases hlt : k < es.length
    · have hcell := HC.out k hlt
      by_cases hz : es[k] = 0
      · have HF := Lib.hid (show firstE (es.drop k) = firstE (es.drop (k + 1)) by
          rw [List.drop_eq_getElem_cons hlt]
          simp only [firstE, hz, if_true])
        rw [hz] at hcell
        clear hz
        go_wp2
        go_round
        case rel => exact ⟨k + 1, by omega, by go_num, HE.out.trans HF.out⟩
        case measure => simp [intOf]; omega
      · have HF := Lib.hid (show firstE (es.drop k) = es[k] by
          rw [List.drop_eq_getElem_cons hlt]
          simp only [firstE, if_neg hz])
        have hz1 : (es[k] != 0) = true := by rw [bne_iff_ne]; exact hz
        clear hz
        go_wp2
        go_ret
        exact ⟨ret_i (HE.out.trans HF.out).symm, rfl⟩
    · obtain rfl : k = es.length := by omega
      have HF := Lib.hid (show firstE (es.drop es.length) = 0 by rw [List.drop_length]; rfl)
      go_wp2
      go_ret
      exact ⟨ret_i (HE.out.trans HF.out).symm, rfl⟩
theorem three_cells {w : World} {g : Nat} {a b c : Int} {t : TypeId} (h : w.heap[g]? = some (.cells #[.int .i64 a, .int .i64 b, .int .i64 c] t (0, 0))) : ∀ i (hi : i < [a, b, c].length), w.cell? ⟨g, i, none⟩ = some (.int .i64 [a, b, c][i]) := by
  intro i hi
  have hi' : i = 0 ∨ i = 1 ∨ i = 2 := by simp at hi; omega
  rcases hi' with rfl | rfl | rfl <;> simp [World.cell?, h]
theorem cmpOr3 (g c : Nat) (x y z : Int) (t : TypeId) (w : World) (h : w.heap[g]? = some (.cells #[.int .i64 x, .int .i64 y, .int .i64 z] t (0, 0))) :
    Calls Tryz.prog 50 #[.slice (some ⟨g, 0, none⟩) 3 c] w fun e w' => e = .returned (.int .i64 (firstE [x, y, z])) ∧ w = w' :=
  cmpOr g c [x, y, z] w (by simp) (three_cells h)
theorem cmpOr2 (g c : Nat) (x y : Int) (t : TypeId) (w : World) (h : w.heap[g]? = some (.cells #[.int .i64 x, .int .i64 y] t (0, 0))) :
    Calls Tryz.prog 50 #[.slice (some ⟨g, 0, none⟩) 2 c] w fun e w' => e = .returned (.int .i64 (firstE [x, y])) ∧ w = w' :=
  cmpOr g c [x, y] w (by simp) (two_cells h)

def cmpB (a b : Ck.Bar) : Int := firstE [cmpE a.y b.y, cmpE a.x b.x, cmpE a.s b.s]
end Go.Proofs.YtfmfpnnglogkmaaGreatDoor

/- Contracts of checkOrder and CheckNet of the program. -/
namespace Go.Proofs.YtfmfpnnglogkmaaGreatDoor
open Go.RowKit

theorem cmpB_less (p b : Ck.Bar) : decide (0 ≤ cmpB p b) = !lessB p.x p.y p.s b.x b.y b.s := by
  obtain ⟨x, y, s⟩ := p
  obtain ⟨x', y', s'⟩ := b
  rcases Int.lt_trichotomy y y' with h | rfl | h
  · have h2 : ¬ y = y' := by omega
    simp [cmpB, lessB, cmpE, firstE, h, h2]
  · rcases Int.lt_trichotomy x x' with h | rfl | h
    · have h2 : ¬ x = x' := by omega
      simp [cmpB, lessB, cmpE, firstE, h, h2]
    · rcases Int.lt_trichotomy s s' with h | rfl | h
      · simp [cmpB, lessB, cmpE, firstE, h]
      · simp [cmpB, lessB, cmpE, firstE]
      · have h3 : ¬ s < s' := by omega
        simp [cmpB, lessB, cmpE, firstE, h, h3]
    · have h2 : ¬ x = x' := by omega
      have h3 : ¬ x < x' := by omega
      simp [cmpB, lessB, cmpE, firstE, h, h2, h3]
  · have h2 : ¬ y = y' := by omega
    have h3 : ¬ y < y' := by omega
    simp [cmpB, lessB, cmpE, firstE, h, h2, h3]

def orderE (p b : Ck.Bar) : Int := if lessB p.x p.y p.s b.x b.y b.s then 0 else 11

end Go.Proofs.YtfmfpnnglogkmaaGreatDoor

/- The contract of CheckNet of the program: it returns the error that the reference returns. -/
namespace Go.Proofs.YtfmfpnnglogkmaaGreatDoor
open Go.RowKit

theorem keep6 {W w1 w2 : World} {g b o : Nat} {x y s p q r : Value} (h : w1.cell? ⟨g, 0, none⟩ = some x ∧ w1.cell? ⟨g, 1, none⟩ = some y ∧ w1.cell? ⟨g, 2, none⟩ = some s ∧
      w1.cell? ⟨b, o, none⟩ = some p ∧ w1.cell? ⟨b, o + 1, none⟩ = some q ∧ w1.cell? ⟨b, o + 2, none⟩ = some r ∧ Below g W w1 ∧ b < g ∧ g < w1.heap.size) (hb : Below w1.heap.size w1 w2) :
    w2.cell? ⟨g, 0, none⟩ = some x ∧ w2.cell? ⟨g, 1, none⟩ = some y ∧ w2.cell? ⟨g, 2, none⟩ = some s ∧
      w2.cell? ⟨b, o, none⟩ = some p ∧ w2.cell? ⟨b, o + 1, none⟩ = some q ∧ w2.cell? ⟨b, o + 2, none⟩ = some r ∧ Below g W w2 ∧ b < g ∧ g < w2.heap.size := by
  obtain ⟨h0, h1, h2, k0, k1, k2, h3, h5, h4⟩ := h
  exact ⟨(hb.cell (p := ⟨g, 0, none⟩) h4).trans h0, (hb.cell (p := ⟨g, 1, none⟩) h4).trans h1, (hb.cell (p := ⟨g, 2, none⟩) h4).trans h2,
    (hb.cell (p := ⟨b, _, none⟩) (by show b < _; omega)).trans k0, (hb.cell (p := ⟨b, _, none⟩) (by show b < _; omega)).trans k1, (hb.cell (p := ⟨b, _, none⟩) (by show b < _; omega)).trans k2, h3.trans (hb.mono (by omega)), h5, by have := hb.size; omega⟩

theorem belowOf3 {W w1 : World} {g : Nat} {x y s : Value} (h : w1.cell? ⟨g, 0, none⟩ = some x ∧ w1.cell? ⟨g, 1, none⟩ = some y ∧ w1.cell? ⟨g, 2, none⟩ = some s ∧ Below g W w1 ∧ g < w1.heap.size) : Below g W w1 := h.2.2.2.1
theorem belowOf6 {W w1 : World} {g b o : Nat} {x y s p q r : Value} (h : w1.cell? ⟨g, 0, none⟩ = some x ∧ w1.cell? ⟨g, 1, none⟩ = some y ∧ w1.cell? ⟨g, 2, none⟩ = some s ∧
      w1.cell? ⟨b, o, none⟩ = some p ∧ w1.cell? ⟨b, o + 1, none⟩ = some q ∧ w1.cell? ⟨b, o + 2, none⟩ = some r ∧ Below g W w1 ∧ b < g ∧ g < w1.heap.size) : Below g W w1 := h.2.2.2.2.2.2.1
theorem stepE_bad {e o : Int} (h : ¬ e = 0) : firstE [e, o] = e := by simp [firstE, h]

end Go.Proofs.YtfmfpnnglogkmaaGreatDoor

/- Contracts of slices.BinarySearchFunc over bars in their order, and of hasBar. -/
namespace Go.Proofs.YtfmfpnnglogkmaaGreatDoor
open Go.RowKit

theorem cmpB_neg (p b : Ck.Bar) : decide (cmpB p b < 0) = lessB p.x p.y p.s b.x b.y b.s := by
  have h := cmpB_less p b
  cases hl : lessB p.x p.y p.s b.x b.y b.s
  · rw [hl] at h; simp at h ⊢; omega
  · rw [hl] at h; simp at h ⊢; omega
theorem lessB_iff (p b : Ck.Bar) : lessB p.x p.y p.s b.x b.y b.s = true ↔ Ck.Blt p b := by
  unfold lessB Ck.Blt
  split
  · split <;> simp <;> omega
  · simp; omega
theorem cmpE_zero (a b : Int) : cmpE a b = 0 ↔ a = b := by
  unfold cmpE
  split
  · omega
  · split <;> omega
theorem firstE_zero : ∀ es : List Int, firstE es = 0 ↔ ∀ e ∈ es, e = 0
  | [] => by simp [firstE]
  | e :: r => by
    unfold firstE
    split
    · rename_i h; simp [h, firstE_zero r]
    · rename_i h; simp [h]
theorem cmpB_zero (p b : Ck.Bar) : cmpB p b = 0 ↔ p = b := by
  rw [cmpB, firstE_zero]
  simp only [List.mem_cons, List.not_mem_nil, or_false, forall_eq_or_imp, forall_eq, cmpE_zero]
  constructor
  · rintro ⟨h1, h2, h3⟩; exact Ck.Bar.ext' h2 h1 h3
  · rintro rfl; exact ⟨rfl, rfl, rfl⟩
theorem cmpB_mono {l : List Ck.Bar} (hs : l.Pairwise Ck.Blt) {t : Ck.Bar} {i j : Nat} (hi : i < l.length) (hj : j < l.length) (hij : i ≤ j) (h : cmpB l[j] t < 0) : cmpB l[i] t < 0 := by
  rcases Nat.lt_or_ge i j with hlt | hge
  · have h1 := (List.pairwise_iff_getElem.1 hs) i j hi hj hlt
    have h2 : lessB l[j].x l[j].y l[j].s t.x t.y t.s = true := by rw [← cmpB_neg]; simpa using h
    have h3 := (lessB_iff _ _).2 (h1.trans ((lessB_iff _ _).1 h2))
    rw [← cmpB_neg] at h3
    simpa using h3
  · obtain rfl : i = j := by omega
    exact h
theorem found_mem {l : List Ck.Bar} {t : Ck.Bar} {p : Nat} (h1 : ∀ k (hk : k < l.length), k < p → cmpB l[k] t < 0) (h2 : ∀ k (hk : k < l.length), p ≤ k → 0 ≤ cmpB l[k] t) (hs : l.Pairwise Ck.Blt) (hp : p < l.length) : decide (t ∈ l) = decide (cmpB l[p] t = 0) := by
  rw [decide_eq_decide]
  constructor
  · intro hm
    obtain ⟨k, hk, rfl⟩ := List.getElem_of_mem hm
    have hk0 : cmpB l[k] l[k] = 0 := (cmpB_zero _ _).2 rfl
    rcases Nat.lt_trichotomy k p with hlt | rfl | hgt
    · have := h1 k hk hlt; omega
    · exact hk0
    · have h3 := (List.pairwise_iff_getElem.1 hs) p k hp hk hgt
      have h4 := (lessB_iff _ _).2 h3
      rw [← cmpB_neg] at h4
      have := h2 p hp (Nat.le_refl _)
      simp at h4
      omega
  · intro h
    rw [← (cmpB_zero _ _).1 h]
    exact List.getElem_mem hp
theorem end_mem {l : List Ck.Bar} {t : Ck.Bar} (h1 : ∀ k (hk : k < l.length), k < l.length → cmpB l[k] t < 0) : decide (t ∈ l) = false := by
  rw [decide_eq_false_iff_not]
  intro hm
  obtain ⟨k, hk, rfl⟩ := List.getElem_of_mem hm
  have := h1 k hk hk
  have hk0 : cmpB l[k] l[k] = 0 := (cmpB_zero _ _).2 rfl
  omega

def BSPost (t : Ck.Bar) (l : List Ck.Bar) (w : World) (e : Ending) (w' : World) : Prop := ∃ i : Nat, e = .returned (.tuple #[.int .i64 i, .bool (decide (t ∈ l))]) ∧ Below w.heap.size w w'
end Go.Proofs.YtfmfpnnglogkmaaGreatDoor

/- Contracts of hasBar, meshBars, hasMesh. -/
namespace Go.Proofs.YtfmfpnnglogkmaaGreatDoor
open Go.RowKit

def meshBars4 (x y : Int) : List Ck.Bar := [⟨x, y - 1, -1⟩, ⟨x, y - 1, 1⟩, ⟨x - 1, y, 1⟩, ⟨x + 1, y, -1⟩]
end Go.Proofs.YtfmfpnnglogkmaaGreatDoor

/- The contract of hasMesh. -/
namespace Go.Proofs.YtfmfpnnglogkmaaGreatDoor
open Go.RowKit

def allIn (l : List Ck.Bar) (bs : List Ck.Bar) : Bool := bs.all fun b => decide (b ∈ l)
theorem allIn_no {l bs : List Ck.Bar} {b : Ck.Bar} (hb : b ∈ bs) (h : decide (b ∈ l) = false) : allIn l bs = false := by
  rw [allIn, List.all_eq_false]
  exact ⟨b, hb, by simpa using h⟩

end Go.Proofs.YtfmfpnnglogkmaaGreatDoor

/- The contract of meshesOf. -/
namespace Go.Proofs.YtfmfpnnglogkmaaGreatDoor
open Go.RowKit

def isM (l : List Ck.Bar) (b : Ck.Bar) : Bool := decide (b.s = -1) && allIn l (meshBars4 b.x (b.y + 1))
def meshL (l : List Ck.Bar) (r : List Ck.Bar) : List Ck.Bar := r.filter (isM l)
def meshCells (ms : List Ck.Bar) : List Value := ms.flatMap fun b => [.int .i64 b.x, .int .i64 (b.y + 1)]
theorem meshL_no {l : List Ck.Bar} {k : Nat} (hk : k < l.length) (h : isM l l[k] = false) : meshL l (l.take (k + 1)) = meshL l (l.take k) := by
  rw [List.take_succ_eq_append_getElem hk, meshL, List.filter_append, meshL]
  simp [h]
theorem meshL_yes {l : List Ck.Bar} {k : Nat} (hk : k < l.length) (h : isM l l[k] = true) : meshL l (l.take (k + 1)) = meshL l (l.take k) ++ [l[k]] := by
  rw [List.take_succ_eq_append_getElem hk, meshL, List.filter_append, meshL]
  simp [h]
theorem meshL_le (l : List Ck.Bar) (k : Nat) : (meshL l (l.take k)).length ≤ l.length := by
  have h1 := List.length_filter_le (isM l) (l.take k)
  have h2 := List.length_take_le' k l
  unfold meshL
  omega

theorem ownsRow_below {w w' : World} {base : Nat} {e : TypeId} {size n : Nat} {v : Value} {xs : List Value} (h : w.ownsRow base e size v n xs) (hb : Below w.heap.size w w') : w'.ownsRow base e size v n xs :=
  h.kept (row := none) ⟨hb.os, hb.tape, hb.output, hb.size, fun i hi _ => hb.block i hi⟩ (by cases v.ownBlock <;> simp)

theorem ownsRow_base {w : World} {base : Nat} {e : TypeId} {size n : Nat} {v : Value} {xs : List Value} (h : w.ownsRow base e size v n xs) : ∀ g, v.ownBlock = some g → base ≤ g := by
  intro g hg
  rcases h.2 with ⟨rfl, _⟩ | ⟨g', cap, cur, rfl, hb, _⟩
  · cases hg
  · cases hg; exact hb
theorem two_new (w : World) (a b : Value) (t : TypeId) : ∀ (j : Nat) (u : Value), [a, b][j]? = some u → (w.alloc (.cells #[a, b] t)).cell? ((⟨w.heap.size, 0, none⟩ : Addr).add j) = some u := by
  intro j u h
  match j, h with
  | 0, h => cases h; exact (box2 w a b t).choose_spec.1 ▸ (box2 w a b t).choose_spec.2.1
  | 1, h => cases h; exact (box2 w a b t).choose_spec.1 ▸ (box2 w a b t).choose_spec.2.2.1
theorem meshCells_snoc (ms : List Ck.Bar) (b : Ck.Bar) : meshCells (ms ++ [b]) = meshCells ms ++ [.int .i64 b.x, .int .i64 (b.y + 1)] := by simp [meshCells]

end Go.Proofs.YtfmfpnnglogkmaaGreatDoor

/- Contracts of endsOf and degrees. -/
namespace Go.Proofs.YtfmfpnnglogkmaaGreatDoor
open Go.RowKit

theorem box34 (w : World) (a b c d e f g : Value) (t t' : TypeId) : ∃ w1, w1 = (w.alloc (.cells #[a, b, c] t)).alloc (.cells #[d, e, f, g] t') ∧ w1.cell? ⟨w.heap.size, 0, none⟩ = some a ∧ w1.cell? ⟨w.heap.size, 1, none⟩ = some b ∧ w1.cell? ⟨w.heap.size, 2, none⟩ = some c ∧
    w1.heap[w.heap.size + 1]? = some (.cells #[d, e, f, g] t' (0, 0)) ∧ Below w.heap.size w w1 ∧ w.heap.size + 1 < w1.heap.size := by
  obtain ⟨w0, rfl, h0, h1, h2, hb0, hz⟩ := box3 w a b c t
  have hs : (w.alloc (.cells #[a, b, c] t)).heap.size = w.heap.size + 1 := by simp
  have hb : Below (w.alloc (.cells #[a, b, c] t)).heap.size (w.alloc (.cells #[a, b, c] t)) ((w.alloc (.cells #[a, b, c] t)).alloc (.cells #[d, e, f, g] t')) := (Below.refl _ _).alloc (Nat.le_refl _) _
  exact ⟨_, rfl, (hb.cell (p := ⟨_, _, none⟩) hz).trans h0, (hb.cell (p := ⟨_, _, none⟩) hz).trans h1, (hb.cell (p := ⟨_, _, none⟩) hz).trans h2, by rw [← hs]; exact heap_alloc_new _ _, hb0.trans (hb.mono (by omega)), by simp⟩
theorem four_cells {w : World} {g : Nat} {a b c d : Value} {t : TypeId} (h : w.heap[g]? = some (.cells #[a, b, c, d] t (0, 0))) : w.cell? ⟨g, 0, none⟩ = some a ∧ w.cell? ⟨g, 1, none⟩ = some b ∧ w.cell? ⟨g, 2, none⟩ = some c ∧ w.cell? ⟨g, 3, none⟩ = some d ∧ ∀ i, w.frozen? ⟨g, i, none⟩ = false := by
  refine ⟨?_, ?_, ?_, ?_, fun i => ?_⟩ <;> simp [World.cell?, World.frozen?, h]

theorem carry34 {w0 w1 : World} {g : Nat} {a b c d e f h : Value} {t : TypeId} (hb : Below w0.heap.size w0 w1) (hz : g + 1 < w0.heap.size) (c0 : w0.cell? ⟨g, 0, none⟩ = some a) (c1 : w0.cell? ⟨g, 1, none⟩ = some b) (c2 : w0.cell? ⟨g, 2, none⟩ = some c)
    (hr : w0.heap[g + 1]? = some (.cells #[d, e, f, h] t (0, 0))) :
    w1.cell? ⟨g, 0, none⟩ = some a ∧ w1.cell? ⟨g, 1, none⟩ = some b ∧ w1.cell? ⟨g, 2, none⟩ = some c ∧ w1.heap[g + 1]? = some (.cells #[d, e, f, h] t (0, 0)) ∧ g + 1 < w1.heap.size :=
  ⟨(hb.cell (p := ⟨g, _, none⟩) (by show g < _; omega)).trans c0, (hb.cell (p := ⟨g, _, none⟩) (by show g < _; omega)).trans c1, (hb.cell (p := ⟨g, _, none⟩) (by show g < _; omega)).trans c2, (hb.block _ hz).trans hr, Nat.lt_of_lt_of_le hz hb.size⟩

end Go.Proofs.YtfmfpnnglogkmaaGreatDoor

/- The contract of degrees: a new map from the knots of a net to how many bars end there. -/
namespace Go.Proofs.YtfmfpnnglogkmaaGreatDoor
open Go.RowKit

def incr (m : List (Ck.Knot × Int)) (k : Ck.Knot) : List (Ck.Knot × Int) := mput m k (mget m k + 1)
def degsL (ks : List Ck.Knot) : List (Ck.Knot × Int) := ks.foldl incr []
theorem mget_mput (m : List (Ck.Knot × Int)) (k k' : Ck.Knot) (v : Int) : mget (mput m k v) k' = if k' = k then v else mget m k' := by
  induction m with
  | nil => simp [mput, mget]
  | cons p r ih =>
    by_cases h : k = p.1
    · simp only [mput, if_pos h, mget]
      by_cases h2 : k' = k
      · simp [h2]
      · simp [h2, h ▸ h2]
    · simp only [mput, if_neg h, mget, ih]
      by_cases h2 : k' = p.1
      · have : ¬ k' = k := fun e => h (e ▸ h2)
        simp [h2]
        intro e
        exact absurd e.symm h
      · simp [h2]
theorem mget_bound (ks : List Ck.Knot) : ∀ (m : List (Ck.Knot × Int)) (c : Int), (∀ k, 0 ≤ mget m k ∧ mget m k ≤ c) → ∀ k, 0 ≤ mget (ks.foldl incr m) k ∧ mget (ks.foldl incr m) k ≤ c + ks.length := by
  induction ks with
  | nil => intro m c h k; simpa using h k
  | cons a r ih =>
    intro m c h k
    have := ih (incr m a) (c + 1) (fun k' => by
      rw [incr, mget_mput]
      have h1 := h k'
      have h2 := h a
      split <;> omega) k
    simp only [List.foldl_cons, List.length_cons] at this ⊢
    omega
theorem degs_bound (ks : List Ck.Knot) (k : Ck.Knot) : 0 ≤ mget (degsL ks) k ∧ mget (degsL ks) k ≤ ks.length := by
  have := mget_bound ks [] 0 (fun _ => by simp [mget]) k
  simpa [degsL] using this
theorem degsL_snoc (ks : List Ck.Knot) (k : Ck.Knot) : degsL (ks ++ [k]) = incr (degsL ks) k := by simp [degsL]

theorem extract1 (a b : Value) (w : World) : (Instr.extract (.tuple #[a, b]) 1).run Tryz.prog w = .ok b w := by kernel_rfl
theorem ends_take_succ {l : List Ck.Bar} {k : Nat} (h : k < l.length) : Ck.ends (l.take (k + 1)) = Ck.ends (l.take k) ++ [l[k].lo] ++ [l[k].hi] := by
  rw [List.take_succ_eq_append_getElem h, Ck.ends_append]
  simp [Ck.ends]
theorem ends_length (l : List Ck.Bar) : (Ck.ends l).length = 2 * l.length := by
  induction l with
  | nil => rfl
  | cons a r ih => simp [Ck.ends] at ih ⊢; omega

end Go.Proofs.YtfmfpnnglogkmaaGreatDoor

/- Plain mathematics of the numbering of connected knots: what holds at each step of a search with a stack. -/
namespace Go.Proofs.YtfmfpnnglogkmaaGreatDoor
open Ck

def nb (k : Knot) : List (Bar × Knot) := [(⟨k.x - 1, k.y - 1, 1⟩, ⟨k.x - 1, k.y - 1⟩), (⟨k.x + 1, k.y - 1, -1⟩, ⟨k.x + 1, k.y - 1⟩), (⟨k.x, k.y, -1⟩, ⟨k.x - 1, k.y + 1⟩), (⟨k.x, k.y, 1⟩, ⟨k.x + 1, k.y + 1⟩)]
theorem Knot.ext' {a b : Knot} (h1 : a.x = b.x) (h2 : a.y = b.y) : a = b := by
  cases a; cases b; cases h1; cases h2; rfl
theorem nb_adj {k : Knot} {p : Bar × Knot} (h : p ∈ nb k) : Adj p.1 k p.2 := by
  simp only [nb, List.mem_cons, List.not_mem_nil, or_false] at h
  rcases h with rfl | rfl | rfl | rfl
  · exact .inr ⟨Knot.ext' (by show k.x = k.x - 1 + 1; omega) (by show k.y = k.y - 1 + 1; omega), rfl⟩
  · exact .inr ⟨Knot.ext' (by show k.x = k.x + 1 + -1; omega) (by show k.y = k.y - 1 + 1; omega), rfl⟩
  · exact .inl ⟨rfl, Knot.ext' (by show k.x - 1 = k.x + -1; omega) rfl⟩
  · exact .inl ⟨rfl, rfl⟩
theorem adj_nb {b : Bar} {k m : Knot} (hs : b.s = -1 ∨ b.s = 1) (h : Adj b k m) : (b, m) ∈ nb k := by
  obtain ⟨x, y, s⟩ := b
  simp only at hs
  simp only [nb, List.mem_cons, List.not_mem_nil, or_false, Prod.mk.injEq]
  rcases h with ⟨rfl, rfl⟩ | ⟨rfl, rfl⟩
  · rcases hs with rfl | rfl
    · exact .inr (.inr (.inl ⟨rfl, Knot.ext' (by show x + -1 = x - 1; omega) rfl⟩))
    · exact .inr (.inr (.inr ⟨rfl, rfl⟩))
  · rcases hs with rfl | rfl
    · exact .inr (.inl ⟨Bar.ext' (by show x = x + -1 + 1; omega) (by show y = y + 1 - 1; omega) rfl, Knot.ext' (by show x = x + -1 + 1; omega) (by show y = y + 1 - 1; omega)⟩)
    · exact .inl ⟨Bar.ext' (by show x = x + 1 - 1; omega) (by show y = y + 1 - 1; omega) rfl, Knot.ext' (by show x = x + 1 - 1; omega) (by show y = y + 1 - 1; omega)⟩

/-- The numbered knots are closed under the bars. -/
def Closed (l : List Bar) (M : List (Knot × Int)) : Prop := ∀ b ∈ l, ∀ k m, Adj b k m → mget M k ≠ 0 → mget M m ≠ 0
theorem Closed.conn {l : List Bar} {M : List (Knot × Int)} (h : Closed l M) {k m : Knot} (hc : Conn l k m) : mget M k ≠ 0 → mget M m ≠ 0 := by
  induction hc with
  | refl => exact id
  | step b hb ha _ ih => exact fun hk => ih (h b hb _ _ ha hk)

/-- V: the knots that have been reached; S: those whose bars are still to be looked at; k0: the one whose first j bars have been looked at. -/
structure Fl (l : List Bar) (M0 : List (Knot × Int)) (src : Knot) (n : Int) (M : List (Knot × Int)) (V S : List Knot) (k0 : Option Knot) (j : Nat) : Prop where
  hM : ∀ k, mget M k = if k ∈ V then n else mget M0 k
  conn : ∀ k ∈ V, Conn l src k
  ends : ∀ k ∈ V, k ∈ ends l
  nd : V.Nodup
  nds : S.Nodup
  sub : ∀ k ∈ S, k ∈ V
  fr : src ∈ V
  cl : ∀ k ∈ V, k ∉ S → k0 ≠ some k → ∀ p ∈ nb k, p.1 ∈ l → p.2 ∈ V
  cur : ∀ k, k0 = some k → k ∈ V ∧ k ∉ S ∧ ∀ p ∈ (nb k).take j, p.1 ∈ l → p.2 ∈ V
theorem Fl.bound {l : List Bar} {M0 M : List (Knot × Int)} {src : Knot} {n : Int} {V S : List Knot} {k0 : Option Knot} {j : Nat} (h : Fl l M0 src n M V S k0 j) : V.length ≤ (Ck.ends l).length := h.nd.length_le_of_subset h.ends
theorem Fl.stack {l : List Bar} {M0 M : List (Knot × Int)} {src : Knot} {n : Int} {V S : List Knot} {k0 : Option Knot} {j : Nat} (h : Fl l M0 src n M V S k0 j) : S.length ≤ V.length := h.nds.length_le_of_subset h.sub

theorem Fl.start {l : List Bar} {M0 : List (Knot × Int)} {src : Knot} {n : Int} (hs : src ∈ Ck.ends l) : Fl l M0 src n (mput M0 src n) [src] [src] none 0 where
  hM k := by rw [mget_mput]; simp
  conn k hk := by rw [List.mem_singleton] at hk; subst hk; exact .refl _
  ends k hk := by rw [List.mem_singleton] at hk; subst hk; exact hs
  nd := by simp
  nds := by simp
  sub k hk := hk
  fr := by simp
  cl k hk hns := absurd hk hns
  cur k hk := by cases hk
theorem Fl.pop {l : List Bar} {M0 M : List (Knot × Int)} {src : Knot} {n : Int} {V S : List Knot} {k : Knot} (h : Fl l M0 src n M V (S ++ [k]) none 0) : Fl l M0 src n M V S (some k) 0 where
  hM := h.hM
  conn := h.conn
  ends := h.ends
  nd := h.nd
  nds := (List.nodup_append.1 h.nds).1
  sub m hm := h.sub m (by simp [hm])
  fr := h.fr
  cl m hm hns hne := h.cl m hm (fun hh => by
    rcases List.mem_append.1 hh with hh | hh
    · exact hns hh
    · rw [List.mem_singleton] at hh; subst hh; exact hne rfl) (by simp)
  cur m hm := by
    cases hm
    refine ⟨h.sub k (by simp), fun hk => ?_, by simp⟩
    exact (List.nodup_append.1 h.nds).2.2 k hk k (by simp) rfl
theorem Fl.done {l : List Bar} {M0 M : List (Knot × Int)} {src : Knot} {n : Int} {V S : List Knot} {k : Knot} (h : Fl l M0 src n M V S (some k) 4) : Fl l M0 src n M V S none 0 where
  hM := h.hM
  conn := h.conn
  ends := h.ends
  nd := h.nd
  nds := h.nds
  sub := h.sub
  fr := h.fr
  cl m hm hns _ p hp hl := by
    by_cases e : m = k
    · subst e; exact (h.cur m rfl).2.2 p (by simpa [nb] using hp) hl
    · exact h.cl m hm hns (fun e' => e (by cases e'; rfl)) p hp hl
  cur m hm := by cases hm
theorem take_succ_mem {α : Type} {l : List α} {j : Nat} {p q : α} (hp : l[j]? = some p) (h : q ∈ l.take (j + 1)) : q ∈ l.take j ∨ q = p := by
  rw [List.take_add_one, hp] at h
  simpa using h
/-- The bar leads to a knot that is new: it gets the number, and comes onto the stack. -/
theorem Fl.push {l : List Bar} {M0 M : List (Knot × Int)} {src : Knot} {n : Int} {V S : List Knot} {k : Knot} {j : Nat} {p : Bar × Knot} (h : Fl l M0 src n M V S (some k) j) (hn : n ≠ 0) (hp : (nb k)[j]? = some p) (hz : mget M p.2 = 0) (hl : p.1 ∈ l) :
    Fl l M0 src n (mput M p.2 n) (p.2 :: V) (S ++ [p.2]) (some k) (j + 1) := by
  have hnew : p.2 ∉ V := fun hv => hn (by rw [← hz, h.hM, if_pos hv])
  have hadj := nb_adj (List.mem_of_getElem? hp)
  obtain ⟨hkV, hkS, hkc⟩ := h.cur k rfl
  exact {
    hM := fun m => by
      rw [mget_mput, h.hM]
      by_cases e : m = p.2
      · simp [e]
      · simp [e]
    conn := fun m hm => by
      rcases List.mem_cons.1 hm with rfl | hm
      · exact (h.conn k hkV).trans (.one hl hadj)
      · exact h.conn m hm
    ends := fun m hm => by
      rcases List.mem_cons.1 hm with rfl | hm
      · exact (hadj.ends hl).2
      · exact h.ends m hm
    nd := List.nodup_cons.2 ⟨hnew, h.nd⟩
    nds := List.nodup_append.2 ⟨h.nds, by simp, fun a ha b hb e => by
      rw [List.mem_singleton] at hb
      subst hb
      subst e
      exact hnew (h.sub _ ha)⟩
    sub := fun m hm => by
      rcases List.mem_append.1 hm with hm | hm
      · exact List.mem_cons.2 (.inr (h.sub m hm))
      · rw [List.mem_singleton] at hm; subst hm; simp
    fr := List.mem_cons.2 (.inr h.fr)
    cl := fun m hm hns hne q hq hql => by
      rcases List.mem_cons.1 hm with rfl | hm
      · exact absurd (List.mem_append.2 (.inr (by simp))) hns
      · exact List.mem_cons.2 (.inr (h.cl m hm (fun hh => hns (List.mem_append.2 (.inl hh))) hne q hq hql))
    cur := fun m hm => by
      cases hm
      refine ⟨List.mem_cons.2 (.inr hkV), fun hh => ?_, fun q hq hql => ?_⟩
      · rcases List.mem_append.1 hh with hh | hh
        · exact hkS hh
        · rw [List.mem_singleton] at hh; exact hnew (hh ▸ hkV)
      · rcases take_succ_mem hp hq with hq | rfl
        · exact List.mem_cons.2 (.inr (hkc q hq hql))
        · simp }
/-- The bar isn't in the net, or leads to a knot that has a number. -/
theorem Fl.skip {l : List Bar} {M0 M : List (Knot × Int)} {src : Knot} {n : Int} {V S : List Knot} {k : Knot} {j : Nat} {p : Bar × Knot} (h : Fl l M0 src n M V S (some k) j) (hc : Closed l M0) (h0 : mget M0 src = 0) (hp : (nb k)[j]? = some p) (hz : ¬ (mget M p.2 = 0 ∧ p.1 ∈ l)) :
    Fl l M0 src n M V S (some k) (j + 1) := by
  have hadj := nb_adj (List.mem_of_getElem? hp)
  obtain ⟨hkV, hkS, hkc⟩ := h.cur k rfl
  exact { h with
    cur := fun m hm => by
      cases hm
      refine ⟨hkV, hkS, fun q hq hql => ?_⟩
      rcases take_succ_mem hp hq with hq | rfl
      · exact hkc q hq hql
      · by_cases hv : q.2 ∈ V
        · exact hv
        · exfalso
          have h1 : mget M q.2 ≠ 0 := fun e => hz ⟨e, hql⟩
          rw [h.hM, if_neg hv] at h1
          exact hc.conn (((h.conn k hkV).trans (.one hql hadj)).symm) h1 h0 }
/-- What the map holds at the end. -/
theorem Fl.result {l : List Bar} {M0 M : List (Knot × Int)} {src : Knot} {n : Int} {V : List Knot} (h : Fl l M0 src n M V [] none 0) (hok : ∀ b ∈ l, b.s = -1 ∨ b.s = 1) :
    (∀ k, Conn l src k → mget M k = n) ∧ ∀ k, ¬ Conn l src k → mget M k = mget M0 k := by
  have hall : ∀ k m, Conn l k m → k ∈ V → m ∈ V := by
    intro k m hc
    induction hc with
    | refl => exact id
    | step b hb ha _ ih => exact fun hk => ih (h.cl _ hk (by simp) (by simp) _ (adj_nb (hok b hb) ha) hb)
  exact ⟨fun k hk => by rw [h.hM, if_pos (hall _ _ hk h.fr)], fun k hk => by rw [h.hM, if_neg (fun hv => hk (h.conn k hv))]⟩
end Go.Proofs.YtfmfpnnglogkmaaGreatDoor

/- Contracts of barsAround and otherEnd. -/
namespace Go.Proofs.YtfmfpnnglogkmaaGreatDoor
open Go.RowKit

theorem box322 (w : World) (a b c d e f g : Value) (t t' t'' : TypeId) : ∃ w1, w1 = ((w.alloc (.cells #[a, b, c] t)).alloc (.cells #[d, e] t')).alloc (.cells #[f, g] t'') ∧ w1.cell? ⟨w.heap.size, 0, none⟩ = some a ∧ w1.cell? ⟨w.heap.size, 1, none⟩ = some b ∧ w1.cell? ⟨w.heap.size, 2, none⟩ = some c ∧
    w1.cell? ⟨w.heap.size + 1, 0, none⟩ = some d ∧ w1.cell? ⟨w.heap.size + 1, 1, none⟩ = some e ∧ w1.heap[w.heap.size + 2]? = some (.cells #[f, g] t'' (0, 0)) ∧ Below w.heap.size w w1 ∧ w.heap.size + 2 < w1.heap.size := by
  obtain ⟨w0, rfl, h0, h1, h2, hb0, hz⟩ := box3 w a b c t
  have hs : (w.alloc (.cells #[a, b, c] t)).heap.size = w.heap.size + 1 := by simp
  obtain ⟨w1, rfl, k0, k1, hb1, hz1⟩ := box2 (w.alloc (.cells #[a, b, c] t)) d e t'
  have hs1 : ((w.alloc (.cells #[a, b, c] t)).alloc (.cells #[d, e] t')).heap.size = w.heap.size + 2 := by simp
  rw [hs] at k0 k1
  have hb : Below (w.heap.size + 2) ((w.alloc (.cells #[a, b, c] t)).alloc (.cells #[d, e] t')) (((w.alloc (.cells #[a, b, c] t)).alloc (.cells #[d, e] t')).alloc (.cells #[f, g] t'')) := (Below.refl _ _).alloc (by simp) _
  refine ⟨_, rfl, ?_, ?_, ?_, (hb.cell (p := ⟨_, _, none⟩) (by simp)).trans k0, (hb.cell (p := ⟨_, _, none⟩) (by simp)).trans k1, by rw [← hs1]; exact heap_alloc_new _ _, (hb0.trans (hb1.mono (by omega))).trans (hb.mono (by omega)), by simp⟩
  · exact ((hb.cell (p := ⟨_, _, none⟩) (by show w.heap.size < _; omega)).trans (hb1.cell (p := ⟨_, _, none⟩) (by show w.heap.size < _; omega))).trans h0
  · exact ((hb.cell (p := ⟨_, _, none⟩) (by show w.heap.size < _; omega)).trans (hb1.cell (p := ⟨_, _, none⟩) (by show w.heap.size < _; omega))).trans h1
  · exact ((hb.cell (p := ⟨_, _, none⟩) (by show w.heap.size < _; omega)).trans (hb1.cell (p := ⟨_, _, none⟩) (by show w.heap.size < _; omega))).trans h2
end Go.Proofs.YtfmfpnnglogkmaaGreatDoor

/- The contract of otherEnd. -/
namespace Go.Proofs.YtfmfpnnglogkmaaGreatDoor
open Go.RowKit

theorem keep322 {W w1 w2 : World} {g : Nat} {a b c d e : Value} {o : Obj} (h : w1.cell? ⟨g, 0, none⟩ = some a ∧ w1.cell? ⟨g, 1, none⟩ = some b ∧ w1.cell? ⟨g, 2, none⟩ = some c ∧ w1.cell? ⟨g + 1, 0, none⟩ = some d ∧ w1.cell? ⟨g + 1, 1, none⟩ = some e ∧ w1.heap[g + 2]? = some o ∧ Below g W w1 ∧ g + 2 < w1.heap.size) (hb : Below w1.heap.size w1 w2) :
    w2.cell? ⟨g, 0, none⟩ = some a ∧ w2.cell? ⟨g, 1, none⟩ = some b ∧ w2.cell? ⟨g, 2, none⟩ = some c ∧ w2.cell? ⟨g + 1, 0, none⟩ = some d ∧ w2.cell? ⟨g + 1, 1, none⟩ = some e ∧ w2.heap[g + 2]? = some o ∧ Below g W w2 ∧ g + 2 < w2.heap.size := by
  obtain ⟨h0, h1, h2, h3, h4, h5, h6, h7⟩ := h
  exact ⟨(hb.cell (p := ⟨g, 0, none⟩) (by show g < _; omega)).trans h0, (hb.cell (p := ⟨g, 1, none⟩) (by show g < _; omega)).trans h1, (hb.cell (p := ⟨g, 2, none⟩) (by show g < _; omega)).trans h2,
    (hb.cell (p := ⟨g + 1, 0, none⟩) (by show g + 1 < _; omega)).trans h3, (hb.cell (p := ⟨g + 1, 1, none⟩) (by show g + 1 < _; omega)).trans h4, (hb.block _ h7).trans h5, h6.trans (hb.mono (by omega)), by have := hb.size; omega⟩
theorem two_of_block {w : World} {g : Nat} {a b : Value} {t : TypeId} (h : w.heap[g]? = some (.cells #[a, b] t (0, 0))) : w.cell? ⟨g, 0, none⟩ = some a ∧ w.cell? ⟨g, 1, none⟩ = some b ∧ ∀ i, w.frozen? ⟨g, i, none⟩ = false := by
  refine ⟨?_, ?_, fun i => ?_⟩ <;> simp [World.cell?, World.frozen?, h]
theorem eqKnot' (a b : Ck.Knot) (r : Bool) (hr : decide (a = b) = r) (w : World) : (Op.equalIn 10000 43 (.agg #[.int .i64 a.x, .int .i64 a.y]) (.agg #[.int .i64 b.x, .int .i64 b.y])).run Tryz.prog w = .ok r w := hr ▸ eqKnot a b w
theorem guardKnot : Tryz.prog.eqGuardType Tryz.prog.depth 43 = false := by kernel_rfl

end Go.Proofs.YtfmfpnnglogkmaaGreatDoor

/- What is kept where a map's block and a row of the call's own are written; the map's operations as laws of the walk. -/
namespace Go.Proofs.YtfmfpnnglogkmaaGreatDoor
open Go.RowKit

theorem gb_of_below {w w' : World} {r : Option Nat} (h : Below w.heap.size w w') : w.grownBy w' r := ⟨h.os, h.tape, h.output, h.size, fun i hi _ => h.block i hi⟩
theorem gb_below {w w1 w2 : World} {r : Option Nat} (h : w.grownBy w1 r) (hb : Below w1.heap.size w1 w2) : w.grownBy w2 r :=
  ⟨hb.os.trans h.os, hb.tape.trans h.tape, hb.output.trans h.output, Nat.le_trans h.size hb.size, fun i hi hr => (hb.block i (Nat.lt_of_lt_of_le hi h.size)).trans (h.block i hi hr)⟩
theorem gb_row {w w1 w2 : World} {r s : Option Nat} (h : w.grownBy w1 r) (hg : w1.grownBy w2 s) (hs : ∀ g, s = some g → w.heap.size ≤ g) : w.grownBy w2 r :=
  ⟨hg.os.trans h.os, hg.tape.trans h.tape, hg.output.trans h.output, Nat.le_trans h.size hg.size, fun i hi hr => (hg.block i (Nat.lt_of_lt_of_le hi h.size) (fun e => by have := hs i e.symm; omega)).trans (h.block i hi hr)⟩
theorem RB.grown {w w' : World} {B b : Nat} {A : Option Addr} {l : List Ck.Bar} {m : List (Ck.Knot × Int)} (h : RB w B A l) (hm : MIs w b m) (hB : B ≤ w.heap.size) (hg : w.grownBy w' (some b)) : RB w' B A l := fun hl => by
  obtain ⟨b', off, rfl, hb, hc⟩ := h hl
  have hne : b' ≠ b := by
    rintro rfl
    obtain ⟨es, clock, h1, _⟩ := hm
    have := (hc 0 hl).1
    simp [World.cell?, h1] at this
  have hk : ∀ o, w'.cell? ⟨b', o, none⟩ = w.cell? ⟨b', o, none⟩ := fun o => World.cell?_of_block (hg.block b' (by omega) (fun e => hne (by injection e)))
  exact ⟨b', off, rfl, hb, fun i hi => ⟨(hk _).trans (hc i hi).1, (hk _).trans (hc i hi).2.1, (hk _).trans (hc i hi).2.2⟩⟩

def kcellsL (S : List Ck.Knot) : List Value := S.flatMap fun k => [.int .i64 k.x, .int .i64 k.y]
theorem kcellsL_snoc (S : List Ck.Knot) (k : Ck.Knot) : kcellsL (S ++ [k]) = kcellsL S ++ [.int .i64 k.x, .int .i64 k.y] := by simp [kcellsL]
theorem kcellsL_length (S : List Ck.Knot) : (kcellsL S).length = S.length * 2 := by
  induction S with
  | nil => rfl
  | cons a r ih => simp [kcellsL] at ih ⊢; omega
theorem add0 (g i : Nat) : (⟨g, 0, none⟩ : Addr).add i = ⟨g, i, none⟩ := by
  unfold Addr.add
  split
  · rename_i h; rw [h]
  · simp
/-- The top of a stack of knots. -/
theorem top_cells {w : World} {base g cap : Nat} {S : List Ck.Knot} {k : Ck.Knot} (h : w.ownsRow base 43 2 (.slice (some ⟨g, 0, none⟩) (S.length + 1) cap) (S.length + 1) (kcellsL (S ++ [k]))) :
    w.cell? ⟨g, S.length * 2, none⟩ = some (.int .i64 k.x) ∧ w.cell? ⟨g, S.length * 2 + 1, none⟩ = some (.int .i64 k.y) := by
  have hc := h.cells (g := g) rfl
  rw [kcellsL_snoc] at hc
  have hl := kcellsL_length S
  have h0 := hc (S.length * 2) (.int .i64 k.x) (by rw [List.getElem?_append_right (by omega), hl, Nat.sub_self]; rfl)
  have h1 := hc (S.length * 2 + 1) (.int .i64 k.y) (by rw [List.getElem?_append_right (by omega), hl, Nat.add_sub_cancel_left]; rfl)
  rw [add0] at h0 h1
  exact ⟨h0, h1⟩
theorem own_cap {w : World} {base g cap n : Nat} {e : TypeId} {size : Nat} {xs : List Value} (h : w.ownsRow base e size (.slice (some ⟨g, 0, none⟩) n cap) n xs) : n ≤ cap ∧ cap ≤ maxLen := by
  rcases h.2 with ⟨h0, _⟩ | ⟨g', cap', cur, hv, _, _, h1, h2, _⟩
  · cases h0
  · cases hv; exact ⟨h1, h2⟩
theorem own_form {w : World} {base n : Nat} {e : TypeId} {size : Nat} {v : Value} {xs : List Value} (h : w.ownsRow base e size v n xs) (hn : 0 < n) : ∃ g cap, v = .slice (some ⟨g, 0, none⟩) n cap ∧ base ≤ g ∧ n ≤ cap ∧ cap ≤ maxLen ∧ g < w.heap.size := by
  rcases h.2 with ⟨_, h0⟩ | ⟨g, cap, cur, hv, hb, hh, h1, h2, _⟩
  · omega
  · exact ⟨g, cap, hv, hb, h1, h2, (Array.getElem?_eq_some_iff.1 hh).1⟩
end Go.Proofs.YtfmfpnnglogkmaaGreatDoor

/- The contract of numberFrom. -/
namespace Go.Proofs.YtfmfpnnglogkmaaGreatDoor
open Go.RowKit

theorem Tryz.info43 : (Tryz.prog.info? 43).map (fun i => (i.zero, i.size, i.bytes)) = some (some (.agg #[.int .i64 0, .int .i64 0]), 2, 16) := by kernel_rfl
/-- The number n is given to all knots that are connected with src. -/
def Numbered (l : List Ck.Bar) (src : Ck.Knot) (n : Int) (M0 M : List (Ck.Knot × Int)) : Prop :=
  (∀ k, Ck.Conn l src k → mget M k = n) ∧ ∀ k, ¬ Ck.Conn l src k → mget M k = mget M0 k
def NumPost (l : List Ck.Bar) (src : Ck.Knot) (n : Int) (M0 : List (Ck.Knot × Int)) (b : Nat) (w : World) (e : Ending) (w' : World) : Prop :=
  e = .returned (.tuple #[]) ∧ ∃ M, Numbered l src n M0 M ∧ MIs w' b M ∧ w.grownBy w' (some b)
theorem one_row (w : World) (base : Nat) (hb : base ≤ w.heap.size) (a b : Value) (t : TypeId) : (w.alloc (.cells #[a, b] t)).ownsRow base t 2 (.slice (some ⟨w.heap.size, 0, none⟩) 1 1) 1 [a, b] :=
  ⟨rfl, .inr ⟨_, _, _, rfl, hb, heap_alloc_new _ _, Nat.le_refl _, by unfold maxLen; omega, rfl, rfl⟩⟩

def numRel (l : List Ck.Bar) (src : Ck.Knot) (n : Int) (M0 : List (Ck.Knot × Int)) (b : Nat) (w : World) (g : Nat) (v : Value) (wi : World) : Prop :=
  ∃ V S M, g = 2 * ((Ck.ends l).length - V.length) + S.length ∧ Fl l M0 src n M V S none 0 ∧ wi.ownsRow w.heap.size 43 2 v S.length (kcellsL S) ∧ MIs wi b M ∧ w.grownBy wi (some b)

theorem end_range {l : List Ck.Bar} (hok : ∀ x ∈ l, Ck.okBar x) {k : Ck.Knot} (h : k ∈ Ck.ends l) : -100000 ≤ k.x ∧ k.x ≤ 100000 ∧ -100000 ≤ k.y ∧ k.y ≤ 100000 := by
  obtain ⟨b, hb, h⟩ := Ck.mem_ends.1 h
  obtain ⟨⟨h1, h2, _⟩, _, h4, h5⟩ := hok b hb
  rcases h with rfl | rfl
  · exact ⟨h1.1, h1.2, h2.1, h2.2⟩
  · exact ⟨h4.1, h4.2, h5.1, h5.2⟩
def numIn (l : List Ck.Bar) (src : Ck.Knot) (n : Int) (M0 : List (Ck.Knot × Int)) (b : Nat) (w : World) (k : Ck.Knot) (B G : Nat) (g : Nat) (v i : Value) (wi : World) : Prop :=
  ∃ j V S M, g = 4 - j ∧ j ≤ 4 ∧ i = .int .i64 (j : Nat) ∧ Fl l M0 src n M V S (some k) j ∧ wi.ownsRow w.heap.size 43 2 v S.length (kcellsL S) ∧ v.ownBlock ≠ some B ∧ MIs wi b M ∧ w.grownBy wi (some b) ∧
    wi.cell? ⟨B, 0, none⟩ = some (.int .i64 k.x) ∧ wi.cell? ⟨B, 1, none⟩ = some (.int .i64 k.y) ∧ B < wi.heap.size ∧ 2 * ((Ck.ends l).length - V.length) + S.length < G
theorem meas_push {N v s G : Nat} (h : 2 * (N - v) + s < G) (hv : v + 1 ≤ N) : 2 * (N - (v + 1)) + (s + 1) < G := by omega

end Go.Proofs.YtfmfpnnglogkmaaGreatDoor

/- Plain mathematics of the parts: what holds of the numbers after some bars have been gone through. -/
namespace Go.Proofs.YtfmfpnnglogkmaaGreatDoor
open Ck

structure Pt (l : List Bar) (i : Nat) (count : Nat) (M : List (Knot × Int)) : Prop where
  num : ∀ k, mget M k ≠ 0 ↔ ∃ b ∈ l.take i, Conn l b.lo k
  lo : ∀ k, 0 ≤ mget M k
  hi : ∀ k, mget M k ≤ count
  le : count ≤ i
  cnt : ∀ n, CntIs l ((l.take i).map Bar.lo).reverse (l.drop i) n → CntIs l [] l (count + n)
theorem Pt.start (l : List Bar) : Pt l 0 0 [] where
  num k := by simp [mget]
  lo k := by simp [mget]
  hi k := by simp [mget]
  le := Nat.le_refl _
  cnt n h := by simpa using h
theorem Pt.closed {l : List Bar} {i count : Nat} {M : List (Knot × Int)} (h : Pt l i count M) : Closed l M := fun b hb k m ha hk => by
  obtain ⟨c, hc, hcc⟩ := (h.num k).1 hk
  exact (h.num m).2 ⟨c, hc, hcc.trans (.one hb ha)⟩
theorem mem_take_succ {l : List Bar} {i : Nat} (hi : i < l.length) {b : Bar} : b ∈ l.take (i + 1) ↔ b ∈ l.take i ∨ b = l[i] := by
  rw [List.take_succ_eq_append_getElem hi, List.mem_append, List.mem_singleton]
theorem seen_iff {l : List Bar} {i : Nat} {k : Knot} : (∃ s ∈ ((l.take i).map Bar.lo).reverse, Conn l s k) ↔ ∃ b ∈ l.take i, Conn l b.lo k := by
  constructor
  · rintro ⟨s, hs, h⟩
    rw [List.mem_reverse, List.mem_map] at hs
    obtain ⟨b, hb, rfl⟩ := hs
    exact ⟨b, hb, h⟩
  · rintro ⟨b, hb, h⟩
    exact ⟨b.lo, by rw [List.mem_reverse, List.mem_map]; exact ⟨b, hb, rfl⟩, h⟩
theorem seen_succ {l : List Bar} {i : Nat} (hi : i < l.length) : ((l.take (i + 1)).map Bar.lo).reverse = l[i].lo :: ((l.take i).map Bar.lo).reverse := by
  rw [List.take_succ_eq_append_getElem hi, List.map_append, List.reverse_append]
  rfl
theorem Pt.old {l : List Bar} {i count : Nat} {M : List (Knot × Int)} (h : Pt l i count M) (hi : i < l.length) (hz : ¬ mget M l[i].lo = 0) : Pt l (i + 1) count M where
  num k := by
    rw [h.num]
    constructor
    · rintro ⟨b, hb, hc⟩
      exact ⟨b, (mem_take_succ hi).2 (.inl hb), hc⟩
    · rintro ⟨b, hb, hc⟩
      rcases (mem_take_succ hi).1 hb with hb | hb
      · exact ⟨b, hb, hc⟩
      · subst hb
        obtain ⟨c, hc2, hcc⟩ := (h.num _).1 hz
        exact ⟨c, hc2, hcc.trans hc⟩
  lo := h.lo
  hi := h.hi
  le := Nat.le_succ_of_le h.le
  cnt n hn := h.cnt n (by
    rw [List.drop_eq_getElem_cons hi]
    exact .old (seen_iff.2 ((h.num _).1 hz)) (by rw [seen_succ hi] at hn; exact hn))
theorem Pt.fresh {l : List Bar} {i count : Nat} {M M' : List (Knot × Int)} (h : Pt l i count M) (hi : i < l.length) (hz : mget M l[i].lo = 0)
    (h1 : ∀ k, Conn l l[i].lo k → mget M' k = ((count + 1 : Nat) : Int)) (h2 : ∀ k, ¬ Conn l l[i].lo k → mget M' k = mget M k) : Pt l (i + 1) (count + 1) M' where
  num k := by
    by_cases hc : Conn l l[i].lo k
    · rw [h1 k hc]
      refine ⟨fun _ => ⟨l[i], (mem_take_succ hi).2 (.inr rfl), hc⟩, fun _ => by omega⟩
    · rw [h2 k hc, h.num]
      constructor
      · rintro ⟨b, hb, hcc⟩
        exact ⟨b, (mem_take_succ hi).2 (.inl hb), hcc⟩
      · rintro ⟨b, hb, hcc⟩
        rcases (mem_take_succ hi).1 hb with hb | hb
        · exact ⟨b, hb, hcc⟩
        · subst hb
          exact absurd hcc hc
  lo k := by
    by_cases hc : Conn l l[i].lo k
    · rw [h1 k hc]; omega
    · rw [h2 k hc]; exact h.lo k
  hi k := by
    by_cases hc : Conn l l[i].lo k
    · rw [h1 k hc]; omega
    · rw [h2 k hc]; have := h.hi k; omega
  le := Nat.succ_le_succ h.le
  cnt n hn := by
    rw [show count + 1 + n = count + (n + 1) from by omega]
    refine h.cnt (n + 1) ?_
    rw [List.drop_eq_getElem_cons hi]
    exact .fresh (fun e => (h.num _).2 (seen_iff.1 e) hz) (by rw [seen_succ hi] at hn; exact hn)
theorem Pt.done {l : List Bar} {count : Nat} {M : List (Knot × Int)} (h : Pt l l.length count M) : PartsIs l count := by
  have := h.cnt 0 (by rw [List.drop_length]; exact .nil _)
  exact this
theorem Pt.pos {l : List Bar} {count : Nat} {M : List (Knot × Int)} (h : Pt l l.length count M) {b : Bar} (hb : b ∈ l) : 0 < mget M b.lo ∧ mget M b.lo ≤ count := by
  have h1 := (h.num b.lo).2 ⟨b, by rw [List.take_length]; exact hb, .refl _⟩
  have h2 := h.lo b.lo
  exact ⟨by omega, h.hi _⟩
end Go.Proofs.YtfmfpnnglogkmaaGreatDoor

/- A slice of slices of bars that the call itself fills: its block, and the rows that it owns. -/
namespace Go.Proofs.YtfmfpnnglogkmaaGreatDoor
open Go.RowKit

structure Heads (W : World) (base P n K : Nat) (cur : Array Value) : Prop where
  blk : W.heap[P]? = some (.cells cur 49 (0, 0))
  size : cur.size = n
  own : ∀ j (h : j < cur.size), ∃ m xs, W.ownsRow base 74 3 cur[j] m xs ∧ m ≤ K
  apart : ∀ j j' (h : j < cur.size) (h' : j' < cur.size), j ≠ j' → cur[j].ownBlock = none ∨ cur[j].ownBlock ≠ cur[j'].ownBlock
theorem Heads.lt {W : World} {base P n K : Nat} {cur : Array Value} (h : Heads W base P n K cur) : P < W.heap.size := (Array.getElem?_eq_some_iff.1 h.blk).1
theorem Heads.cell {W : World} {base P n K : Nat} {cur : Array Value} (h : Heads W base P n K cur) {q : Nat} (hq : q < cur.size) : W.cell? ⟨P, q, none⟩ = some cur[q] := by
  simp [World.cell?, h.blk, Array.getElem?_eq_getElem hq]
theorem Heads.frozen {W : World} {base P n K : Nat} {cur : Array Value} (h : Heads W base P n K cur) (q : Nat) : W.frozen? ⟨P, q, none⟩ = false := by
  simp [World.frozen?, h.blk]
theorem own_block_ne {W : World} {base P : Nat} {e t : TypeId} {size n : Nat} {v : Value} {xs : List Value} {cur : Array Value} (h : W.ownsRow base e size v n xs) (hb : W.heap[P]? = some (.cells cur t (0, 0))) (hne : e ≠ t) : v.ownBlock ≠ some P := by
  intro he
  rcases h.2 with ⟨rfl, _⟩ | ⟨g, cap, c, rfl, _, hh, _⟩
  · cases he
  · have : g = P := by injection he
    subst this
    rw [hh] at hb
    injection hb with hb
    injection hb with _ ht
    exact hne ht
theorem own_map_ne {W : World} {base b : Nat} {e : TypeId} {size n : Nat} {v : Value} {xs : List Value} {m : List (Ck.Knot × Int)} (h : W.ownsRow base e size v n xs) (hb : MIs W b m) : v.ownBlock ≠ some b := by
  intro he
  obtain ⟨es, clock, h1, _⟩ := hb
  rcases h.2 with ⟨rfl, _⟩ | ⟨g, cap, c, rfl, _, hh, _⟩
  · cases he
  · have : g = b := by injection he
    subst this
    rw [hh] at h1
    cases h1
theorem own_lt {W : World} {base : Nat} {e : TypeId} {size n g : Nat} {v : Value} {xs : List Value} (h : W.ownsRow base e size v n xs) (hb : v.ownBlock = some g) : g < W.heap.size := by
  rcases h.2 with ⟨rfl, _⟩ | ⟨g', cap, c, rfl, _, hh, _⟩
  · cases hb
  · have : g' = g := by injection hb
    subst this
    exact (Array.getElem?_eq_some_iff.1 hh).1
theorem Heads.below {W W' : World} {base P n K : Nat} {cur : Array Value} (h : Heads W base P n K cur) (hb : Below W.heap.size W W') : Heads W' base P n K cur where
  blk := (hb.block P h.lt).trans h.blk
  size := h.size
  own j hj := by
    obtain ⟨m, xs, h1, h2⟩ := h.own j hj
    exact ⟨m, xs, ownsRow_below h1 hb, h2⟩
  apart := h.apart
theorem setCell_grown (W : World) (P q : Nat) (v : Value) : W.grownBy (W.setCell ⟨P, q, none⟩ v) (some P) :=
  ⟨rfl, rfl, rfl, by simp [World.setCell], fun i _ hi => Below.heap_setCell _ _ _ _ (fun e => hi (by rw [e]))⟩
theorem Heads.step {W W1 W2 : World} {base P n K q m g cap : Nat} {cur : Array Value} {xs' : List Value} (h : Heads W base P n K cur) (hW : Below W.heap.size W W1) (hq : q < cur.size)
    (hown : W2.ownsRow base 74 3 (.slice (some ⟨g, 0, none⟩) m cap) m xs') (hm : m ≤ K + 1) (hg : W1.grownBy W2 cur[q].ownBlock) (hblk : cur[q].ownBlock = some g ∨ g = W1.heap.size) :
    Heads (W2.setCell ⟨P, q, none⟩ (.slice (some ⟨g, 0, none⟩) m cap)) base P n (K + 1) (cur.set q (.slice (some ⟨g, 0, none⟩) m cap)) := by
  have hT : (74 : Nat) ≠ 49 := by decide
  have h1 := h.below hW
  obtain ⟨mq, xq, oq, _⟩ := h1.own q hq
  have hPne := own_block_ne oq h1.blk hT
  have hP2 : W2.heap[P]? = some (.cells cur 49 (0, 0)) := (hg.block P h1.lt (fun e => hPne e.symm)).trans h1.blk
  have hs := setCell_grown W2 P q (.slice (some ⟨g, 0, none⟩) m cap)
  have hgne : (Value.slice (some ⟨g, 0, none⟩) m cap).ownBlock ≠ some P := own_block_ne hown hP2 hT
  have hold : ∀ j (hj : j < cur.size) (hjq : j ≠ q), ∃ m xs, W2.ownsRow base 74 3 cur[j] m xs ∧ m ≤ K := fun j hj hjq => by
    obtain ⟨mj, xj, oj, hmj⟩ := h1.own j hj
    exact ⟨mj, xj, oj.kept hg (h.apart j q hj hq hjq), hmj⟩
  refine ⟨?_, by rw [Array.size_set, h.size], fun j hj => ?_, fun j j' hj hj' hne => ?_⟩
  · simp only [World.setCell, Array.getElem?_modify, hP2]
    simp [Array.setIfInBounds, hq]
  · rw [Array.size_set] at hj
    by_cases hjq : q = j
    · subst hjq
      rw [Array.getElem_set_self]
      exact ⟨m, xs', hown.kept hs (.inr hgne), hm⟩
    · rw [Array.getElem_set_ne _ hj hjq]
      obtain ⟨mj, xj, oj, hmj⟩ := hold j hj (fun e => hjq e.symm)
      exact ⟨mj, xj, oj.kept hs (.inr (own_block_ne oj hP2 hT)), by omega⟩
  · rw [Array.size_set] at hj hj'
    have other : ∀ i (hi : i < cur.size), i ≠ q → cur[i].ownBlock = none ∨ cur[i].ownBlock ≠ some g := fun i hi hiq => by
      rcases hblk with hb | hb
      · rw [← hb]; exact h.apart i q hi hq hiq
      · refine .inr (fun e => ?_)
        obtain ⟨mi, xi, oi, _⟩ := h1.own i hi
        have := own_lt oi e
        omega
    by_cases e1 : q = j
    · subst e1
      rw [Array.getElem_set_self, Array.getElem_set_ne _ hj' hne]
      refine .inr (fun e => ?_)
      rcases other j' hj' (fun e => hne e.symm) with h' | h'
      · rw [h'] at e; cases e
      · exact h' e.symm
    · rw [Array.getElem_set_ne _ hj e1]
      by_cases e2 : q = j'
      · subst e2
        rw [Array.getElem_set_self]
        exact other j hj (fun e => e1 e.symm)
      · rw [Array.getElem_set_ne _ hj' e2]
        exact h.apart j j' hj hj' hne
end Go.Proofs.YtfmfpnnglogkmaaGreatDoor

/- The contract of partsOf: a slice with as many parts as the net has. -/
namespace Go.Proofs.YtfmfpnnglogkmaaGreatDoor
open Go.RowKit

theorem Tryz.info74 : (Tryz.prog.info? 74).map (fun i => (i.zero, i.size, i.bytes)) = some (some (.agg #[.int .i64 0, .int .i64 0, .int .i64 0]), 3, 24) := by kernel_rfl
theorem Tryz.info49 : (Tryz.prog.info? 49).map (fun i => (i.zero, i.size, i.bytes)) = some (some (.slice none 0 0), 1, 24) := by kernel_rfl
def zeros (n : Nat) : Array Value := madeCells (Value.slice none 0 0).cells (n * 1)
theorem Heads.made (w : World) (base n : Nat) (_ : base ≤ w.heap.size) : Heads (w.alloc (.cells (zeros n) 49)) base w.heap.size n 0 (zeros n) where
  blk := heap_alloc_new _ _
  size := by rw [zeros, size_madeCells]; omega
  own j hj := by
    have : (zeros n)[j] = .slice none 0 0 := by simp [zeros, madeCells, Value.cells, Nat.mod_one]
    rw [this]
    exact ⟨0, [], World.ownsRow_nil _ _ _ _, Nat.le_refl _⟩
  apart j j' hj hj' _ := by
    have : (zeros n)[j] = .slice none 0 0 := by simp [zeros, madeCells, Value.cells, Nat.mod_one]
    rw [this]
    exact .inl rfl

theorem three_new (w : World) (a b c : Value) (t : TypeId) : ∀ (j : Nat) (u : Value), [a, b, c][j]? = some u → (w.alloc (.cells #[a, b, c] t)).cell? ((⟨w.heap.size, 0, none⟩ : Addr).add j) = some u := by
  obtain ⟨w1, rfl, h0, h1, h2, _⟩ := box3 w a b c t
  intro j u h
  rw [add0]
  match j, h with
  | 0, h => cases h; exact h0
  | 1, h => cases h; exact h1
  | 2, h => cases h; exact h2

def PartPost (l : List Ck.Bar) (w : World) (e : Ending) (w' : World) : Prop := ∃ n a c, Ck.PartsIs l n ∧ n ≤ l.length ∧ e = .returned (.slice a n c) ∧ Below w.heap.size w w'

end Go.Proofs.YtfmfpnnglogkmaaGreatDoor

/- The contract of Count at a valid net. -/
namespace Go.Proofs.YtfmfpnnglogkmaaGreatDoor
open Go.RowKit

theorem farB_iff (n : Int) : farB n = false ↔ Ck.inPlace n := by simp [farB, Ck.inPlace]
theorem knotE_ok (x y : Int) : knotE x y = 0 ↔ Ck.okKnot ⟨x, y⟩ := by
  unfold knotE Ck.okKnot
  cases hx : farB x
  · cases hy : farB y
    · have h1 := (farB_iff x).1 hx
      have h2 := (farB_iff y).1 hy
      simp [h1, h2, evenB]
    · have h2 : ¬ Ck.inPlace y := fun h => by rw [(farB_iff y).2 h] at hy; cases hy
      simp [h2]
  · have h2 : ¬ Ck.inPlace x := fun h => by rw [(farB_iff x).2 h] at hx; cases hx
    simp [h2]
theorem barE_iff (b : Ck.Bar) : barE b.x b.y b.s = 0 ↔ Ck.okBar b := by
  unfold barE Ck.okBar
  by_cases h1 : knotE b.x b.y = 0
  · by_cases h2 : b.s = 1 ∨ b.s = -1
    · simp only [h1, if_true, if_pos h2, knotE_ok]
      have hk : Ck.okKnot ⟨b.x, b.y⟩ := (knotE_ok _ _).1 h1
      constructor
      · rintro ⟨a, c, _⟩
        exact ⟨hk, h2.symm, a, c⟩
      · rintro ⟨_, _, a, c⟩
        refine ⟨a, c, ?_⟩
        have := hk.2.2
        simp only at this ⊢
        omega
    · simp only [h1, if_true, if_neg h2]
      constructor
      · intro h; omega
      · rintro ⟨_, h, _⟩; exact absurd h.symm h2
  · simp only [if_neg h1]
    constructor
    · intro h; exact absurd h h1
    · rintro ⟨h, _⟩; exact absurd ((knotE_ok _ _).2 h) h1
theorem netFrom_zero : ∀ (l : List Ck.Bar) (p : Option Ck.Bar), netFrom p l = 0 ↔ (∀ b ∈ l, Ck.okBar b) ∧ (match p with | none => l.Pairwise Ck.Blt | some a => (a :: l).Pairwise Ck.Blt)
  | [], none => by simp [netFrom]
  | [], some a => by simp [netFrom]
  | b :: r, none => by
    unfold netFrom
    by_cases h : barE b.x b.y b.s = 0
    · rw [if_pos h, netFrom_zero r (some b)]
      simp only [List.mem_cons, forall_eq_or_imp, (barE_iff b).1 h, true_and]
    · rw [if_neg h]
      constructor
      · intro h'; exact absurd h' h
      · intro h'; exact absurd ((barE_iff b).2 (h'.1 b (by simp))) h
  | b :: r, some a => by
    unfold netFrom
    by_cases h : barE b.x b.y b.s = 0
    · rw [if_pos h]
      by_cases hl : lessB a.x a.y a.s b.x b.y b.s = true
      · have hab := (lessB_iff a b).1 hl
        rw [if_pos hl, netFrom_zero r (some b)]
        simp only [List.mem_cons, forall_eq_or_imp, (barE_iff b).1 h, true_and]
        constructor
        · rintro ⟨h1, h2⟩
          exact ⟨h1, List.pairwise_cons.2 ⟨fun c hc => by
            rcases List.mem_cons.1 hc with rfl | hc
            · exact hab
            · exact hab.trans ((List.pairwise_cons.1 h2).1 c hc), h2⟩⟩
        · rintro ⟨h1, h2⟩
          exact ⟨h1, (List.pairwise_cons.1 h2).2⟩
      · rw [if_neg hl]
        constructor
        · intro h'; omega
        · rintro ⟨_, h2⟩
          exact absurd ((lessB_iff a b).2 ((List.pairwise_cons.1 h2).1 b (by simp))) hl
    · rw [if_neg h]
      constructor
      · intro h'; exact absurd h' h
      · intro h'; exact absurd ((barE_iff b).2 (h'.1 b (by simp))) h
theorem netE_zero (l : List Ck.Bar) : netE l = 0 ↔ l.length ≤ 4096 ∧ Ck.Net l := by
  unfold netE
  split
  · constructor
    · intro h; omega
    · rintro ⟨h, _⟩; omega
  · rw [netFrom_zero]
    constructor
    · rintro ⟨h1, h2⟩; exact ⟨by omega, h1, h2⟩
    · rintro ⟨_, h1, h2⟩; exact ⟨h1, h2⟩

theorem mput_keys (m : List (Ck.Knot × Int)) (k k' : Ck.Knot) (v : Int) : k' ∈ (mput m k v).map (·.1) ↔ k' = k ∨ k' ∈ m.map (·.1) := by
  induction m with
  | nil => simp [mput]
  | cons p r ih =>
    by_cases h : k = p.1
    · rw [show mput (p :: r) k v = (k, v) :: r from by simp [mput, h]]
      simp only [List.map_cons, List.mem_cons, ← h]
      constructor
      · rintro (h1 | h1)
        · exact .inl h1
        · exact .inr (.inr h1)
      · rintro (h1 | h1 | h1)
        · exact .inl h1
        · exact .inl h1
        · exact .inr h1
    · simp only [mput, if_neg h, List.map_cons, List.mem_cons, ih]
      constructor
      · rintro (h1 | h1 | h1)
        · exact .inr (.inl h1)
        · exact .inl h1
        · exact .inr (.inr h1)
      · rintro (h1 | h1 | h1)
        · exact .inr (.inl h1)
        · exact .inl h1
        · exact .inr (.inr h1)
theorem degs_keys (ks : List Ck.Knot) : ∀ (m : List (Ck.Knot × Int)) (k : Ck.Knot), k ∈ (ks.foldl incr m).map (·.1) ↔ k ∈ ks ∨ k ∈ m.map (·.1) := by
  induction ks with
  | nil => intro m k; simp
  | cons a r ih =>
    intro m k
    rw [List.foldl_cons, ih, incr, mput_keys, List.mem_cons]
    constructor
    · rintro (h | h | h)
      · exact .inl (.inr h)
      · exact .inl (.inl h)
      · exact .inr h
    · rintro ((h | h) | h)
      · exact .inr (.inl h)
      · exact .inl h
      · exact .inr (.inr h)
theorem MIs.keys_nodup {w : World} {b : Nat} {m : List (Ck.Knot × Int)} (h : MIs w b m) : (m.map (·.1)).Nodup := by
  obtain ⟨_, _, _, _, h3, _⟩ := h
  exact h3
theorem degs_length {w : World} {b : Nat} {l : List Ck.Bar} (h : MIs w b (degsL (Ck.ends l))) : (degsL (Ck.ends l)).length = Ck.nK l := by
  rw [← Ck.nK_eq h.keys_nodup (fun k => by rw [degsL, degs_keys]; simp), List.length_map]
theorem MIs.size {w : World} {b : Nat} {m : List (Ck.Knot × Int)} (h : MIs w b m) : ∃ es clock, w.heap[b]? = some (.map es clock) ∧ es.size = m.length := by
  obtain ⟨es, clock, h1, h2, _⟩ := h
  refine ⟨es, clock, h1, ?_⟩
  have := congrArg List.length h2
  simpa using this
theorem nK_le (l : List Ck.Bar) : Ck.nK l ≤ 2 * l.length := by
  rw [← ends_length l]
  exact (Ck.nub_nodup _).length_le_of_subset (fun k hk => Ck.mem_nub.1 hk)
theorem meshL_nM (l : List Ck.Bar) : (meshL l l).length = Ck.nM l := by
  rw [meshL, ← List.countP_eq_length_filter, Ck.nM]
  refine List.countP_congr fun b hb => ?_
  obtain ⟨x, y, s⟩ := b
  simp only [isM, Ck.isMesh, allIn, meshBars4, List.all_cons, List.all_nil, Bool.and_true, Bool.and_eq_true, decide_eq_true_eq]
  rw [show y + 1 - 1 = y from by omega]
  constructor
  · rintro ⟨h1, _, h2, h3, h4⟩; exact ⟨h1, h2, h3, h4⟩
  · rintro ⟨h1, h2, h3, h4⟩
    subst h1
    exact ⟨rfl, hb, h2, h3, h4⟩

theorem five_of_block {w : World} {g : Nat} {a b c d e : Value} {t : TypeId} (h : w.heap[g]? = some (.cells #[a, b, c, d, e] t (0, 0))) : w.cell? ⟨g, 0, none⟩ = some a ∧ w.cell? ⟨g, 1, none⟩ = some b ∧ w.cell? ⟨g, 2, none⟩ = some c ∧ w.cell? ⟨g, 3, none⟩ = some d ∧ w.cell? ⟨g, 4, none⟩ = some e ∧ ∀ i, w.frozen? ⟨g, i, none⟩ = false := by
  refine ⟨?_, ?_, ?_, ?_, ?_, fun i => ?_⟩ <;> simp [World.cell?, World.frozen?, h]
def CountPost (l : List Ck.Bar) (w : World) (e : Ending) (w' : World) : Prop :=
  ∃ p : Nat, Ck.PartsIs l p ∧ e = .returned (.tuple #[.agg #[.int .i64 (Ck.nK l : Nat), .int .i64 (l.length : Nat), .int .i64 (Ck.nM l : Nat), .int .i64 p, .int .i64 ((l.length : Int) - (Ck.nK l : Nat) + p - (Ck.nM l : Nat))], .int .i64 0]) ∧ Below w.heap.size w w'

end Go.Proofs.YtfmfpnnglogkmaaGreatDoor

/- Rows of bars in memory: what a slice of bars of the call's own holds. -/
namespace Go.Proofs.YtfmfpnnglogkmaaGreatDoor
open Go.RowKit Ck

theorem RB.nil (w : World) (B : Nat) (A : Option Addr) : RB w B A [] := fun h => by simp at h

def bcellsL (l : List Ck.Bar) : List Value := l.flatMap fun b => [.int .i64 b.x, .int .i64 b.y, .int .i64 b.s]
theorem bcellsL_snoc (l : List Ck.Bar) (b : Ck.Bar) : bcellsL (l ++ [b]) = bcellsL l ++ [.int .i64 b.x, .int .i64 b.y, .int .i64 b.s] := by simp [bcellsL]
theorem three_of_block {w : World} {g : Nat} {a b c : Value} {t : TypeId} (h : w.heap[g]? = some (.cells #[a, b, c] t (0, 0))) : w.cell? ⟨g, 0, none⟩ = some a ∧ w.cell? ⟨g, 1, none⟩ = some b ∧ w.cell? ⟨g, 2, none⟩ = some c ∧ ∀ i, w.frozen? ⟨g, i, none⟩ = false := by
  refine ⟨?_, ?_, ?_, fun i => ?_⟩ <;> simp [World.cell?, World.frozen?, h]
theorem ownsRow_mono {w : World} {base base' : Nat} {e : TypeId} {size n : Nat} {v : Value} {xs : List Value} (h : w.ownsRow base e size v n xs) (hb : base' ≤ base) : w.ownsRow base' e size v n xs := by
  refine ⟨h.1, ?_⟩
  rcases h.2 with h2 | ⟨g, cap, cur, h1, h2, h3⟩
  · exact .inl h2
  · exact .inr ⟨g, cap, cur, h1, by omega, h3⟩
theorem own_slice {w : World} {base : Nat} {e : TypeId} {size n : Nat} {v : Value} {xs : List Value} (h : w.ownsRow base e size v n xs) : ∃ a c, v = .slice a n c ∧ n ≤ c ∧ c ≤ maxLen := by
  rcases h.2 with ⟨rfl, rfl⟩ | ⟨g, cap, cur, rfl, _, _, h1, h2, _⟩
  · exact ⟨none, 0, rfl, Nat.le_refl _, by unfold maxLen; omega⟩
  · exact ⟨_, _, rfl, h1, h2⟩
theorem bcellsL_at (l : List Ck.Bar) : ∀ (i : Nat) (h : i < l.length), (bcellsL l)[i * 3]? = some (.int .i64 l[i].x) ∧ (bcellsL l)[i * 3 + 1]? = some (.int .i64 l[i].y) ∧ (bcellsL l)[i * 3 + 2]? = some (.int .i64 l[i].s) := by
  induction l with
  | nil => intro i h; simp at h
  | cons a r ih =>
    intro i h
    have e : bcellsL (a :: r) = [.int .i64 a.x, .int .i64 a.y, .int .i64 a.s] ++ bcellsL r := by simp [bcellsL]
    rw [e]
    cases i with
    | zero => exact ⟨rfl, rfl, rfl⟩
    | succ i =>
      have := ih i (by simpa using h)
      rw [show (i + 1) * 3 = i * 3 + 3 from by omega]
      simpa using this
theorem bcellsL_length (l : List Ck.Bar) : (bcellsL l).length = l.length * 3 := by
  induction l with
  | nil => rfl
  | cons a r ih => simp [bcellsL] at ih ⊢; omega
/-- A row of the call's own that holds the cells of bars reads as these bars. -/
theorem RB.of_own {w : World} {base c : Nat} {A : Option Addr} {l : List Ck.Bar} {n : Nat} (h : w.ownsRow base 74 3 (.slice A n c) l.length (bcellsL l)) : RB w w.heap.size A l := fun hl => by
  obtain ⟨g, cap, hv, _, _, _, hg⟩ := own_form h hl
  injection hv with hA _ _
  subst hA
  have hc := h.cells (g := g) rfl
  refine ⟨g, 0, rfl, hg, fun i hi => ?_⟩
  obtain ⟨h0, h1, h2⟩ := bcellsL_at l i hi
  have k0 := hc _ _ h0
  have k1 := hc _ _ h1
  have k2 := hc _ _ h2
  rw [add0] at k0 k1 k2
  simp only [Nat.zero_add]
  exact ⟨k0, k1, k2⟩
theorem empty_row (w : World) (base : Nat) (hb : base ≤ w.heap.size) (t : TypeId) (size : Nat) : (w.alloc (.cells #[] t)).ownsRow base t size (.slice (some ⟨w.heap.size, 0, none⟩) 0 0) 0 [] :=
  ⟨by simp, .inr ⟨_, _, _, rfl, hb, heap_alloc_new _ _, Nat.le_refl _, by unfold maxLen; omega, by simp, by simp⟩⟩
theorem RB.news {w : World} {B : Nat} {b off : Nat} {l : List Ck.Bar} (h : RB w B (some ⟨b, off, none⟩) l) (hl : 0 < l.length) : ∀ (j : Nat) (u : Value), (bcellsL l)[j]? = some u → w.cell? ((⟨b, off, none⟩ : Addr).add j) = some u := by
  intro j u hu
  obtain ⟨b', off', e, _, hc⟩ := h hl
  cases e
  have hj : j < (bcellsL l).length := (List.getElem?_eq_some_iff.1 hu).1
  rw [bcellsL_length] at hj
  have hi : j / 3 < l.length := by omega
  obtain ⟨k0, k1, k2⟩ := hc (j / 3) hi
  obtain ⟨h0, h1, h2⟩ := bcellsL_at l (j / 3) hi
  have hadd : (⟨b, off, none⟩ : Addr).add j = ⟨b, off + j, none⟩ := by
    unfold Addr.add
    split
    · rename_i e; simp
    · rfl
  rw [hadd]
  have hm : j % 3 = 0 ∨ j % 3 = 1 ∨ j % 3 = 2 := by omega
  rcases hm with hm | hm | hm
  · have e : j = j / 3 * 3 := by omega
    rw [← e] at h0 k0
    rw [k0, ← hu, h0]
  · have e : j = j / 3 * 3 + 1 := by omega
    rw [← e] at h1
    rw [Nat.add_assoc, ← e] at k1
    rw [k1, ← hu, h1]
  · have e : j = j / 3 * 3 + 2 := by omega
    rw [← e] at h2
    rw [Nat.add_assoc, ← e] at k2
    rw [k2, ← hu, h2]
theorem bcellsL_one (l : List Ck.Bar) : ∀ u ∈ bcellsL l, u.oneCell' = true := by
  intro u hu
  simp only [bcellsL, List.mem_flatMap] at hu
  obtain ⟨b, _, hu⟩ := hu
  simp at hu
  rcases hu with rfl | rfl | rfl <;> rfl
theorem cmpB_lt_iff (a b : Bar) : cmpB a b < 0 ↔ Blt a b := by
  rw [← lessB_iff, ← cmpB_neg, decide_eq_true_eq]
/-- The slice is of the call's own, or reads so. -/
def OKS (w : World) (a : Option Addr) (c : Nat) (l : List Bar) : Prop := l.length ≤ c ∧ c ≤ maxLen ∧ (a = none → c = 0) ∧ RB w w.heap.size a l
theorem OKS.below {w w' : World} {a : Option Addr} {c : Nat} {l : List Bar} (h : OKS w a c l) (hb : Below w.heap.size w w') : OKS w' a c l := ⟨h.1, h.2.1, h.2.2.1, (h.2.2.2.below hb).more hb.size⟩
theorem own_oks {w : World} {base : Nat} {v : Value} {l : List Bar} (h : w.ownsRow base 74 3 v l.length (bcellsL l)) : ∃ a c, v = .slice a l.length c ∧ OKS w a c l := by
  rcases h.2 with ⟨rfl, hz⟩ | ⟨g, cap, cur, rfl, _, _, h1, h2, _⟩
  · have : l = [] := List.eq_nil_of_length_eq_zero hz
    subst this
    exact ⟨none, 0, rfl, Nat.zero_le _, by unfold maxLen; omega, fun _ => rfl, RB.nil _ _ _⟩
  · exact ⟨_, _, rfl, h1, h2, (fun e => by cases e), RB.of_own h⟩
def SlicePost (l : List Bar) (w : World) (e : Ending) (w' : World) : Prop := ∃ a c, e = .returned (.slice a l.length c) ∧ OKS w' a c l ∧ Below w.heap.size w w'
def PairPost (l : List Bar) (w : World) (e : Ending) (w' : World) : Prop := ∃ a c, e = .returned (.tuple #[.slice a l.length c, .int .i64 0]) ∧ OKS w' a c l ∧ Below w.heap.size w w'
end Go.Proofs.YtfmfpnnglogkmaaGreatDoor

/- A sheet's bars: plain mathematics, the bars of a cell, the iterator. -/
namespace Go.Proofs.YtfmfpnnglogkmaaGreatDoor
open Go.RowKit Go.Shelf Ck

def cel0 (x y : Int) (o : Bool) : Bar := if o then ⟨x + 1, y, -1⟩ else ⟨x, y, 1⟩
def cel1 (x y : Int) (o : Bool) : Bar := if o then ⟨x + 1, y, 1⟩ else ⟨x + 2, y, -1⟩
def oddB (r : Nat) : Bool := decide (r % 2 = 1)
def cellL (x y : Int) (r c : Nat) : List Bar := [cel0 (x + 2 * (c : Int)) (y + (r : Int)) (oddB r), cel1 (x + 2 * (c : Int)) (y + (r : Int)) (oddB r)]
/-- The first k cells of the row r. -/
def rowL (x y : Int) (r k : Nat) : List Bar := (List.range k).flatMap (cellL x y r)
/-- The first r rows. -/
def sheetP (x y : Int) (cols r : Nat) : List Bar := (List.range r).flatMap fun q => rowL x y q cols
theorem rowL_succ (x y : Int) (r k : Nat) : rowL x y r (k + 1) = rowL x y r k ++ cellL x y r k := by simp [rowL, List.range_succ]
theorem sheetP_succ (x y : Int) (cols r : Nat) : sheetP x y cols (r + 1) = sheetP x y cols r ++ rowL x y r cols := by simp [sheetP, List.range_succ]
theorem rowL_length (x y : Int) (r : Nat) : ∀ k, (rowL x y r k).length = 2 * k
  | 0 => rfl
  | k + 1 => by rw [rowL_succ, List.length_append, rowL_length x y r k]; simp [cellL]; omega
theorem sheetP_length (x y : Int) (cols : Nat) : ∀ r, (sheetP x y cols r).length = 2 * (cols * r)
  | 0 => by simp [sheetP]
  | r + 1 => by rw [sheetP_succ, List.length_append, sheetP_length x y cols r, rowL_length, Nat.mul_succ]; omega
theorem pre_short (x y : Int) {cols rows r c i : Nat} (hc : cols ≤ 256) (hr : rows ≤ 256) (h1 : r < rows) (h2 : c < cols) (h3 : i ≤ 2) : (sheetP x y cols r ++ rowL x y r c ++ (cellL x y r c).take i).length < 200000 := by
  rw [List.length_append, List.length_append, sheetP_length, rowL_length, List.length_take]
  have : cols * r ≤ 256 * 256 := Nat.mul_le_mul hc (by omega)
  omega

/-- The blocks from B1 to below B2 are as they were. -/
def KR (B1 B2 : Nat) (W W' : World) : Prop := W.heap.size ≤ W'.heap.size ∧ ∀ b, B1 ≤ b → b < B2 → W'.heap[b]? = W.heap[b]?
theorem KR.refl (B1 B2 : Nat) (W : World) : KR B1 B2 W W := ⟨Nat.le_refl _, fun _ _ _ => rfl⟩
theorem KR.trans {B1 B2 : Nat} {A B C : World} (h : KR B1 B2 A B) (k : KR B1 B2 B C) : KR B1 B2 A C := ⟨Nat.le_trans h.1 k.1, fun b h1 h2 => (k.2 b h1 h2).trans (h.2 b h1 h2)⟩
theorem KR.of_below {B1 B2 : Nat} {W W' : World} (h : Below W.heap.size W W') (hB : B2 ≤ W.heap.size) : KR B1 B2 W W' := ⟨h.size, fun b _ h2 => h.block b (by omega)⟩
theorem KR.cell {B1 B2 : Nat} {W W' : World} (h : KR B1 B2 W W') {b o : Nat} (h1 : B1 ≤ b) (h2 : b < B2) : W'.cell? ⟨b, o, none⟩ = W.cell? ⟨b, o, none⟩ := World.cell?_of_block (h.2 b h1 h2)
theorem KR.put {B1 B2 : Nat} {w : World} (hB : B2 ≤ w.heap.size) (W : World) (l : Nat) (o o' : Obj) (hl : w.heap.size ≤ l) (_ : W.heap[l]? = some o) (_ : o.isCells = false) (_ : o.isWalk = false) : KR B1 B2 W (W.putObj l o') :=
  ⟨by simp, fun b _ h2 => World.putObj_heap_other (by omega)⟩
def barArr (b : Bar) : Array Value := #[.agg #[.int .i64 b.x, .int .i64 b.y, .int .i64 b.s]]
theorem grown_below {W W' : World} (hb : Below W.heap.size W W') : W.grownBy W' none := ⟨hb.os, hb.tape, hb.output, hb.size, fun i hi _ => hb.block i hi⟩

end Go.Proofs.YtfmfpnnglogkmaaGreatDoor
