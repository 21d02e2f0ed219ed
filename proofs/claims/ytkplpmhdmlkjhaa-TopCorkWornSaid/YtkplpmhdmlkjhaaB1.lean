/- Helpers, part 1. -/
import Derived.Test.YtkplpmhdmlkjhaaRows
import Derived.WalkKit
import Derived.WalkSpells
import Derived.WalkLawsBesides
import Derived.Lib.Hide
import Derived.IntWalk
import Derived.ProofKit
import Derived.Deep.Slices
import Derived.Deep.Fields
import Derived.Deep.RegionWith
import Derived.Deep.QuietTactic
import Derived.Deep.DeepCutAuto
import Derived.BigQuiet
import Derived.StillTailTactics
import Derived.Deep.RegionHeld3
import Derived.MapKept
import Derived.Laws.StructEq
import Derived.ChangeMaps5
import Derived.WideKeyEntry
import Derived.Carry
/- Plain mathematics of nets: bars, knots, meshes and connected parts of lists of bars; how their numbers add up for two lists far from one another. No program is spoken of here. -/
namespace Go.Proofs.Ytkplpmhdmlkjhaa.Ck

structure Knot where
  x : Int
  y : Int
deriving DecidableEq

structure Bar where
  x : Int
  y : Int
  s : Int
deriving DecidableEq

def Bar.lo (b : Bar) : Knot := ⟨b.x, b.y⟩
def Bar.hi (b : Bar) : Knot := ⟨b.x + b.s, b.y + 1⟩
def Blt (a b : Bar) : Prop := a.y < b.y ∨ a.y = b.y ∧ (a.x < b.x ∨ a.x = b.x ∧ a.s < b.s)
theorem Bar.ext' {a b : Bar} (h1 : a.x = b.x) (h2 : a.y = b.y) (h3 : a.s = b.s) : a = b := by
  cases a; cases b; cases h1; cases h2; cases h3; rfl
def inPlace (n : Int) : Prop := -100000 ≤ n ∧ n ≤ 100000
def okKnot (k : Knot) : Prop := inPlace k.x ∧ inPlace k.y ∧ (k.x + k.y) % 2 = 0
def okBar (b : Bar) : Prop := okKnot b.lo ∧ (b.s = -1 ∨ b.s = 1) ∧ inPlace b.hi.x ∧ inPlace b.hi.y
def Net (l : List Bar) : Prop := (∀ b ∈ l, okBar b) ∧ l.Pairwise Blt
def near (b : Bar) : Prop := -200 ≤ b.x ∧ b.x ≤ 200 ∧ -200 ≤ b.y ∧ b.y ≤ 200

theorem Blt.trans {a b c : Bar} (h : Blt a b) (k : Blt b c) : Blt a c := by unfold Blt at *; omega
theorem Blt.irrefl {a : Bar} (h : Blt a a) : False := by unfold Blt at h; omega
theorem Blt.tri (a b : Bar) : Blt a b ∨ a = b ∨ Blt b a := by
  obtain ⟨a1, a2, a3⟩ := a
  obtain ⟨b1, b2, b3⟩ := b
  simp only [Blt, Bar.mk.injEq]
  omega
theorem Net.nodup {l : List Bar} (h : Net l) : l.Nodup := h.2.imp (fun {a b} (k : Blt a b) e => by subst e; exact k.irrefl)

def ends (l : List Bar) : List Knot := l.flatMap fun b => [b.lo, b.hi]
theorem mem_ends {l : List Bar} {k : Knot} : k ∈ ends l ↔ ∃ b ∈ l, k = b.lo ∨ k = b.hi := by simp [ends]
theorem ends_append (a b : List Bar) : ends (a ++ b) = ends a ++ ends b := by simp [ends]

/-! ### lists without repetition -/
def nub : List Knot → List Knot
  | [] => []
  | k :: r => if k ∈ r then nub r else k :: nub r
theorem mem_nub {k : Knot} : ∀ {l : List Knot}, k ∈ nub l ↔ k ∈ l
  | [] => Iff.rfl
  | m :: r => by
    unfold nub
    split
    · rename_i h
      rw [mem_nub, List.mem_cons]
      exact ⟨Or.inr, fun h' => h'.elim (fun e => e ▸ h) id⟩
    · rw [List.mem_cons, List.mem_cons, mem_nub]
theorem nub_nodup : ∀ l : List Knot, (nub l).Nodup
  | [] => by simp [nub]
  | m :: r => by
    unfold nub
    split
    · exact nub_nodup r
    · rename_i h
      exact List.nodup_cons.2 ⟨fun h' => h (mem_nub.1 h'), nub_nodup r⟩
theorem same_length {a b : List Knot} (ha : a.Nodup) (hb : b.Nodup) (h : ∀ k, k ∈ a ↔ k ∈ b) : a.length = b.length :=
  ((List.perm_ext_iff_of_nodup ha hb).2 h).length_eq

def nK (l : List Bar) : Nat := (nub (ends l)).length
theorem nK_eq {l : List Bar} {ks : List Knot} (hn : ks.Nodup) (hm : ∀ k, k ∈ ks ↔ k ∈ ends l) : ks.length = nK l :=
  same_length hn (nub_nodup _) fun k => by rw [hm, mem_nub]
theorem nK_add {a b : List Bar} (h : ∀ k ∈ ends a, k ∉ ends b) : nK (a ++ b) = nK a + nK b := by
  rw [nK, nK, nK, ← List.length_append]
  refine same_length (nub_nodup _) ?_ fun k => ?_
  · exact List.nodup_append.2 ⟨nub_nodup _, nub_nodup _, fun x hx y hy e => h x (mem_nub.1 hx) (mem_nub.1 (e ▸ hy))⟩
  · rw [mem_nub, ends_append, List.mem_append, List.mem_append, mem_nub, mem_nub]
theorem knots_union {a b u : List Bar} {k l m : List Knot} (hk : k.Nodup) (hl : l.Nodup) (hm : m.Nodup) (mk : ∀ p, p ∈ k ↔ p ∈ ends a) (ml : ∀ p, p ∈ l ↔ p ∈ ends b) (mm : ∀ p, p ∈ m ↔ p ∈ ends u)
    (hu : ∀ x, x ∈ u ↔ x ∈ a ∨ x ∈ b) : m.length + k.countP (fun p => decide (p ∈ l)) = k.length + l.length := by
  have he : ∀ p, p ∈ ends u ↔ p ∈ ends a ∨ p ∈ ends b := by
    intro p
    simp only [mem_ends, hu]
    constructor
    · rintro ⟨x, hx | hx, h⟩
      · exact .inl ⟨x, hx, h⟩
      · exact .inr ⟨x, hx, h⟩
    · rintro (⟨x, hx, h⟩ | ⟨x, hx, h⟩)
      · exact ⟨x, .inl hx, h⟩
      · exact ⟨x, .inr hx, h⟩
  have h1 : m.length = (l ++ k.filter (fun p => !decide (p ∈ l))).length := by
    refine same_length hm (List.nodup_append.2 ⟨hl, hk.filter _, ?_⟩) fun p => ?_
    · intro x hx y hy e
      subst e
      have := (List.mem_filter.1 hy).2
      simp [hx] at this
    · rw [mm, he, List.mem_append, List.mem_filter]
      by_cases hp : p ∈ l
      · simp [hp, (ml p).1 hp]
      · have : p ∉ ends b := fun h => hp ((ml p).2 h)
        simp [hp, this, mk]
  rw [h1, List.length_append, ← List.countP_eq_length_filter]
  have h2 := List.length_eq_countP_add_countP (l := k) (fun p => decide (p ∈ l))
  have h3 : List.countP (fun p => !decide (p ∈ l)) k = List.countP (fun a => decide ¬(decide (a ∈ l)) = true) k := List.countP_congr fun x _ => by simp
  omega

/-! ### meshes -/
def isMesh (l : List Bar) (b : Bar) : Bool := decide (b.s = -1) && (decide ((⟨b.x, b.y, 1⟩ : Bar) ∈ l) && (decide ((⟨b.x - 1, b.y + 1, 1⟩ : Bar) ∈ l) && decide ((⟨b.x + 1, b.y + 1, -1⟩ : Bar) ∈ l)))
def nM (l : List Bar) : Nat := l.countP (isMesh l)
theorem nM_add {a b : List Bar} (ha : ∀ x ∈ a, x.y ≤ 200) (hb : ∀ x ∈ b, 800 ≤ x.y) : nM (a ++ b) = nM a + nM b := by
  have h1 : ∀ x : Bar, x.y ≤ 201 → (x ∈ a ++ b ↔ x ∈ a) := fun x hx => by
    rw [List.mem_append]
    exact ⟨fun h => h.elim id (fun h' => absurd (hb x h') (by omega)), .inl⟩
  have h2 : ∀ x : Bar, 201 ≤ x.y → (x ∈ a ++ b ↔ x ∈ b) := fun x hx => by
    rw [List.mem_append]
    exact ⟨fun h => h.elim (fun h' => absurd (ha x h') (by omega)) id, .inr⟩
  rw [nM, List.countP_append, nM, nM]
  congr 1
  · refine List.countP_congr fun x hx => ?_
    have := ha x hx
    unfold isMesh
    rw [decide_eq_decide.2 (h1 ⟨x.x, x.y, 1⟩ (by simp; omega)), decide_eq_decide.2 (h1 ⟨x.x - 1, x.y + 1, 1⟩ (by simp; omega)), decide_eq_decide.2 (h1 ⟨x.x + 1, x.y + 1, -1⟩ (by simp; omega))]
  · refine List.countP_congr fun x hx => ?_
    have := hb x hx
    unfold isMesh
    rw [decide_eq_decide.2 (h2 ⟨x.x, x.y, 1⟩ (by simp; omega)), decide_eq_decide.2 (h2 ⟨x.x - 1, x.y + 1, 1⟩ (by simp; omega)), decide_eq_decide.2 (h2 ⟨x.x + 1, x.y + 1, -1⟩ (by simp; omega))]

/-! ### parts -/
def Adj (b : Bar) (k m : Knot) : Prop := k = b.lo ∧ m = b.hi ∨ k = b.hi ∧ m = b.lo
inductive Conn (l : List Bar) : Knot → Knot → Prop
  | refl (k : Knot) : Conn l k k
  | step {k m n : Knot} (b : Bar) : b ∈ l → Adj b k m → Conn l m n → Conn l k n
theorem Conn.trans {l : List Bar} {k m n : Knot} (h : Conn l k m) (h' : Conn l m n) : Conn l k n := by
  induction h with
  | refl => exact h'
  | step b hb ha _ ih => exact .step b hb ha (ih h')
theorem Adj.symm {b : Bar} {k m : Knot} (h : Adj b k m) : Adj b m k := h.elim (fun h => .inr ⟨h.2, h.1⟩) (fun h => .inl ⟨h.2, h.1⟩)
theorem Conn.one {l : List Bar} {b : Bar} {k m : Knot} (hb : b ∈ l) (h : Adj b k m) : Conn l k m := .step b hb h (.refl m)
theorem Conn.symm {l : List Bar} {k m : Knot} (h : Conn l k m) : Conn l m k := by
  induction h with
  | refl => exact .refl _
  | step b hb ha _ ih => exact ih.trans (.one hb ha.symm)
theorem Conn.mono {l l' : List Bar} (hl : ∀ b ∈ l, b ∈ l') {k m : Knot} (h : Conn l k m) : Conn l' k m := by
  induction h with
  | refl => exact .refl _
  | step b hb ha _ ih => exact .step b (hl b hb) ha ih
theorem Adj.ends {l : List Bar} {b : Bar} {k m : Knot} (hb : b ∈ l) (h : Adj b k m) : k ∈ ends l ∧ m ∈ ends l := by
  rw [mem_ends, mem_ends]
  rcases h with ⟨h1, h2⟩ | ⟨h1, h2⟩
  · exact ⟨⟨b, hb, .inl h1⟩, ⟨b, hb, .inr h2⟩⟩
  · exact ⟨⟨b, hb, .inr h1⟩, ⟨b, hb, .inl h2⟩⟩

inductive CntIs (l : List Bar) : List Knot → List Bar → Nat → Prop
  | nil (seen : List Knot) : CntIs l seen [] 0
  | old {seen : List Knot} {b : Bar} {r : List Bar} {n : Nat} : (∃ s ∈ seen, Conn l s b.lo) → CntIs l (b.lo :: seen) r n → CntIs l seen (b :: r) n
  | fresh {seen : List Knot} {b : Bar} {r : List Bar} {n : Nat} : (¬ ∃ s ∈ seen, Conn l s b.lo) → CntIs l (b.lo :: seen) r n → CntIs l seen (b :: r) (n + 1)
def PartsIs (l : List Bar) (n : Nat) : Prop := CntIs l [] l n
theorem CntIs.det {l : List Bar} : ∀ {r : List Bar} {seen : List Knot} {n m : Nat}, CntIs l seen r n → CntIs l seen r m → n = m
  | [], _, _, _, .nil _, .nil _ => rfl
  | _ :: _, _, _, _, .old _ h, .old _ h' => h.det h'
  | _ :: _, _, _, _, .old e _, .fresh e' _ => absurd e e'
  | _ :: _, _, _, _, .fresh e _, .old e' _ => absurd e' e
  | _ :: _, _, _, _, .fresh _ h, .fresh _ h' => congrArg (· + 1) (h.det h')
theorem CntIs.total {l : List Bar} : ∀ (r : List Bar) (seen : List Knot), ∃ n, CntIs l seen r n
  | [], seen => ⟨0, .nil seen⟩
  | b :: r, seen => by
    obtain ⟨n, h⟩ := CntIs.total (l := l) r (b.lo :: seen)
    by_cases e : ∃ s ∈ seen, Conn l s b.lo
    · exact ⟨n, .old e h⟩
    · exact ⟨n + 1, .fresh e h⟩
theorem CntIs.mono {l l' : List Bar} : ∀ {r : List Bar} {seen seen' : List Knot} {n : Nat}, (∀ b ∈ r, ∀ t : List Knot, (∀ x ∈ t, ∃ c ∈ r, x = c.lo) → ((∃ s ∈ t ++ seen, Conn l s b.lo) ↔ ∃ s ∈ t ++ seen', Conn l' s b.lo)) → CntIs l seen r n → CntIs l' seen' r n
  | [], _, _, _, _, .nil _ => .nil _
  | b :: r, seen, seen', _, hc, .old e h =>
    .old ((hc b (by simp) [] (by simp)).1 e) (h.mono fun c hcr t ht => by
      have := hc c (by simp [hcr]) (t ++ [b.lo]) (by
        intro x hx
        rcases List.mem_append.1 hx with hx | hx
        · obtain ⟨d, hd, e⟩ := ht x hx; exact ⟨d, by simp [hd], e⟩
        · exact ⟨b, by simp, by simpa using hx⟩)
      simpa using this)
  | b :: r, seen, seen', _, hc, .fresh e h =>
    .fresh (fun e' => e ((hc b (by simp) [] (by simp)).2 e')) (h.mono fun c hcr t ht => by
      have := hc c (by simp [hcr]) (t ++ [b.lo]) (by
        intro x hx
        rcases List.mem_append.1 hx with hx | hx
        · obtain ⟨d, hd, e⟩ := ht x hx; exact ⟨d, by simp [hd], e⟩
        · exact ⟨b, by simp, by simpa using hx⟩)
      simpa using this)
theorem CntIs.append {l : List Bar} : ∀ {r r' : List Bar} {seen : List Knot} {n m : Nat}, CntIs l seen r n → CntIs l ((r.map Bar.lo).reverse ++ seen) r' m → CntIs l seen (r ++ r') (n + m)
  | [], _, _, _, _, .nil _, h' => by simpa using h'
  | b :: r, r', seen, _, m, .old e h, h' => .old e (h.append (by simpa using h'))
  | b :: r, r', seen, _, m, .fresh (n := n) e h, h' => by
    rw [show n + 1 + m = (n + m) + 1 from by omega]
    exact .fresh e (h.append (by simpa using h'))

theorem Conn.left {a b : List Bar} (hd : ∀ k ∈ ends a, k ∉ ends b) {k m : Knot} (h : Conn (a ++ b) k m) : k ∈ ends a → Conn a k m ∧ m ∈ ends a := by
  induction h with
  | refl => exact fun h => ⟨.refl _, h⟩
  | step c hc ha _ ih =>
    intro hk
    rcases List.mem_append.1 hc with hc | hc
    · obtain ⟨h1, h2⟩ := ih (ha.ends hc).2
      exact ⟨.step c hc ha h1, h2⟩
    · exact absurd (ha.ends hc).1 (hd _ hk)
theorem Conn.right {a b : List Bar} (hd : ∀ k ∈ ends a, k ∉ ends b) {k m : Knot} (h : Conn (a ++ b) k m) : k ∈ ends b → Conn b k m ∧ m ∈ ends b := by
  induction h with
  | refl => exact fun h => ⟨.refl _, h⟩
  | step c hc ha _ ih =>
    intro hk
    rcases List.mem_append.1 hc with hc | hc
    · exact absurd hk (hd _ (ha.ends hc).1)
    · obtain ⟨h1, h2⟩ := ih (ha.ends hc).2
      exact ⟨.step c hc ha h1, h2⟩
theorem lo_ends {l : List Bar} {b : Bar} (h : b ∈ l) : b.lo ∈ ends l := mem_ends.2 ⟨b, h, .inl rfl⟩

theorem PartsIs.add {a b : List Bar} {p q : Nat} (hd : ∀ k ∈ ends a, k ∉ ends b) (hp : PartsIs a p) (hq : PartsIs b q) : PartsIs (a ++ b) (p + q) := by
  have inl : ∀ {k m : Knot}, Conn a k m → Conn (a ++ b) k m := fun h => h.mono fun _ h => List.mem_append.2 (.inl h)
  have inr : ∀ {k m : Knot}, Conn b k m → Conn (a ++ b) k m := fun h => h.mono fun _ h => List.mem_append.2 (.inr h)
  refine CntIs.append (hp.mono (l' := a ++ b) (seen' := []) fun x _ t ht => ?_) (hq.mono fun x hx t ht => ?_)
  · constructor
    · rintro ⟨s, hs, h⟩; exact ⟨s, hs, inl h⟩
    · rintro ⟨s, hs, h⟩
      obtain ⟨c, hc, rfl⟩ := ht s (by simpa using hs)
      exact ⟨_, hs, (h.left hd (lo_ends hc)).1⟩
  · constructor
    · rintro ⟨s, hs, h⟩; exact ⟨s, by simp at hs ⊢; exact .inl hs, inr h⟩
    · rintro ⟨s, hs, h⟩
      rcases List.mem_append.1 hs with hs | hs
      · obtain ⟨c, hc, rfl⟩ := ht s hs
        exact ⟨_, by simp [hs], (h.right hd (lo_ends hc)).1⟩
      · have : s ∈ ends a := by
          simp at hs
          obtain ⟨c, hc, rfl⟩ := hs
          exact lo_ends hc
        exact absurd (lo_ends hx) (hd _ (h.left hd this).2)

/-! ### shifts -/
def Bar.shift (dx dy : Int) (b : Bar) : Bar := ⟨b.x + dx, b.y + dy, b.s⟩
def Knot.shift (dx dy : Int) (k : Knot) : Knot := ⟨k.x + dx, k.y + dy⟩
theorem shift_lo (dx dy : Int) (b : Bar) : (b.shift dx dy).lo = b.lo.shift dx dy := rfl
theorem shift_hi (dx dy : Int) (b : Bar) : (b.shift dx dy).hi = b.hi.shift dx dy := by simp [Bar.shift, Bar.hi, Knot.shift]; omega
theorem Knot.shift_inj {dx dy : Int} {k m : Knot} (h : k.shift dx dy = m.shift dx dy) : k = m := by
  obtain ⟨a, b⟩ := k
  obtain ⟨c, d⟩ := m
  simp only [Knot.shift, Knot.mk.injEq] at h ⊢
  omega
theorem Conn.shift {l : List Bar} {k m : Knot} (dx dy : Int) (h : Conn l k m) : Conn (l.map (Bar.shift dx dy)) (k.shift dx dy) (m.shift dx dy) := by
  induction h with
  | refl => exact .refl _
  | step b hb ha _ ih =>
    refine .step (b.shift dx dy) (List.mem_map_of_mem hb) ?_ ih
    rcases ha with ⟨rfl, rfl⟩ | ⟨rfl, rfl⟩
    · exact .inl ⟨(shift_lo ..).symm, (shift_hi ..).symm⟩
    · exact .inr ⟨(shift_hi ..).symm, (shift_lo ..).symm⟩
theorem Bar.shift_back (dx dy : Int) (b : Bar) : (b.shift dx dy).shift (-dx) (-dy) = b :=
  Bar.ext' (show b.x + dx + -dx = b.x by omega) (show b.y + dy + -dy = b.y by omega) rfl
theorem Knot.shift_back (dx dy : Int) (b : Knot) : (b.shift dx dy).shift (-dx) (-dy) = b := by
  obtain ⟨x, y⟩ := b
  simp only [Knot.shift, Knot.mk.injEq]
  omega
theorem Conn.unshift {l : List Bar} {k m : Knot} (dx dy : Int) (h : Conn (l.map (Bar.shift dx dy)) (k.shift dx dy) (m.shift dx dy)) : Conn l k m := by
  have := h.shift (-dx) (-dy)
  rw [List.map_map, Knot.shift_back, Knot.shift_back] at this
  have e : (Bar.shift (-dx) (-dy) ∘ Bar.shift dx dy) = id := funext fun b => Bar.shift_back dx dy b
  rwa [e, List.map_id] at this
theorem CntIs.shift {l : List Bar} (dx dy : Int) : ∀ {r : List Bar} {seen : List Knot} {n : Nat}, CntIs l seen r n → CntIs (l.map (Bar.shift dx dy)) (seen.map (Knot.shift dx dy)) (r.map (Bar.shift dx dy)) n
  | [], _, _, .nil _ => .nil _
  | b :: r, seen, _, .old e h => by
    obtain ⟨s, hs, hc⟩ := e
    exact .old ⟨_, List.mem_map_of_mem hs, hc.shift dx dy⟩ (h.shift dx dy)
  | b :: r, seen, _, .fresh e h => by
    refine .fresh (fun ⟨s, hs, hc⟩ => ?_) (h.shift dx dy)
    obtain ⟨t, ht, rfl⟩ := List.mem_map.1 hs
    exact e ⟨t, ht, hc.unshift dx dy⟩
theorem PartsIs.shift {l : List Bar} {n : Nat} (dx dy : Int) (h : PartsIs l n) : PartsIs (l.map (Bar.shift dx dy)) n := CntIs.shift dx dy h
theorem ends_shift (dx dy : Int) (l : List Bar) : ends (l.map (Bar.shift dx dy)) = (ends l).map (Knot.shift dx dy) := by
  simp only [ends, List.flatMap_map, List.map_flatMap]
  congr
  funext b
  simp [shift_lo, shift_hi]
theorem nub_map (dx dy : Int) : ∀ l : List Knot, nub (l.map (Knot.shift dx dy)) = (nub l).map (Knot.shift dx dy)
  | [] => rfl
  | k :: r => by
    have e : k.shift dx dy ∈ r.map (Knot.shift dx dy) ↔ k ∈ r := by
      constructor
      · intro h
        obtain ⟨m, hm, e⟩ := List.mem_map.1 h
        exact Knot.shift_inj e ▸ hm
      · exact fun h => List.mem_map_of_mem h
    rw [List.map_cons, nub, nub]
    by_cases h : k ∈ r
    · rw [if_pos (e.2 h), if_pos h, nub_map dx dy r]
    · rw [if_neg (fun h' => h (e.1 h')), if_neg h, List.map_cons, nub_map dx dy r]
theorem nK_shift (dx dy : Int) (l : List Bar) : nK (l.map (Bar.shift dx dy)) = nK l := by
  rw [nK, nK, ends_shift, nub_map, List.length_map]
theorem mem_shift {dx dy : Int} {l : List Bar} {b : Bar} : b ∈ l.map (Bar.shift dx dy) ↔ (⟨b.x - dx, b.y - dy, b.s⟩ : Bar) ∈ l := by
  rw [List.mem_map]
  constructor
  · rintro ⟨c, hc, rfl⟩
    have e : (⟨(c.shift dx dy).x - dx, (c.shift dx dy).y - dy, (c.shift dx dy).s⟩ : Bar) = c :=
      Bar.ext' (show c.x + dx - dx = c.x by omega) (show c.y + dy - dy = c.y by omega) rfl
    rw [e]; exact hc
  · intro h
    exact ⟨_, h, Bar.ext' (show b.x - dx + dx = b.x by omega) (show b.y - dy + dy = b.y by omega) rfl⟩
theorem nM_shift (dx dy : Int) (l : List Bar) : nM (l.map (Bar.shift dx dy)) = nM l := by
  rw [nM, nM, List.countP_map]
  refine List.countP_congr fun b _ => ?_
  have h : ∀ x y s : Int, ((⟨x, y, s⟩ : Bar) ∈ l.map (Bar.shift dx dy)) ↔ (⟨x - dx, y - dy, s⟩ : Bar) ∈ l := fun x y s => mem_shift
  simp only [Function.comp, isMesh, Bar.shift, h]
  rw [show b.x + dx - dx = b.x from by omega, show b.y + dy - dy = b.y from by omega, show b.x + dx - 1 - dx = b.x - 1 from by omega, show b.y + dy + 1 - dy = b.y + 1 from by omega, show b.x + dx + 1 - dx = b.x + 1 from by omega]
  exact Iff.rfl
end Go.Proofs.Ytkplpmhdmlkjhaa.Ck

/- Lists of bars in memory: what it means that a slice holds a list of bars, and that this is kept. -/
namespace Go.Proofs.Ytkplpmhdmlkjhaa
open Go.RowKit

theorem ret_i {a b : Int} (h : a = b) : Ending.returned (.int .i64 a) = .returned (.int .i64 b) := by rw [h]
theorem ret_b {a b : Bool} (h : a = b) : Ending.returned (.bool a) = .returned (.bool b) := by rw [h]

def bv (b : Ck.Bar) : Value := .agg #[.int .i64 b.x, .int .i64 b.y, .int .i64 b.s]
def kv (k : Ck.Knot) : Value := .agg #[.int .i64 k.x, .int .i64 k.y]
def bcells (b : Ck.Bar) : List Value := [.int .i64 b.x, .int .i64 b.y, .int .i64 b.s]
def kcells (k : Ck.Knot) : List Value := [.int .i64 k.x, .int .i64 k.y]

/-- The slice at A holds the bars l, below block B. -/
def RB (w : World) (B : Nat) (A : Option Addr) (l : List Ck.Bar) : Prop :=
  0 < l.length → ∃ b off, A = some ⟨b, off, none⟩ ∧ b < B ∧ ∀ i (h : i < l.length), w.cell? ⟨b, off + i * 3, none⟩ = some (.int .i64 l[i].x) ∧ w.cell? ⟨b, off + i * 3 + 1, none⟩ = some (.int .i64 l[i].y) ∧ w.cell? ⟨b, off + i * 3 + 2, none⟩ = some (.int .i64 l[i].s)
/-- The slice at A holds the knots l, below block B. -/
def RK (w : World) (B : Nat) (A : Option Addr) (l : List Ck.Knot) : Prop :=
  0 < l.length → ∃ b off, A = some ⟨b, off, none⟩ ∧ b < B ∧ ∀ i (h : i < l.length), w.cell? ⟨b, off + i * 2, none⟩ = some (.int .i64 l[i].x) ∧ w.cell? ⟨b, off + i * 2 + 1, none⟩ = some (.int .i64 l[i].y)

theorem RB.below {w w' : World} {B : Nat} {A : Option Addr} {l : List Ck.Bar} (h : RB w B A l) (hb : Below B w w') : RB w' B A l := fun hl => by
  obtain ⟨b, off, rfl, hB, hc⟩ := h hl
  exact ⟨b, off, rfl, hB, fun i hi => ⟨(hb.cell (p := ⟨b, _, none⟩) hB).trans (hc i hi).1, (hb.cell (p := ⟨b, _, none⟩) hB).trans (hc i hi).2.1, (hb.cell (p := ⟨b, _, none⟩) hB).trans (hc i hi).2.2⟩⟩
theorem RB.more {w : World} {B B' : Nat} {A : Option Addr} {l : List Ck.Bar} (h : RB w B A l) (hB : B ≤ B') : RB w B' A l := fun hl => by
  obtain ⟨b, off, h1, h2, hc⟩ := h hl
  exact ⟨b, off, h1, by omega, hc⟩
theorem RK.below {w w' : World} {B : Nat} {A : Option Addr} {l : List Ck.Knot} (h : RK w B A l) (hb : Below B w w') : RK w' B A l := fun hl => by
  obtain ⟨b, off, rfl, hB, hc⟩ := h hl
  exact ⟨b, off, rfl, hB, fun i hi => ⟨(hb.cell (p := ⟨b, _, none⟩) hB).trans (hc i hi).1, (hb.cell (p := ⟨b, _, none⟩) hB).trans (hc i hi).2⟩⟩
theorem RK.more {w : World} {B B' : Nat} {A : Option Addr} {l : List Ck.Knot} (h : RK w B A l) (hB : B ≤ B') : RK w B' A l := fun hl => by
  obtain ⟨b, off, h1, h2, hc⟩ := h hl
  exact ⟨b, off, h1, by omega, hc⟩
theorem below_drewN {B : Nat} {a w : World} (h : Below B a w) (n : Nat) : Below B a (w.drewN n) := ⟨h.os, h.tape, h.output, h.size, h.block⟩
theorem below_drew {B : Nat} {a w : World} (h : Below B a w) : Below B a w.drew := ⟨h.os, h.tape, h.output, h.size, h.block⟩
theorem bcell {W w1 : World} (hb : Below W.heap.size W w1) : (∀ b o, b < W.heap.size → w1.cell? ⟨b, o, none⟩ = W.cell? ⟨b, o, none⟩) ∧ (∀ b o, b < W.heap.size → w1.frozen? ⟨b, o, none⟩ = W.frozen? ⟨b, o, none⟩) :=
  ⟨fun b o h => hb.cell (p := ⟨b, o, none⟩) h, fun b o h => hb.frozen (p := ⟨b, o, none⟩) h⟩
theorem box2 (w : World) (a b : Value) (t : TypeId) : ∃ w1, w1 = w.alloc (.cells #[a, b] t) ∧ w1.cell? ⟨w.heap.size, 0, none⟩ = some a ∧ w1.cell? ⟨w.heap.size, 1, none⟩ = some b ∧ Below w.heap.size w w1 ∧ w.heap.size < w1.heap.size :=
  ⟨_, rfl, by rw [World.cell?_alloc_at _ _ _ _ rfl]; rfl, by rw [World.cell?_alloc_at _ _ _ _ rfl]; rfl, (Below.refl _ _).alloc (Nat.le_refl _) _, by simp⟩
theorem box3 (w : World) (a b c : Value) (t : TypeId) : ∃ w1, w1 = w.alloc (.cells #[a, b, c] t) ∧ w1.cell? ⟨w.heap.size, 0, none⟩ = some a ∧ w1.cell? ⟨w.heap.size, 1, none⟩ = some b ∧ w1.cell? ⟨w.heap.size, 2, none⟩ = some c ∧ Below w.heap.size w w1 ∧ w.heap.size < w1.heap.size :=
  ⟨_, rfl, by rw [World.cell?_alloc_at _ _ _ _ rfl]; rfl, by rw [World.cell?_alloc_at _ _ _ _ rfl]; rfl, by rw [World.cell?_alloc_at _ _ _ _ rfl]; rfl, (Below.refl _ _).alloc (Nat.le_refl _) _, by simp⟩
theorem box33 (w : World) (a b c a' b' c' : Value) (t t' : TypeId) : ∃ w1, w1 = (w.alloc (.cells #[a, b, c] t)).alloc (.cells #[a', b', c'] t') ∧ w1.cell? ⟨w.heap.size, 0, none⟩ = some a ∧ w1.cell? ⟨w.heap.size, 1, none⟩ = some b ∧ w1.cell? ⟨w.heap.size, 2, none⟩ = some c ∧
    w1.cell? ⟨w.heap.size + 1, 0, none⟩ = some a' ∧ w1.cell? ⟨w.heap.size + 1, 1, none⟩ = some b' ∧ w1.cell? ⟨w.heap.size + 1, 2, none⟩ = some c' := by
  obtain ⟨w0, rfl, h0, h1, h2, _, hz⟩ := box3 w a b c t
  have hs : (w.alloc (.cells #[a, b, c] t)).heap.size = w.heap.size + 1 := by simp
  obtain ⟨w1, rfl, k0, k1, k2, hb, _⟩ := box3 (w.alloc (.cells #[a, b, c] t)) a' b' c' t'
  rw [hs] at k0 k1 k2
  exact ⟨_, rfl, (hb.cell (p := ⟨_, _, none⟩) hz).trans h0, (hb.cell (p := ⟨_, _, none⟩) hz).trans h1, (hb.cell (p := ⟨_, _, none⟩) hz).trans h2, k0, k1, k2⟩
end Go.Proofs.Ytkplpmhdmlkjhaa

/- An argument that is a list of bars, opened. -/
namespace Go.Proofs.Ytkplpmhdmlkjhaa
open Go.ChangeShapes Go.WideShapes Go.ChangeAt Go.RowKit Go.Deep

variable {H : Type} {enc : TypeId × Value → H} {w : World} {spare : Nat → Bool} {held : Bool}
set_option maxRecDepth 100000 in
theorem bar_cells {n : Nat} {cs : List Value} {x : DataW H × List MemPlace} (h : DataW.trod enc Try.prog w 0 spare held n 50 cs = some x) : ∃ b : Ck.Bar, cs = bcells b := by
  obtain ⟨xs, m, _, _, hl, hx, hf⟩ := DataW.trod_struct Try.underlying50 h
  have hC : Try.prog.cellsOf 50 = 3 := by kernel_rfl
  have c3 : Try.prog.cellsOf 3 = 1 := by kernel_rfl
  rw [hC] at hl
  match cs, hl, xs, hx with
  | [c0, c1, c2], _, [x0, x1, x2], _ =>
    have h0 := hf 0 _ rfl
    have h1 := hf 1 _ rfl
    have h2 := hf 2 _ rfl
    simp [c3] at h0 h1 h2
    obtain ⟨n0, e0, _⟩ := DataW.trod_int Try.underlying3 h0
    obtain ⟨n1, e1, _⟩ := DataW.trod_int Try.underlying3 h1
    obtain ⟨n2, e2, _⟩ := DataW.trod_int Try.underlying3 h2
    simp only [List.cons.injEq, and_true] at e0 e1 e2
    exact ⟨⟨n0, n1, n2⟩, by rw [e0, e1, e2]; rfl⟩
set_option maxRecDepth 100000 in
/-- The argument is nil, or a slice that reads as bars. -/
theorem open_bars {v : Value} {d : DataW H} {p : List MemPlace} {r : Reach} {b0 : Nat} (hv : Value.okWide Try.prog w r b0 22 v) (h : DataW.Trod enc Try.prog w 0 spare held 22 v d p) (_ : ∀ x ∈ p, x.block < w.heap.size) :
    ∃ (A : Option Addr) (c : Nat) (l : List Ck.Bar), v = .slice A l.length c ∧ (A = none → c = 0) ∧ l.length ≤ c ∧ c ≤ maxLen ∧ RB w w.heap.size A l := by
  obtain ⟨a, len, cap, rfl⟩ := okWide_slice Try.underlying22 hv
  obtain ⟨fuel, hf⟩ := h
  have hC : Try.prog.cellsOf 50 = 3 := by kernel_rfl
  rcases open_slice Try.underlying22 hf with ⟨hcs, _⟩ | ⟨a', len', cap', m, n, D, Pl, hcs, hb, hl, hm, hmm, hx, hi⟩
  · simp [Value.cells] at hcs
    obtain ⟨rfl, rfl, rfl⟩ := hcs
    exact ⟨none, 0, [], rfl, fun _ => rfl, Nat.zero_le _, by unfold maxLen; omega, fun h => by simp at h⟩
  · simp [Value.cells] at hcs
    obtain ⟨rfl, rfl, rfl⟩ := hcs
    rw [hC] at hi hx
    have hle : len ≤ m := by rw [hmm]; split <;> omega
    have each : ∀ i, ∃ b : Ck.Bar, i < len → w.cell? (a'.add (i * 3)) = some (.int .i64 b.x) ∧ w.cell? ((a'.add (i * 3)).add 1) = some (.int .i64 b.y) ∧ w.cell? ((a'.add (i * 3)).add 2) = some (.int .i64 b.s) := fun i => by
      by_cases hi' : i < len
      · obtain ⟨cs', h1, h2⟩ := hi i (by omega)
        obtain ⟨b, rfl⟩ := bar_cells h2
        obtain ⟨_, _, h3⟩ := World.cells?_some h1
        exact ⟨b, fun _ => ⟨h3 0 (by omega), h3 1 (by omega), h3 2 (by omega)⟩⟩
      · exact ⟨⟨0, 0, 0⟩, fun h => absurd h hi'⟩
    obtain ⟨f, hf'⟩ := Classical.axiomOfChoice each
    have hlen : ((List.range len).map f).length = len := by simp
    refine ⟨some a', cap, (List.range len).map f, by rw [hlen], (fun h => by cases h), by rw [hlen]; exact hl, hm, fun hpos => ?_⟩
    rw [hlen] at hpos
    obtain ⟨blk, off, spot⟩ := a'
    have h0 := (hf' 0 hpos).1
    have hspot : spot = none := by
      cases spot with
      | none => rfl
      | some s =>
        simp [Addr.add, World.cell?] at h0
        split at h0 <;> simp at h0
    subst hspot
    have hadd : ∀ k, (⟨blk, off, none⟩ : Addr).add k = ⟨blk, off + k, none⟩ := fun k => by
      unfold Addr.add
      split
      · simp
      · rfl
    have hblk : blk < w.heap.size := by
      rw [hadd] at h0
      unfold World.cell? at h0
      cases hh : w.heap[blk]? with
      | none => simp [hh] at h0
      | some o => exact (Array.getElem?_eq_some_iff.1 hh).1
    refine ⟨blk, off, rfl, hblk, fun i hi' => ?_⟩
    rw [hlen] at hi'
    obtain ⟨k0, k1, k2⟩ := hf' i hi'
    rw [hadd] at k0 k1 k2
    have hadd2 : ∀ k j, (⟨blk, k, none⟩ : Addr).add j = ⟨blk, k + j, none⟩ := fun k j => by
      unfold Addr.add
      split
      · simp
      · rfl
    rw [hadd2] at k1 k2
    have hg : ((List.range len).map f)[i]'(by simpa using hi') = f i := by simp
    rw [hg]
    exact ⟨k0, k1, k2⟩
end Go.Proofs.Ytkplpmhdmlkjhaa

/- Contracts of the reference's small functions: ranges, knots, bars, the order of bars. Each for every argument that is an int of the language. -/
namespace Go.Proofs.Ytkplpmhdmlkjhaa
open Go.RowKit


set_option maxHeartbeats 400000 in
theorem refCheckRange (n lo hi : Int) (w : World) :
    Calls Try.prog 35 #[.int .i64 n, .int .i64 lo, .int .i64 hi] w fun e w' => e = .returned (.int .i64 (if n < lo ∨ hi < n then 3 else 0)) ∧ w = w' := by
  by_cases h1 : n < lo
  · go_enter Try.func35, Try.ntmps35
    go_wp2
    go_ret
    simp
  · by_cases h2 : hi < n
    all_goals
      go_enter Try.func35, Try.ntmps35
      go_wp2
      go_ret
      simp <;> omega

def farB (n : Int) : Bool := decide (n < -100000 ∨ 100000 < n)
set_option maxHeartbeats 400000 in
theorem refFar (n : Int) (w : World) :
    Calls Try.prog 36 #[.int .i64 n] w fun e w' => e = .returned (.bool (farB n)) ∧ w = w' := by
  by_cases h1 : n < -100000
  all_goals
    have hf : farB n = (decide (n < -100000) || decide (100000 < n)) := by simp [farB]
    have HF := Lib.hid hf
    clear hf
    go_enter Try.func36, Try.ntmps36
    go_wp2
    go_ret
    rw [HF.out]
    simp <;> omega

def evenB (x y : Int) : Bool := decide ((x + y) % 2 = 0)
set_option maxHeartbeats 400000 in
theorem refEven (x y : Int) (w : World) (h1 : -100000 ≤ x) (h2 : x ≤ 100000) (h3 : -100000 ≤ y) (h4 : y ≤ 100000) :
    Calls Try.prog 58 #[.int .i64 x, .int .i64 y] w fun e w' => e = .returned (.bool (evenB x y)) ∧ w = w' := by
  have hf : evenB x y = decide ((x + y) % 2 = 0) := rfl
  have HF := Lib.hid hf
  clear hf
  go_enter Try.func58, Try.ntmps58
  go_wp2
  go_ret
  refine ⟨?_, rfl⟩
  rw [HF.out]
  have h : ((x + y).tmod 2 == 0) = decide ((x + y) % 2 = 0) := by
    rw [Bool.eq_iff_iff]
    simp only [beq_iff_eq, decide_eq_true_eq]
    rw [← Int.dvd_iff_tmod_eq_zero, ← Int.dvd_iff_emod_eq_zero]
  exact congrArg (fun b => Ending.returned (.bool b)) h

def knotE (x y : Int) : Int := if farB x then 3 else if farB y then 3 else if evenB x y then 0 else 14
theorem farB_no {n : Int} (h : farB n = false) : -100000 ≤ n ∧ n ≤ 100000 := by simpa [farB] using h

set_option maxHeartbeats 400000 in
theorem refCheckKnot (x y : Int) (w : World) :
    Calls Try.prog 34 #[.agg #[.int .i64 x, .int .i64 y]] w fun e w' => e = .returned (.int .i64 (knotE x y)) ∧ Below w.heap.size w w' := by
  cases hx : farB x
  · cases hy : farB y
    · obtain ⟨h1, h2⟩ := farB_no hx
      obtain ⟨h3, h4⟩ := farB_no hy
      cases he : evenB x y
      all_goals
        have HK := Lib.hid (show knotE x y = _ by simp only [knotE, hx, hy, he]; rfl)
        have HX := Lib.hid hx
        have HY := Lib.hid hy
        have HE := Lib.hid he
        clear hx hy he
        go_enter Try.func34, Try.ntmps34
        go_wp2_with fail
        refine (refFar x _).mono ?_
        rintro e w' ⟨rfl, rfl⟩
        rw [HX.out]
        go_wp2_with fail
        refine (refFar y _).mono ?_
        rintro e w' ⟨rfl, rfl⟩
        rw [HY.out]
        go_wp2_with fail
        refine (refEven x y _ h1 h2 h3 h4).mono ?_
        rintro e w' ⟨rfl, rfl⟩
        rw [HE.out]
        go_wp2
        go_ret
        exact ⟨ret_i HK.out.symm, (Below.refl _ _).alloc (Nat.le_refl _) _⟩
    · have HK := Lib.hid (show knotE x y = 3 by simp [knotE, hx, hy])
      have HX := Lib.hid hx
      have HY := Lib.hid hy
      clear hx hy
      go_enter Try.func34, Try.ntmps34
      go_wp2_with fail
      refine (refFar x _).mono ?_
      rintro e w' ⟨rfl, rfl⟩
      rw [HX.out]
      go_wp2_with fail
      refine (refFar y _).mono ?_
      rintro e w' ⟨rfl, rfl⟩
      rw [HY.out]
      go_wp2
      go_ret
      exact ⟨ret_i HK.out.symm, (Below.refl _ _).alloc (Nat.le_refl _) _⟩
  · have HK := Lib.hid (show knotE x y = 3 by simp [knotE, hx])
    have HX := Lib.hid hx
    clear hx
    go_enter Try.func34, Try.ntmps34
    go_wp2_with fail
    refine (refFar x _).mono ?_
    rintro e w' ⟨rfl, rfl⟩
    rw [HX.out]
    go_wp2
    go_ret
    exact ⟨ret_i HK.out.symm, (Below.refl _ _).alloc (Nat.le_refl _) _⟩
end Go.Proofs.Ytkplpmhdmlkjhaa

/- Contracts of the reference's functions on bars: the ends, the error of a bar, the order of bars. -/
namespace Go.Proofs.Ytkplpmhdmlkjhaa
open Go.RowKit

set_option maxHeartbeats 400000 in
theorem refLower (x y s : Int) (w : World) :
    Calls Try.prog 61 #[.agg #[.int .i64 x, .int .i64 y, .int .i64 s]] w fun e w' => e = .returned (.agg #[.int .i64 x, .int .i64 y]) ∧ Below w.heap.size w w' := by
  go_enter Try.func61, Try.ntmps61
  go_wp2
  exact bodyPost_ret (v := .agg #[.int .i64 x, .int .i64 y]) (by simp [results, Try.results61, go_sem]) rfl ⟨rfl, (((Below.refl _ _).alloc (Nat.le_refl _) _).alloc (by simp) _)⟩

set_option maxHeartbeats 400000 in
theorem refUpper (x y s : Int) (w : World) (hx1 : -100000 ≤ x) (hx2 : x ≤ 100000) (hy1 : -100000 ≤ y) (hy2 : y ≤ 100000) (hs1 : -1 ≤ s) (hs2 : s ≤ 1) :
    Calls Try.prog 62 #[.agg #[.int .i64 x, .int .i64 y, .int .i64 s]] w fun e w' => e = .returned (.agg #[.int .i64 (x + s), .int .i64 (y + 1)]) ∧ Below w.heap.size w w' := by
  go_enter Try.func62, Try.ntmps62
  go_wp2
  exact bodyPost_ret (v := .agg #[.int .i64 (x + s), .int .i64 (y + 1)]) (by simp [results, Try.results62, go_sem]) rfl ⟨rfl, (((Below.refl _ _).alloc (Nat.le_refl _) _).alloc (by simp) _)⟩

def barE (x y s : Int) : Int := if knotE x y = 0 then (if s = 1 ∨ s = -1 then knotE (x + s) (y + 1) else 13) else knotE x y
theorem knotE_zero {x y : Int} (h : knotE x y = 0) : -100000 ≤ x ∧ x ≤ 100000 ∧ -100000 ≤ y ∧ y ≤ 100000 := by
  unfold knotE at h
  split at h
  · omega
  · rename_i h1
    split at h
    · omega
    · rename_i h2
      have a := farB_no (by simpa using h1)
      have b := farB_no (by simpa using h2)
      omega

set_option maxHeartbeats 400000 in
theorem refCheckBar (x y s : Int) (w : World) :
    Calls Try.prog 40 #[.agg #[.int .i64 x, .int .i64 y, .int .i64 s]] w fun e w' => e = .returned (.int .i64 (barE x y s)) ∧ Below w.heap.size w w' := by
  by_cases hk : knotE x y = 0
  · obtain ⟨h1, h2, h3, h4⟩ := knotE_zero hk
    by_cases hs : s = 1 ∨ s = -1
    · have HB := Lib.hid (show barE x y s = knotE (x + s) (y + 1) by simp [barE, hk, hs])
      have HK := Lib.hid hk
      clear hk
      rcases hs with rfl | rfl
      all_goals
        go_enter Try.func40, Try.ntmps40
        go_wp2_with fail
        refine (refLower x y _ _).mono ?_
        rintro e w1 ⟨rfl, hb1⟩
        obtain ⟨hc1, hf1⟩ := bcell hb1
        go_wp2_with fail
        refine (refCheckKnot x y _).mono ?_
        rintro e w2 ⟨rfl, hb2⟩
        obtain ⟨hc2, hf2⟩ := bcell hb2
        have hz : w.heap.size < w1.heap.size := by have := hb1.size; simp at this; omega
        rw [HK.out]
        go_wp2_with fail
        refine (refUpper _ _ _ _ h1 h2 h3 h4 (by decide) (by decide)).mono ?_
        rintro e w3 ⟨rfl, hb3⟩
        obtain ⟨hc3, hf3⟩ := bcell hb3
        go_wp2_with fail
        refine (refCheckKnot _ _ _).mono ?_
        rintro e w4 ⟨rfl, hb4⟩
        go_wp2
        go_ret
        exact ⟨ret_i HB.out.symm, (((((Below.refl _ _).alloc (Nat.le_refl _) _).trans (hb1.mono (by simp))).trans (hb2.mono (by omega))).trans (hb3.mono (by have := hb2.size; omega))).trans (hb4.mono (by have := hb2.size; have := hb3.size; omega))⟩
    · have hs1 : (s != 1) = true := by rw [bne_iff_ne]; omega
      have hs2 : (s != -1) = true := by rw [bne_iff_ne]; omega
      have HB := Lib.hid (show barE x y s = 13 by simp [barE, hk, hs])
      have HK := Lib.hid hk
      clear hk hs
      go_enter Try.func40, Try.ntmps40
      go_wp2_with fail
      refine (refLower x y _ _).mono ?_
      rintro e w1 ⟨rfl, hb1⟩
      obtain ⟨hc1, hf1⟩ := bcell hb1
      go_wp2_with fail
      refine (refCheckKnot x y _).mono ?_
      rintro e w2 ⟨rfl, hb2⟩
      obtain ⟨hc2, hf2⟩ := bcell hb2
      have hz : w.heap.size < w1.heap.size := by have := hb1.size; simp at this; omega
      rw [HK.out]
      go_wp2
      go_ret
      exact ⟨ret_i HB.out.symm, ((((Below.refl _ _).alloc (Nat.le_refl _) _).trans (hb1.mono (by simp))).trans (hb2.mono (by omega)))⟩
  · have hk1 : (knotE x y == 0) = false := by simpa using hk
    have HB := Lib.hid (show barE x y s = knotE x y by simp [barE, hk])
    clear hk
    go_enter Try.func40, Try.ntmps40
    go_wp2_with fail
    refine (refLower x y _ _).mono ?_
    rintro e w1 ⟨rfl, hb1⟩
    obtain ⟨hc1, hf1⟩ := bcell hb1
    go_wp2_with fail
    refine (refCheckKnot x y _).mono ?_
    rintro e w2 ⟨rfl, hb2⟩
    obtain ⟨hc2, hf2⟩ := bcell hb2
    have hz : w.heap.size < w1.heap.size := by have := hb1.size; simp at this; omega
    go_wp2
    go_ret
    exact ⟨ret_i HB.out.symm, ((((Below.refl _ _).alloc (Nat.le_refl _) _).trans (hb1.mono (by simp))).trans (hb2.mono (by omega)))⟩
end Go.Proofs.Ytkplpmhdmlkjhaa

/- Contracts of the reference's order of bars and of its check of a net. -/
namespace Go.Proofs.Ytkplpmhdmlkjhaa
open Go.RowKit

def lessB (x y s x' y' s' : Int) : Bool := if y = y' then (if x = x' then decide (s < s') else decide (x < x')) else decide (y < y')

set_option maxHeartbeats 400000 in
theorem refLess (x y s x' y' s' : Int) (w : World) :
    Calls Try.prog 41 #[.agg #[.int .i64 x, .int .i64 y, .int .i64 s], .agg #[.int .i64 x', .int .i64 y', .int .i64 s']] w fun e w' => e = .returned (.bool (lessB x y s x' y' s')) ∧ Below w.heap.size w w' := by
  by_cases hy : y = y'
  · subst hy
    by_cases hx : x = x'
    · subst hx
      have HB := Lib.hid (show lessB x y s x y s' = decide (s < s') by simp [lessB])
      go_enter Try.func41, Try.ntmps41
      go_wp2
      go_ret
      exact ⟨ret_b HB.out.symm, (((Below.refl _ _).alloc (Nat.le_refl _) _).alloc (by simp) _)⟩
    · have h1 : (x != x') = true := by rw [bne_iff_ne]; exact hx
      have HB := Lib.hid (show lessB x y s x' y s' = decide (x < x') by simp [lessB, hx])
      clear hx
      go_enter Try.func41, Try.ntmps41
      go_wp2
      go_ret
      exact ⟨ret_b HB.out.symm, (((Below.refl _ _).alloc (Nat.le_refl _) _).alloc (by simp) _)⟩
  · have h1 : (y != y') = true := by rw [bne_iff_ne]; exact hy
    have HB := Lib.hid (show lessB x y s x' y' s' = decide (y < y') by simp [lessB, hy])
    clear hy
    go_enter Try.func41, Try.ntmps41
    go_wp2
    go_ret
    exact ⟨ret_b HB.out.symm, (((Below.refl _ _).alloc (Nat.le_refl _) _).alloc (by simp) _)⟩

def netFrom : Option Ck.Bar → List Ck.Bar → Int
  | _, [] => 0
  | none, b :: r => if barE b.x b.y b.s = 0 then netFrom (some b) r else barE b.x b.y b.s
  | some p, b :: r => if barE b.x b.y b.s = 0 then (if lessB p.x p.y p.s b.x b.y b.s then netFrom (some b) r else 11) else barE b.x b.y b.s
def prevAt (l : List Ck.Bar) : Nat → Option Ck.Bar
  | 0 => none
  | k + 1 => l[k]?
def netE (l : List Ck.Bar) : Int := if 4096 < l.length then 5 else netFrom none l

theorem netFrom_bad {l : List Ck.Bar} {k : Nat} (hk : k < l.length) (h : ¬ barE l[k].x l[k].y l[k].s = 0) : netFrom (prevAt l k) (l.drop k) = barE l[k].x l[k].y l[k].s := by
  rw [List.drop_eq_getElem_cons hk]
  cases prevAt l k <;> simp [netFrom, h]
theorem netFrom_step0 {l : List Ck.Bar} (hk : 0 < l.length) (h : barE l[0].x l[0].y l[0].s = 0) : netFrom (prevAt l 0) (l.drop 0) = netFrom (prevAt l 1) (l.drop 1) := by
  rw [List.drop_eq_getElem_cons hk]
  simp [prevAt, netFrom, h, List.getElem?_eq_getElem hk]
theorem netFrom_step {l : List Ck.Bar} {k : Nat} (hk : k + 1 < l.length) (h : barE l[k+1].x l[k+1].y l[k+1].s = 0) (h2 : lessB l[k].x l[k].y l[k].s l[k+1].x l[k+1].y l[k+1].s = true) : netFrom (prevAt l (k + 1)) (l.drop (k + 1)) = netFrom (prevAt l (k + 1 + 1)) (l.drop (k + 1 + 1)) := by
  rw [List.drop_eq_getElem_cons hk]
  simp only [prevAt, List.getElem?_eq_getElem hk, List.getElem?_eq_getElem (Nat.lt_of_succ_lt hk), netFrom, h, h2, if_true]
theorem netFrom_stop {l : List Ck.Bar} {k : Nat} (hk : k + 1 < l.length) (h : barE l[k+1].x l[k+1].y l[k+1].s = 0) (h2 : lessB l[k].x l[k].y l[k].s l[k+1].x l[k+1].y l[k+1].s = false) : netFrom (prevAt l (k + 1)) (l.drop (k + 1)) = 11 := by
  rw [List.drop_eq_getElem_cons hk]
  simp only [prevAt, List.getElem?_eq_getElem (Nat.lt_of_succ_lt hk), netFrom, h, h2, if_true]
  rfl
theorem netFrom_end (l : List Ck.Bar) : netFrom (prevAt l l.length) (l.drop l.length) = 0 := by
  rw [List.drop_length]
  cases prevAt l l.length <;> rfl

set_option maxHeartbeats 1000000 in
set_option maxRecDepth 100000 in
theorem refCheckNet (A : Option Addr) (c : Nat) (l : List Ck.Bar) (w : World) (hl : l.length ≤ 4096) (h : RB w w.heap.size A l) :
    Calls Try.prog 15 #[.slice A l.length c] w fun e w' => e = .returned (.int .i64 (netE l)) ∧ Below w.heap.size w w' := by
  have HE := Lib.hid (show netE l = netFrom (prevAt l 0) (l.drop 0) by simp [netE, prevAt]; omega)
  have hl' : (l.length : Int) ≤ 4096 := by omega
  go_enter Try.func15, Try.ntmps15
  go_wp2_with fail
  go_loopw [3, 4] (fun i _ wr => ∃ k : Nat, k ≤ l.length ∧ i = .int .i64 k ∧ netE l = netFrom (prevAt l k) (l.drop k) ∧ Below w.heap.size w wr) (fun i _ _ => l.length - (intOf i).toNat)
  case atStart => exact ⟨0, Nat.zero_le _, rfl, HE.out, Below.refl _ _⟩
  case round =>
    obtain ⟨k, hk, rfl, he, hb⟩ := hrel
    have HE2 := Lib.hid he
    clear he
    by_cases hlt : k < l.length
    · have h' := h.below hb
      obtain ⟨b, off, rfl, hB, hc⟩ := h' (by omega)
      have HC := Lib.hid hc
      obtain ⟨c0, c1, c2⟩ := hc k hlt
      clear hc h' h
      by_cases hbad : barE l[k].x l[k].y l[k].s = 0
      · by_cases hk0 : k = 0
        · have hg1 : decide (0 < k) = false := by simp [hk0]
          have hg2 : decide ((0 : Int) < (k : Int)) = false := by simp [hk0]
          have HF := Lib.hid (show netFrom (prevAt l k) (l.drop k) = netFrom (prevAt l (k + 1)) (l.drop (k + 1)) by
            subst hk0
            exact netFrom_step0 hlt hbad)
          have HBE := Lib.hid hbad
          clear hbad hk0
          go_wp2_with fail
          refine (refCheckBar _ _ _ _).mono ?_
          rintro e w1 ⟨rfl, hb2⟩
          rw [HBE.out]
          go_wp2_with fail
          go_quiet (fail)
          go_wp2
          go_roundw
          case rel => exact ⟨k + 1, by omega, by go_num, HE2.out.trans HF.out, hb.trans (below_drewN (hb2.mono hb.size) _)⟩
          case measure => simp [intOf]; omega
        · obtain ⟨j, rfl⟩ : ∃ j, k = j + 1 := ⟨k - 1, by omega⟩
          obtain ⟨d0, d1, d2⟩ := HC.out j (by omega)
          have hg1 : decide (0 < j + 1) = true := by simp
          have hg2 : decide ((0 : Int) < ((j + 1 : Nat) : Int)) = true := by simp
          have HBE := Lib.hid hbad
          clear hbad hk0
          cases hl2 : lessB l[j].x l[j].y l[j].s l[j+1].x l[j+1].y l[j+1].s
          · have HF := Lib.hid (netFrom_stop hlt HBE.out hl2)
            have HL := Lib.hid hl2
            clear hl2
            go_wp2_with fail
            refine (refCheckBar _ _ _ _).mono ?_
            rintro e w1 ⟨rfl, hb2⟩
            rw [HBE.out]
            obtain ⟨hc1, hf1⟩ := bcell hb2
            have hz := hb.size
            have hz1 : b < wr.heap.size := by omega
            go_wp2_with fail
            have hw1 : IntKind.i64.wrap (j : Int) = (j : Int) := by rw [IntKind.wrap_i64]; omega
            have hw2 : j < l.length := by omega
            have hw4 : IntKind.i64.wrap ((j : Int) + 1) = (j : Int) + 1 := by rw [IntKind.wrap_i64]; omega
            have hw5 : 0 ≤ (j : Int) + 1 := by omega
            have hw3 : ((j : Int) + 1).toNat = j + 1 := by omega
            refine wp_region_still_tail 12 (by kernel_rfl) (by kernel_rfl) ?_
            simp only [List.take_succ_cons, List.take_zero, List.drop_succ_cons, List.drop_zero]
            repeat still_step
            refine wpStill_nil ?_
            change wpList _ _ _ _ _ w1.drew
            clear hw1 hw2 hw4 hw5 hw3
            go_wp2_with fail
            refine (refLess _ _ _ _ _ _ _).mono ?_
            rintro e w2 ⟨rfl, hb3⟩
            rw [HL.out]
            go_wp2
            go_ret
            exact ⟨ret_i (HE2.out.trans HF.out).symm, (below_drew (hb.trans (hb2.mono hz))).trans (hb3.mono (by have := hb2.size; show w.heap.size ≤ w1.heap.size; omega))⟩
          · have HF := Lib.hid (netFrom_step hlt HBE.out hl2)
            have HL := Lib.hid hl2
            clear hl2
            go_wp2_with fail
            refine (refCheckBar _ _ _ _).mono ?_
            rintro e w1 ⟨rfl, hb2⟩
            rw [HBE.out]
            obtain ⟨hc1, hf1⟩ := bcell hb2
            have hz := hb.size
            have hz1 : b < wr.heap.size := by omega
            go_wp2_with fail
            have hw1 : IntKind.i64.wrap (j : Int) = (j : Int) := by rw [IntKind.wrap_i64]; omega
            have hw2 : j < l.length := by omega
            have hw4 : IntKind.i64.wrap ((j : Int) + 1) = (j : Int) + 1 := by rw [IntKind.wrap_i64]; omega
            have hw5 : 0 ≤ (j : Int) + 1 := by omega
            have hw3 : ((j : Int) + 1).toNat = j + 1 := by omega
            refine wp_region_still_tail 12 (by kernel_rfl) (by kernel_rfl) ?_
            simp only [List.take_succ_cons, List.take_zero, List.drop_succ_cons, List.drop_zero]
            repeat still_step
            refine wpStill_nil ?_
            change wpList _ _ _ _ _ w1.drew
            clear hw1 hw2 hw4 hw5 hw3
            go_wp2_with fail
            refine (refLess _ _ _ _ _ _ _).mono ?_
            rintro e w2 ⟨rfl, hb3⟩
            rw [HL.out]
            go_wp2
            go_roundw
            case rel => exact ⟨j + 1 + 1, by omega, by go_num, HE2.out.trans HF.out, (below_drew (hb.trans (hb2.mono hz))).trans (hb3.mono (by have := hb2.size; show w.heap.size ≤ w1.heap.size; omega))⟩
            case measure => simp [intOf]; omega
      · have hb1 : (barE l[k].x l[k].y l[k].s != 0) = true := by rw [bne_iff_ne]; exact hbad
        have HF := Lib.hid (netFrom_bad hlt hbad)
        clear hbad
        generalize hbe : barE l[k].x l[k].y l[k].s = be at *
        have HBE := Lib.hid hbe
        clear hbe
        go_wp2_with fail
        refine (refCheckBar _ _ _ _).mono ?_
        rintro e w1 ⟨rfl, hb2⟩
        rw [HBE.out]
        go_wp2
        go_ret
        exact ⟨ret_i (HE2.out.trans HF.out).symm, hb.trans (hb2.mono hb.size)⟩
    · obtain rfl : k = l.length := by omega
      have HF := Lib.hid (netFrom_end l)
      go_wp2
      go_ret
      exact ⟨ret_i (HE2.out.trans HF.out).symm, hb⟩
end Go.Proofs.Ytkplpmhdmlkjhaa

/- Contracts of the program's small functions of netting: ranges, the first error, knots, sides, ends. -/
namespace Go.Proofs.Ytkplpmhdmlkjhaa
open Go.RowKit

set_option maxHeartbeats 400000 in
theorem netCheckRange (n lo hi : Int) (w : World) :
    Calls Try.prog 37 #[.int .i64 n, .int .i64 lo, .int .i64 hi] w fun e w' => e = .returned (.int .i64 (if n < lo ∨ hi < n then 3 else 0)) ∧ w = w' := by
  by_cases h1 : n < lo
  · go_enter Try.func37, Try.ntmps37
    go_wp2
    go_ret
    simp
  · by_cases h2 : hi < n
    all_goals
      go_enter Try.func37, Try.ntmps37
      go_wp2
      go_ret
      simp <;> omega

def placeE (n : Int) : Int := if farB n then 3 else 0
theorem placeE_eq (n : Int) : (if n < -100000 ∨ 100000 < n then 3 else 0) = placeE n := by simp [placeE, farB]
set_option maxHeartbeats 400000 in
theorem netCheckPlace (n : Int) (w : World) :
    Calls Try.prog 38 #[.int .i64 n] w fun e w' => e = .returned (.int .i64 (placeE n)) ∧ w = w' := by
  go_enter Try.func38, Try.ntmps38
  go_wp2_with fail
  refine (netCheckRange _ _ _ _).mono ?_
  rintro e w' ⟨rfl, rfl⟩
  rw [placeE_eq]
  go_wp2
  go_ret
  exact ⟨rfl, rfl⟩

def sideE (s : Int) : Int := if s = 1 ∨ s = -1 then 0 else 13
set_option maxHeartbeats 400000 in
theorem netCheckSide (s : Int) (w : World) :
    Calls Try.prog 66 #[.int .i64 s] w fun e w' => e = .returned (.int .i64 (sideE s)) ∧ w = w' := by
  by_cases h : s = 1 ∨ s = -1
  · rcases h with rfl | rfl
    all_goals
      go_enter Try.func66, Try.ntmps66
      go_wp2
      go_ret
      exact ⟨rfl, rfl⟩
  · have h1 : (s != 1) = true := by rw [bne_iff_ne]; omega
    have h2 : (s != -1) = true := by rw [bne_iff_ne]; omega
    have HS := Lib.hid (show sideE s = 13 by simp [sideE, h])
    clear h
    go_enter Try.func66, Try.ntmps66
    go_wp2
    go_ret
    exact ⟨ret_i HS.out.symm, rfl⟩

def firstE : List Int → Int
  | [] => 0
  | e :: r => if e = 0 then firstE r else e
set_option maxHeartbeats 400000 in
theorem netFirst (b c : Nat) (es : List Int) (w : World) (hn : es.length ≤ 100) (hc : ∀ i (h : i < es.length), w.cell? ⟨b, i, none⟩ = some (.int .i64 es[i])) :
    Calls Try.prog 22 #[.slice (some ⟨b, 0, none⟩) es.length c] w fun e w' => e = .returned (.int .i64 (firstE es)) ∧ w = w' := by
  have HC := Lib.hid hc
  have hn' : (es.length : Int) ≤ 100 := by omega
  clear hc
  go_enter Try.func22, Try.ntmps22
  go_wp2_with fail
  go_loop [4, 7] (fun _ i => ∃ k : Nat, k ≤ es.length ∧ i = .int .i64 k ∧ firstE es = firstE (es.drop k)) (fun _ i => es.length - (intOf i).toNat)
  case atStart => exact ⟨0, Nat.zero_le _, rfl, rfl⟩
  case round =>
    obtain ⟨k, hk, rfl, he⟩ := hrel
    have HE := Lib.hid he
    clear he
    by_cases hlt : k < es.length
    · have hcell := HC.out k hlt
      by_cases hz : es[k] = 0
      · have HF := Lib.hid (show firstE (es.drop k) = firstE (es.drop (k + 1)) by
          rw [List.drop_eq_getElem_cons hlt]
          simp only [firstE, hz, if_true])
        rw [hz] at hcell
        clear hz
        go_wp2
        go_round
        case rel => exact ⟨k + 1, by omega, by go_num, HE.out.trans HF.out⟩
        case measure => simp [intOf]; omega
      · have HF := Lib.hid (show firstE (es.drop k) = es[k] by
          rw [List.drop_eq_getElem_cons hlt]
          simp only [firstE, if_neg hz])
        have hz1 : (es[k] != 0) = true := by rw [bne_iff_ne]; exact hz
        clear hz
        go_wp2
        go_ret
        exact ⟨ret_i (HE.out.trans HF.out).symm, rfl⟩
    · obtain rfl : k = es.length := by omega
      have HF := Lib.hid (show firstE (es.drop es.length) = 0 by rw [List.drop_length]; rfl)
      go_wp2
      go_ret
      exact ⟨ret_i (HE.out.trans HF.out).symm, rfl⟩

set_option maxHeartbeats 400000 in
theorem netLower (x y s : Int) (w : World) :
    Calls Try.prog 64 #[.agg #[.int .i64 x, .int .i64 y, .int .i64 s]] w fun e w' => e = .returned (.agg #[.int .i64 x, .int .i64 y]) ∧ Below w.heap.size w w' := by
  go_enter Try.func64, Try.ntmps64
  go_wp2
  exact bodyPost_ret (v := .agg #[.int .i64 x, .int .i64 y]) (by simp [results, Try.results64, go_sem]) rfl ⟨rfl, (((Below.refl _ _).alloc (Nat.le_refl _) _).alloc (by simp) _)⟩

set_option maxHeartbeats 400000 in
theorem netUpper (x y s : Int) (w : World) (hx1 : -100000 ≤ x) (hx2 : x ≤ 100000) (hy1 : -100000 ≤ y) (hy2 : y ≤ 100000) (hs1 : -1 ≤ s) (hs2 : s ≤ 1) :
    Calls Try.prog 67 #[.agg #[.int .i64 x, .int .i64 y, .int .i64 s]] w fun e w' => e = .returned (.agg #[.int .i64 (x + s), .int .i64 (y + 1)]) ∧ Below w.heap.size w w' := by
  go_enter Try.func67, Try.ntmps67
  go_wp2
  exact bodyPost_ret (v := .agg #[.int .i64 (x + s), .int .i64 (y + 1)]) (by simp [results, Try.results67, go_sem]) rfl ⟨rfl, (((Below.refl _ _).alloc (Nat.le_refl _) _).alloc (by simp) _)⟩
end Go.Proofs.Ytkplpmhdmlkjhaa

/- Contracts of the program's CheckKnot and CheckBar. -/
namespace Go.Proofs.Ytkplpmhdmlkjhaa
open Go.RowKit

theorem tmod2 (n : Int) : (n.tmod 2 != 0) = !decide (n % 2 = 0) := by
  rw [Bool.eq_iff_iff]
  simp only [bne_iff_ne, ne_eq, Bool.not_eq_true', decide_eq_false_iff_not]
  rw [← Int.dvd_iff_tmod_eq_zero, ← Int.dvd_iff_emod_eq_zero]
theorem firstE_one {a : Int} (h : ¬ a = 0) (b : Int) : firstE [a, b] = a := by simp [firstE, h]
theorem firstE_two (b : Int) : firstE [0, b] = b := by unfold firstE firstE firstE; split <;> simp_all
theorem two_cells {w : World} {g : Nat} {a b : Int} {t : TypeId} (h : w.heap[g]? = some (.cells #[.int .i64 a, .int .i64 b] t (0, 0))) : ∀ i (hi : i < [a, b].length), w.cell? ⟨g, i, none⟩ = some (.int .i64 [a, b][i]) := by
  intro i hi
  have hi' : i = 0 ∨ i = 1 := by simp at hi; omega
  rcases hi' with rfl | rfl <;> simp [World.cell?, h]

theorem netFirst2 (g c : Nat) (a b : Int) (t : TypeId) (w : World) (h : w.heap[g]? = some (.cells #[.int .i64 a, .int .i64 b] t (0, 0))) :
    Calls Try.prog 22 #[.slice (some ⟨g, 0, none⟩) 2 c] w fun e w' => e = .returned (.int .i64 (firstE [a, b])) ∧ w = w' :=
  netFirst g c [a, b] w (by simp) (two_cells h)
def sumE (x y : Int) : Int := firstE [placeE x, placeE y]
theorem sumE_bad {x y : Int} (h : ¬ (farB x = false ∧ farB y = false)) : sumE x y = 3 ∧ knotE x y = 3 := by
  cases hx : farB x <;> cases hy : farB y <;> simp_all [sumE, knotE, placeE, firstE]
theorem sumE_ok {x y : Int} (hx : farB x = false) (hy : farB y = false) : sumE x y = 0 := by simp [sumE, placeE, firstE, hx, hy]

set_option maxHeartbeats 1000000 in
set_option maxRecDepth 100000 in
theorem netCheckKnot (x y : Int) (w : World) :
    Calls Try.prog 24 #[.agg #[.int .i64 x, .int .i64 y]] w fun e w' => e = .returned (.int .i64 (knotE x y)) ∧ Below w.heap.size w w' := by
  by_cases hg : farB x = false ∧ farB y = false
  · obtain ⟨hx, hy⟩ := hg
    obtain ⟨h1, h2⟩ := farB_no hx
    obtain ⟨h3, h4⟩ := farB_no hy
    have HS := Lib.hid (sumE_ok hx hy)
    cases he : evenB x y
    all_goals
      have ht := tmod2 (x + y)
      have he' : decide ((x + y) % 2 = 0) = _ := he
      rw [he'] at ht
      have HK := Lib.hid (show knotE x y = _ by simp only [knotE, hx, hy, he]; rfl)
      clear hx hy he he'
      go_enter Try.func24, Try.ntmps24
      go_wp2_with fail
      obtain ⟨w1, hw1, c0, c1, hb1, hz1⟩ := box2 w (.int .i64 x) (.int .i64 y) 30
      rw [← hw1]
      clear hw1
      refine wp_region_still_tail 6 (by kernel_rfl) (by kernel_rfl) ?_
      simp only [List.take_succ_cons, List.take_zero, List.drop_succ_cons, List.drop_zero]
      still_step
      still_step
      still_call (Calls.mono (netCheckPlace _ _) fun _ _ h => ⟨h.1, h.2.symm⟩)
      still_step
      still_step
      still_call (Calls.mono (netCheckPlace _ _) fun _ _ h => ⟨h.1, h.2.symm⟩)
      refine wpStill_nil ?_
      change wpList _ _ _ _ _ w1.drew
      go_wp2_with fail
      refine (netFirst2 _ _ (placeE x) (placeE y) 25 _ (by exact heap_alloc_new _ _)).mono ?_
      rintro e w2 ⟨rfl, rfl⟩
      rw [show firstE [placeE x, placeE y] = 0 from HS.out]
      go_wp2
      go_ret
      exact ⟨ret_i HK.out.symm, (below_drew hb1).alloc (by show _ ≤ w1.heap.size; omega) _⟩
  · obtain ⟨hs, hk⟩ := sumE_bad hg
    have HS := Lib.hid hs
    have HK := Lib.hid hk
    clear hs hk hg
    go_enter Try.func24, Try.ntmps24
    go_wp2_with fail
    obtain ⟨w1, hw1, c0, c1, hb1, hz1⟩ := box2 w (.int .i64 x) (.int .i64 y) 30
    rw [← hw1]
    clear hw1
    refine wp_region_still_tail 6 (by kernel_rfl) (by kernel_rfl) ?_
    simp only [List.take_succ_cons, List.take_zero, List.drop_succ_cons, List.drop_zero]
    still_step
    still_step
    still_call (Calls.mono (netCheckPlace _ _) fun _ _ h => ⟨h.1, h.2.symm⟩)
    still_step
    still_step
    still_call (Calls.mono (netCheckPlace _ _) fun _ _ h => ⟨h.1, h.2.symm⟩)
    refine wpStill_nil ?_
    change wpList _ _ _ _ _ w1.drew
    go_wp2_with fail
    refine (netFirst2 _ _ (placeE x) (placeE y) 25 _ (by exact heap_alloc_new _ _)).mono ?_
    rintro e w2 ⟨rfl, rfl⟩
    rw [show firstE [placeE x, placeE y] = 3 from HS.out]
    go_wp2
    go_ret
    exact ⟨ret_i HK.out.symm, (below_drew hb1).alloc (by show _ ≤ w1.heap.size; omega) _⟩
end Go.Proofs.Ytkplpmhdmlkjhaa

/- The contract of the program's CheckBar. -/
namespace Go.Proofs.Ytkplpmhdmlkjhaa
open Go.RowKit

theorem keep3 {W w1 w2 : World} {g : Nat} {x y s : Value} (h : w1.cell? ⟨g, 0, none⟩ = some x ∧ w1.cell? ⟨g, 1, none⟩ = some y ∧ w1.cell? ⟨g, 2, none⟩ = some s ∧ Below g W w1 ∧ g < w1.heap.size) (hb : Below w1.heap.size w1 w2) :
    w2.cell? ⟨g, 0, none⟩ = some x ∧ w2.cell? ⟨g, 1, none⟩ = some y ∧ w2.cell? ⟨g, 2, none⟩ = some s ∧ Below g W w2 ∧ g < w2.heap.size := by
  obtain ⟨h0, h1, h2, h3, h4⟩ := h
  exact ⟨(hb.cell (p := ⟨g, 0, none⟩) h4).trans h0, (hb.cell (p := ⟨g, 1, none⟩) h4).trans h1, (hb.cell (p := ⟨g, 2, none⟩) h4).trans h2, h3.trans (hb.mono (by omega)), by have := hb.size; omega⟩

theorem knotX (u v : Value) (w : World) : (Instr.field 30 (.agg #[u, v]) 0).run Try.prog w = .ok u w := by kernel_rfl
theorem knotY (u v : Value) (w : World) : (Instr.field 30 (.agg #[u, v]) 1).run Try.prog w = .ok v w := by kernel_rfl

theorem barE_ok {x y s : Int} (hk : knotE x y = 0) (hs : s = 1 ∨ s = -1) : firstE [placeE (x + s), placeE (y + 1)] = barE x y s := by
  have hp : (x + y) % 2 = 0 := by
    unfold knotE at hk
    split at hk
    · omega
    · split at hk
      · omega
      · split at hk
        · rename_i h; simpa [evenB] using h
        · omega
  have he : evenB (x + s) (y + 1) = true := by simp only [evenB, decide_eq_true_eq]; omega
  simp only [barE, if_true, if_pos hs, knotE, he]
  have hk' := hk
  simp only [knotE] at hk'
  simp only [hk', ite_true]
  unfold placeE firstE firstE
  cases farB (x + s) <;> cases farB (y + 1) <;> simp [firstE]

set_option maxHeartbeats 4000000 in
set_option maxRecDepth 100000 in
theorem netCheckBar (x y s : Int) (w : World) :
    Calls Try.prog 45 #[.agg #[.int .i64 x, .int .i64 y, .int .i64 s]] w fun e w' => e = .returned (.int .i64 (barE x y s)) ∧ Below w.heap.size w w' := by
  by_cases hg : knotE x y = 0 ∧ (s = 1 ∨ s = -1)
  · obtain ⟨hk, hs⟩ := hg
    obtain ⟨h1, h2, h3, h4⟩ := knotE_zero hk
    have HF := Lib.hid (show firstE [knotE x y, sideE s] = 0 by simp [firstE, hk, sideE, hs])
    have HB := Lib.hid (barE_ok hk hs)
    have h5 : -1 ≤ s := by omega
    have h6 : s ≤ 1 := by omega
    clear hk hs
    have fx := knotX
    have fy := knotY
    go_enter Try.func45, Try.ntmps45
    go_wp2_with fail
    obtain ⟨w1, hw1, c0, c1, c2, hb1, hz1⟩ := box3 w (.int .i64 x) (.int .i64 y) (.int .i64 s) 50
    rw [← hw1]
    clear hw1
    go_region_held3 (fun w' => w'.cell? ⟨w.heap.size, 0, none⟩ = some (.int .i64 x) ∧ w'.cell? ⟨w.heap.size, 1, none⟩ = some (.int .i64 y) ∧ w'.cell? ⟨w.heap.size, 2, none⟩ = some (.int .i64 s) ∧ Below w.heap.size w w' ∧ w.heap.size < w'.heap.size)
      (first | exact ⟨c0, c1, c2, below_drew hb1, hz1⟩ | exact keep3 (by assumption) (by assumption) | exact keep3 (by assumption) ((Below.refl _ _).alloc (Nat.le_refl _) _) | assumption | (refine ⟨?_, ?_, ?_, ?_, ?_⟩ <;> first | assumption | (simp at *; omega)) | exact keep3 (by assumption) (below_drew (Below.refl _ _)) | go_keep)
      (first
        | (go_at_call 64; refine (netLower _ _ _ _).mono ?_; rintro e w' ⟨rfl, hb⟩)
        | (go_at_call 24; refine (netCheckKnot _ _ _).mono ?_; rintro e w' ⟨rfl, hb⟩)
        | (go_at_call 66; refine (netCheckSide _ _).mono ?_; rintro e w' ⟨rfl, rfl⟩)
        | (go_at_call 22; refine (netFirst2 _ _ (knotE x y) (sideE s) 25 _ (by exact heap_alloc_new _ _)).mono ?_; rintro e w' ⟨rfl, rfl⟩))
    rw [HF.out]
    go_wp2_with fail
    go_region_held3 (fun w' => w'.cell? ⟨w.heap.size, 0, none⟩ = some (.int .i64 x) ∧ w'.cell? ⟨w.heap.size, 1, none⟩ = some (.int .i64 y) ∧ w'.cell? ⟨w.heap.size, 2, none⟩ = some (.int .i64 s) ∧ Below w.heap.size w w' ∧ w.heap.size < w'.heap.size)
      (first | exact ⟨c0, c1, c2, below_drew hb1, hz1⟩ | exact keep3 (by assumption) (by assumption) | exact keep3 (by assumption) ((Below.refl _ _).alloc (Nat.le_refl _) _) | assumption | (refine ⟨?_, ?_, ?_, ?_, ?_⟩ <;> first | assumption | (simp at *; omega)) | exact keep3 (by assumption) (below_drew (Below.refl _ _)) | go_keep)
      (first
        | (go_at_call 67; refine (netUpper _ _ _ _ h1 h2 h3 h4 h5 h6).mono ?_; rintro e w' ⟨rfl, hb⟩)
        | (go_at_call 38; refine (netCheckPlace _ _).mono ?_; rintro e w' ⟨rfl, rfl⟩)
        | (go_at_call 22; refine (netFirst2 _ _ (placeE (x + s)) (placeE (y + 1)) 25 _ (by exact heap_alloc_new _ _)).mono ?_; rintro e w' ⟨rfl, rfl⟩))
    all_goals
      rw [HB.out]
      go_wp2
      go_ret
      exact ⟨rfl, by first | (simp_all; done) | assumption⟩
  · have hf : ¬ firstE [knotE x y, sideE s] = 0 := by
      simp only [firstE, sideE]
      split
      · rename_i h
        simp [h] at hg
        simp [hg]
      · assumption
    have hf1 : (firstE [knotE x y, sideE s] != 0) = true := by rw [bne_iff_ne]; exact hf
    have HB := Lib.hid (show firstE [knotE x y, sideE s] = barE x y s by
      simp only [firstE, sideE, barE]
      split
      · rename_i h
        simp [h] at hg
        simp [hg]
      · rfl)
    clear hg hf
    go_enter Try.func45, Try.ntmps45
    go_wp2_with fail
    obtain ⟨w1, hw1, c0, c1, c2, hb1, hz1⟩ := box3 w (.int .i64 x) (.int .i64 y) (.int .i64 s) 50
    rw [← hw1]
    clear hw1
    go_region_held3 (fun w' => w'.cell? ⟨w.heap.size, 0, none⟩ = some (.int .i64 x) ∧ w'.cell? ⟨w.heap.size, 1, none⟩ = some (.int .i64 y) ∧ w'.cell? ⟨w.heap.size, 2, none⟩ = some (.int .i64 s) ∧ Below w.heap.size w w' ∧ w.heap.size < w'.heap.size)
      (first | exact ⟨c0, c1, c2, below_drew hb1, hz1⟩ | exact keep3 (by assumption) (by assumption) | exact keep3 (by assumption) ((Below.refl _ _).alloc (Nat.le_refl _) _) | assumption | (refine ⟨?_, ?_, ?_, ?_, ?_⟩ <;> first | assumption | (simp at *; omega)) | exact keep3 (by assumption) (below_drew (Below.refl _ _)) | go_keep)
      (first
        | (go_at_call 64; refine (netLower _ _ _ _).mono ?_; rintro e w' ⟨rfl, hb⟩)
        | (go_at_call 24; refine (netCheckKnot _ _ _).mono ?_; rintro e w' ⟨rfl, hb⟩)
        | (go_at_call 66; refine (netCheckSide _ _).mono ?_; rintro e w' ⟨rfl, rfl⟩)
        | (go_at_call 22; refine (netFirst2 _ _ (knotE x y) (sideE s) 25 _ (by exact heap_alloc_new _ _)).mono ?_; rintro e w' ⟨rfl, rfl⟩))
    go_wp2
    go_ret
    exact ⟨ret_i HB.out, by first | (simp_all; done) | assumption⟩
end Go.Proofs.Ytkplpmhdmlkjhaa

/- Contracts of the order of bars in the program: cmp.Compare, cmp.Or, compareBars, checkOrder. -/
namespace Go.Proofs.Ytkplpmhdmlkjhaa
open Go.RowKit

def cmpE (a b : Int) : Int := if a < b then -1 else if b < a then 1 else 0

set_option maxHeartbeats 400000 in
theorem cmpIsNaN (a : Int) (w : World) :
    Calls Try.prog 74 #[.int .i64 a] w fun e w' => e = .returned (.bool false) ∧ w = w' := by
  go_enter Try.func74, Try.ntmps74
  go_wp2
  go_ret
  simp

set_option maxHeartbeats 400000 in
theorem cmpCompare (a b : Int) (w : World) :
    Calls Try.prog 57 #[.int .i64 a, .int .i64 b] w fun e w' => e = .returned (.int .i64 (cmpE a b)) ∧ w = w' := by
  by_cases h1 : a < b
  · have HC := Lib.hid (show cmpE a b = -1 by simp [cmpE, h1])
    go_enter Try.func57, Try.ntmps57
    go_wp2_with (go_at_call 74; refine (cmpIsNaN _ _).mono ?_; rintro e w' ⟨rfl, rfl⟩)
    go_ret
    exact ⟨ret_i HC.out.symm, rfl⟩
  · by_cases h2 : b < a
    · have HC := Lib.hid (show cmpE a b = 1 by simp [cmpE, h1, h2])
      go_enter Try.func57, Try.ntmps57
      go_wp2_with (go_at_call 74; refine (cmpIsNaN _ _).mono ?_; rintro e w' ⟨rfl, rfl⟩)
      go_ret
      exact ⟨ret_i HC.out.symm, rfl⟩
    · have HC := Lib.hid (show cmpE a b = 0 by simp [cmpE, h1, h2])
      go_enter Try.func57, Try.ntmps57
      go_wp2_with (go_at_call 74; refine (cmpIsNaN _ _).mono ?_; rintro e w' ⟨rfl, rfl⟩)
      go_ret
      exact ⟨ret_i HC.out.symm, rfl⟩

set_option maxHeartbeats 400000 in
theorem cmpOr (b c : Nat) (es : List Int) (w : World) (hn : es.length ≤ 100) (hc : ∀ i (h : i < es.length), w.cell? ⟨b, i, none⟩ = some (.int .i64 es[i])) :
    Calls Try.prog 56 #[.slice (some ⟨b, 0, none⟩) es.length c] w fun e w' => e = .returned (.int .i64 (firstE es)) ∧ w = w' := by
  have HC := Lib.hid hc
  have hn' : (es.length : Int) ≤ 100 := by omega
  clear hc
  go_enter Try.func56, Try.ntmps56
  go_wp2_with fail
  go_loop [5, 8] (fun _ i => ∃ k : Nat, k ≤ es.length ∧ i = .int .i64 k ∧ firstE es = firstE (es.drop k)) (fun _ i => es.length - (intOf i).toNat)
  case atStart => exact ⟨0, Nat.zero_le _, rfl, rfl⟩
  case round =>
    obtain ⟨k, hk, rfl, he⟩ := hrel
    have HE := Lib.hid he
    clear he
    by_cases hlt : k < es.length
    · have hcell := HC.out k hlt
      by_cases hz : es[k] = 0
      · have HF := Lib.hid (show firstE (es.drop k) = firstE (es.drop (k + 1)) by
          rw [List.drop_eq_getElem_cons hlt]
          simp only [firstE, hz, if_true])
        rw [hz] at hcell
        clear hz
        go_wp2
        go_round
        case rel => exact ⟨k + 1, by omega, by go_num, HE.out.trans HF.out⟩
        case measure => simp [intOf]; omega
      · have HF := Lib.hid (show firstE (es.drop k) = es[k] by
          rw [List.drop_eq_getElem_cons hlt]
          simp only [firstE, if_neg hz])
        have hz1 : (es[k] != 0) = true := by rw [bne_iff_ne]; exact hz
        clear hz
        go_wp2
        go_ret
        exact ⟨ret_i (HE.out.trans HF.out).symm, rfl⟩
    · obtain rfl : k = es.length := by omega
      have HF := Lib.hid (show firstE (es.drop es.length) = 0 by rw [List.drop_length]; rfl)
      go_wp2
      go_ret
      exact ⟨ret_i (HE.out.trans HF.out).symm, rfl⟩
theorem three_cells {w : World} {g : Nat} {a b c : Int} {t : TypeId} (h : w.heap[g]? = some (.cells #[.int .i64 a, .int .i64 b, .int .i64 c] t (0, 0))) : ∀ i (hi : i < [a, b, c].length), w.cell? ⟨g, i, none⟩ = some (.int .i64 [a, b, c][i]) := by
  intro i hi
  have hi' : i = 0 ∨ i = 1 ∨ i = 2 := by simp at hi; omega
  rcases hi' with rfl | rfl | rfl <;> simp [World.cell?, h]
theorem cmpOr3 (g c : Nat) (x y z : Int) (t : TypeId) (w : World) (h : w.heap[g]? = some (.cells #[.int .i64 x, .int .i64 y, .int .i64 z] t (0, 0))) :
    Calls Try.prog 56 #[.slice (some ⟨g, 0, none⟩) 3 c] w fun e w' => e = .returned (.int .i64 (firstE [x, y, z])) ∧ w = w' :=
  cmpOr g c [x, y, z] w (by simp) (three_cells h)
theorem cmpOr2 (g c : Nat) (x y : Int) (t : TypeId) (w : World) (h : w.heap[g]? = some (.cells #[.int .i64 x, .int .i64 y] t (0, 0))) :
    Calls Try.prog 56 #[.slice (some ⟨g, 0, none⟩) 2 c] w fun e w' => e = .returned (.int .i64 (firstE [x, y])) ∧ w = w' :=
  cmpOr g c [x, y] w (by simp) (two_cells h)

def cmpB (a b : Ck.Bar) : Int := firstE [cmpE a.y b.y, cmpE a.x b.x, cmpE a.s b.s]
set_option maxHeartbeats 1000000 in
set_option maxRecDepth 100000 in
/-- The world behind compareBars, outright. -/
theorem netCompareBars (x y s x' y' s' : Int) (w : World) :
    Calls Try.prog 51 #[.agg #[.int .i64 x, .int .i64 y, .int .i64 s], .agg #[.int .i64 x', .int .i64 y', .int .i64 s']] w fun e w' => e = .returned (.int .i64 (cmpB ⟨x, y, s⟩ ⟨x', y', s'⟩)) ∧
      w' = (((w.alloc (.cells #[.int .i64 x, .int .i64 y, .int .i64 s] 50)).alloc (.cells #[.int .i64 x', .int .i64 y', .int .i64 s'] 50)).alloc (.cells #[.int .i64 (cmpE y y'), .int .i64 (cmpE x x'), .int .i64 (cmpE s s')] 3)).drew := by
  obtain ⟨w1, hw1, c0, c1, c2, d0, d1, d2⟩ := box33 w (.int .i64 x) (.int .i64 y) (.int .i64 s) (.int .i64 x') (.int .i64 y') (.int .i64 s') 50 50
  rw [← hw1]
  have HW := Lib.hid hw1
  clear hw1
  go_enter Try.func51, Try.ntmps51
  go_wp2_with fail
  rw [← HW.out]
  refine wp_region_still_tail 15 (by kernel_rfl) (by kernel_rfl) ?_
  simp only [List.take_succ_cons, List.take_zero, List.drop_succ_cons, List.drop_zero]
  repeat (first | still_step | still_call (Calls.mono (cmpCompare _ _ _) fun _ _ h => ⟨h.1, h.2.symm⟩))
  refine wpStill_nil ?_
  change wpList _ _ _ _ _ w1.drew
  go_wp2_with fail
  refine (cmpOr3 _ _ (cmpE y y') (cmpE x x') (cmpE s s') 3 _ (by exact heap_alloc_new _ _)).mono ?_
  rintro e w2 ⟨rfl, rfl⟩
  go_wp2
  go_ret
  exact ⟨rfl, rfl⟩
theorem netCompareBars_below (x y s x' y' s' : Int) (w : World) :
    Calls Try.prog 51 #[.agg #[.int .i64 x, .int .i64 y, .int .i64 s], .agg #[.int .i64 x', .int .i64 y', .int .i64 s']] w fun e w' => e = .returned (.int .i64 (cmpB ⟨x, y, s⟩ ⟨x', y', s'⟩)) ∧ Below w.heap.size w w' :=
  (netCompareBars x y s x' y' s' w).mono fun _ _ ⟨he, hw⟩ => ⟨he, hw ▸ below_drew ((((Below.refl _ _).alloc (Nat.le_refl _) _).alloc (by simp) _).alloc (by simp; omega) _)⟩
end Go.Proofs.Ytkplpmhdmlkjhaa

/- Contracts of checkOrder and CheckNet of the program. -/
namespace Go.Proofs.Ytkplpmhdmlkjhaa
open Go.RowKit

theorem cmpB_less (p b : Ck.Bar) : decide (0 ≤ cmpB p b) = !lessB p.x p.y p.s b.x b.y b.s := by
  obtain ⟨x, y, s⟩ := p
  obtain ⟨x', y', s'⟩ := b
  rcases Int.lt_trichotomy y y' with h | rfl | h
  · have h2 : ¬ y = y' := by omega
    simp [cmpB, lessB, cmpE, firstE, h, h2]
  · rcases Int.lt_trichotomy x x' with h | rfl | h
    · have h2 : ¬ x = x' := by omega
      simp [cmpB, lessB, cmpE, firstE, h, h2]
    · rcases Int.lt_trichotomy s s' with h | rfl | h
      · simp [cmpB, lessB, cmpE, firstE, h]
      · simp [cmpB, lessB, cmpE, firstE]
      · have h3 : ¬ s < s' := by omega
        simp [cmpB, lessB, cmpE, firstE, h, h3]
    · have h2 : ¬ x = x' := by omega
      have h3 : ¬ x < x' := by omega
      simp [cmpB, lessB, cmpE, firstE, h, h2, h3]
  · have h2 : ¬ y = y' := by omega
    have h3 : ¬ y < y' := by omega
    simp [cmpB, lessB, cmpE, firstE, h, h2, h3]

def orderE (p b : Ck.Bar) : Int := if lessB p.x p.y p.s b.x b.y b.s then 0 else 11

set_option maxHeartbeats 400000 in
theorem netCheckOrder0 (A : Option Addr) (c : Nat) (x y s : Int) (w : World) :
    Calls Try.prog 46 #[.slice A 0 c, .agg #[.int .i64 x, .int .i64 y, .int .i64 s]] w fun e w' => e = .returned (.int .i64 0) ∧ Below w.heap.size w w' := by
  have hg1 : decide ((0 : Int) < 0) = false := rfl
  have hg2 : decide ((0 : Nat) < 0) = false := rfl
  go_enter Try.func46, Try.ntmps46
  go_wp2_with fail
  go_quiet (fail)
  go_wp2
  go_ret
  exact ⟨rfl, below_drewN ((Below.refl _ _).alloc (Nat.le_refl _) _) _⟩

set_option maxHeartbeats 1000000 in
set_option maxRecDepth 100000 in
theorem netCheckOrder1 (b off n c : Nat) (p : Ck.Bar) (x y s : Int) (w : World) (hb : b < w.heap.size) (hn : n < 100000)
    (d0 : w.cell? ⟨b, off + n * 3, none⟩ = some (.int .i64 p.x)) (d1 : w.cell? ⟨b, off + n * 3 + 1, none⟩ = some (.int .i64 p.y)) (d2 : w.cell? ⟨b, off + n * 3 + 2, none⟩ = some (.int .i64 p.s)) :
    Calls Try.prog 46 #[.slice (some ⟨b, off, none⟩) (n + 1) c, .agg #[.int .i64 x, .int .i64 y, .int .i64 s]] w fun e w' => e = .returned (.int .i64 (orderE p ⟨x, y, s⟩)) ∧ Below w.heap.size w w' := by
  have hw1 : IntKind.i64.wrap (n : Int) = (n : Int) := by rw [IntKind.wrap_i64]; omega
  have hw2 : n < n + 1 := by omega
  have hg1 : decide (0 < n + 1) = true := by simp
  have hg2 : decide ((0 : Int) < ((n + 1 : Nat) : Int)) = true := by simp
  have hw6 : (n : Int) < (n : Int) + 1 := by omega
  obtain ⟨w1, hw, c0, c1, c2, hb1, hz1⟩ := box3 w (.int .i64 x) (.int .i64 y) (.int .i64 s) 50
  have HW := Lib.hid hw
  replace d0 := (hb1.cell (p := ⟨b, _, none⟩) hb).trans d0
  replace d1 := (hb1.cell (p := ⟨b, _, none⟩) hb).trans d1
  replace d2 := (hb1.cell (p := ⟨b, _, none⟩) hb).trans d2
  clear hw
  have hcb := cmpB_less p ⟨x, y, s⟩
  have HO := Lib.hid (show orderE p ⟨x, y, s⟩ = _ from rfl)
  unfold orderE at HO
  cases hl : lessB p.x p.y p.s x y s
  all_goals
    have HL := Lib.hid hl
    rw [show lessB p.x p.y p.s (Ck.Bar.mk x y s).x (Ck.Bar.mk x y s).y (Ck.Bar.mk x y s).s = _ from hl] at hcb
    clear hl
    go_enter Try.func46, Try.ntmps46
    go_wp2_with fail
    rw [← HW.out]
    refine wp_region_still_tail 11 (by kernel_rfl) (by kernel_rfl) ?_
    simp only [List.take_succ_cons, List.take_zero, List.drop_succ_cons, List.drop_zero]
    repeat still_step
    refine wpStill_nil ?_
    change wpList _ _ _ _ _ w1.drew
    clear hw1 hw2 hw6
    go_wp2_with fail
    refine (netCompareBars_below _ _ _ _ _ _ _).mono ?_
    rintro e w2 ⟨rfl, hb2⟩
    go_wp2
    go_ret
    exact ⟨ret_i (by unfold orderE; rw [show lessB p.x p.y p.s (Ck.Bar.mk x y s).x (Ck.Bar.mk x y s).y (Ck.Bar.mk x y s).s = _ from HL.out]; rfl), (below_drew hb1).trans (hb2.mono (by show _ ≤ w1.heap.size; omega))⟩
end Go.Proofs.Ytkplpmhdmlkjhaa

/- The contract of CheckNet of the program: it returns the error that the reference returns. -/
namespace Go.Proofs.Ytkplpmhdmlkjhaa
open Go.RowKit

theorem keep6 {W w1 w2 : World} {g b o : Nat} {x y s p q r : Value} (h : w1.cell? ⟨g, 0, none⟩ = some x ∧ w1.cell? ⟨g, 1, none⟩ = some y ∧ w1.cell? ⟨g, 2, none⟩ = some s ∧
      w1.cell? ⟨b, o, none⟩ = some p ∧ w1.cell? ⟨b, o + 1, none⟩ = some q ∧ w1.cell? ⟨b, o + 2, none⟩ = some r ∧ Below g W w1 ∧ b < g ∧ g < w1.heap.size) (hb : Below w1.heap.size w1 w2) :
    w2.cell? ⟨g, 0, none⟩ = some x ∧ w2.cell? ⟨g, 1, none⟩ = some y ∧ w2.cell? ⟨g, 2, none⟩ = some s ∧
      w2.cell? ⟨b, o, none⟩ = some p ∧ w2.cell? ⟨b, o + 1, none⟩ = some q ∧ w2.cell? ⟨b, o + 2, none⟩ = some r ∧ Below g W w2 ∧ b < g ∧ g < w2.heap.size := by
  obtain ⟨h0, h1, h2, k0, k1, k2, h3, h5, h4⟩ := h
  exact ⟨(hb.cell (p := ⟨g, 0, none⟩) h4).trans h0, (hb.cell (p := ⟨g, 1, none⟩) h4).trans h1, (hb.cell (p := ⟨g, 2, none⟩) h4).trans h2,
    (hb.cell (p := ⟨b, _, none⟩) (by show b < _; omega)).trans k0, (hb.cell (p := ⟨b, _, none⟩) (by show b < _; omega)).trans k1, (hb.cell (p := ⟨b, _, none⟩) (by show b < _; omega)).trans k2, h3.trans (hb.mono (by omega)), h5, by have := hb.size; omega⟩

theorem belowOf3 {W w1 : World} {g : Nat} {x y s : Value} (h : w1.cell? ⟨g, 0, none⟩ = some x ∧ w1.cell? ⟨g, 1, none⟩ = some y ∧ w1.cell? ⟨g, 2, none⟩ = some s ∧ Below g W w1 ∧ g < w1.heap.size) : Below g W w1 := h.2.2.2.1
theorem belowOf6 {W w1 : World} {g b o : Nat} {x y s p q r : Value} (h : w1.cell? ⟨g, 0, none⟩ = some x ∧ w1.cell? ⟨g, 1, none⟩ = some y ∧ w1.cell? ⟨g, 2, none⟩ = some s ∧
      w1.cell? ⟨b, o, none⟩ = some p ∧ w1.cell? ⟨b, o + 1, none⟩ = some q ∧ w1.cell? ⟨b, o + 2, none⟩ = some r ∧ Below g W w1 ∧ b < g ∧ g < w1.heap.size) : Below g W w1 := h.2.2.2.2.2.2.1
theorem netCheckOrderS (b off n c : Nat) (p : Ck.Bar) (x y s : Int) {g : Nat} {W : World} {u v z : Value} (w : World) (hn : n < 100000)
    (h : w.cell? ⟨g, 0, none⟩ = some u ∧ w.cell? ⟨g, 1, none⟩ = some v ∧ w.cell? ⟨g, 2, none⟩ = some z ∧
      w.cell? ⟨b, off + n * 3, none⟩ = some (.int .i64 p.x) ∧ w.cell? ⟨b, off + n * 3 + 1, none⟩ = some (.int .i64 p.y) ∧ w.cell? ⟨b, off + n * 3 + 2, none⟩ = some (.int .i64 p.s) ∧ Below g W w ∧ b < g ∧ g < w.heap.size) :
    Calls Try.prog 46 #[.slice (some ⟨b, off, none⟩) (n + 1) c, .agg #[.int .i64 x, .int .i64 y, .int .i64 s]] w fun e w' => e = .returned (.int .i64 (orderE p ⟨x, y, s⟩)) ∧ Below w.heap.size w w' :=
  netCheckOrder1 b off n c p x y s w (by omega) hn h.2.2.2.1 h.2.2.2.2.1 h.2.2.2.2.2.1

theorem stepE_bad {e o : Int} (h : ¬ e = 0) : firstE [e, o] = e := by simp [firstE, h]

set_option maxHeartbeats 4000000 in
set_option maxRecDepth 100000 in
theorem netCheckNet (A : Option Addr) (c : Nat) (l : List Ck.Bar) (w : World) (hl : l.length ≤ 4096) (hcap : l.length ≤ c) (hcm : c ≤ maxLen) (h : RB w w.heap.size A l) :
    Calls Try.prog 23 #[.slice A l.length c] w fun e w' => e = .returned (.int .i64 (netE l)) ∧ Below w.heap.size w w' := by
  have HE := Lib.hid (show netE l = netFrom (prevAt l 0) (l.drop 0) by simp [netE, prevAt]; omega)
  have hl' : (l.length : Int) ≤ 4096 := by omega
  unfold maxLen at hcm
  go_enter Try.func23, Try.ntmps23
  go_wp2_with fail
  go_loopw [3, 4, 5, 11] (fun _ _ _ i wr => ∃ k : Nat, k ≤ l.length ∧ i = .int .i64 k ∧ netE l = netFrom (prevAt l k) (l.drop k) ∧ Below w.heap.size w wr) (fun _ _ _ i _ => l.length - (intOf i).toNat)
  case atStart => exact ⟨0, Nat.zero_le _, rfl, HE.out, Below.refl _ _⟩
  case round =>
    obtain ⟨k, hk, rfl, he, hb⟩ := hrel
    have HE2 := Lib.hid he
    clear he
    by_cases hlt : k < l.length
    · have h' := h.below hb
      obtain ⟨b, off, rfl, hB, hc⟩ := h' (by omega)
      have HC := Lib.hid hc
      obtain ⟨c0, c1, c2⟩ := hc k hlt
      have hz := hb.size
      have hz1 : b < wr.heap.size := by omega
      have hki : (k : Int) ≤ (c : Int) := by omega
      have hk0 : (0 : Int) ≤ (k : Int) := by omega
      clear hc h' h
      go_wp2_with fail
      obtain ⟨w1, hw1, e0, e1, e2, hb1, hz2⟩ := box3 wr (.int .i64 l[k].x) (.int .i64 l[k].y) (.int .i64 l[k].s) 50
      rw [← hw1]
      clear hw1 c0 c1 c2
      by_cases hk1 : k = 0
      · subst hk1
        by_cases hbad : barE l[0].x l[0].y l[0].s = 0
        · have HF := Lib.hid (netFrom_step0 hlt hbad)
          have HV := Lib.hid (show firstE [barE l[0].x l[0].y l[0].s, 0] = 0 by simp [firstE, hbad])
          clear hbad
          go_region_held3 (fun w' => w'.cell? ⟨wr.heap.size, 0, none⟩ = some (.int .i64 l[0].x) ∧ w'.cell? ⟨wr.heap.size, 1, none⟩ = some (.int .i64 l[0].y) ∧ w'.cell? ⟨wr.heap.size, 2, none⟩ = some (.int .i64 l[0].s) ∧ Below wr.heap.size wr w' ∧ wr.heap.size < w'.heap.size)
            (first | exact ⟨e0, e1, e2, below_drew hb1, hz2⟩ | exact keep3 (by assumption) (by assumption) | exact keep3 (by assumption) ((Below.refl _ _).alloc (Nat.le_refl _) _) | assumption | (refine ⟨?_, ?_, ?_, ?_, ?_⟩ <;> first | assumption | (simp at *; omega)) | go_keep)
            (first
              | (go_at_call 45; refine (netCheckBar _ _ _ _).mono ?_; rintro e w' ⟨rfl, hbq⟩)
              | (go_at_call 46; refine (netCheckOrder0 _ _ _ _ _ _).mono ?_; rintro e w' ⟨rfl, hbq⟩)
              | (go_at_call 22; refine (netFirst2 _ _ (barE l[0].x l[0].y l[0].s) 0 25 _ (by exact heap_alloc_new _ _)).mono ?_; rintro e w' ⟨rfl, rfl⟩))
          rw [HV.out]
          go_wp2
          go_roundw
          case rel => exact ⟨1, by omega, by go_num, HE2.out.trans HF.out, hb.trans (Below.mono (B := wr.heap.size) (belowOf3 (by assumption)) hz)⟩
          case measure => simp [intOf]; omega
        · have HF := Lib.hid (netFrom_bad hlt hbad)
          have HV := Lib.hid (stepE_bad (o := 0) hbad)
          have hbb : (barE l[0].x l[0].y l[0].s != 0) = true := by rw [bne_iff_ne]; exact hbad
          clear hbad
          go_region_held3 (fun w' => w'.cell? ⟨wr.heap.size, 0, none⟩ = some (.int .i64 l[0].x) ∧ w'.cell? ⟨wr.heap.size, 1, none⟩ = some (.int .i64 l[0].y) ∧ w'.cell? ⟨wr.heap.size, 2, none⟩ = some (.int .i64 l[0].s) ∧ Below wr.heap.size wr w' ∧ wr.heap.size < w'.heap.size)
            (first | exact ⟨e0, e1, e2, below_drew hb1, hz2⟩ | exact keep3 (by assumption) (by assumption) | exact keep3 (by assumption) ((Below.refl _ _).alloc (Nat.le_refl _) _) | assumption | (refine ⟨?_, ?_, ?_, ?_, ?_⟩ <;> first | assumption | (simp at *; omega)) | go_keep)
            (first
              | (go_at_call 45; refine (netCheckBar _ _ _ _).mono ?_; rintro e w' ⟨rfl, hbq⟩)
              | (go_at_call 46; refine (netCheckOrder0 _ _ _ _ _ _).mono ?_; rintro e w' ⟨rfl, hbq⟩)
              | (go_at_call 22; refine (netFirst2 _ _ (barE l[0].x l[0].y l[0].s) 0 25 _ (by exact heap_alloc_new _ _)).mono ?_; rintro e w' ⟨rfl, rfl⟩))
          rw [HV.out]
          go_wp2
          go_ret
          exact ⟨ret_i (HE2.out.trans HF.out).symm, hb.trans (Below.mono (B := wr.heap.size) (belowOf3 (by assumption)) hz)⟩
      · obtain ⟨j, rfl⟩ : ∃ j, k = j + 1 := ⟨k - 1, by omega⟩
        obtain ⟨d0, d1, d2⟩ := HC.out j (by omega)
        have hw2 : j < l.length := by omega
        have hji : (j : Int) + 1 ≤ (c : Int) := by omega
        have hj0 : (0 : Int) ≤ (j : Int) + 1 := by omega
        have hjn : ((j : Int) + 1).toNat = j + 1 := by omega
        replace d0 := (hb1.cell (p := ⟨b, _, none⟩) hz1).trans d0
        replace d1 := (hb1.cell (p := ⟨b, _, none⟩) hz1).trans d1
        replace d2 := (hb1.cell (p := ⟨b, _, none⟩) hz1).trans d2
        by_cases hbad : barE l[j + 1].x l[j + 1].y l[j + 1].s = 0
        · cases hl2 : lessB l[j].x l[j].y l[j].s l[j + 1].x l[j + 1].y l[j + 1].s
          · have HF := Lib.hid (netFrom_stop hlt hbad hl2)
            have HV := Lib.hid (show firstE [barE l[j + 1].x l[j + 1].y l[j + 1].s, orderE l[j] l[j + 1]] = 11 by simp [firstE, hbad, orderE, hl2])
            clear hbad hl2
            go_region_held3 (fun w' => w'.cell? ⟨wr.heap.size, 0, none⟩ = some (.int .i64 l[j + 1].x) ∧ w'.cell? ⟨wr.heap.size, 1, none⟩ = some (.int .i64 l[j + 1].y) ∧ w'.cell? ⟨wr.heap.size, 2, none⟩ = some (.int .i64 l[j + 1].s) ∧ w'.cell? ⟨b, off + j * 3, none⟩ = some (.int .i64 l[j].x) ∧ w'.cell? ⟨b, off + j * 3 + 1, none⟩ = some (.int .i64 l[j].y) ∧ w'.cell? ⟨b, off + j * 3 + 2, none⟩ = some (.int .i64 l[j].s) ∧ Below wr.heap.size wr w' ∧ b < wr.heap.size ∧ wr.heap.size < w'.heap.size)
              (first | exact ⟨e0, e1, e2, d0, d1, d2, below_drew hb1, hz1, hz2⟩ | exact keep6 (by assumption) (by assumption) | exact keep6 (by assumption) ((Below.refl _ _).alloc (Nat.le_refl _) _) | assumption | (refine ⟨?_, ?_, ?_, ?_, ?_, ?_, ?_, ?_, ?_⟩ <;> first | assumption | (simp at *; omega)) | go_keep)
              (first
                | (go_at_call 45; refine (netCheckBar _ _ _ _).mono ?_; rintro e w' ⟨rfl, hbq⟩)
                | (go_at_call 46; refine (netCheckOrderS _ _ _ _ l[j] _ _ _ _ (by omega) (by assumption)).mono ?_; rintro e w' ⟨rfl, hbq⟩)
                | (go_at_call 22; refine (netFirst2 _ _ (barE l[j + 1].x l[j + 1].y l[j + 1].s) (orderE l[j] l[j + 1]) 25 _ (by exact heap_alloc_new _ _)).mono ?_; rintro e w' ⟨rfl, rfl⟩))
            rw [HV.out]
            go_wp2
            go_ret
            exact ⟨ret_i (HE2.out.trans HF.out).symm, hb.trans (Below.mono (B := wr.heap.size) (belowOf6 (by assumption)) hz)⟩
          · have HF := Lib.hid (netFrom_step hlt hbad hl2)
            have HV := Lib.hid (show firstE [barE l[j + 1].x l[j + 1].y l[j + 1].s, orderE l[j] l[j + 1]] = 0 by simp [firstE, hbad, orderE, hl2])
            clear hbad hl2
            go_region_held3 (fun w' => w'.cell? ⟨wr.heap.size, 0, none⟩ = some (.int .i64 l[j + 1].x) ∧ w'.cell? ⟨wr.heap.size, 1, none⟩ = some (.int .i64 l[j + 1].y) ∧ w'.cell? ⟨wr.heap.size, 2, none⟩ = some (.int .i64 l[j + 1].s) ∧ w'.cell? ⟨b, off + j * 3, none⟩ = some (.int .i64 l[j].x) ∧ w'.cell? ⟨b, off + j * 3 + 1, none⟩ = some (.int .i64 l[j].y) ∧ w'.cell? ⟨b, off + j * 3 + 2, none⟩ = some (.int .i64 l[j].s) ∧ Below wr.heap.size wr w' ∧ b < wr.heap.size ∧ wr.heap.size < w'.heap.size)
              (first | exact ⟨e0, e1, e2, d0, d1, d2, below_drew hb1, hz1, hz2⟩ | exact keep6 (by assumption) (by assumption) | exact keep6 (by assumption) ((Below.refl _ _).alloc (Nat.le_refl _) _) | assumption | (refine ⟨?_, ?_, ?_, ?_, ?_, ?_, ?_, ?_, ?_⟩ <;> first | assumption | (simp at *; omega)) | go_keep)
              (first
                | (go_at_call 45; refine (netCheckBar _ _ _ _).mono ?_; rintro e w' ⟨rfl, hbq⟩)
                | (go_at_call 46; refine (netCheckOrderS _ _ _ _ l[j] _ _ _ _ (by omega) (by assumption)).mono ?_; rintro e w' ⟨rfl, hbq⟩)
                | (go_at_call 22; refine (netFirst2 _ _ (barE l[j + 1].x l[j + 1].y l[j + 1].s) (orderE l[j] l[j + 1]) 25 _ (by exact heap_alloc_new _ _)).mono ?_; rintro e w' ⟨rfl, rfl⟩))
            rw [HV.out]
            go_wp2
            go_roundw
            case rel => exact ⟨j + 1 + 1, by omega, by go_num, HE2.out.trans HF.out, hb.trans (Below.mono (B := wr.heap.size) (belowOf6 (by assumption)) hz)⟩
            case measure => simp [intOf]; omega
        · have HF := Lib.hid (netFrom_bad hlt hbad)
          have HV := Lib.hid (stepE_bad (o := orderE l[j] l[j + 1]) hbad)
          have hbb : (barE l[j + 1].x l[j + 1].y l[j + 1].s != 0) = true := by rw [bne_iff_ne]; exact hbad
          clear hbad
          go_region_held3 (fun w' => w'.cell? ⟨wr.heap.size, 0, none⟩ = some (.int .i64 l[j + 1].x) ∧ w'.cell? ⟨wr.heap.size, 1, none⟩ = some (.int .i64 l[j + 1].y) ∧ w'.cell? ⟨wr.heap.size, 2, none⟩ = some (.int .i64 l[j + 1].s) ∧ w'.cell? ⟨b, off + j * 3, none⟩ = some (.int .i64 l[j].x) ∧ w'.cell? ⟨b, off + j * 3 + 1, none⟩ = some (.int .i64 l[j].y) ∧ w'.cell? ⟨b, off + j * 3 + 2, none⟩ = some (.int .i64 l[j].s) ∧ Below wr.heap.size wr w' ∧ b < wr.heap.size ∧ wr.heap.size < w'.heap.size)
            (first | exact ⟨e0, e1, e2, d0, d1, d2, below_drew hb1, hz1, hz2⟩ | exact keep6 (by assumption) (by assumption) | exact keep6 (by assumption) ((Below.refl _ _).alloc (Nat.le_refl _) _) | assumption | (refine ⟨?_, ?_, ?_, ?_, ?_, ?_, ?_, ?_, ?_⟩ <;> first | assumption | (simp at *; omega)) | go_keep)
            (first
              | (go_at_call 45; refine (netCheckBar _ _ _ _).mono ?_; rintro e w' ⟨rfl, hbq⟩)
              | (go_at_call 46; refine (netCheckOrderS _ _ _ _ l[j] _ _ _ _ (by omega) (by assumption)).mono ?_; rintro e w' ⟨rfl, hbq⟩)
              | (go_at_call 22; refine (netFirst2 _ _ (barE l[j + 1].x l[j + 1].y l[j + 1].s) (orderE l[j] l[j + 1]) 25 _ (by exact heap_alloc_new _ _)).mono ?_; rintro e w' ⟨rfl, rfl⟩))
          rw [HV.out]
          go_wp2
          go_ret
          exact ⟨ret_i (HE2.out.trans HF.out).symm, hb.trans (Below.mono (B := wr.heap.size) (belowOf6 (by assumption)) hz)⟩
    · obtain rfl : k = l.length := by omega
      have HF := Lib.hid (netFrom_end l)
      go_wp2
      go_ret
      exact ⟨ret_i (HE2.out.trans HF.out).symm, hb⟩
end Go.Proofs.Ytkplpmhdmlkjhaa

/- A map from knots to ints that the call itself has made: what its block holds, and what its operations do. -/
namespace Go.Proofs.Ytkplpmhdmlkjhaa
open Go.RowKit Go.ChangeMaps Go.MapKept

def kvv (k : Ck.Knot) : Value := .agg #[.int .i64 k.x, .int .i64 k.y]
def mget : List (Ck.Knot × Int) → Ck.Knot → Int
  | [], _ => 0
  | p :: r, k => if k = p.1 then p.2 else mget r k
def mput : List (Ck.Knot × Int) → Ck.Knot → Int → List (Ck.Knot × Int)
  | [], k, v => [(k, v)]
  | p :: r, k, v => if k = p.1 then (k, v) :: r else p :: mput r k v
def fnd : List (Ck.Knot × Int) → Ck.Knot → Nat → Option (Nat × Value)
  | [], _, _ => none
  | p :: r, k, i => if k = p.1 then some (i, .int .i64 p.2) else fnd r k (i + 1)

theorem eqKnot (a b : Ck.Knot) (w : World) : (Op.equal 30 (kvv a) (kvv b)).run Try.prog w = .ok (decide (a = b)) w := by
  have u3 := Try.underlying3
  have a3 := Try.isAgg3
  have z3 := Try.sizeOf3
  have hS : Try.prog.underlying 30 = some (.struct (Try.prog.fieldsOf 30)) := by kernel_rfl
  have hp : Try.prog.stoodInHeld 30 = false := by kernel_rfl
  obtain ⟨x, y⟩ := a
  obtain ⟨x', y'⟩ := b
  simp only [kvv, Op.equal]
  rw [show Op.maxDepth = 9999 + 1 from rfl, run_equalIn_struct w 9999 30 _ _ hS hp]
  simp only [Program.fieldsOf, Try.underlying30]
  go_simp
  by_cases h1 : x = x' <;> by_cases h2 : y = y' <;> simp [h1, h2]

/-- The entries es hold the pairs m. -/
def Ents (es : Array MapEntry) (m : List (Ck.Knot × Int)) : Prop := es.toList.map (fun e => (e.key, e.val)) = m.map fun p => (kvv p.1, Value.int .i64 p.2)
theorem run_findAsking (k : Ck.Knot) (w : World) : ∀ (l : List MapEntry) (m : List (Ck.Knot × Int)) (i : Nat), l.map (fun e => (e.key, e.val)) = m.map (fun p => (kvv p.1, Value.int .i64 p.2)) →
    (Instr.findAsking 30 (kvv k) l i).run Try.prog w = .ok (fnd m k i) w
  | [], [], _, _ => rfl
  | [], _ :: _, _, h => by simp at h
  | _ :: _, [], _, h => by simp at h
  | e :: l, p :: m, i, h => by
    simp only [List.map_cons, List.cons.injEq, Prod.mk.injEq] at h
    obtain ⟨⟨h1, h2⟩, h3⟩ := h
    simp only [Instr.findAsking, Sem.run_bind, h1, eqKnot, Result.andThen, fnd, h2]
    by_cases hk : k = p.1
    · simp [hk]
    · simp [hk, run_findAsking k w l m (i + 1) h3]
theorem run_findKey (k : Ck.Knot) (w : World) (es : Array MapEntry) (m : List (Ck.Knot × Int)) (h : Ents es m) : (Instr.findKey 30 (kvv k) es.toList).run Try.prog w = .ok (fnd m k 0) w := by
  have hu := Try.underlying30
  unfold Ents at h
  simp only [Instr.findKey, Sem.run_bind, run_underlying hu, Result.andThen]
  cases hl : es.toList with
  | nil =>
    rw [hl] at h
    cases m with
    | nil => rfl
    | cons _ _ => simp at h
  | cons e l =>
    rw [hl] at h
    have hn : ∀ fs, Instr.findNow (.struct fs) (kvv k) (e :: l) 0 = none := fun fs => by
      unfold Instr.findNow Instr.sameNow
      rfl
    simp only [hn]
    exact run_findAsking k w (e :: l) m 0 h
theorem run_checkKnot (b : Bool) (k : Ck.Knot) (w : World) : (Instr.checkKey b 10000 30 (kvv k)).run Try.prog w = .ok () w := by
  obtain ⟨x, y⟩ := k
  cases b <;> kernel_rfl

theorem fnd_spec (k : Ck.Knot) : ∀ (m : List (Ck.Knot × Int)) (i : Nat), (fnd m k i = none ∧ k ∉ m.map (·.1) ∧ mget m k = 0 ∧ ∀ v, mput m k v = m ++ [(k, v)]) ∨
    ∃ j, fnd m k i = some (i + j, .int .i64 (mget m k)) ∧ m[j]? = some (k, mget m k) ∧ ∀ v, mput m k v = m.set j (k, v)
  | [], i => .inl ⟨rfl, by simp, rfl, fun _ => rfl⟩
  | p :: m, i => by
    by_cases hk : k = p.1
    · refine .inr ⟨0, by simp [fnd, mget, hk], by simp [mget, hk], fun v => by simp [mput, hk]⟩
    · rcases fnd_spec k m (i + 1) with ⟨h1, h2, h3, h4⟩ | ⟨j, h1, h2, h3⟩
      · refine .inl ⟨by simp [fnd, hk, h1], by simp only [List.map_cons, List.mem_cons, not_or]; exact ⟨hk, h2⟩, by simp [mget, hk, h3], fun v => by simp [mput, hk, h4]⟩
      · refine .inr ⟨j + 1, by simp [fnd, hk, h1, mget]; omega, by simp [h2, mget, hk], fun v => by simp [mput, hk, h3]⟩

/-- Block b of w is a map that holds the pairs m, each key once. -/
def MIs (w : World) (b : Nat) (m : List (Ck.Knot × Int)) : Prop :=
  ∃ es clock, w.heap[b]? = some (.map es clock) ∧ Ents es m ∧ (m.map (·.1)).Nodup ∧ (es.toList.map (·.born)).Nodup ∧ ∀ e ∈ es.toList, e.born < clock
theorem MIs.made (w : World) : MIs (w.alloc (.map #[] 0)) w.heap.size [] := ⟨#[], 0, heap_alloc_new _ _, rfl, by simp, by simp, by simp⟩
theorem MIs.of_block {w w' : World} {b : Nat} {m : List (Ck.Knot × Int)} (h : MIs w b m) (hb : w'.heap[b]? = w.heap[b]?) : MIs w' b m := by
  obtain ⟨es, clock, h1, h2⟩ := h
  exact ⟨es, clock, hb.trans h1, h2⟩
theorem MIs.below {w w' : World} {b B : Nat} {m : List (Ck.Knot × Int)} (h : MIs w b m) (hb : Below B w w') (hB : b < B) : MIs w' b m := h.of_block (hb.block b hB)
theorem MIs.drew {w : World} {b : Nat} {m : List (Ck.Knot × Int)} (h : MIs w b m) : MIs w.drew b m := h
theorem MIs.lt {w : World} {b : Nat} {m : List (Ck.Knot × Int)} (h : MIs w b m) : b < w.heap.size := by
  obtain ⟨_, _, h1, _⟩ := h
  exact (Array.getElem?_eq_some_iff.1 h1).1

theorem MIs.lookup {w : World} {b : Nat} {m : List (Ck.Knot × Int)} (h : MIs w b m) (k : Ck.Knot) : (Instr.lookup 68 (.map (some b)) (kvv k) false).run Try.prog w = .ok (.int .i64 (mget m k)) w := by
  obtain ⟨es, clock, h1, h2, _⟩ := h
  have hz : (zeroValue 3).run Try.prog w = .ok (.int .i64 0) w := by kernel_rfl
  rcases fnd_spec k m 0 with ⟨g1, _, g3, _⟩ | ⟨j, g1, _⟩
  · simp [Instr.lookup, run_underlying Try.underlying68, MapKept.run_getObj_map h1, run_checkKnot, run_findKey k w es m h2, g1, g3, hz, Result.andThen]
  · simp [Instr.lookup, run_underlying Try.underlying68, MapKept.run_getObj_map h1, run_checkKnot, run_findKey k w es m h2, g1, Result.andThen]

theorem stays (k : Ck.Knot) (w : World) (old : Value) (h : old = kvv k) : (Instr.keyThatStays old (kvv k)).run Try.prog w = .ok (kvv k) w := by
  have hs : Instr.sameBits 10000 (kvv k) (kvv k) = true := by
    rw [show (10000 : Nat) = 9998 + 1 + 1 from rfl]
    simp [Instr.sameBits, kvv]
  subst h
  simp [Instr.keyThatStays, hs]
theorem Ents.key {es : Array MapEntry} {m : List (Ck.Knot × Int)} (h : Ents es m) {j : Nat} {p : Ck.Knot × Int} (hj : m[j]? = some p) : ∃ e, es.toList[j]? = some e ∧ e.key = kvv p.1 ∧ e.val = .int .i64 p.2 := by
  have h' := congrArg (fun l => l[j]?) h
  simp only [List.getElem?_map, hj, Option.map_some] at h'
  cases he : es.toList[j]? with
  | none => rw [he] at h'; simp at h'
  | some e =>
    rw [he] at h'
    simp at h'
    exact ⟨e, rfl, h'.1, h'.2⟩
theorem Ents.set {es es' : Array MapEntry} {m : List (Ck.Knot × Int)} (h : Ents es m) {j : Nat} {p : Ck.Knot × Int} {e : MapEntry} (he : es'.toList = es.toList.set j e) (hk : e.key = kvv p.1) (hv : e.val = .int .i64 p.2) : Ents es' (m.set j p) := by
  unfold Ents at h ⊢
  rw [he, List.map_set, List.map_set, h, hk, hv]
theorem modify_set (es : Array MapEntry) (j : Nat) (e : MapEntry) (f : MapEntry → MapEntry) (h : es.toList[j]? = some e) : (es.modify j f).toList = es.toList.set j (f e) := by
  rw [Array.toList_modify]
  have hj : j < es.toList.length := (List.getElem?_eq_some_iff.1 h).1
  apply List.ext_getElem?
  intro i
  rw [List.getElem?_modify, List.getElem?_set]
  by_cases hi : j = i
  · subst hi
    simp only [if_true, h]
    rw [if_pos hj]
    rfl
  · simp [hi]

theorem MIs.update {w : World} {b : Nat} {m : List (Ck.Knot × Int)} (h : MIs w b m) (k : Ck.Knot) (v : Int) :
    ∃ w', (Instr.mapUpdate 68 (.map (some b)) (kvv k) (.int .i64 v)).run Try.prog w = .ok () w' ∧ MIs w' b (mput m k v) ∧ w.grownBy w' (some b) := by
  obtain ⟨es, clock, h1, h2, h3, h4, h5⟩ := h
  have grown : ∀ o, w.grownBy (setBlock w b o) (some b) := fun o => ⟨rfl, rfl, rfl, by simp [setBlock], fun i _ hi => heap_setBlock_other h1 _ (fun e => hi (by rw [e]))⟩
  rcases fnd_spec k m 0 with ⟨g1, g2, g3, g4⟩ | ⟨j, g1, g2, g3⟩
  · refine ⟨setBlock w b (.map (es.push { key := kvv k, val := .int .i64 v, born := clock }) (clock + 1)), ?_, ?_, grown _⟩
    · simp [Instr.mapUpdate, run_underlying Try.underlying68, MapKept.run_getObj_map h1, run_checkKnot, run_findKey k w es m h2, g1, MapKept.run_setObj_map _ h1, Result.andThen, setBlock]
    · refine ⟨_, _, heap_setBlock_same h1 _, ?_, ?_, ?_, ?_⟩
      · rw [g4]; unfold Ents at h2 ⊢; simp [h2]
      · rw [g4, List.map_append]
        exact List.nodup_append.2 ⟨h3, by simp, fun x hx y hy e => g2 (by simp at hy; rw [← hy, ← e]; exact hx)⟩
      · simp only [Array.toList_push, List.map_append]
        exact List.nodup_append.2 ⟨h4, by simp, fun x hx y hy e => by
          simp at hy
          obtain ⟨e', he', rfl⟩ := List.mem_map.1 hx
          have := h5 e' he'
          omega⟩
      · intro e he
        simp at he
        rcases he with he | rfl
        · have := h5 e (by simpa using he); omega
        · simp
  · obtain ⟨e, he, hek, hev⟩ := h2.key g2
    have he' : es[j]? = some e := by simpa using he
    have hm := modify_set es j e (fun e => { e with key := kvv k, val := .int .i64 v }) he
    refine ⟨setBlock w b (.map (es.modify j fun e => { e with key := kvv k, val := .int .i64 v }) clock), ?_, ?_, grown _⟩
    · simp [Instr.mapUpdate, run_underlying Try.underlying68, MapKept.run_getObj_map h1, run_checkKnot, run_findKey k w es m h2, g1, MapKept.run_setObj_map _ h1, Result.andThen, setBlock, he', stays k w e.key hek]
    · refine ⟨_, _, heap_setBlock_same h1 _, ?_, ?_, ?_, ?_⟩
      · rw [g3]; exact h2.set hm rfl rfl
      · rw [g3, List.map_set]
        have : (m.map (·.1)).set j k = m.map (·.1) := by
          apply List.ext_getElem?
          intro i
          rw [List.getElem?_set]
          split
          · rename_i hi
            subst hi
            simp [g2]
            exact (List.getElem?_eq_some_iff.1 g2).1
          · rfl
        simp only [this]
        exact h3
      · rw [hm, List.map_set]
        have : (es.toList.map (·.born)).set j e.born = es.toList.map (·.born) := by
          apply List.ext_getElem?
          intro i
          rw [List.getElem?_set]
          split
          · rename_i hi
            subst hi
            simp [he']
            exact (Array.getElem?_eq_some_iff.1 he').1
          · rfl
        simp only [this]
        exact h4
      · intro x hx
        rw [hm] at hx
        rcases List.mem_or_eq_of_mem_set hx with hx | rfl
        · exact h5 x hx
        · exact h5 e (List.mem_of_getElem? he)
end Go.Proofs.Ytkplpmhdmlkjhaa

/- m[k]++ on such a map: the entry, and the store into it. -/
namespace Go.Proofs.Ytkplpmhdmlkjhaa
open Go.RowKit Go.ChangeMaps Go.MapKept

theorem map_fst_set {m : List (Ck.Knot × Int)} {j : Nat} {k : Ck.Knot} {u : Int} (h : m[j]? = some (k, u)) (v : Int) : (m.set j (k, v)).map (·.1) = m.map (·.1) := by
  rw [List.map_set]
  apply List.ext_getElem?
  intro i
  rw [List.getElem?_set]
  split
  · rename_i hi
    subst hi
    simp [h]
    exact (List.getElem?_eq_some_iff.1 h).1
  · rfl
theorem map_born_set {l : List MapEntry} {j : Nat} {e e' : MapEntry} (h : l[j]? = some e) (hb : e'.born = e.born) : (l.set j e').map (·.born) = l.map (·.born) := by
  rw [List.map_set]
  apply List.ext_getElem?
  intro i
  rw [List.getElem?_set]
  split
  · rename_i hi
    subst hi
    simp [h, hb]
    exact (List.getElem?_eq_some_iff.1 h).1
  · rfl
theorem mem_set_born {l : List MapEntry} {j c : Nat} {e e' : MapEntry} (h : l[j]? = some e) (hb : e'.born = e.born) (h5 : ∀ x ∈ l, x.born < c) : ∀ x ∈ l.set j e', x.born < c := by
  intro x hx
  rcases List.mem_or_eq_of_mem_set hx with hx | rfl
  · exact h5 x hx
  · rw [hb]; exact h5 e (List.mem_of_getElem? h)

theorem entryStore_run {w : World} {b : Nat} {m : List (Ck.Knot × Int)} {es : Array MapEntry} {clock j : Nat} {k : Ck.Knot} {u : Int} {e : MapEntry} (h1 : w.heap[b]? = some (.map es clock)) (h2 : Ents es m) (h3 : (m.map (·.1)).Nodup) (h4 : (es.toList.map (·.born)).Nodup)
    (h5 : ∀ e ∈ es.toList, e.born < clock) (he : es.toList[j]? = some e) (hk : e.key = kvv k) (hj : m[j]? = some (k, u)) (v : Int) :
    ∃ w', (Instr.entryStore 68 (.map (some b)) (goInt e.born) (.int .i64 v)).run Try.prog w = .ok () w' ∧ MIs w' b (m.set j (k, v)) ∧ w.grownBy w' (some b) := by
  have hf : es.findIdx? (fun x => ((x.born : Nat) : Int) == ((e.born : Nat) : Int)) = some j := by rw [WideElems.findIdx_arr]; exact WideElems.findIdx_born h4 he
  have hm := modify_set es j e (fun e => { e with val := .int .i64 v }) he
  refine ⟨setBlock w b (.map (es.modify j fun e => { e with val := .int .i64 v }) clock), ?_, ⟨_, _, heap_setBlock_same h1 _, h2.set hm hk rfl, ?_, ?_, ?_⟩, ⟨rfl, rfl, rfl, by simp [setBlock], fun i _ hi => heap_setBlock_other h1 _ (fun e => hi (by rw [e]))⟩⟩
  · have ha : (asIntOf (.int .i64 (e.born : Int))).run Try.prog w = .ok (.i64, (e.born : Int)) w := rfl
    simp [ha, Instr.entryStore, MapKept.run_getObj_map h1, MapKept.run_setObj_map _ h1, Result.andThen, setBlock, goInt, asInt, hf]
  · rw [map_fst_set hj]; exact h3
  · rw [hm, map_born_set (e := e) (e' := { e with val := .int .i64 v }) he rfl]; exact h4
  · rw [hm]; exact mem_set_born (e := e) (e' := { e with val := .int .i64 v }) he rfl h5

theorem mput_self_set {m : List (Ck.Knot × Int)} {j : Nat} {k : Ck.Knot} (h : m[j]? = some (k, mget m k)) : m.set j (k, mget m k) = m := by
  apply List.ext_getElem?
  intro i
  rw [List.getElem?_set]
  split
  · rename_i hi
    subst hi
    rw [if_pos (List.getElem?_eq_some_iff.1 h).1, h]
  · rfl

theorem MIs.entry {w : World} {b : Nat} {m : List (Ck.Knot × Int)} (h : MIs w b m) (k : Ck.Knot) :
    ∃ w' st, (Instr.mapEntry 68 (.map (some b)) (kvv k)).run Try.prog w = .ok (.tuple #[.int .i64 (mget m k), st]) w' ∧ MIs w' b (mput m k (mget m k)) ∧ w.grownBy w' (some b) ∧
      ∀ (v : Int) (w2 : World), w2.heap[b]? = w'.heap[b]? → ∃ w3, (Instr.entryStore 68 (.map (some b)) st (.int .i64 v)).run Try.prog w2 = .ok () w3 ∧ MIs w3 b (mput m k v) ∧ w2.grownBy w3 (some b) := by
  obtain ⟨es, clock, h1, h2, h3, h4, h5⟩ := h
  have hz : (zeroValue 3).run Try.prog w = .ok (.int .i64 0) w := by kernel_rfl
  have grown : ∀ o, w.grownBy (setBlock w b o) (some b) := fun o => ⟨rfl, rfl, rfl, by simp [setBlock], fun i _ hi => heap_setBlock_other h1 _ (fun e => hi (by rw [e]))⟩
  rcases fnd_spec k m 0 with ⟨g1, g2, g3, g4⟩ | ⟨j, g1, g2, g3⟩
  · have e2 : Ents (es.push { key := kvv k, val := .int .i64 0, born := clock }) (m ++ [(k, 0)]) := by unfold Ents at h2 ⊢; simp [h2]
    have e3 : ((m ++ [(k, (0 : Int))]).map (·.1)).Nodup := by
      rw [List.map_append]
      exact List.nodup_append.2 ⟨h3, by simp, fun x hx y hy e => g2 (by simp at hy; rw [← hy, ← e]; exact hx)⟩
    have e4 : ((es.push { key := kvv k, val := .int .i64 0, born := clock }).toList.map (·.born)).Nodup := by
      simp only [Array.toList_push, List.map_append]
      exact List.nodup_append.2 ⟨h4, by simp, fun x hx y hy e => by
        simp at hy
        obtain ⟨e', he', rfl⟩ := List.mem_map.1 hx
        have := h5 e' he'
        omega⟩
    have e5 : ∀ x ∈ (es.push { key := kvv k, val := .int .i64 0, born := clock }).toList, x.born < clock + 1 := by
      intro x hx
      simp at hx
      rcases hx with hx | rfl
      · have := h5 x (by simpa using hx); omega
      · simp
    have hlen : es.toList.length = m.length := by have := congrArg List.length h2; simpa using this
    have he : (es.push { key := kvv k, val := .int .i64 0, born := clock }).toList[m.length]? = some { key := kvv k, val := .int .i64 0, born := clock } := by
      simp [← hlen]
    refine ⟨setBlock w b (.map (es.push { key := kvv k, val := .int .i64 0, born := clock }) (clock + 1)), goInt clock, ?_, ?_, grown _, fun v w2 hw2 => ?_⟩
    · simp [Instr.mapEntry, run_underlying Try.underlying68, MapKept.run_getObj_map h1, run_checkKnot, run_findKey k w es m h2, g1, g3, hz, MapKept.run_setObj_map _ h1, Result.andThen, setBlock]
    · rw [g4, g3]; exact ⟨_, _, heap_setBlock_same h1 _, e2, e3, e4, e5⟩
    · rw [g4]
      rw [heap_setBlock_same h1] at hw2
      obtain ⟨w3, r1, r2, r3⟩ := entryStore_run (k := k) (u := 0) hw2 e2 e3 e4 e5 he rfl (by simp) v
      exact ⟨w3, r1, by simpa using r2, r3⟩
  · obtain ⟨e, he, hek, hev⟩ := h2.key g2
    have he' : es[j]? = some e := by simpa using he
    have hm := modify_set es j e (fun e => { e with key := kvv k }) he
    have e2 : Ents (es.modify j fun e => { e with key := kvv k }) m := by
      have := h2.set (p := (k, mget m k)) (e := { e with key := kvv k }) hm rfl hev
      rwa [mput_self_set g2] at this
    have e4 : ((es.modify j fun e => { e with key := kvv k }).toList.map (·.born)).Nodup := by rw [hm, map_born_set (e := e) (e' := { e with key := kvv k }) he rfl]; exact h4
    have e5 : ∀ x ∈ (es.modify j fun e => { e with key := kvv k }).toList, x.born < clock := by rw [hm]; exact mem_set_born (e := e) (e' := { e with key := kvv k }) he rfl h5
    have he2 : (es.modify j fun e => { e with key := kvv k }).toList[j]? = some { e with key := kvv k } := by
      rw [hm, List.getElem?_set_self (List.getElem?_eq_some_iff.1 he).1]
    refine ⟨setBlock w b (.map (es.modify j fun e => { e with key := kvv k }) clock), goInt e.born, ?_, ?_, grown _, fun v w2 hw2 => ?_⟩
    · simp [Instr.mapEntry, run_underlying Try.underlying68, MapKept.run_getObj_map h1, run_checkKnot, run_findKey k w es m h2, g1, MapKept.run_setObj_map _ h1, Result.andThen, setBlock, he', stays k w e.key hek]
    · rw [g3, mput_self_set g2]; exact ⟨_, _, heap_setBlock_same h1 _, e2, h3, e4, e5⟩
    · rw [g3]
      rw [heap_setBlock_same h1] at hw2
      exact entryStore_run (e := { e with key := kvv k }) hw2 e2 h3 e4 e5 he2 rfl g2 v
end Go.Proofs.Ytkplpmhdmlkjhaa

/- Contracts of endsOf and degrees. -/
namespace Go.Proofs.Ytkplpmhdmlkjhaa
open Go.RowKit

theorem box34 (w : World) (a b c d e f g : Value) (t t' : TypeId) : ∃ w1, w1 = (w.alloc (.cells #[a, b, c] t)).alloc (.cells #[d, e, f, g] t') ∧ w1.cell? ⟨w.heap.size, 0, none⟩ = some a ∧ w1.cell? ⟨w.heap.size, 1, none⟩ = some b ∧ w1.cell? ⟨w.heap.size, 2, none⟩ = some c ∧
    w1.heap[w.heap.size + 1]? = some (.cells #[d, e, f, g] t' (0, 0)) ∧ Below w.heap.size w w1 ∧ w.heap.size + 1 < w1.heap.size := by
  obtain ⟨w0, rfl, h0, h1, h2, hb0, hz⟩ := box3 w a b c t
  have hs : (w.alloc (.cells #[a, b, c] t)).heap.size = w.heap.size + 1 := by simp
  have hb : Below (w.alloc (.cells #[a, b, c] t)).heap.size (w.alloc (.cells #[a, b, c] t)) ((w.alloc (.cells #[a, b, c] t)).alloc (.cells #[d, e, f, g] t')) := (Below.refl _ _).alloc (Nat.le_refl _) _
  exact ⟨_, rfl, (hb.cell (p := ⟨_, _, none⟩) hz).trans h0, (hb.cell (p := ⟨_, _, none⟩) hz).trans h1, (hb.cell (p := ⟨_, _, none⟩) hz).trans h2, by rw [← hs]; exact heap_alloc_new _ _, hb0.trans (hb.mono (by omega)), by simp⟩
theorem four_cells {w : World} {g : Nat} {a b c d : Value} {t : TypeId} (h : w.heap[g]? = some (.cells #[a, b, c, d] t (0, 0))) : w.cell? ⟨g, 0, none⟩ = some a ∧ w.cell? ⟨g, 1, none⟩ = some b ∧ w.cell? ⟨g, 2, none⟩ = some c ∧ w.cell? ⟨g, 3, none⟩ = some d ∧ ∀ i, w.frozen? ⟨g, i, none⟩ = false := by
  refine ⟨?_, ?_, ?_, ?_, fun i => ?_⟩ <;> simp [World.cell?, World.frozen?, h]

theorem carry34 {w0 w1 : World} {g : Nat} {a b c d e f h : Value} {t : TypeId} (hb : Below w0.heap.size w0 w1) (hz : g + 1 < w0.heap.size) (c0 : w0.cell? ⟨g, 0, none⟩ = some a) (c1 : w0.cell? ⟨g, 1, none⟩ = some b) (c2 : w0.cell? ⟨g, 2, none⟩ = some c)
    (hr : w0.heap[g + 1]? = some (.cells #[d, e, f, h] t (0, 0))) :
    w1.cell? ⟨g, 0, none⟩ = some a ∧ w1.cell? ⟨g, 1, none⟩ = some b ∧ w1.cell? ⟨g, 2, none⟩ = some c ∧ w1.heap[g + 1]? = some (.cells #[d, e, f, h] t (0, 0)) ∧ g + 1 < w1.heap.size :=
  ⟨(hb.cell (p := ⟨g, _, none⟩) (by show g < _; omega)).trans c0, (hb.cell (p := ⟨g, _, none⟩) (by show g < _; omega)).trans c1, (hb.cell (p := ⟨g, _, none⟩) (by show g < _; omega)).trans c2, (hb.block _ hz).trans hr, Nat.lt_of_lt_of_le hz hb.size⟩

set_option maxHeartbeats 1000000 in
set_option maxRecDepth 100000 in
theorem netEndsOf (x y s : Int) (w : World) (hx1 : -100000 ≤ x) (hx2 : x ≤ 100000) (hy1 : -100000 ≤ y) (hy2 : y ≤ 100000) (hs1 : -1 ≤ s) (hs2 : s ≤ 1) :
    Calls Try.prog 55 #[.agg #[.int .i64 x, .int .i64 y, .int .i64 s]] w fun e w' => e = .returned (.agg #[.int .i64 x, .int .i64 y, .int .i64 (x + s), .int .i64 (y + 1)]) ∧ Below w.heap.size w w' := by
  obtain ⟨w0, hw0, c0, c1, c2, hr, hb0, hz0⟩ := box34 w (.int .i64 x) (.int .i64 y) (.int .i64 s) (.int .i64 0) (.int .i64 0) (.int .i64 0) (.int .i64 0) 50 96
  obtain ⟨r0, r1, r2, r3, rf⟩ := four_cells hr
  have hz00 : w.heap.size < w0.heap.size := by omega
  have HW := Lib.hid hw0
  have HR := Lib.hid hr
  clear hw0 hr
  go_enter Try.func55, Try.ntmps55
  go_wp2_with fail
  rw [← HW.out]
  go_region_with (first
    | (go_at_call 64; refine (netLower _ _ _ _).mono ?_; rintro e w1 ⟨rfl, hb1⟩; obtain ⟨d0, d1, d2, hr1, hz1⟩ := carry34 hb1 hz0 c0 c1 c2 HR.out; have HR1 := Lib.hid hr1; obtain ⟨s0, s1, s2, s3, sf⟩ := four_cells hr1; clear hr1)
    | (go_at_call 67; refine (netUpper _ _ _ _ hx1 hx2 hy1 hy2 hs1 hs2).mono ?_; rintro e w2 ⟨rfl, hb2⟩; obtain ⟨e0, e1, e2, hr2, hz2⟩ := carry34 hb2 hz1 d0 d1 d2 HR1.out; have HR2 := Lib.hid hr2; obtain ⟨t0, t1, t2, t3, tf⟩ := four_cells hr2; clear hr2))
  all_goals go_wp2
  all_goals
    exact bodyPost_ret (v := .agg #[.int .i64 x, .int .i64 y, .int .i64 (x + s), .int .i64 (y + 1)]) (by simp [results, Try.results55, go_sem, t0, t1, t2, t3]) rfl
      ⟨rfl, ((((((below_drew hb0).trans (hb1.mono (by show w.heap.size ≤ w0.heap.size; omega))).trans (hb2.mono (by omega))).setCell (by simp) _).setCell (by simp) _).setCell (by simp) _).setCell (by simp) _⟩
end Go.Proofs.Ytkplpmhdmlkjhaa

/- The contract of degrees: a new map from the knots of a net to how many bars end there. -/
namespace Go.Proofs.Ytkplpmhdmlkjhaa
open Go.RowKit

def incr (m : List (Ck.Knot × Int)) (k : Ck.Knot) : List (Ck.Knot × Int) := mput m k (mget m k + 1)
def degsL (ks : List Ck.Knot) : List (Ck.Knot × Int) := ks.foldl incr []
theorem mget_mput (m : List (Ck.Knot × Int)) (k k' : Ck.Knot) (v : Int) : mget (mput m k v) k' = if k' = k then v else mget m k' := by
  induction m with
  | nil => simp [mput, mget]
  | cons p r ih =>
    by_cases h : k = p.1
    · simp only [mput, if_pos h, mget]
      by_cases h2 : k' = k
      · simp [h2]
      · simp [h2, h ▸ h2]
    · simp only [mput, if_neg h, mget, ih]
      by_cases h2 : k' = p.1
      · have : ¬ k' = k := fun e => h (e ▸ h2)
        simp [h2]
        intro e
        exact absurd e.symm h
      · simp [h2]
theorem mget_bound (ks : List Ck.Knot) : ∀ (m : List (Ck.Knot × Int)) (c : Int), (∀ k, 0 ≤ mget m k ∧ mget m k ≤ c) → ∀ k, 0 ≤ mget (ks.foldl incr m) k ∧ mget (ks.foldl incr m) k ≤ c + ks.length := by
  induction ks with
  | nil => intro m c h k; simpa using h k
  | cons a r ih =>
    intro m c h k
    have := ih (incr m a) (c + 1) (fun k' => by
      rw [incr, mget_mput]
      have h1 := h k'
      have h2 := h a
      split <;> omega) k
    simp only [List.foldl_cons, List.length_cons] at this ⊢
    omega
theorem degs_bound (ks : List Ck.Knot) (k : Ck.Knot) : 0 ≤ mget (degsL ks) k ∧ mget (degsL ks) k ≤ ks.length := by
  have := mget_bound ks [] 0 (fun _ => by simp [mget]) k
  simpa [degsL] using this
theorem degsL_snoc (ks : List Ck.Knot) (k : Ck.Knot) : degsL (ks ++ [k]) = incr (degsL ks) k := by simp [degsL]

theorem idx0 (a b c d : Value) (w : World) : (Instr.index 96 (.agg #[a, b, c, d]) (.int .i64 0)).run Try.prog w = .ok (.agg #[a, b]) w := by kernel_rfl
theorem idx1 (a b c d : Value) (w : World) : (Instr.index 96 (.agg #[a, b, c, d]) (.int .i64 1)).run Try.prog w = .ok (.agg #[c, d]) w := by kernel_rfl
theorem extract1 (a b : Value) (w : World) : (Instr.extract (.tuple #[a, b]) 1).run Try.prog w = .ok b w := by kernel_rfl
/-- All that a walk wants to know where a map's count is raised. -/
theorem MIs.raise {w : World} {b g : Nat} {m : List (Ck.Knot × Int)} (h : MIs w b m) (k : Ck.Knot) (hg : g ≠ b) (hgs : g < w.heap.size) (c0 : w.cell? ⟨g, 0, none⟩ = some (.int .i64 k.x)) (c1 : w.cell? ⟨g, 1, none⟩ = some (.int .i64 k.y)) :
    ∃ we w3 st, (Instr.mapEntry 68 (.map (some b)) (.agg #[.int .i64 k.x, .int .i64 k.y])).run Try.prog w = .ok (.tuple #[.int .i64 (mget m k), st]) we ∧
      (Instr.lookup 68 (.map (some b)) (.agg #[.int .i64 k.x, .int .i64 k.y]) false).run Try.prog w = .ok (.int .i64 (mget m k)) w ∧
      (Instr.lookup 68 (.map (some b)) (.agg #[.int .i64 k.x, .int .i64 k.y]) false).run Try.prog we = .ok (.int .i64 (mget m k)) we ∧
      (Instr.entryStore 68 (.map (some b)) st (.int .i64 (mget m k + 1))).run Try.prog we = .ok () w3 ∧
      we.cell? ⟨g, 0, none⟩ = some (.int .i64 k.x) ∧ we.cell? ⟨g, 1, none⟩ = some (.int .i64 k.y) ∧ MIs w3 b (incr m k) ∧ w.grownBy w3 (some b) := by
  obtain ⟨we, st, r1, m1, g1, hst⟩ := h.entry k
  obtain ⟨w3, s1, m3, g3⟩ := hst (mget m k + 1) we rfl
  have l1 := m1.lookup k
  rw [mget_mput, if_pos rfl] at l1
  have hb : ∀ i, we.cell? ⟨g, i, none⟩ = w.cell? ⟨g, i, none⟩ := fun i => World.cell?_of_block (g1.block g hgs (fun e => hg (by injection e)))
  exact ⟨we, w3, st, r1, h.lookup k, l1, s1, (hb 0).trans c0, (hb 1).trans c1, m3, g1.trans g3⟩
theorem ends_take_succ {l : List Ck.Bar} {k : Nat} (h : k < l.length) : Ck.ends (l.take (k + 1)) = Ck.ends (l.take k) ++ [l[k].lo] ++ [l[k].hi] := by
  rw [List.take_succ_eq_append_getElem h, Ck.ends_append]
  simp [Ck.ends]
theorem ends_length (l : List Ck.Bar) : (Ck.ends l).length = 2 * l.length := by
  induction l with
  | nil => rfl
  | cons a r ih => simp [Ck.ends] at ih ⊢; omega

set_option maxHeartbeats 1000000 in
set_option maxRecDepth 100000 in
theorem netDegrees (A : Option Addr) (c : Nat) (l : List Ck.Bar) (w : World) (hl : l.length ≤ 4096) (hok : ∀ x ∈ l, Ck.okBar x) (h : RB w w.heap.size A l) :
    Calls Try.prog 31 #[.slice A l.length c] w fun e w' => ∃ b, e = .returned (.map (some b)) ∧ w.heap.size ≤ b ∧ MIs w' b (degsL (Ck.ends l)) ∧ Below w.heap.size w w' := by
  have hl' : (l.length : Int) ≤ 4096 := by omega
  have hmm := @run_makeMap Try.prog
  go_enter Try.func31, Try.ntmps31
  go_wp2_with fail
  go_loopw [5, 7, 11] (fun _ _ i wr => ∃ k : Nat, k ≤ l.length ∧ i = .int .i64 k ∧ MIs wr w.heap.size (degsL (Ck.ends (l.take k))) ∧ Below w.heap.size w wr) (fun _ _ i _ => l.length - (intOf i).toNat)
  case atStart => exact ⟨0, Nat.zero_le _, rfl, MIs.made _, (Below.refl _ _).alloc (Nat.le_refl _) _⟩
  case round =>
    obtain ⟨k, hk, rfl, hm, hb⟩ := hrel
    by_cases hlt : k < l.length
    · have h' := h.below hb
      obtain ⟨b, off, rfl, hB, hc⟩ := h' (by omega)
      have hin := hok _ (List.getElem_mem hlt)
      obtain ⟨⟨⟨hx1, hx2⟩, ⟨hy1, hy2⟩, _⟩, hs, _⟩ := hin
      have hs1 : -1 ≤ l[k].s := by omega
      have hs2 : l[k].s ≤ 1 := by omega
      replace hx1 : -100000 ≤ l[k].x := hx1
      replace hx2 : l[k].x ≤ 100000 := hx2
      replace hy1 : -100000 ≤ l[k].y := hy1
      replace hy2 : l[k].y ≤ 100000 := hy2
      obtain ⟨c0, c1, c2⟩ := hc k hlt
      have HT := Lib.hid (ends_take_succ hlt)
      have hE := ends_length (l.take k)
      rw [List.length_take, Nat.min_eq_left (by omega)] at hE
      have HE := Lib.hid hE
      clear hc h' h hs hE
      obtain ⟨wo, rfl⟩ : ∃ wo : World, wo = wr := ⟨_, rfl⟩
      go_wp2_with fail
      refine (netEndsOf _ _ _ _ hx1 hx2 hy1 hy2 hs1 hs2).mono ?_
      rintro e w1 ⟨rfl, hb1⟩
      have hz := hm.lt
      have hq1 : Below wo.heap.size wo w1 := ((Below.refl _ wo).alloc (Nat.le_refl _) _).trans (hb1.mono (by simp))
      have hmw := hm.below hq1 hz
      have hbw := hb.trans (hq1.mono hb.size)
      go_wp2_with fail
      go_loopw [7, 17] (fun _ i wi => ∃ j : Nat, j ≤ 2 ∧ i = .int .i64 j ∧ MIs wi w.heap.size (degsL (Ck.ends (l.take k) ++ [l[k].lo, l[k].hi].take j)) ∧ Below w.heap.size w wi) (fun _ i _ => 2 - (intOf i).toNat)
      case atStart => exact ⟨0, by omega, rfl, by simpa using hmw, hbw⟩
      case round =>
        obtain ⟨j, hj, rfl, hmi, hbi⟩ := hrel
        have hj' : j = 0 ∨ j = 1 ∨ j = 2 := by omega
        rcases hj' with rfl | rfl | rfl
        · have hidx := idx0 (.int .i64 l[k].x) (.int .i64 l[k].y) (.int .i64 (l[k].x + l[k].s)) (.int .i64 (l[k].y + 1))
          go_wp2_with fail
          obtain ⟨w2, hw2, d0, d1, hb2, hz2⟩ := box2 wr (.int .i64 l[k].x) (.int .i64 l[k].y) 30
          rw [← hw2]
          clear hw2
          have hm2 := hmi.below hb2 hmi.lt
          obtain ⟨we, w3, st, r1, r2, r3, r4, e0, e1, m3, g3⟩ := (hm2.drew).raise l[k].lo (by have := hmi.lt; omega) hz2 d0 d1
          have hv := degs_bound (Ck.ends (l.take k) ++ [l[k].lo, l[k].hi].take 0) l[k].lo
          have hlen : ((Ck.ends (l.take k) ++ [l[k].lo, l[k].hi].take 0).length : Int) ≤ 10000 := by rw [List.length_append, HE.out]; simp; omega
          generalize mget (degsL (Ck.ends (l.take k) ++ [l[k].lo, l[k].hi].take 0)) l[k].lo = v at r1 r2 r3 r4 hv
          have hw : IntKind.i64.wrap (v + 1) = v + 1 := by rw [IntKind.wrap_i64]; omega
          replace r1 : (Instr.mapEntry 68 (.map (some w.heap.size)) (.agg #[.int .i64 l[k].x, .int .i64 l[k].y])).run Try.prog w2.drew = _ := r1
          replace r2 : (Instr.lookup 68 (.map (some w.heap.size)) (.agg #[.int .i64 l[k].x, .int .i64 l[k].y]) false).run Try.prog w2.drew = _ := r2
          replace r3 : (Instr.lookup 68 (.map (some w.heap.size)) (.agg #[.int .i64 l[k].x, .int .i64 l[k].y]) false).run Try.prog we = _ := r3
          replace e0 : we.cell? ⟨wr.heap.size, 0, none⟩ = some (.int .i64 l[k].x) := e0
          replace e1 : we.cell? ⟨wr.heap.size, 1, none⟩ = some (.int .i64 l[k].y) := e1
          clear hlen
          go_region
          go_wp2
          go_roundw
          case rel => exact ⟨0 + 1, by omega, by go_num, by rw [show [l[k].lo, l[k].hi].take (0 + 1) = [l[k].lo, l[k].hi].take 0 ++ [l[k].lo] from rfl, ← List.append_assoc, degsL_snoc]; exact m3, (below_drew (hbi.trans (hb2.mono hbi.size))).grown g3 (by have := hb2.size; have := hbi.size; show w.heap.size ≤ w2.heap.size; omega) (fun q e => by cases e; exact Nat.le_refl _)⟩
          case measure => simp [intOf]
        · have hidx := idx1 (.int .i64 l[k].x) (.int .i64 l[k].y) (.int .i64 (l[k].x + l[k].s)) (.int .i64 (l[k].y + 1))
          go_wp2_with fail
          obtain ⟨w2, hw2, d0, d1, hb2, hz2⟩ := box2 wr (.int .i64 (l[k].x + l[k].s)) (.int .i64 (l[k].y + 1)) 30
          rw [← hw2]
          clear hw2
          have hm2 := hmi.below hb2 hmi.lt
          obtain ⟨we, w3, st, r1, r2, r3, r4, e0, e1, m3, g3⟩ := (hm2.drew).raise l[k].hi (by have := hmi.lt; omega) hz2 d0 d1
          have hv := degs_bound (Ck.ends (l.take k) ++ [l[k].lo, l[k].hi].take 1) l[k].hi
          have hlen : ((Ck.ends (l.take k) ++ [l[k].lo, l[k].hi].take 1).length : Int) ≤ 10000 := by rw [List.length_append, HE.out]; simp; omega
          generalize mget (degsL (Ck.ends (l.take k) ++ [l[k].lo, l[k].hi].take 1)) l[k].hi = v at r1 r2 r3 r4 hv
          have hw : IntKind.i64.wrap (v + 1) = v + 1 := by rw [IntKind.wrap_i64]; omega
          replace r1 : (Instr.mapEntry 68 (.map (some w.heap.size)) (.agg #[.int .i64 (l[k].x + l[k].s), .int .i64 (l[k].y + 1)])).run Try.prog w2.drew = _ := r1
          replace r2 : (Instr.lookup 68 (.map (some w.heap.size)) (.agg #[.int .i64 (l[k].x + l[k].s), .int .i64 (l[k].y + 1)]) false).run Try.prog w2.drew = _ := r2
          replace r3 : (Instr.lookup 68 (.map (some w.heap.size)) (.agg #[.int .i64 (l[k].x + l[k].s), .int .i64 (l[k].y + 1)]) false).run Try.prog we = _ := r3
          replace e0 : we.cell? ⟨wr.heap.size, 0, none⟩ = some (.int .i64 (l[k].x + l[k].s)) := e0
          replace e1 : we.cell? ⟨wr.heap.size, 1, none⟩ = some (.int .i64 (l[k].y + 1)) := e1
          clear hlen
          go_region
          go_wp2
          go_roundw
          case rel => exact ⟨1 + 1, by omega, by go_num, by rw [show [l[k].lo, l[k].hi].take (1 + 1) = [l[k].lo, l[k].hi].take 1 ++ [l[k].hi] from rfl, ← List.append_assoc, degsL_snoc]; exact m3, (below_drew (hbi.trans (hb2.mono hbi.size))).grown g3 (by have := hb2.size; have := hbi.size; show w.heap.size ≤ w2.heap.size; omega) (fun q e => by cases e; exact Nat.le_refl _)⟩
          case measure => simp [intOf]
        · go_wp2
          go_roundw
          case rel => exact ⟨k + 1, by omega, by go_num, by rw [HT.out]; simpa using hmi, hbi⟩
          case measure => simp [intOf]; omega
    · obtain rfl : k = l.length := by omega
      go_wp2
      go_ret
      exact ⟨_, rfl, Nat.le_refl _, by rwa [List.take_length] at hm, hb⟩
end Go.Proofs.Ytkplpmhdmlkjhaa

/- Plain mathematics of the numbering of connected knots: what holds at each step of a search with a stack. -/
namespace Go.Proofs.Ytkplpmhdmlkjhaa
open Ck

def nb (k : Knot) : List (Bar × Knot) := [(⟨k.x - 1, k.y - 1, 1⟩, ⟨k.x - 1, k.y - 1⟩), (⟨k.x + 1, k.y - 1, -1⟩, ⟨k.x + 1, k.y - 1⟩), (⟨k.x, k.y, -1⟩, ⟨k.x - 1, k.y + 1⟩), (⟨k.x, k.y, 1⟩, ⟨k.x + 1, k.y + 1⟩)]
theorem Knot.ext' {a b : Knot} (h1 : a.x = b.x) (h2 : a.y = b.y) : a = b := by
  cases a; cases b; cases h1; cases h2; rfl
theorem nb_adj {k : Knot} {p : Bar × Knot} (h : p ∈ nb k) : Adj p.1 k p.2 := by
  simp only [nb, List.mem_cons, List.not_mem_nil, or_false] at h
  rcases h with rfl | rfl | rfl | rfl
  · exact .inr ⟨Knot.ext' (by show k.x = k.x - 1 + 1; omega) (by show k.y = k.y - 1 + 1; omega), rfl⟩
  · exact .inr ⟨Knot.ext' (by show k.x = k.x + 1 + -1; omega) (by show k.y = k.y - 1 + 1; omega), rfl⟩
  · exact .inl ⟨rfl, Knot.ext' (by show k.x - 1 = k.x + -1; omega) rfl⟩
  · exact .inl ⟨rfl, rfl⟩
theorem adj_nb {b : Bar} {k m : Knot} (hs : b.s = -1 ∨ b.s = 1) (h : Adj b k m) : (b, m) ∈ nb k := by
  obtain ⟨x, y, s⟩ := b
  simp only at hs
  simp only [nb, List.mem_cons, List.not_mem_nil, or_false, Prod.mk.injEq]
  rcases h with ⟨rfl, rfl⟩ | ⟨rfl, rfl⟩
  · rcases hs with rfl | rfl
    · exact .inr (.inr (.inl ⟨rfl, Knot.ext' (by show x + -1 = x - 1; omega) rfl⟩))
    · exact .inr (.inr (.inr ⟨rfl, rfl⟩))
  · rcases hs with rfl | rfl
    · exact .inr (.inl ⟨Bar.ext' (by show x = x + -1 + 1; omega) (by show y = y + 1 - 1; omega) rfl, Knot.ext' (by show x = x + -1 + 1; omega) (by show y = y + 1 - 1; omega)⟩)
    · exact .inl ⟨Bar.ext' (by show x = x + 1 - 1; omega) (by show y = y + 1 - 1; omega) rfl, Knot.ext' (by show x = x + 1 - 1; omega) (by show y = y + 1 - 1; omega)⟩

/-- The numbered knots are closed under the bars. -/
def Closed (l : List Bar) (M : List (Knot × Int)) : Prop := ∀ b ∈ l, ∀ k m, Adj b k m → mget M k ≠ 0 → mget M m ≠ 0
theorem Closed.conn {l : List Bar} {M : List (Knot × Int)} (h : Closed l M) {k m : Knot} (hc : Conn l k m) : mget M k ≠ 0 → mget M m ≠ 0 := by
  induction hc with
  | refl => exact id
  | step b hb ha _ ih => exact fun hk => ih (h b hb _ _ ha hk)

/-- V: the knots that have been reached; S: those whose bars are still to be looked at; k0: the one whose first j bars have been looked at. -/
structure Fl (l : List Bar) (M0 : List (Knot × Int)) (src : Knot) (n : Int) (M : List (Knot × Int)) (V S : List Knot) (k0 : Option Knot) (j : Nat) : Prop where
  hM : ∀ k, mget M k = if k ∈ V then n else mget M0 k
  conn : ∀ k ∈ V, Conn l src k
  ends : ∀ k ∈ V, k ∈ ends l
  nd : V.Nodup
  nds : S.Nodup
  sub : ∀ k ∈ S, k ∈ V
  fr : src ∈ V
  cl : ∀ k ∈ V, k ∉ S → k0 ≠ some k → ∀ p ∈ nb k, p.1 ∈ l → p.2 ∈ V
  cur : ∀ k, k0 = some k → k ∈ V ∧ k ∉ S ∧ ∀ p ∈ (nb k).take j, p.1 ∈ l → p.2 ∈ V
theorem Fl.bound {l : List Bar} {M0 M : List (Knot × Int)} {src : Knot} {n : Int} {V S : List Knot} {k0 : Option Knot} {j : Nat} (h : Fl l M0 src n M V S k0 j) : V.length ≤ (Ck.ends l).length := h.nd.length_le_of_subset h.ends
theorem Fl.stack {l : List Bar} {M0 M : List (Knot × Int)} {src : Knot} {n : Int} {V S : List Knot} {k0 : Option Knot} {j : Nat} (h : Fl l M0 src n M V S k0 j) : S.length ≤ V.length := h.nds.length_le_of_subset h.sub

theorem Fl.start {l : List Bar} {M0 : List (Knot × Int)} {src : Knot} {n : Int} (hs : src ∈ Ck.ends l) : Fl l M0 src n (mput M0 src n) [src] [src] none 0 where
  hM k := by rw [mget_mput]; simp
  conn k hk := by rw [List.mem_singleton] at hk; subst hk; exact .refl _
  ends k hk := by rw [List.mem_singleton] at hk; subst hk; exact hs
  nd := by simp
  nds := by simp
  sub k hk := hk
  fr := by simp
  cl k hk hns := absurd hk hns
  cur k hk := by cases hk
theorem Fl.pop {l : List Bar} {M0 M : List (Knot × Int)} {src : Knot} {n : Int} {V S : List Knot} {k : Knot} (h : Fl l M0 src n M V (S ++ [k]) none 0) : Fl l M0 src n M V S (some k) 0 where
  hM := h.hM
  conn := h.conn
  ends := h.ends
  nd := h.nd
  nds := (List.nodup_append.1 h.nds).1
  sub m hm := h.sub m (by simp [hm])
  fr := h.fr
  cl m hm hns hne := h.cl m hm (fun hh => by
    rcases List.mem_append.1 hh with hh | hh
    · exact hns hh
    · rw [List.mem_singleton] at hh; subst hh; exact hne rfl) (by simp)
  cur m hm := by
    cases hm
    refine ⟨h.sub k (by simp), fun hk => ?_, by simp⟩
    exact (List.nodup_append.1 h.nds).2.2 k hk k (by simp) rfl
theorem Fl.done {l : List Bar} {M0 M : List (Knot × Int)} {src : Knot} {n : Int} {V S : List Knot} {k : Knot} (h : Fl l M0 src n M V S (some k) 4) : Fl l M0 src n M V S none 0 where
  hM := h.hM
  conn := h.conn
  ends := h.ends
  nd := h.nd
  nds := h.nds
  sub := h.sub
  fr := h.fr
  cl m hm hns _ p hp hl := by
    by_cases e : m = k
    · subst e; exact (h.cur m rfl).2.2 p (by simpa [nb] using hp) hl
    · exact h.cl m hm hns (fun e' => e (by cases e'; rfl)) p hp hl
  cur m hm := by cases hm
theorem take_succ_mem {α : Type} {l : List α} {j : Nat} {p q : α} (hp : l[j]? = some p) (h : q ∈ l.take (j + 1)) : q ∈ l.take j ∨ q = p := by
  rw [List.take_add_one, hp] at h
  simpa using h
/-- The bar leads to a knot that is new: it gets the number, and comes onto the stack. -/
theorem Fl.push {l : List Bar} {M0 M : List (Knot × Int)} {src : Knot} {n : Int} {V S : List Knot} {k : Knot} {j : Nat} {p : Bar × Knot} (h : Fl l M0 src n M V S (some k) j) (hn : n ≠ 0) (hp : (nb k)[j]? = some p) (hz : mget M p.2 = 0) (hl : p.1 ∈ l) :
    Fl l M0 src n (mput M p.2 n) (p.2 :: V) (S ++ [p.2]) (some k) (j + 1) := by
  have hnew : p.2 ∉ V := fun hv => hn (by rw [← hz, h.hM, if_pos hv])
  have hadj := nb_adj (List.mem_of_getElem? hp)
  obtain ⟨hkV, hkS, hkc⟩ := h.cur k rfl
  exact {
    hM := fun m => by
      rw [mget_mput, h.hM]
      by_cases e : m = p.2
      · simp [e]
      · simp [e]
    conn := fun m hm => by
      rcases List.mem_cons.1 hm with rfl | hm
      · exact (h.conn k hkV).trans (.one hl hadj)
      · exact h.conn m hm
    ends := fun m hm => by
      rcases List.mem_cons.1 hm with rfl | hm
      · exact (hadj.ends hl).2
      · exact h.ends m hm
    nd := List.nodup_cons.2 ⟨hnew, h.nd⟩
    nds := List.nodup_append.2 ⟨h.nds, by simp, fun a ha b hb e => by
      rw [List.mem_singleton] at hb
      subst hb
      subst e
      exact hnew (h.sub _ ha)⟩
    sub := fun m hm => by
      rcases List.mem_append.1 hm with hm | hm
      · exact List.mem_cons.2 (.inr (h.sub m hm))
      · rw [List.mem_singleton] at hm; subst hm; simp
    fr := List.mem_cons.2 (.inr h.fr)
    cl := fun m hm hns hne q hq hql => by
      rcases List.mem_cons.1 hm with rfl | hm
      · exact absurd (List.mem_append.2 (.inr (by simp))) hns
      · exact List.mem_cons.2 (.inr (h.cl m hm (fun hh => hns (List.mem_append.2 (.inl hh))) hne q hq hql))
    cur := fun m hm => by
      cases hm
      refine ⟨List.mem_cons.2 (.inr hkV), fun hh => ?_, fun q hq hql => ?_⟩
      · rcases List.mem_append.1 hh with hh | hh
        · exact hkS hh
        · rw [List.mem_singleton] at hh; exact hnew (hh ▸ hkV)
      · rcases take_succ_mem hp hq with hq | rfl
        · exact List.mem_cons.2 (.inr (hkc q hq hql))
        · simp }
/-- The bar isn't in the net, or leads to a knot that has a number. -/
theorem Fl.skip {l : List Bar} {M0 M : List (Knot × Int)} {src : Knot} {n : Int} {V S : List Knot} {k : Knot} {j : Nat} {p : Bar × Knot} (h : Fl l M0 src n M V S (some k) j) (hc : Closed l M0) (h0 : mget M0 src = 0) (hp : (nb k)[j]? = some p) (hz : ¬ (mget M p.2 = 0 ∧ p.1 ∈ l)) :
    Fl l M0 src n M V S (some k) (j + 1) := by
  have hadj := nb_adj (List.mem_of_getElem? hp)
  obtain ⟨hkV, hkS, hkc⟩ := h.cur k rfl
  exact { h with
    cur := fun m hm => by
      cases hm
      refine ⟨hkV, hkS, fun q hq hql => ?_⟩
      rcases take_succ_mem hp hq with hq | rfl
      · exact hkc q hq hql
      · by_cases hv : q.2 ∈ V
        · exact hv
        · exfalso
          have h1 : mget M q.2 ≠ 0 := fun e => hz ⟨e, hql⟩
          rw [h.hM, if_neg hv] at h1
          exact hc.conn (((h.conn k hkV).trans (.one hql hadj)).symm) h1 h0 }
/-- What the map holds at the end. -/
theorem Fl.result {l : List Bar} {M0 M : List (Knot × Int)} {src : Knot} {n : Int} {V : List Knot} (h : Fl l M0 src n M V [] none 0) (hok : ∀ b ∈ l, b.s = -1 ∨ b.s = 1) :
    (∀ k, Conn l src k → mget M k = n) ∧ ∀ k, ¬ Conn l src k → mget M k = mget M0 k := by
  have hall : ∀ k m, Conn l k m → k ∈ V → m ∈ V := by
    intro k m hc
    induction hc with
    | refl => exact id
    | step b hb ha _ ih => exact fun hk => ih (h.cl _ hk (by simp) (by simp) _ (adj_nb (hok b hb) ha) hb)
  exact ⟨fun k hk => by rw [h.hM, if_pos (hall _ _ hk h.fr)], fun k hk => by rw [h.hM, if_neg (fun hv => hk (h.conn k hv))]⟩
end Go.Proofs.Ytkplpmhdmlkjhaa
