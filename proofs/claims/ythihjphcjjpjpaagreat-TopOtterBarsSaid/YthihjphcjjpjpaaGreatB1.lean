/- Helpers, part 1. -/
import Derived.Test.YthihjphcjjpjpaaGreatRows
import Derived.WalkKit
import Derived.WalkSpells
import Derived.WalkLawsBesides
import Derived.Lib.Hide
import Derived.IntWalk
import Derived.Deep.RegionWith
import Derived.Deep.QuietTactic
import Derived.Deep.DeepCutAuto
import Derived.BigQuiet
import Derived.StillTailTactics
import Derived.Deep.RegionHeld3
import Derived.MapKept
import Derived.Laws.StructEq
import Derived.ChangeMaps5
/- Plain mathematics of nets: bars, knots, meshes and connected parts of lists of bars; how their numbers add up for two lists far from one another. No program is spoken of here. -/
namespace Go.Proofs.YthihjphcjjpjpaaGreat.Ck

structure Knot where
  x : Int
  y : Int
deriving DecidableEq

structure Bar where
  x : Int
  y : Int
  s : Int
deriving DecidableEq

def Bar.lo (b : Bar) : Knot := ⟨b.x, b.y⟩
def Bar.hi (b : Bar) : Knot := ⟨b.x + b.s, b.y + 1⟩
def Blt (a b : Bar) : Prop := a.y < b.y ∨ a.y = b.y ∧ (a.x < b.x ∨ a.x = b.x ∧ a.s < b.s)
theorem Bar.ext' {a b : Bar} (h1 : a.x = b.x) (h2 : a.y = b.y) (h3 : a.s = b.s) : a = b := by
  cases a; cases b; cases h1; cases h2; cases h3; rfl
def inPlace (n : Int) : Prop := -100000 ≤ n ∧ n ≤ 100000
def okKnot (k : Knot) : Prop := inPlace k.x ∧ inPlace k.y ∧ (k.x + k.y) % 2 = 0
def okBar (b : Bar) : Prop := okKnot b.lo ∧ (b.s = -1 ∨ b.s = 1) ∧ inPlace b.hi.x ∧ inPlace b.hi.y
def Net (l : List Bar) : Prop := (∀ b ∈ l, okBar b) ∧ l.Pairwise Blt
def near (b : Bar) : Prop := -200 ≤ b.x ∧ b.x ≤ 200 ∧ -200 ≤ b.y ∧ b.y ≤ 200

theorem Blt.trans {a b c : Bar} (h : Blt a b) (k : Blt b c) : Blt a c := by unfold Blt at *; omega
theorem Blt.irrefl {a : Bar} (h : Blt a a) : False := by unfold Blt at h; omega
theorem Blt.tri (a b : Bar) : Blt a b ∨ a = b ∨ Blt b a := by
  obtain ⟨a1, a2, a3⟩ := a
  obtain ⟨b1, b2, b3⟩ := b
  simp only [Blt, Bar.mk.injEq]
  omega
theorem Net.nodup {l : List Bar} (h : Net l) : l.Nodup := h.2.imp (fun {a b} (k : Blt a b) e => by subst e; exact k.irrefl)

def ends (l : List Bar) : List Knot := l.flatMap fun b => [b.lo, b.hi]
theorem mem_ends {l : List Bar} {k : Knot} : k ∈ ends l ↔ ∃ b ∈ l, k = b.lo ∨ k = b.hi := by simp [ends]
theorem ends_append (a b : List Bar) : ends (a ++ b) = ends a ++ ends b := by simp [ends]

/-! ### lists without repetition -/
def nub : List Knot → List Knot
  | [] => []
  | k :: r => if k ∈ r then nub r else k :: nub r
theorem mem_nub {k : Knot} : ∀ {l : List Knot}, k ∈ nub l ↔ k ∈ l
  | [] => Iff.rfl
  | m :: r => by
    unfold nub
    split
    · rename_i h
      rw [mem_nub, List.mem_cons]
      exact ⟨Or.inr, fun h' => h'.elim (fun e => e ▸ h) id⟩
    · rw [List.mem_cons, List.mem_cons, mem_nub]
theorem nub_nodup : ∀ l : List Knot, (nub l).Nodup
  | [] => by simp [nub]
  | m :: r => by
    unfold nub
    split
    · exact nub_nodup r
    · rename_i h
      exact List.nodup_cons.2 ⟨fun h' => h (mem_nub.1 h'), nub_nodup r⟩
theorem same_length {a b : List Knot} (ha : a.Nodup) (hb : b.Nodup) (h : ∀ k, k ∈ a ↔ k ∈ b) : a.length = b.length :=
  ((List.perm_ext_iff_of_nodup ha hb).2 h).length_eq

def nK (l : List Bar) : Nat := (nub (ends l)).length
theorem nK_eq {l : List Bar} {ks : List Knot} (hn : ks.Nodup) (hm : ∀ k, k ∈ ks ↔ k ∈ ends l) : ks.length = nK l :=
  same_length hn (nub_nodup _) fun k => by rw [hm, mem_nub]
theorem nK_add {a b : List Bar} (h : ∀ k ∈ ends a, k ∉ ends b) : nK (a ++ b) = nK a + nK b := by
  rw [nK, nK, nK, ← List.length_append]
  refine same_length (nub_nodup _) ?_ fun k => ?_
  · exact List.nodup_append.2 ⟨nub_nodup _, nub_nodup _, fun x hx y hy e => h x (mem_nub.1 hx) (mem_nub.1 (e ▸ hy))⟩
  · rw [mem_nub, ends_append, List.mem_append, List.mem_append, mem_nub, mem_nub]
theorem knots_union {a b u : List Bar} {k l m : List Knot} (hk : k.Nodup) (hl : l.Nodup) (hm : m.Nodup) (mk : ∀ p, p ∈ k ↔ p ∈ ends a) (ml : ∀ p, p ∈ l ↔ p ∈ ends b) (mm : ∀ p, p ∈ m ↔ p ∈ ends u)
    (hu : ∀ x, x ∈ u ↔ x ∈ a ∨ x ∈ b) : m.length + k.countP (fun p => decide (p ∈ l)) = k.length + l.length := by
  have he : ∀ p, p ∈ ends u ↔ p ∈ ends a ∨ p ∈ ends b := by
    intro p
    simp only [mem_ends, hu]
    constructor
    · rintro ⟨x, hx | hx, h⟩
      · exact .inl ⟨x, hx, h⟩
      · exact .inr ⟨x, hx, h⟩
    · rintro (⟨x, hx, h⟩ | ⟨x, hx, h⟩)
      · exact ⟨x, .inl hx, h⟩
      · exact ⟨x, .inr hx, h⟩
  have h1 : m.length = (l ++ k.filter (fun p => !decide (p ∈ l))).length := by
    refine same_length hm (List.nodup_append.2 ⟨hl, hk.filter _, ?_⟩) fun p => ?_
    · intro x hx y hy e
      subst e
      have := (List.mem_filter.1 hy).2
      simp [hx] at this
    · rw [mm, he, List.mem_append, List.mem_filter]
      by_cases hp : p ∈ l
      · simp [hp, (ml p).1 hp]
      · have : p ∉ ends b := fun h => hp ((ml p).2 h)
        simp [hp, this, mk]
  rw [h1, List.length_append, ← List.countP_eq_length_filter]
  have h2 := List.length_eq_countP_add_countP (l := k) (fun p => decide (p ∈ l))
  have h3 : List.countP (fun p => !decide (p ∈ l)) k = List.countP (fun a => decide ¬(decide (a ∈ l)) = true) k := List.countP_congr fun x _ => by simp
  omega

/-! ### meshes -/
def isMesh (l : List Bar) (b : Bar) : Bool := decide (b.s = -1) && (decide ((⟨b.x, b.y, 1⟩ : Bar) ∈ l) && (decide ((⟨b.x - 1, b.y + 1, 1⟩ : Bar) ∈ l) && decide ((⟨b.x + 1, b.y + 1, -1⟩ : Bar) ∈ l)))
def nM (l : List Bar) : Nat := l.countP (isMesh l)
theorem nM_add {a b : List Bar} (ha : ∀ x ∈ a, x.y ≤ 200) (hb : ∀ x ∈ b, 800 ≤ x.y) : nM (a ++ b) = nM a + nM b := by
  have h1 : ∀ x : Bar, x.y ≤ 201 → (x ∈ a ++ b ↔ x ∈ a) := fun x hx => by
    rw [List.mem_append]
    exact ⟨fun h => h.elim id (fun h' => absurd (hb x h') (by omega)), .inl⟩
  have h2 : ∀ x : Bar, 201 ≤ x.y → (x ∈ a ++ b ↔ x ∈ b) := fun x hx => by
    rw [List.mem_append]
    exact ⟨fun h => h.elim (fun h' => absurd (ha x h') (by omega)) id, .inr⟩
  rw [nM, List.countP_append, nM, nM]
  congr 1
  · refine List.countP_congr fun x hx => ?_
    have := ha x hx
    unfold isMesh
    rw [decide_eq_decide.2 (h1 ⟨x.x, x.y, 1⟩ (by simp; omega)), decide_eq_decide.2 (h1 ⟨x.x - 1, x.y + 1, 1⟩ (by simp; omega)), decide_eq_decide.2 (h1 ⟨x.x + 1, x.y + 1, -1⟩ (by simp; omega))]
  · refine List.countP_congr fun x hx => ?_
    have := hb x hx
    unfold isMesh
    rw [decide_eq_decide.2 (h2 ⟨x.x, x.y, 1⟩ (by simp; omega)), decide_eq_decide.2 (h2 ⟨x.x - 1, x.y + 1, 1⟩ (by simp; omega)), decide_eq_decide.2 (h2 ⟨x.x + 1, x.y + 1, -1⟩ (by simp; omega))]

/-! ### parts -/
def Adj (b : Bar) (k m : Knot) : Prop := k = b.lo ∧ m = b.hi ∨ k = b.hi ∧ m = b.lo
inductive Conn (l : List Bar) : Knot → Knot → Prop
  | refl (k : Knot) : Conn l k k
  | step {k m n : Knot} (b : Bar) : b ∈ l → Adj b k m → Conn l m n → Conn l k n
theorem Conn.trans {l : List Bar} {k m n : Knot} (h : Conn l k m) (h' : Conn l m n) : Conn l k n := by
  induction h with
  | refl => exact h'
  | step b hb ha _ ih => exact .step b hb ha (ih h')
theorem Adj.symm {b : Bar} {k m : Knot} (h : Adj b k m) : Adj b m k := h.elim (fun h => .inr ⟨h.2, h.1⟩) (fun h => .inl ⟨h.2, h.1⟩)
theorem Conn.one {l : List Bar} {b : Bar} {k m : Knot} (hb : b ∈ l) (h : Adj b k m) : Conn l k m := .step b hb h (.refl m)
theorem Conn.symm {l : List Bar} {k m : Knot} (h : Conn l k m) : Conn l m k := by
  induction h with
  | refl => exact .refl _
  | step b hb ha _ ih => exact ih.trans (.one hb ha.symm)
theorem Conn.mono {l l' : List Bar} (hl : ∀ b ∈ l, b ∈ l') {k m : Knot} (h : Conn l k m) : Conn l' k m := by
  induction h with
  | refl => exact .refl _
  | step b hb ha _ ih => exact .step b (hl b hb) ha ih
theorem Adj.ends {l : List Bar} {b : Bar} {k m : Knot} (hb : b ∈ l) (h : Adj b k m) : k ∈ ends l ∧ m ∈ ends l := by
  rw [mem_ends, mem_ends]
  rcases h with ⟨h1, h2⟩ | ⟨h1, h2⟩
  · exact ⟨⟨b, hb, .inl h1⟩, ⟨b, hb, .inr h2⟩⟩
  · exact ⟨⟨b, hb, .inr h1⟩, ⟨b, hb, .inl h2⟩⟩

inductive CntIs (l : List Bar) : List Knot → List Bar → Nat → Prop
  | nil (seen : List Knot) : CntIs l seen [] 0
  | old {seen : List Knot} {b : Bar} {r : List Bar} {n : Nat} : (∃ s ∈ seen, Conn l s b.lo) → CntIs l (b.lo :: seen) r n → CntIs l seen (b :: r) n
  | fresh {seen : List Knot} {b : Bar} {r : List Bar} {n : Nat} : (¬ ∃ s ∈ seen, Conn l s b.lo) → CntIs l (b.lo :: seen) r n → CntIs l seen (b :: r) (n + 1)
def PartsIs (l : List Bar) (n : Nat) : Prop := CntIs l [] l n
theorem CntIs.det {l : List Bar} : ∀ {r : List Bar} {seen : List Knot} {n m : Nat}, CntIs l seen r n → CntIs l seen r m → n = m
  | [], _, _, _, .nil _, .nil _ => rfl
  | _ :: _, _, _, _, .old _ h, .old _ h' => h.det h'
  | _ :: _, _, _, _, .old e _, .fresh e' _ => absurd e e'
  | _ :: _, _, _, _, .fresh e _, .old e' _ => absurd e' e
  | _ :: _, _, _, _, .fresh _ h, .fresh _ h' => congrArg (· + 1) (h.det h')
theorem CntIs.total {l : List Bar} : ∀ (r : List Bar) (seen : List Knot), ∃ n, CntIs l seen r n
  | [], seen => ⟨0, .nil seen⟩
  | b :: r, seen => by
    obtain ⟨n, h⟩ := CntIs.total (l := l) r (b.lo :: seen)
    by_cases e : ∃ s ∈ seen, Conn l s b.lo
    · exact ⟨n, .old e h⟩
    · exact ⟨n + 1, .fresh e h⟩
theorem CntIs.mono {l l' : List Bar} : ∀ {r : List Bar} {seen seen' : List Knot} {n : Nat}, (∀ b ∈ r, ∀ t : List Knot, (∀ x ∈ t, ∃ c ∈ r, x = c.lo) → ((∃ s ∈ t ++ seen, Conn l s b.lo) ↔ ∃ s ∈ t ++ seen', Conn l' s b.lo)) → CntIs l seen r n → CntIs l' seen' r n
  | [], _, _, _, _, .nil _ => .nil _
  | b :: r, seen, seen', _, hc, .old e h =>
    .old ((hc b (by simp) [] (by simp)).1 e) (h.mono fun c hcr t ht => by
      have := hc c (by simp [hcr]) (t ++ [b.lo]) (by
        intro x hx
        rcases List.mem_append.1 hx with hx | hx
        · obtain ⟨d, hd, e⟩ := ht x hx; exact ⟨d, by simp [hd], e⟩
        · exact ⟨b, by simp, by simpa using hx⟩)
      simpa using this)
  | b :: r, seen, seen', _, hc, .fresh e h =>
    .fresh (fun e' => e ((hc b (by simp) [] (by simp)).2 e')) (h.mono fun c hcr t ht => by
      have := hc c (by simp [hcr]) (t ++ [b.lo]) (by
        intro x hx
        rcases List.mem_append.1 hx with hx | hx
        · obtain ⟨d, hd, e⟩ := ht x hx; exact ⟨d, by simp [hd], e⟩
        · exact ⟨b, by simp, by simpa using hx⟩)
      simpa using this)
theorem CntIs.append {l : List Bar} : ∀ {r r' : List Bar} {seen : List Knot} {n m : Nat}, CntIs l seen r n → CntIs l ((r.map Bar.lo).reverse ++ seen) r' m → CntIs l seen (r ++ r') (n + m)
  | [], _, _, _, _, .nil _, h' => by simpa using h'
  | b :: r, r', seen, _, m, .old e h, h' => .old e (h.append (by simpa using h'))
  | b :: r, r', seen, _, m, .fresh (n := n) e h, h' => by
    rw [show n + 1 + m = (n + m) + 1 from by omega]
    exact .fresh e (h.append (by simpa using h'))

theorem Conn.left {a b : List Bar} (hd : ∀ k ∈ ends a, k ∉ ends b) {k m : Knot} (h : Conn (a ++ b) k m) : k ∈ ends a → Conn a k m ∧ m ∈ ends a := by
  induction h with
  | refl => exact fun h => ⟨.refl _, h⟩
  | step c hc ha _ ih =>
    intro hk
    rcases List.mem_append.1 hc with hc | hc
    · obtain ⟨h1, h2⟩ := ih (ha.ends hc).2
      exact ⟨.step c hc ha h1, h2⟩
    · exact absurd (ha.ends hc).1 (hd _ hk)
theorem Conn.right {a b : List Bar} (hd : ∀ k ∈ ends a, k ∉ ends b) {k m : Knot} (h : Conn (a ++ b) k m) : k ∈ ends b → Conn b k m ∧ m ∈ ends b := by
  induction h with
  | refl => exact fun h => ⟨.refl _, h⟩
  | step c hc ha _ ih =>
    intro hk
    rcases List.mem_append.1 hc with hc | hc
    · exact absurd hk (hd _ (ha.ends hc).1)
    · obtain ⟨h1, h2⟩ := ih (ha.ends hc).2
      exact ⟨.step c hc ha h1, h2⟩
theorem lo_ends {l : List Bar} {b : Bar} (h : b ∈ l) : b.lo ∈ ends l := mem_ends.2 ⟨b, h, .inl rfl⟩

theorem PartsIs.add {a b : List Bar} {p q : Nat} (hd : ∀ k ∈ ends a, k ∉ ends b) (hp : PartsIs a p) (hq : PartsIs b q) : PartsIs (a ++ b) (p + q) := by
  have inl : ∀ {k m : Knot}, Conn a k m → Conn (a ++ b) k m := fun h => h.mono fun _ h => List.mem_append.2 (.inl h)
  have inr : ∀ {k m : Knot}, Conn b k m → Conn (a ++ b) k m := fun h => h.mono fun _ h => List.mem_append.2 (.inr h)
  refine CntIs.append (hp.mono (l' := a ++ b) (seen' := []) fun x _ t ht => ?_) (hq.mono fun x hx t ht => ?_)
  · constructor
    · rintro ⟨s, hs, h⟩; exact ⟨s, hs, inl h⟩
    · rintro ⟨s, hs, h⟩
      obtain ⟨c, hc, rfl⟩ := ht s (by simpa using hs)
      exact ⟨_, hs, (h.left hd (lo_ends hc)).1⟩
  · constructor
    · rintro ⟨s, hs, h⟩; exact ⟨s, by simp at hs ⊢; exact .inl hs, inr h⟩
    · rintro ⟨s, hs, h⟩
      rcases List.mem_append.1 hs with hs | hs
      · obtain ⟨c, hc, rfl⟩ := ht s hs
        exact ⟨_, by simp [hs], (h.right hd (lo_ends hc)).1⟩
      · have : s ∈ ends a := by
          simp at hs
          obtain ⟨c, hc, rfl⟩ := hs
          exact lo_ends hc
        exact absurd (lo_ends hx) (hd _ (h.left hd this).2)

/-! ### shifts -/
def Bar.shift (dx dy : Int) (b : Bar) : Bar := ⟨b.x + dx, b.y + dy, b.s⟩
def Knot.shift (dx dy : Int) (k : Knot) : Knot := ⟨k.x + dx, k.y + dy⟩
theorem shift_lo (dx dy : Int) (b : Bar) : (b.shift dx dy).lo = b.lo.shift dx dy := rfl
theorem shift_hi (dx dy : Int) (b : Bar) : (b.shift dx dy).hi = b.hi.shift dx dy := by simp [Bar.shift, Bar.hi, Knot.shift]; omega
theorem Knot.shift_inj {dx dy : Int} {k m : Knot} (h : k.shift dx dy = m.shift dx dy) : k = m := by
  obtain ⟨a, b⟩ := k
  obtain ⟨c, d⟩ := m
  simp only [Knot.shift, Knot.mk.injEq] at h ⊢
  omega
theorem Conn.shift {l : List Bar} {k m : Knot} (dx dy : Int) (h : Conn l k m) : Conn (l.map (Bar.shift dx dy)) (k.shift dx dy) (m.shift dx dy) := by
  induction h with
  | refl => exact .refl _
  | step b hb ha _ ih =>
    refine .step (b.shift dx dy) (List.mem_map_of_mem hb) ?_ ih
    rcases ha with ⟨rfl, rfl⟩ | ⟨rfl, rfl⟩
    · exact .inl ⟨(shift_lo ..).symm, (shift_hi ..).symm⟩
    · exact .inr ⟨(shift_hi ..).symm, (shift_lo ..).symm⟩
theorem Bar.shift_back (dx dy : Int) (b : Bar) : (b.shift dx dy).shift (-dx) (-dy) = b :=
  Bar.ext' (show b.x + dx + -dx = b.x by omega) (show b.y + dy + -dy = b.y by omega) rfl
theorem Knot.shift_back (dx dy : Int) (b : Knot) : (b.shift dx dy).shift (-dx) (-dy) = b := by
  obtain ⟨x, y⟩ := b
  simp only [Knot.shift, Knot.mk.injEq]
  omega
theorem Conn.unshift {l : List Bar} {k m : Knot} (dx dy : Int) (h : Conn (l.map (Bar.shift dx dy)) (k.shift dx dy) (m.shift dx dy)) : Conn l k m := by
  have := h.shift (-dx) (-dy)
  rw [List.map_map, Knot.shift_back, Knot.shift_back] at this
  have e : (Bar.shift (-dx) (-dy) ∘ Bar.shift dx dy) = id := funext fun b => Bar.shift_back dx dy b
  rwa [e, List.map_id] at this
theorem CntIs.shift {l : List Bar} (dx dy : Int) : ∀ {r : List Bar} {seen : List Knot} {n : Nat}, CntIs l seen r n → CntIs (l.map (Bar.shift dx dy)) (seen.map (Knot.shift dx dy)) (r.map (Bar.shift dx dy)) n
  | [], _, _, .nil _ => .nil _
  | b :: r, seen, _, .old e h => by
    obtain ⟨s, hs, hc⟩ := e
    exact .old ⟨_, List.mem_map_of_mem hs, hc.shift dx dy⟩ (h.shift dx dy)
  | b :: r, seen, _, .fresh e h => by
    refine .fresh (fun ⟨s, hs, hc⟩ => ?_) (h.shift dx dy)
    obtain ⟨t, ht, rfl⟩ := List.mem_map.1 hs
    exact e ⟨t, ht, hc.unshift dx dy⟩
theorem PartsIs.shift {l : List Bar} {n : Nat} (dx dy : Int) (h : PartsIs l n) : PartsIs (l.map (Bar.shift dx dy)) n := CntIs.shift dx dy h
theorem ends_shift (dx dy : Int) (l : List Bar) : ends (l.map (Bar.shift dx dy)) = (ends l).map (Knot.shift dx dy) := by
  simp only [ends, List.flatMap_map, List.map_flatMap]
  congr
  funext b
  simp [shift_lo, shift_hi]
theorem nub_map (dx dy : Int) : ∀ l : List Knot, nub (l.map (Knot.shift dx dy)) = (nub l).map (Knot.shift dx dy)
  | [] => rfl
  | k :: r => by
    have e : k.shift dx dy ∈ r.map (Knot.shift dx dy) ↔ k ∈ r := by
      constructor
      · intro h
        obtain ⟨m, hm, e⟩ := List.mem_map.1 h
        exact Knot.shift_inj e ▸ hm
      · exact fun h => List.mem_map_of_mem h
    rw [List.map_cons, nub, nub]
    by_cases h : k ∈ r
    · rw [if_pos (e.2 h), if_pos h, nub_map dx dy r]
    · rw [if_neg (fun h' => h (e.1 h')), if_neg h, List.map_cons, nub_map dx dy r]
theorem nK_shift (dx dy : Int) (l : List Bar) : nK (l.map (Bar.shift dx dy)) = nK l := by
  rw [nK, nK, ends_shift, nub_map, List.length_map]
theorem mem_shift {dx dy : Int} {l : List Bar} {b : Bar} : b ∈ l.map (Bar.shift dx dy) ↔ (⟨b.x - dx, b.y - dy, b.s⟩ : Bar) ∈ l := by
  rw [List.mem_map]
  constructor
  · rintro ⟨c, hc, rfl⟩
    have e : (⟨(c.shift dx dy).x - dx, (c.shift dx dy).y - dy, (c.shift dx dy).s⟩ : Bar) = c :=
      Bar.ext' (show c.x + dx - dx = c.x by omega) (show c.y + dy - dy = c.y by omega) rfl
    rw [e]; exact hc
  · intro h
    exact ⟨_, h, Bar.ext' (show b.x - dx + dx = b.x by omega) (show b.y - dy + dy = b.y by omega) rfl⟩
theorem nM_shift (dx dy : Int) (l : List Bar) : nM (l.map (Bar.shift dx dy)) = nM l := by
  rw [nM, nM, List.countP_map]
  refine List.countP_congr fun b _ => ?_
  have h : ∀ x y s : Int, ((⟨x, y, s⟩ : Bar) ∈ l.map (Bar.shift dx dy)) ↔ (⟨x - dx, y - dy, s⟩ : Bar) ∈ l := fun x y s => mem_shift
  simp only [Function.comp, isMesh, Bar.shift, h]
  rw [show b.x + dx - dx = b.x from by omega, show b.y + dy - dy = b.y from by omega, show b.x + dx - 1 - dx = b.x - 1 from by omega, show b.y + dy + 1 - dy = b.y + 1 from by omega, show b.x + dx + 1 - dx = b.x + 1 from by omega]
  exact Iff.rfl
end Go.Proofs.YthihjphcjjpjpaaGreat.Ck

/- Plain mathematics: what a bar more makes of the knots, the parts and the meshes of a list of bars; no net has fewer than 0 holes. -/
namespace Go.Proofs.YthihjphcjjpjpaaGreat.Ck

/-! ### one bar more, and what is connected -/
theorem conn_add {l l' : List Bar} {b : Bar} (hm : ∀ x, x ∈ l' ↔ x = b ∨ x ∈ l) {k m : Knot} (h : Conn l' k m) : Conn l k m ∨ (Conn l k b.lo ∧ Conn l b.hi m) ∨ (Conn l k b.hi ∧ Conn l b.lo m) := by
  induction h with
  | refl => exact .inl (.refl _)
  | step x hx ha _ ih =>
    rcases (hm x).1 hx with rfl | hx
    · rcases ha with ⟨rfl, rfl⟩ | ⟨rfl, rfl⟩
      · rcases ih with h | ⟨_, h⟩ | ⟨_, h⟩
        · exact .inr (.inl ⟨.refl _, h⟩)
        · exact .inr (.inl ⟨.refl _, h⟩)
        · exact .inl h
      · rcases ih with h | ⟨_, h⟩ | ⟨_, h⟩
        · exact .inr (.inr ⟨.refl _, h⟩)
        · exact .inl h
        · exact .inr (.inr ⟨.refl _, h⟩)
    · have c := Conn.one hx ha
      rcases ih with h | ⟨h, h'⟩ | ⟨h, h'⟩
      · exact .inl (c.trans h)
      · exact .inr (.inl ⟨c.trans h, h'⟩)
      · exact .inr (.inr ⟨c.trans h, h'⟩)
theorem Conn.eq_of_out {l : List Bar} {k m : Knot} (h : Conn l k m) (hk : k ∉ ends l) : k = m := by
  cases h with
  | refl => rfl
  | step b hb ha _ => exact absurd (ha.ends hb).1 hk

/-- R has one knot of each part. -/
def Rep (l : List Bar) (R : List Knot) : Prop := (∀ r ∈ R, r ∈ ends l) ∧ R.Pairwise (fun a b => ¬ Conn l a b) ∧ ∀ k ∈ ends l, ∃ r ∈ R, Conn l r k
theorem Rep.nodup {l : List Bar} {R : List Knot} (h : Rep l R) : R.Nodup := h.2.1.imp fun {a b} (hn : ¬ Conn l a b) (e : a = b) => hn (by rw [e]; exact .refl _)
theorem Rep.one {l : List Bar} {R : List Knot} (h : Rep l R) {a b : Knot} (ha : a ∈ R) (hb : b ∈ R) (hc : Conn l a b) : a = b := by
  by_cases e : a = b
  · exact e
  · exact absurd hc (List.Pairwise.forall_of_forall_of_flip (R := fun a b => a ≠ b → ¬ Conn l a b) (fun x _ hne => absurd rfl hne) (h.2.1.imp fun {a b} (hn : ¬ Conn l a b) (_ : a ≠ b) => hn) (h.2.1.imp fun {a b} (hn : ¬ Conn l a b) (_ : b ≠ a) (hc : Conn l b a) => hn hc.symm) ha hb e)
theorem Rep.le {l : List Bar} {R R' : List Knot} (h : Rep l R) (h' : Rep l R') : R.length ≤ R'.length := by
  have each : ∀ r, ∃ r', r ∈ R → r' ∈ R' ∧ Conn l r' r := fun r => by
    by_cases hr : r ∈ R
    · obtain ⟨r', h1, h2⟩ := h'.2.2 r (h.1 r hr)
      exact ⟨r', fun _ => ⟨h1, h2⟩⟩
    · exact ⟨r, fun h => absurd h hr⟩
  obtain ⟨f, hf⟩ := Classical.axiomOfChoice each
  have hn : (R.map f).Nodup := by
    rw [List.Nodup, List.pairwise_map]
    refine List.Pairwise.imp_of_mem ?_ h.2.1
    intro a b ha hb hnc e
    exact hnc (((hf a ha).2.symm).trans (e ▸ (hf b hb).2))
  have := hn.length_le_of_subset (l₂ := R') (fun x hx => by
    obtain ⟨r, hr, rfl⟩ := List.mem_map.1 hx
    exact (hf r hr).1)
  rwa [List.length_map] at this
theorem Rep.length {l : List Bar} {R R' : List Knot} (h : Rep l R) (h' : Rep l R') : R.length = R'.length := Nat.le_antisymm (h.le h') (h'.le h)
theorem CntIs.reps {l : List Bar} : ∀ {r : List Bar} {seen : List Knot} {n : Nat}, CntIs l seen r n →
    ∃ R : List Knot, R.length = n ∧ (∀ x ∈ R, ∃ c ∈ r, x = c.lo) ∧ R.Pairwise (fun a b => ¬ Conn l a b) ∧ (∀ x ∈ R, ∀ s ∈ seen, ¬ Conn l s x) ∧ ∀ c ∈ r, (∃ s ∈ seen, Conn l s c.lo) ∨ ∃ x ∈ R, Conn l x c.lo
  | [], _, _, .nil _ => ⟨[], rfl, by simp, .nil, by simp, by simp⟩
  | b :: r, seen, _, .old e h => by
    obtain ⟨R, h1, h2, h3, h4, h5⟩ := h.reps
    refine ⟨R, h1, fun x hx => ?_, h3, fun x hx s hs => h4 x hx s (by simp [hs]), fun c hc => ?_⟩
    · obtain ⟨c, hc, e⟩ := h2 x hx
      exact ⟨c, by simp [hc], e⟩
    · rcases List.mem_cons.1 hc with rfl | hc
      · exact .inl e
      · rcases h5 c hc with ⟨s, hs, hsc⟩ | h
        · rcases List.mem_cons.1 hs with rfl | hs
          · obtain ⟨s0, hs0, h0⟩ := e
            exact .inl ⟨s0, hs0, h0.trans hsc⟩
          · exact .inl ⟨s, hs, hsc⟩
        · exact .inr h
  | b :: r, seen, _, .fresh e h => by
    obtain ⟨R, h1, h2, h3, h4, h5⟩ := h.reps
    refine ⟨b.lo :: R, by simp [h1], fun x hx => ?_, List.pairwise_cons.2 ⟨fun x hx => h4 x hx b.lo (by simp), h3⟩, fun x hx s hs => ?_, fun c hc => ?_⟩
    · rcases List.mem_cons.1 hx with rfl | hx
      · exact ⟨b, by simp, rfl⟩
      · obtain ⟨c, hc, e⟩ := h2 x hx
        exact ⟨c, by simp [hc], e⟩
    · rcases List.mem_cons.1 hx with rfl | hx
      · exact fun hc => e ⟨s, hs, hc⟩
      · exact h4 x hx s (by simp [hs])
    · rcases List.mem_cons.1 hc with rfl | hc
      · exact .inr ⟨_, by simp, .refl _⟩
      · rcases h5 c hc with ⟨s, hs, hsc⟩ | ⟨x, hx, h⟩
        · rcases List.mem_cons.1 hs with rfl | hs
          · exact .inr ⟨_, by simp, hsc⟩
          · exact .inl ⟨s, hs, hsc⟩
        · exact .inr ⟨x, by simp [hx], h⟩
theorem PartsIs.rep {l : List Bar} {p : Nat} (h : PartsIs l p) : ∃ R, Rep l R ∧ R.length = p := by
  obtain ⟨R, h1, h2, h3, _, h5⟩ := CntIs.reps h
  refine ⟨R, ⟨fun r hr => ?_, h3, fun k hk => ?_⟩, h1⟩
  · obtain ⟨c, hc, rfl⟩ := h2 r hr
    exact lo_ends hc
  · obtain ⟨c, hc, e⟩ := mem_ends.1 hk
    rcases h5 c hc with ⟨s, hs, _⟩ | ⟨x, hx, hxc⟩
    · simp at hs
    · rcases e with rfl | rfl
      · exact ⟨x, hx, hxc⟩
      · exact ⟨x, hx, hxc.trans (.one hc (.inl ⟨rfl, rfl⟩))⟩
theorem PartsIs.eq_rep {l : List Bar} {p : Nat} (h : PartsIs l p) {R : List Knot} (hR : Rep l R) : p = R.length := by
  obtain ⟨R', h1, h2⟩ := h.rep
  rw [← h2, h1.length hR]

/-! ### the parts of a list with one bar more -/
theorem ends_add {l l' : List Bar} {b : Bar} (hm : ∀ x, x ∈ l' ↔ x = b ∨ x ∈ l) (k : Knot) : k ∈ ends l' ↔ k = b.lo ∨ k = b.hi ∨ k ∈ ends l := by
  rw [mem_ends, mem_ends]
  constructor
  · rintro ⟨x, hx, h⟩
    rcases (hm x).1 hx with rfl | hx
    · rcases h with h | h
      · exact .inl h
      · exact .inr (.inl h)
    · exact .inr (.inr ⟨x, hx, h⟩)
  · rintro (h | h | ⟨x, hx, h⟩)
    · exact ⟨b, (hm b).2 (.inl rfl), .inl h⟩
    · exact ⟨b, (hm b).2 (.inl rfl), .inr h⟩
    · exact ⟨x, (hm x).2 (.inr hx), h⟩
theorem conn_more {l l' : List Bar} {b : Bar} (hm : ∀ x, x ∈ l' ↔ x = b ∨ x ∈ l) {k m : Knot} (h : Conn l k m) : Conn l' k m := h.mono fun x hx => (hm x).2 (.inr hx)
theorem conn_bar {l l' : List Bar} {b : Bar} (hm : ∀ x, x ∈ l' ↔ x = b ∨ x ∈ l) : Conn l' b.lo b.hi := .one ((hm b).2 (.inl rfl)) (.inl ⟨rfl, rfl⟩)
/-- Both ends were connected: the parts stay. -/
theorem rep_same {l l' : List Bar} {b : Bar} (hm : ∀ x, x ∈ l' ↔ x = b ∨ x ∈ l) (hlo : b.lo ∈ ends l) (hhi : b.hi ∈ ends l) (hc : Conn l b.lo b.hi) {R : List Knot} (h : Rep l R) : Rep l' R := by
  have back : ∀ {k m : Knot}, Conn l' k m → Conn l k m := fun hk => by
    rcases conn_add hm hk with h | ⟨h, h'⟩ | ⟨h, h'⟩
    · exact h
    · exact (h.trans hc).trans h'
    · exact (h.trans hc.symm).trans h'
  refine ⟨fun r hr => (ends_add hm r).2 (.inr (.inr (h.1 r hr))), h.2.1.imp fun hn hc' => hn (back hc'), fun k hk => ?_⟩
  have hk' : k ∈ ends l := by
    rcases (ends_add hm k).1 hk with rfl | rfl | h
    · exact hlo
    · exact hhi
    · exact h
  obtain ⟨r, hr, hrk⟩ := h.2.2 k hk'
  exact ⟨r, hr, conn_more hm hrk⟩
/-- Both ends were knots of different parts: these are one part now. -/
theorem rep_less {l l' : List Bar} {b : Bar} (hm : ∀ x, x ∈ l' ↔ x = b ∨ x ∈ l) (hlo : b.lo ∈ ends l) (hhi : b.hi ∈ ends l) (hc : ¬ Conn l b.lo b.hi) {R : List Knot} (h : Rep l R) : ∃ R', Rep l' R' ∧ R'.length + 1 = R.length := by
  obtain ⟨r1, h1, c1⟩ := h.2.2 _ hlo
  obtain ⟨r2, h2, c2⟩ := h.2.2 _ hhi
  have hne : r1 ≠ r2 := by
    rintro rfl
    exact hc (c1.symm.trans c2)
  have hnd := h.nodup
  have mem : ∀ x, x ∈ R.erase r2 ↔ x ≠ r2 ∧ x ∈ R := fun x => hnd.mem_erase_iff
  refine ⟨R.erase r2, ⟨fun r hr => (ends_add hm r).2 (.inr (.inr (h.1 r ((mem r).1 hr).2))), ?_, fun k hk => ?_⟩, ?_⟩
  · refine List.Pairwise.imp_of_mem ?_ (h.2.1.sublist (List.erase_sublist ..))
    intro a c ha hc' hn hac
    obtain ⟨ha1, ha2⟩ := (mem a).1 ha
    obtain ⟨hc1, hc2⟩ := (mem c).1 hc'
    rcases conn_add hm hac with h' | ⟨_, h'⟩ | ⟨h', _⟩
    · exact hn h'
    · exact hc1 (h.one h2 hc2 (c2.trans h')).symm
    · exact ha1 (h.one ha2 h2 (h'.trans c2.symm))
  · have go : ∀ k ∈ ends l, ∃ r ∈ R.erase r2, Conn l' r k := fun k hk => by
      obtain ⟨r, hr, hrk⟩ := h.2.2 k hk
      by_cases e : r = r2
      · subst e
        exact ⟨r1, (mem r1).2 ⟨hne, h1⟩, ((conn_more hm c1).trans (conn_bar hm)).trans ((conn_more hm c2.symm).trans (conn_more hm hrk))⟩
      · exact ⟨r, (mem r).2 ⟨e, hr⟩, conn_more hm hrk⟩
    rcases (ends_add hm k).1 hk with rfl | rfl | hk
    · exact go _ hlo
    · exact go _ hhi
    · exact go _ hk
  · rw [List.length_erase_of_mem h2]
    have : 0 < R.length := List.length_pos_of_mem h2
    omega
/-- One end was a knot, the other one was none: the parts stay. -/
theorem rep_hang {l l' : List Bar} {b : Bar} (hm : ∀ x, x ∈ l' ↔ x = b ∨ x ∈ l) (hx : b.lo ∈ ends l ∧ b.hi ∉ ends l ∨ b.lo ∉ ends l ∧ b.hi ∈ ends l) {R : List Knot} (h : Rep l R) : Rep l' R := by
  have back : ∀ {k m : Knot}, k ∈ ends l → m ∈ ends l → Conn l' k m → Conn l k m := fun hk hm' hc => by
    rcases conn_add hm hc with h' | ⟨h1, h2⟩ | ⟨h1, h2⟩
    · exact h'
    · rcases hx with ⟨_, hn⟩ | ⟨hn, _⟩
      · exact absurd (h2.eq_of_out hn ▸ hm') hn
      · exact absurd (h1.symm.eq_of_out hn ▸ hk) hn
    · rcases hx with ⟨_, hn⟩ | ⟨hn, _⟩
      · exact absurd (h1.symm.eq_of_out hn ▸ hk) hn
      · exact absurd (h2.eq_of_out hn ▸ hm') hn
  refine ⟨fun r hr => (ends_add hm r).2 (.inr (.inr (h.1 r hr))), List.Pairwise.imp_of_mem (fun {a c} ha hc hn hac => hn (back (h.1 a ha) (h.1 c hc) hac)) h.2.1, fun k hk => ?_⟩
  have go : ∀ k ∈ ends l, ∃ r ∈ R, Conn l' r k := fun k hk => by
    obtain ⟨r, hr, hrk⟩ := h.2.2 k hk
    exact ⟨r, hr, conn_more hm hrk⟩
  rcases (ends_add hm k).1 hk with rfl | rfl | hk
  · rcases hx with ⟨hl, _⟩ | ⟨_, hh⟩
    · exact go _ hl
    · obtain ⟨r, hr, hrk⟩ := go _ hh
      exact ⟨r, hr, hrk.trans (conn_bar hm).symm⟩
  · rcases hx with ⟨hl, _⟩ | ⟨_, hh⟩
    · obtain ⟨r, hr, hrk⟩ := go _ hl
      exact ⟨r, hr, hrk.trans (conn_bar hm)⟩
    · exact go _ hh
  · exact go _ hk
/-- No end was a knot: one part more. -/
theorem rep_more {l l' : List Bar} {b : Bar} (hm : ∀ x, x ∈ l' ↔ x = b ∨ x ∈ l) (hlo : b.lo ∉ ends l) (hhi : b.hi ∉ ends l) {R : List Knot} (h : Rep l R) : Rep l' (b.lo :: R) := by
  have back : ∀ {k m : Knot}, k ∈ ends l → m ∈ ends l → Conn l' k m → Conn l k m := fun hk hm' hc => by
    rcases conn_add hm hc with h' | ⟨h1, h2⟩ | ⟨h1, h2⟩
    · exact h'
    · exact absurd (h2.eq_of_out hhi ▸ hm') hhi
    · exact absurd (h2.eq_of_out hlo ▸ hm') hlo
  refine ⟨fun r hr => ?_, List.pairwise_cons.2 ⟨fun r hr hc => ?_, List.Pairwise.imp_of_mem (fun {a c} ha hc hn hac => hn (back (h.1 a ha) (h.1 c hc) hac)) h.2.1⟩, fun k hk => ?_⟩
  · rcases List.mem_cons.1 hr with rfl | hr
    · exact (ends_add hm _).2 (.inl rfl)
    · exact (ends_add hm r).2 (.inr (.inr (h.1 r hr)))
  · have hr' := h.1 r hr
    rcases conn_add hm hc with h' | ⟨_, h2⟩ | ⟨h1, _⟩
    · exact hlo (h'.eq_of_out hlo ▸ hr')
    · exact hhi (h2.eq_of_out hhi ▸ hr')
    · have e := h1.eq_of_out hlo
      have := congrArg Knot.y e
      simp only [Bar.lo, Bar.hi] at this
      omega
  · rcases (ends_add hm k).1 hk with rfl | rfl | hk
    · exact ⟨_, by simp, .refl _⟩
    · exact ⟨_, by simp, conn_bar hm⟩
    · obtain ⟨r, hr, hrk⟩ := h.2.2 k hk
      exact ⟨r, by simp [hr], conn_more hm hrk⟩

/-! ### the knots of a list with one bar more -/
theorem lo_ne_hi (b : Bar) : b.lo ≠ b.hi := fun e => by
  have := congrArg Knot.y e
  simp only [Bar.lo, Bar.hi] at this
  omega
theorem nK_cons {ks : List Knot} (h : ks.Nodup) {l : List Bar} (hm : ∀ k, k ∈ ks ↔ k ∈ ends l) : nK l = ks.length := (nK_eq h hm).symm
theorem nK_more {l l' : List Bar} {b : Bar} (hm : ∀ x, x ∈ l' ↔ x = b ∨ x ∈ l) : nK l' = nK l + (if b.lo ∈ ends l then 0 else 1) + (if b.hi ∈ ends l then 0 else 1) := by
  have hn := nub_nodup (ends l)
  have hne := lo_ne_hi b
  by_cases h1 : b.lo ∈ ends l <;> by_cases h2 : b.hi ∈ ends l
  · rw [if_pos h1, if_pos h2]
    exact nK_cons hn fun k => by
      rw [mem_nub, ends_add hm]
      constructor
      · exact fun h => .inr (.inr h)
      · rintro (rfl | rfl | h)
        · exact h1
        · exact h2
        · exact h
  · rw [if_pos h1, if_neg h2]
    refine (nK_cons (ks := b.hi :: nub (ends l)) (List.nodup_cons.2 ⟨fun h => h2 (mem_nub.1 h), hn⟩) fun k => ?_).trans (by simp [nK])
    rw [List.mem_cons, mem_nub, ends_add hm]
    constructor
    · rintro (h | h)
      · exact .inr (.inl h)
      · exact .inr (.inr h)
    · rintro (rfl | h | h)
      · exact .inr h1
      · exact .inl h
      · exact .inr h
  · rw [if_neg h1, if_pos h2]
    refine (nK_cons (ks := b.lo :: nub (ends l)) (List.nodup_cons.2 ⟨fun h => h1 (mem_nub.1 h), hn⟩) fun k => ?_).trans (by simp [nK])
    rw [List.mem_cons, mem_nub, ends_add hm]
    constructor
    · rintro (h | h)
      · exact .inl h
      · exact .inr (.inr h)
    · rintro (h | rfl | h)
      · exact .inl h
      · exact .inr h2
      · exact .inr h
  · rw [if_neg h1, if_neg h2]
    refine (nK_cons (ks := b.lo :: b.hi :: nub (ends l)) (List.nodup_cons.2 ⟨fun h => ?_, List.nodup_cons.2 ⟨fun h => h2 (mem_nub.1 h), hn⟩⟩) fun k => ?_).trans (by simp [nK])
    · rcases List.mem_cons.1 h with h | h
      · exact hne h
      · exact h1 (mem_nub.1 h)
    · rw [List.mem_cons, List.mem_cons, mem_nub, ends_add hm]

/-- Bars and parts, less the knots: a bar more between connected knots makes it one more, any other one leaves it. -/
theorem rank_more {l l' : List Bar} {b : Bar} (hm : ∀ x, x ∈ l' ↔ x = b ∨ x ∈ l) {p p' : Nat} (hp : PartsIs l p) (hp' : PartsIs l' p') :
    (b.lo ∈ ends l ∧ b.hi ∈ ends l ∧ Conn l b.lo b.hi ∧ p' = p ∧ nK l' = nK l) ∨ (¬ (b.lo ∈ ends l ∧ b.hi ∈ ends l ∧ Conn l b.lo b.hi) ∧ 1 + p' + nK l = p + nK l') := by
  obtain ⟨R, hR, rfl⟩ := hp.rep
  have hk := nK_more hm
  by_cases h1 : b.lo ∈ ends l <;> by_cases h2 : b.hi ∈ ends l
  · by_cases hc : Conn l b.lo b.hi
    · exact .inl ⟨h1, h2, hc, hp'.eq_rep (rep_same hm h1 h2 hc hR), by rw [hk, if_pos h1, if_pos h2, Nat.add_zero]⟩
    · obtain ⟨R', hR', hl⟩ := rep_less hm h1 h2 hc hR
      have := hp'.eq_rep hR'
      rw [if_pos h1, if_pos h2] at hk
      exact .inr ⟨fun h => hc h.2.2, by omega⟩
  · have := hp'.eq_rep (rep_hang hm (.inl ⟨h1, h2⟩) hR)
    rw [if_pos h1, if_neg h2] at hk
    exact .inr ⟨fun h => h2 h.2.1, by omega⟩
  · have := hp'.eq_rep (rep_hang hm (.inr ⟨h1, h2⟩) hR)
    rw [if_neg h1, if_pos h2] at hk
    exact .inr ⟨fun h => h1 h.1, by omega⟩
  · have := hp'.eq_rep (rep_more hm h1 h2 hR)
    rw [List.length_cons] at this
    rw [if_neg h1, if_neg h2] at hk
    exact .inr ⟨fun h => h1 h.1, by omega⟩

/-! ### no net has fewer than 0 holes -/
theorem countP_one {l : List Bar} (hn : l.Nodup) (P P' : Bar → Bool) (x0 : Bar) (h : ∀ x ∈ l, P' x = true → P x = true ∨ x = x0) : l.countP P' ≤ l.countP P + 1 := by
  induction l with
  | nil => simp
  | cons a r ih =>
    obtain ⟨h1, h2⟩ := List.nodup_cons.1 hn
    by_cases ha : a = x0
    · have : r.countP P' ≤ r.countP P := List.countP_mono_left fun x hx hp => by
        rcases h x (by simp [hx]) hp with h' | h'
        · exact h'
        · subst h'; exact absurd (ha ▸ hx) h1
      rw [List.countP_cons, List.countP_cons]
      split <;> split <;> omega
    · have := ih h2 fun x hx => h x (by simp [hx])
      have hh := h a (by simp)
      rw [List.countP_cons, List.countP_cons]
      by_cases hp : P' a = true
      · rcases hh hp with h' | h'
        · simp [hp, h']; omega
        · exact absurd h' ha
      · simp [hp]
        split <;> omega
theorem euler_snoc {l : List Bar} {b : Bar} (hN : Net (l ++ [b])) : nM (l ++ [b]) ≤ nM l ∨ (nM (l ++ [b]) ≤ nM l + 1 ∧ b.lo ∈ ends l ∧ b.hi ∈ ends l ∧ Conn l b.lo b.hi) := by
  have hlt : ∀ x ∈ l, Blt x b := fun x hx => (List.pairwise_append.1 hN.2).2.2 x hx b (by simp)
  have hnd : l.Nodup := (List.nodup_append.1 hN.nodup).1
  have hin : ∀ x, x ∈ l ++ [b] ↔ x ∈ l ∨ x = b := fun x => by simp
  have hb : isMesh (l ++ [b]) b = false := by
    have hno : (⟨b.x - 1, b.y + 1, 1⟩ : Bar) ∉ l ++ [b] := fun h => by
      rcases (hin _).1 h with h | h
      · have := hlt _ h
        unfold Blt at this
        simp only at this
        omega
      · have := congrArg Bar.y h
        simp only at this
        omega
    simp [isMesh, hno]
  have hcount : nM (l ++ [b]) = l.countP (isMesh (l ++ [b])) := by
    rw [nM, List.countP_append]
    simp [hb]
  have hlast : ∀ x ∈ l, isMesh (l ++ [b]) x = true → isMesh l x = true ∨ (b = ⟨x.x + 1, x.y + 1, -1⟩ ∧ x.s = -1 ∧ (⟨x.x, x.y, 1⟩ : Bar) ∈ l ∧ (⟨x.x - 1, x.y + 1, 1⟩ : Bar) ∈ l) := fun x hx hm => by
    simp only [isMesh, Bool.and_eq_true, decide_eq_true_eq] at hm ⊢
    obtain ⟨m1, m2, m3, m4⟩ := hm
    rcases (hin _).1 m4 with h4 | h4
    · have g4 := hlt _ h4
      have h2 : (⟨x.x, x.y, 1⟩ : Bar) ∈ l := by
        rcases (hin _).1 m2 with h | h
        · exact h
        · rw [← h] at g4; unfold Blt at g4; simp only at g4; omega
      have h3 : (⟨x.x - 1, x.y + 1, 1⟩ : Bar) ∈ l := by
        rcases (hin _).1 m3 with h | h
        · exact h
        · rw [← h] at g4; unfold Blt at g4; simp only at g4; omega
      exact .inl ⟨m1, h2, h3, h4⟩
    · have h2 : (⟨x.x, x.y, 1⟩ : Bar) ∈ l := by
        rcases (hin _).1 m2 with h | h
        · exact h
        · rw [← h] at h4
          have := congrArg Bar.y h4
          simp only at this
          omega
      have h3 : (⟨x.x - 1, x.y + 1, 1⟩ : Bar) ∈ l := by
        rcases (hin _).1 m3 with h | h
        · exact h
        · rw [← h] at h4
          have := congrArg Bar.x h4
          simp only at this
          omega
      exact .inr ⟨h4.symm, m1, h2, h3⟩
  by_cases hnew : ∃ x ∈ l, b = ⟨x.x + 1, x.y + 1, -1⟩ ∧ x.s = -1 ∧ (⟨x.x, x.y, 1⟩ : Bar) ∈ l ∧ (⟨x.x - 1, x.y + 1, 1⟩ : Bar) ∈ l
  · obtain ⟨x, hx, hbx, hs, h2, h3⟩ := hnew
    refine .inr ⟨?_, ?_⟩
    · rw [hcount, nM]
      refine countP_one hnd _ _ x fun z hz hm => ?_
      rcases hlast z hz hm with h | ⟨h, hzs, _, _⟩
      · exact .inl h
      · right
        rw [hbx] at h
        obtain ⟨e1, e2, _⟩ := (Bar.mk.injEq ..).mp h
        exact Bar.ext' (by omega) (by omega) (by omega)
    · have c1 : Conn l ⟨x.x + 1, x.y + 1⟩ ⟨x.x, x.y⟩ := .one h2 (.inr ⟨rfl, rfl⟩)
      have c2 : Conn l ⟨x.x, x.y⟩ ⟨x.x - 1, x.y + 1⟩ := .one hx (.inl ⟨rfl, by simp [Bar.hi, hs]; omega⟩)
      have c3 : Conn l ⟨x.x - 1, x.y + 1⟩ ⟨x.x, x.y + 2⟩ := .one h3 (.inl ⟨rfl, by simp [Bar.hi]; omega⟩)
      have e1 : b.lo = ⟨x.x + 1, x.y + 1⟩ := by rw [hbx]; rfl
      have e2 : b.hi = ⟨x.x, x.y + 2⟩ := by rw [hbx]; simp [Bar.hi]; omega
      rw [e1, e2]
      refine ⟨mem_ends.2 ⟨_, h2, .inr rfl⟩, mem_ends.2 ⟨_, h3, .inr (by simp [Bar.hi]; omega)⟩, (c1.trans c2).trans c3⟩
  · left
    rw [hcount, nM]
    refine List.countP_mono_left fun z hz hm => ?_
    rcases hlast z hz hm with h | h
    · exact h
    · exact absurd ⟨z, hz, h⟩ hnew
theorem euler : ∀ (n : Nat) {l : List Bar}, l.length = n → Net l → ∀ {p : Nat}, PartsIs l p → nM l + nK l ≤ l.length + p
  | 0, l, hl, _, _, _ => by
    have : l = [] := List.eq_nil_of_length_eq_zero hl
    subst this
    simp [nM, nK, ends, nub]
  | n + 1, l, hl, hN, p, hp => by
    have hne : l ≠ [] := fun e => by subst e; simp at hl
    obtain ⟨r, b, rfl⟩ : ∃ r b, l = r ++ [b] := ⟨l.dropLast, l.getLast hne, (List.dropLast_concat_getLast hne).symm⟩
    have hN' : Net r := ⟨fun x hx => hN.1 x (by simp [hx]), (List.pairwise_append.1 hN.2).1⟩
    obtain ⟨q, hq⟩ := CntIs.total (l := r) r []
    have ih := euler n (by simpa using hl) hN' hq
    have hm : ∀ x, x ∈ r ++ [b] ↔ x = b ∨ x ∈ r := fun x => by simp [or_comm]
    have hr := rank_more hm hq hp
    have hs := euler_snoc hN
    rw [List.length_append, List.length_singleton]
    rcases hr with ⟨_, _, _, e1, e2⟩ | ⟨hn, e⟩
    · rcases hs with h | ⟨h, _⟩ <;> omega
    · rcases hs with h | ⟨_, h1, h2, h3⟩
      · omega
      · exact absurd ⟨h1, h2, h3⟩ hn
end Go.Proofs.YthihjphcjjpjpaaGreat.Ck

/- Edges of tapers: plain mathematics of the bars that a word follows. -/
namespace Go.Proofs.YthihjphcjjpjpaaGreat
open Ck

def dxL (c : UInt8) : Int := if c = 84 then 2 else if c = 66 then 1 else 0
def dyL (c : UInt8) : Int := if c = 78 then 2 else if c = 66 then 1 else 0
def isL (c : UInt8) : Prop := c = 78 ∨ c = 66 ∨ c = 84
def stepK (σ : Int) (k : Knot) (c : UInt8) : Knot := ⟨k.x + σ * dxL c, k.y + dyL c⟩
def barsP (σ : Int) : Knot → List UInt8 → List Bar
  | _, [] => []
  | k, c :: r => if c = 66 then ⟨k.x, k.y, σ⟩ :: barsP σ (stepK σ k c) r else barsP σ (stepK σ k c) r
/-- Does the word begin with a bar? -/
def headB : List UInt8 → Bool
  | 66 :: _ => true
  | _ => false
/-- The runs of bars, counted at their ends. -/
def endsR : List UInt8 → Nat
  | [] => 0
  | c :: r => (if c = 66 then (if headB r = true then 0 else 1) else 0) + endsR r
def barsN (l : List UInt8) : Nat := l.countP fun c => decide (c = 66)

theorem dyL_nonneg (c : UInt8) : 0 ≤ dyL c := by unfold dyL; split <;> (try split) <;> omega
theorem step_y (σ : Int) (k : Knot) (c : UInt8) : (stepK σ k c).y = k.y + dyL c := rfl
theorem step_B (σ : Int) (k : Knot) : stepK σ k 66 = ⟨k.x + σ, k.y + 1⟩ := by simp [stepK, dxL, dyL]
theorem barsP_cons (σ : Int) (k : Knot) (c : UInt8) (r : List UInt8) : barsP σ k (c :: r) = if c = 66 then ⟨k.x, k.y, σ⟩ :: barsP σ (stepK σ k c) r else barsP σ (stepK σ k c) r := rfl
theorem barsP_ge {σ : Int} : ∀ {l : List UInt8} {k : Knot} {b : Bar}, b ∈ barsP σ k l → k.y ≤ b.y ∧ b.s = σ
  | [], _, _, h => by simp [barsP] at h
  | c :: r, k, b, h => by
    have hd := dyL_nonneg c
    rw [barsP_cons] at h
    split at h
    · rcases List.mem_cons.1 h with rfl | h
      · exact ⟨Int.le_refl _, rfl⟩
      · have := barsP_ge h
        rw [step_y] at this
        exact ⟨by omega, this.2⟩
    · have := barsP_ge h
      rw [step_y] at this
      exact ⟨by omega, this.2⟩
theorem barsP_pair {σ : Int} : ∀ (l : List UInt8) (k : Knot), (barsP σ k l).Pairwise fun a b => a.y < b.y
  | [], _ => by simp [barsP]
  | c :: r, k => by
    rw [barsP_cons]
    split
    · rename_i h
      subst h
      refine List.pairwise_cons.2 ⟨fun b hb => ?_, barsP_pair r _⟩
      have := (barsP_ge hb).1
      rw [step_B] at this
      simp only at this ⊢
      omega
    · exact barsP_pair r _
theorem barsP_length {σ : Int} : ∀ (l : List UInt8) (k : Knot), (barsP σ k l).length = barsN l
  | [], _ => rfl
  | c :: r, k => by
    rw [barsP_cons, barsN, List.countP_cons]
    split
    · rename_i h
      simp [h, barsP_length r, barsN]
    · rename_i h
      simp [h, barsP_length r, barsN]
/-- The height of a knot along the way: each letter adds 2. -/
theorem ends_far {σ : Int} (hσ : σ = 1 ∨ σ = -1) : ∀ {l : List UInt8} {k e : Knot}, (∀ c ∈ l, isL c) → e ∈ ends (barsP σ k l) → σ * k.x + k.y ≤ σ * e.x + e.y
  | [], _, _, _, h => by simp [barsP, ends] at h
  | c :: r, k, e, hl, h => by
    have hc := hl c (by simp)
    have hr : ∀ c ∈ r, isL c := fun c' h' => hl c' (by simp [h'])
    have hs : σ * (stepK σ k c).x + (stepK σ k c).y = σ * k.x + k.y + 2 := by
      rcases hc with rfl | rfl | rfl <;> rcases hσ with rfl | rfl <;> simp [stepK, dxL, dyL] <;> omega
    rw [barsP_cons] at h
    split at h
    · rename_i h66
      rw [mem_ends] at h
      obtain ⟨b, hb, he⟩ := h
      rcases List.mem_cons.1 hb with rfl | hb
      · rcases he with rfl | rfl
        · exact Int.le_refl _
        · rcases hσ with rfl | rfl <;> simp [Bar.hi] <;> omega
      · have := ends_far hσ hr (mem_ends.2 ⟨b, hb, he⟩)
        omega
    · have := ends_far hσ hr h
      omega
theorem start_end {σ : Int} (hσ : σ = 1 ∨ σ = -1) {l : List UInt8} {k : Knot} (hl : ∀ c ∈ l, isL c) : k ∈ ends (barsP σ k l) ↔ headB l = true := by
  match l with
  | [] => simp [barsP, ends, headB]
  | c :: r =>
    have hr : ∀ c ∈ r, isL c := fun c' h' => hl c' (by simp [h'])
    have hs : σ * (stepK σ k c).x + (stepK σ k c).y = σ * k.x + k.y + 2 := by
      rcases hl c (by simp) with rfl | rfl | rfl <;> rcases hσ with rfl | rfl <;> simp [stepK, dxL, dyL] <;> omega
    by_cases h66 : c = 66
    · subst h66
      refine ⟨fun _ => rfl, fun _ => mem_ends.2 ⟨⟨k.x, k.y, σ⟩, by rw [barsP_cons]; simp, .inl rfl⟩⟩
    · have hh : headB (c :: r) = false := by
        unfold headB
        split
        · rename_i h; cases h; exact absurd rfl h66
        · rfl
      rw [hh, barsP_cons, if_neg h66]
      refine ⟨fun h => ?_, fun h => by cases h⟩
      have := ends_far hσ hr h
      omega
/-- Knots and parts of an edge. -/
theorem barsP_parts {σ : Int} (hσ : σ = 1 ∨ σ = -1) : ∀ {l : List UInt8} {k : Knot}, (∀ c ∈ l, isL c) → PartsIs (barsP σ k l) (endsR l) ∧ nK (barsP σ k l) = barsN l + endsR l
  | [], k, _ => ⟨.nil _, by simp [barsP, nK, ends, nub, barsN, endsR]⟩
  | c :: r, k, hl => by
    have hr : ∀ c ∈ r, isL c := fun c' h' => hl c' (by simp [h'])
    obtain ⟨ih1, ih2⟩ := barsP_parts hσ (l := r) (k := stepK σ k c) hr
    by_cases h66 : c = 66
    · subst h66
      rw [barsP_cons, if_pos rfl]
      have hm : ∀ x, x ∈ (⟨k.x, k.y, σ⟩ :: barsP σ (stepK σ k 66) r : List Bar) ↔ x = (⟨k.x, k.y, σ⟩ : Bar) ∨ x ∈ barsP σ (stepK σ k 66) r := fun x => List.mem_cons
      obtain ⟨p', hp'⟩ := CntIs.total (l := ⟨k.x, k.y, σ⟩ :: barsP σ (stepK σ k 66) r) (⟨k.x, k.y, σ⟩ :: barsP σ (stepK σ k 66) r) []
      have hlo : (⟨k.x, k.y, σ⟩ : Bar).lo ∉ ends (barsP σ (stepK σ k 66) r) := fun h => by
        have := ends_far hσ hr h
        rw [step_B] at this
        rcases hσ with rfl | rfl <;> simp [Bar.lo] at this <;> omega
      have hhi : (⟨k.x, k.y, σ⟩ : Bar).hi ∈ ends (barsP σ (stepK σ k 66) r) ↔ headB r = true := by
        rw [← start_end hσ (k := stepK σ k 66) hr, step_B]
        exact Iff.rfl
      have hk := nK_more hm
      rw [if_neg hlo] at hk
      have he : endsR (66 :: r) = (if headB r = true then 0 else 1) + endsR r := by simp [endsR]
      have hn : barsN (66 :: r) = barsN r + 1 := by simp [barsN]
      rcases rank_more hm ih1 hp' with h | ⟨_, h⟩
      · exact absurd h.1 hlo
      · by_cases hb : headB r = true
        · rw [if_pos (hhi.2 hb)] at hk
          rw [if_pos hb] at he
          have : p' = endsR (66 :: r) := by omega
          subst this
          exact ⟨hp', by omega⟩
        · rw [if_neg (fun h' => hb (hhi.1 h'))] at hk
          rw [if_neg hb] at he
          have : p' = endsR (66 :: r) := by omega
          subst this
          exact ⟨hp', by omega⟩
    · have he : endsR (c :: r) = endsR r := by simp [endsR, h66]
      have hn : barsN (c :: r) = barsN r := by simp [barsN, h66]
      rw [barsP_cons, if_neg h66, he, hn]
      exact ⟨ih1, ih2⟩
theorem barsP_meshes {σ : Int} (l : List UInt8) (k : Knot) : nM (barsP σ k l) = 0 := by
  rw [nM, List.countP_eq_zero]
  intro b hb h
  simp only [isMesh, Bool.and_eq_true, decide_eq_true_eq] at h
  have h1 := (barsP_ge hb).2
  have h2 := (barsP_ge h.2.1).2
  simp only at h2
  omega
/-- The runs of bars, counted at their beginnings; the letter before them is known. -/
def startsR : UInt8 → List UInt8 → Nat
  | _, [] => 0
  | a, c :: r => (if c = 66 ∧ a ≠ 66 then 1 else 0) + startsR c r
theorem starts_ends : ∀ (l : List UInt8) (a : UInt8), startsR a l + (if a = 66 ∧ headB l = true then 1 else 0) = endsR l
  | [], a => by simp [startsR, endsR, headB]
  | c :: r, a => by
    have ih := starts_ends r c
    have hh : headB (c :: r) = decide (c = 66) := by
      by_cases h : c = 66
      · subst h; rfl
      · unfold headB
        split
        · rename_i h'; cases h'; exact absurd rfl h
        · simp [h]
    rw [startsR, endsR, hh]
    by_cases h1 : c = 66 <;> by_cases h2 : a = 66 <;> by_cases h3 : headB r = true <;> simp [h1, h2, h3] at ih ⊢ <;> omega
/-- Mirrored and shifted edges. -/
def mirB (b : Bar) : Bar := ⟨-b.x, b.y, -b.s⟩
theorem barsP_mirror (σ : Int) : ∀ (l : List UInt8) (k : Knot), barsP (-σ) ⟨-k.x, k.y⟩ l = (barsP σ k l).map mirB
  | [], _ => rfl
  | c :: r, k => by
    have hs : stepK (-σ) ⟨-k.x, k.y⟩ c = ⟨-(stepK σ k c).x, (stepK σ k c).y⟩ := by
      simp only [stepK, Int.neg_mul, Int.neg_add]
    rw [barsP_cons, barsP_cons, hs, barsP_mirror σ r]
    split <;> simp [mirB]
def shB (dx dy : Int) (b : Bar) : Bar := ⟨b.x + dx, b.y + dy, b.s⟩
theorem barsP_shift (σ dx dy : Int) : ∀ (l : List UInt8) (k : Knot), barsP σ ⟨k.x + dx, k.y + dy⟩ l = (barsP σ k l).map (shB dx dy)
  | [], _ => rfl
  | c :: r, k => by
    have hs : stepK σ ⟨k.x + dx, k.y + dy⟩ c = ⟨(stepK σ k c).x + dx, (stepK σ k c).y + dy⟩ := by
      simp only [stepK, Knot.mk.injEq]
      omega
    rw [barsP_cons, barsP_cons, hs, barsP_shift σ dx dy r]
    split <;> simp [shB]
theorem barsP_lt {σ : Int} (l : List UInt8) (k : Knot) : (barsP σ k l).Pairwise Blt := (barsP_pair l k).imp fun {a b} h => .inl h
/-- How far a word leads. -/
theorem barsP_near {σ : Int} (hσ : σ = 1 ∨ σ = -1) : ∀ {l : List UInt8} {k : Knot} {b : Bar}, b ∈ barsP σ k l → k.x - 2 * (l.length : Int) ≤ b.x ∧ b.x ≤ k.x + 2 * (l.length : Int) ∧ b.y ≤ k.y + 2 * (l.length : Int) ∧ (((k.x + k.y) % 2 = 0 → (∀ c ∈ l, isL c) → (b.x + b.y) % 2 = 0))
  | [], _, _, h => by simp [barsP] at h
  | c :: r, k, b, h => by
    have hd : 0 ≤ dxL c ∧ dxL c ≤ 2 ∧ 0 ≤ dyL c ∧ dyL c ≤ 2 ∧ (isL c → dxL c + dyL c = 2) := by
      refine ⟨?_, ?_, ?_, ?_, fun h => ?_⟩
      · unfold dxL; split <;> (try split) <;> omega
      · unfold dxL; split <;> (try split) <;> omega
      · unfold dyL; split <;> (try split) <;> omega
      · unfold dyL; split <;> (try split) <;> omega
      · rcases h with rfl | rfl | rfl <;> simp [dxL, dyL]
    have hx : (stepK σ k c).x = k.x + σ * dxL c := rfl
    have hrec : b ∈ barsP σ (stepK σ k c) r → k.x - 2 * ((c :: r).length : Int) ≤ b.x ∧ b.x ≤ k.x + 2 * ((c :: r).length : Int) ∧ b.y ≤ k.y + 2 * ((c :: r).length : Int) ∧ (((k.x + k.y) % 2 = 0 → (∀ c' ∈ c :: r, isL c') → (b.x + b.y) % 2 = 0)) := fun hb => by
      obtain ⟨h1, h2, h3, h4⟩ := barsP_near hσ hb
      rw [hx] at h1 h2
      rw [step_y] at h3
      simp only [List.length_cons]
      refine ⟨?_, ?_, ?_, fun he hl => h4 ?_ fun c' h' => hl c' (by simp [h'])⟩
      · rcases hσ with rfl | rfl <;> omega
      · rcases hσ with rfl | rfl <;> omega
      · omega
      · have := hd.2.2.2.2 (hl c (by simp))
        rw [hx, step_y]
        rcases hσ with rfl | rfl <;> omega
    rw [barsP_cons] at h
    split at h
    · rcases List.mem_cons.1 h with rfl | h
      · simp only [List.length_cons]
        exact ⟨by omega, by omega, by omega, fun he _ => he⟩
      · exact hrec h
    · exact hrec h
end Go.Proofs.YthihjphcjjpjpaaGreat

/- Lists of bars in memory: what it means that a slice holds a list of bars, and that this is kept. -/
namespace Go.Proofs.YthihjphcjjpjpaaGreat
open Go.RowKit

theorem ret_i {a b : Int} (h : a = b) : Ending.returned (.int .i64 a) = .returned (.int .i64 b) := by rw [h]
theorem ret_b {a b : Bool} (h : a = b) : Ending.returned (.bool a) = .returned (.bool b) := by rw [h]

def bv (b : Ck.Bar) : Value := .agg #[.int .i64 b.x, .int .i64 b.y, .int .i64 b.s]
def kv (k : Ck.Knot) : Value := .agg #[.int .i64 k.x, .int .i64 k.y]
def bcells (b : Ck.Bar) : List Value := [.int .i64 b.x, .int .i64 b.y, .int .i64 b.s]
def kcells (k : Ck.Knot) : List Value := [.int .i64 k.x, .int .i64 k.y]

/-- The slice at A holds the bars l, below block B. -/
def RB (w : World) (B : Nat) (A : Option Addr) (l : List Ck.Bar) : Prop :=
  0 < l.length → ∃ b off, A = some ⟨b, off, none⟩ ∧ b < B ∧ ∀ i (h : i < l.length), w.cell? ⟨b, off + i * 3, none⟩ = some (.int .i64 l[i].x) ∧ w.cell? ⟨b, off + i * 3 + 1, none⟩ = some (.int .i64 l[i].y) ∧ w.cell? ⟨b, off + i * 3 + 2, none⟩ = some (.int .i64 l[i].s)
/-- The slice at A holds the knots l, below block B. -/
def RK (w : World) (B : Nat) (A : Option Addr) (l : List Ck.Knot) : Prop :=
  0 < l.length → ∃ b off, A = some ⟨b, off, none⟩ ∧ b < B ∧ ∀ i (h : i < l.length), w.cell? ⟨b, off + i * 2, none⟩ = some (.int .i64 l[i].x) ∧ w.cell? ⟨b, off + i * 2 + 1, none⟩ = some (.int .i64 l[i].y)

theorem RB.below {w w' : World} {B : Nat} {A : Option Addr} {l : List Ck.Bar} (h : RB w B A l) (hb : Below B w w') : RB w' B A l := fun hl => by
  obtain ⟨b, off, rfl, hB, hc⟩ := h hl
  exact ⟨b, off, rfl, hB, fun i hi => ⟨(hb.cell (p := ⟨b, _, none⟩) hB).trans (hc i hi).1, (hb.cell (p := ⟨b, _, none⟩) hB).trans (hc i hi).2.1, (hb.cell (p := ⟨b, _, none⟩) hB).trans (hc i hi).2.2⟩⟩
theorem RB.more {w : World} {B B' : Nat} {A : Option Addr} {l : List Ck.Bar} (h : RB w B A l) (hB : B ≤ B') : RB w B' A l := fun hl => by
  obtain ⟨b, off, h1, h2, hc⟩ := h hl
  exact ⟨b, off, h1, by omega, hc⟩
theorem RK.below {w w' : World} {B : Nat} {A : Option Addr} {l : List Ck.Knot} (h : RK w B A l) (hb : Below B w w') : RK w' B A l := fun hl => by
  obtain ⟨b, off, rfl, hB, hc⟩ := h hl
  exact ⟨b, off, rfl, hB, fun i hi => ⟨(hb.cell (p := ⟨b, _, none⟩) hB).trans (hc i hi).1, (hb.cell (p := ⟨b, _, none⟩) hB).trans (hc i hi).2⟩⟩
theorem RK.more {w : World} {B B' : Nat} {A : Option Addr} {l : List Ck.Knot} (h : RK w B A l) (hB : B ≤ B') : RK w B' A l := fun hl => by
  obtain ⟨b, off, h1, h2, hc⟩ := h hl
  exact ⟨b, off, h1, by omega, hc⟩
theorem below_drewN {B : Nat} {a w : World} (h : Below B a w) (n : Nat) : Below B a (w.drewN n) := ⟨h.os, h.tape, h.output, h.size, h.block⟩
theorem below_drew {B : Nat} {a w : World} (h : Below B a w) : Below B a w.drew := ⟨h.os, h.tape, h.output, h.size, h.block⟩
theorem bcell {W w1 : World} (hb : Below W.heap.size W w1) : (∀ b o, b < W.heap.size → w1.cell? ⟨b, o, none⟩ = W.cell? ⟨b, o, none⟩) ∧ (∀ b o, b < W.heap.size → w1.frozen? ⟨b, o, none⟩ = W.frozen? ⟨b, o, none⟩) :=
  ⟨fun b o h => hb.cell (p := ⟨b, o, none⟩) h, fun b o h => hb.frozen (p := ⟨b, o, none⟩) h⟩
theorem box2 (w : World) (a b : Value) (t : TypeId) : ∃ w1, w1 = w.alloc (.cells #[a, b] t) ∧ w1.cell? ⟨w.heap.size, 0, none⟩ = some a ∧ w1.cell? ⟨w.heap.size, 1, none⟩ = some b ∧ Below w.heap.size w w1 ∧ w.heap.size < w1.heap.size :=
  ⟨_, rfl, by rw [World.cell?_alloc_at _ _ _ _ rfl]; rfl, by rw [World.cell?_alloc_at _ _ _ _ rfl]; rfl, (Below.refl _ _).alloc (Nat.le_refl _) _, by simp⟩
theorem box3 (w : World) (a b c : Value) (t : TypeId) : ∃ w1, w1 = w.alloc (.cells #[a, b, c] t) ∧ w1.cell? ⟨w.heap.size, 0, none⟩ = some a ∧ w1.cell? ⟨w.heap.size, 1, none⟩ = some b ∧ w1.cell? ⟨w.heap.size, 2, none⟩ = some c ∧ Below w.heap.size w w1 ∧ w.heap.size < w1.heap.size :=
  ⟨_, rfl, by rw [World.cell?_alloc_at _ _ _ _ rfl]; rfl, by rw [World.cell?_alloc_at _ _ _ _ rfl]; rfl, by rw [World.cell?_alloc_at _ _ _ _ rfl]; rfl, (Below.refl _ _).alloc (Nat.le_refl _) _, by simp⟩
theorem box33 (w : World) (a b c a' b' c' : Value) (t t' : TypeId) : ∃ w1, w1 = (w.alloc (.cells #[a, b, c] t)).alloc (.cells #[a', b', c'] t') ∧ w1.cell? ⟨w.heap.size, 0, none⟩ = some a ∧ w1.cell? ⟨w.heap.size, 1, none⟩ = some b ∧ w1.cell? ⟨w.heap.size, 2, none⟩ = some c ∧
    w1.cell? ⟨w.heap.size + 1, 0, none⟩ = some a' ∧ w1.cell? ⟨w.heap.size + 1, 1, none⟩ = some b' ∧ w1.cell? ⟨w.heap.size + 1, 2, none⟩ = some c' := by
  obtain ⟨w0, rfl, h0, h1, h2, _, hz⟩ := box3 w a b c t
  have hs : (w.alloc (.cells #[a, b, c] t)).heap.size = w.heap.size + 1 := by simp
  obtain ⟨w1, rfl, k0, k1, k2, hb, _⟩ := box3 (w.alloc (.cells #[a, b, c] t)) a' b' c' t'
  rw [hs] at k0 k1 k2
  exact ⟨_, rfl, (hb.cell (p := ⟨_, _, none⟩) hz).trans h0, (hb.cell (p := ⟨_, _, none⟩) hz).trans h1, (hb.cell (p := ⟨_, _, none⟩) hz).trans h2, k0, k1, k2⟩
end Go.Proofs.YthihjphcjjpjpaaGreat

/- Contracts of the reference's small functions: ranges, knots, bars, the order of bars. Each for every argument that is an int of the language. -/
namespace Go.Proofs.YthihjphcjjpjpaaGreat
open Go.RowKit


def farB (n : Int) : Bool := decide (n < -100000 ∨ 100000 < n)
set_option maxHeartbeats 400000 in
theorem refFar (n : Int) (w : World) :
    Calls Tryz.prog 33 #[.int .i64 n] w fun e w' => e = .returned (.bool (farB n)) ∧ w = w' := by
  by_cases h1 : n < -100000
  all_goals
    have hf : farB n = (decide (n < -100000) || decide (100000 < n)) := by simp [farB]
    have HF := Lib.hid hf
    clear hf
    go_enter Tryz.func33, Tryz.ntmps33
    go_wp2
    go_ret
    rw [HF.out]
    simp <;> omega

def evenB (x y : Int) : Bool := decide ((x + y) % 2 = 0)
set_option maxHeartbeats 400000 in
theorem refEven (x y : Int) (w : World) (h1 : -100000 ≤ x) (h2 : x ≤ 100000) (h3 : -100000 ≤ y) (h4 : y ≤ 100000) :
    Calls Tryz.prog 34 #[.int .i64 x, .int .i64 y] w fun e w' => e = .returned (.bool (evenB x y)) ∧ w = w' := by
  have hf : evenB x y = decide ((x + y) % 2 = 0) := rfl
  have HF := Lib.hid hf
  clear hf
  go_enter Tryz.func34, Tryz.ntmps34
  go_wp2
  go_ret
  refine ⟨?_, rfl⟩
  rw [HF.out]
  have h : ((x + y).tmod 2 == 0) = decide ((x + y) % 2 = 0) := by
    rw [Bool.eq_iff_iff]
    simp only [beq_iff_eq, decide_eq_true_eq]
    rw [← Int.dvd_iff_tmod_eq_zero, ← Int.dvd_iff_emod_eq_zero]
  exact congrArg (fun b => Ending.returned (.bool b)) h

def knotE (x y : Int) : Int := if farB x then 3 else if farB y then 3 else if evenB x y then 0 else 14
theorem farB_no {n : Int} (h : farB n = false) : -100000 ≤ n ∧ n ≤ 100000 := by simpa [farB] using h

set_option maxHeartbeats 400000 in
theorem refCheckKnot (x y : Int) (w : World) :
    Calls Tryz.prog 15 #[.agg #[.int .i64 x, .int .i64 y]] w fun e w' => e = .returned (.int .i64 (knotE x y)) ∧ Below w.heap.size w w' := by
  cases hx : farB x
  · cases hy : farB y
    · obtain ⟨h1, h2⟩ := farB_no hx
      obtain ⟨h3, h4⟩ := farB_no hy
      cases he : evenB x y
      all_goals
        have HK := Lib.hid (show knotE x y = _ by simp only [knotE, hx, hy, he]; rfl)
        have HX := Lib.hid hx
        have HY := Lib.hid hy
        have HE := Lib.hid he
        clear hx hy he
        go_enter Tryz.func15, Tryz.ntmps15
        go_wp2_with fail
        refine (refFar x _).mono ?_
        rintro e w' ⟨rfl, rfl⟩
        rw [HX.out]
        go_wp2_with fail
        refine (refFar y _).mono ?_
        rintro e w' ⟨rfl, rfl⟩
        rw [HY.out]
        go_wp2_with fail
        refine (refEven x y _ h1 h2 h3 h4).mono ?_
        rintro e w' ⟨rfl, rfl⟩
        rw [HE.out]
        go_wp2
        go_ret
        exact ⟨ret_i HK.out.symm, (Below.refl _ _).alloc (Nat.le_refl _) _⟩
    · have HK := Lib.hid (show knotE x y = 3 by simp [knotE, hx, hy])
      have HX := Lib.hid hx
      have HY := Lib.hid hy
      clear hx hy
      go_enter Tryz.func15, Tryz.ntmps15
      go_wp2_with fail
      refine (refFar x _).mono ?_
      rintro e w' ⟨rfl, rfl⟩
      rw [HX.out]
      go_wp2_with fail
      refine (refFar y _).mono ?_
      rintro e w' ⟨rfl, rfl⟩
      rw [HY.out]
      go_wp2
      go_ret
      exact ⟨ret_i HK.out.symm, (Below.refl _ _).alloc (Nat.le_refl _) _⟩
  · have HK := Lib.hid (show knotE x y = 3 by simp [knotE, hx])
    have HX := Lib.hid hx
    clear hx
    go_enter Tryz.func15, Tryz.ntmps15
    go_wp2_with fail
    refine (refFar x _).mono ?_
    rintro e w' ⟨rfl, rfl⟩
    rw [HX.out]
    go_wp2
    go_ret
    exact ⟨ret_i HK.out.symm, (Below.refl _ _).alloc (Nat.le_refl _) _⟩
end Go.Proofs.YthihjphcjjpjpaaGreat

/- Contracts of the reference's functions on bars: the ends, the error of a bar, the order of bars. -/
namespace Go.Proofs.YthihjphcjjpjpaaGreat
open Go.RowKit

set_option maxHeartbeats 400000 in
theorem refLower (x y s : Int) (w : World) :
    Calls Tryz.prog 47 #[.agg #[.int .i64 x, .int .i64 y, .int .i64 s]] w fun e w' => e = .returned (.agg #[.int .i64 x, .int .i64 y]) ∧ Below w.heap.size w w' := by
  go_enter Tryz.func47, Tryz.ntmps47
  go_wp2
  exact bodyPost_ret (v := .agg #[.int .i64 x, .int .i64 y]) (by simp [results, Tryz.results47, go_sem]) rfl ⟨rfl, (((Below.refl _ _).alloc (Nat.le_refl _) _).alloc (by simp) _)⟩

set_option maxHeartbeats 400000 in
theorem refUpper (x y s : Int) (w : World) (hx1 : -100000 ≤ x) (hx2 : x ≤ 100000) (hy1 : -100000 ≤ y) (hy2 : y ≤ 100000) (hs1 : -1 ≤ s) (hs2 : s ≤ 1) :
    Calls Tryz.prog 48 #[.agg #[.int .i64 x, .int .i64 y, .int .i64 s]] w fun e w' => e = .returned (.agg #[.int .i64 (x + s), .int .i64 (y + 1)]) ∧ Below w.heap.size w w' := by
  go_enter Tryz.func48, Tryz.ntmps48
  go_wp2
  exact bodyPost_ret (v := .agg #[.int .i64 (x + s), .int .i64 (y + 1)]) (by simp [results, Tryz.results48, go_sem]) rfl ⟨rfl, (((Below.refl _ _).alloc (Nat.le_refl _) _).alloc (by simp) _)⟩

def barE (x y s : Int) : Int := if knotE x y = 0 then (if s = 1 ∨ s = -1 then knotE (x + s) (y + 1) else 13) else knotE x y
theorem knotE_zero {x y : Int} (h : knotE x y = 0) : -100000 ≤ x ∧ x ≤ 100000 ∧ -100000 ≤ y ∧ y ≤ 100000 := by
  unfold knotE at h
  split at h
  · omega
  · rename_i h1
    split at h
    · omega
    · rename_i h2
      have a := farB_no (by simpa using h1)
      have b := farB_no (by simpa using h2)
      omega

set_option maxHeartbeats 400000 in
theorem refCheckBar (x y s : Int) (w : World) :
    Calls Tryz.prog 20 #[.agg #[.int .i64 x, .int .i64 y, .int .i64 s]] w fun e w' => e = .returned (.int .i64 (barE x y s)) ∧ Below w.heap.size w w' := by
  by_cases hk : knotE x y = 0
  · obtain ⟨h1, h2, h3, h4⟩ := knotE_zero hk
    by_cases hs : s = 1 ∨ s = -1
    · have HB := Lib.hid (show barE x y s = knotE (x + s) (y + 1) by simp [barE, hk, hs])
      have HK := Lib.hid hk
      clear hk
      rcases hs with rfl | rfl
      all_goals
        go_enter Tryz.func20, Tryz.ntmps20
        go_wp2_with fail
        refine (refLower x y _ _).mono ?_
        rintro e w1 ⟨rfl, hb1⟩
        obtain ⟨hc1, hf1⟩ := bcell hb1
        go_wp2_with fail
        refine (refCheckKnot x y _).mono ?_
        rintro e w2 ⟨rfl, hb2⟩
        obtain ⟨hc2, hf2⟩ := bcell hb2
        have hz : w.heap.size < w1.heap.size := by have := hb1.size; simp at this; omega
        rw [HK.out]
        go_wp2_with fail
        refine (refUpper _ _ _ _ h1 h2 h3 h4 (by decide) (by decide)).mono ?_
        rintro e w3 ⟨rfl, hb3⟩
        obtain ⟨hc3, hf3⟩ := bcell hb3
        go_wp2_with fail
        refine (refCheckKnot _ _ _).mono ?_
        rintro e w4 ⟨rfl, hb4⟩
        go_wp2
        go_ret
        exact ⟨ret_i HB.out.symm, (((((Below.refl _ _).alloc (Nat.le_refl _) _).trans (hb1.mono (by simp))).trans (hb2.mono (by omega))).trans (hb3.mono (by have := hb2.size; omega))).trans (hb4.mono (by have := hb2.size; have := hb3.size; omega))⟩
    · have hs1 : (s != 1) = true := by rw [bne_iff_ne]; omega
      have hs2 : (s != -1) = true := by rw [bne_iff_ne]; omega
      have HB := Lib.hid (show barE x y s = 13 by simp [barE, hk, hs])
      have HK := Lib.hid hk
      clear hk hs
      go_enter Tryz.func20, Tryz.ntmps20
      go_wp2_with fail
      refine (refLower x y _ _).mono ?_
      rintro e w1 ⟨rfl, hb1⟩
      obtain ⟨hc1, hf1⟩ := bcell hb1
      go_wp2_with fail
      refine (refCheckKnot x y _).mono ?_
      rintro e w2 ⟨rfl, hb2⟩
      obtain ⟨hc2, hf2⟩ := bcell hb2
      have hz : w.heap.size < w1.heap.size := by have := hb1.size; simp at this; omega
      rw [HK.out]
      go_wp2
      go_ret
      exact ⟨ret_i HB.out.symm, ((((Below.refl _ _).alloc (Nat.le_refl _) _).trans (hb1.mono (by simp))).trans (hb2.mono (by omega)))⟩
  · have hk1 : (knotE x y == 0) = false := by simpa using hk
    have HB := Lib.hid (show barE x y s = knotE x y by simp [barE, hk])
    clear hk
    go_enter Tryz.func20, Tryz.ntmps20
    go_wp2_with fail
    refine (refLower x y _ _).mono ?_
    rintro e w1 ⟨rfl, hb1⟩
    obtain ⟨hc1, hf1⟩ := bcell hb1
    go_wp2_with fail
    refine (refCheckKnot x y _).mono ?_
    rintro e w2 ⟨rfl, hb2⟩
    obtain ⟨hc2, hf2⟩ := bcell hb2
    have hz : w.heap.size < w1.heap.size := by have := hb1.size; simp at this; omega
    go_wp2
    go_ret
    exact ⟨ret_i HB.out.symm, ((((Below.refl _ _).alloc (Nat.le_refl _) _).trans (hb1.mono (by simp))).trans (hb2.mono (by omega)))⟩
end Go.Proofs.YthihjphcjjpjpaaGreat

/- Contracts of the reference's order of bars and of its check of a net. -/
namespace Go.Proofs.YthihjphcjjpjpaaGreat
open Go.RowKit

def lessB (x y s x' y' s' : Int) : Bool := if y = y' then (if x = x' then decide (s < s') else decide (x < x')) else decide (y < y')

set_option maxHeartbeats 400000 in
theorem refLess (x y s x' y' s' : Int) (w : World) :
    Calls Tryz.prog 21 #[.agg #[.int .i64 x, .int .i64 y, .int .i64 s], .agg #[.int .i64 x', .int .i64 y', .int .i64 s']] w fun e w' => e = .returned (.bool (lessB x y s x' y' s')) ∧ Below w.heap.size w w' := by
  by_cases hy : y = y'
  · subst hy
    by_cases hx : x = x'
    · subst hx
      have HB := Lib.hid (show lessB x y s x y s' = decide (s < s') by simp [lessB])
      go_enter Tryz.func21, Tryz.ntmps21
      go_wp2
      go_ret
      exact ⟨ret_b HB.out.symm, (((Below.refl _ _).alloc (Nat.le_refl _) _).alloc (by simp) _)⟩
    · have h1 : (x != x') = true := by rw [bne_iff_ne]; exact hx
      have HB := Lib.hid (show lessB x y s x' y s' = decide (x < x') by simp [lessB, hx])
      clear hx
      go_enter Tryz.func21, Tryz.ntmps21
      go_wp2
      go_ret
      exact ⟨ret_b HB.out.symm, (((Below.refl _ _).alloc (Nat.le_refl _) _).alloc (by simp) _)⟩
  · have h1 : (y != y') = true := by rw [bne_iff_ne]; exact hy
    have HB := Lib.hid (show lessB x y s x' y' s' = decide (y < y') by simp [lessB, hy])
    clear hy
    go_enter Tryz.func21, Tryz.ntmps21
    go_wp2
    go_ret
    exact ⟨ret_b HB.out.symm, (((Below.refl _ _).alloc (Nat.le_refl _) _).alloc (by simp) _)⟩

def netFrom : Option Ck.Bar → List Ck.Bar → Int
  | _, [] => 0
  | none, b :: r => if barE b.x b.y b.s = 0 then netFrom (some b) r else barE b.x b.y b.s
  | some p, b :: r => if barE b.x b.y b.s = 0 then (if lessB p.x p.y p.s b.x b.y b.s then netFrom (some b) r else 11) else barE b.x b.y b.s
def prevAt (l : List Ck.Bar) : Nat → Option Ck.Bar
  | 0 => none
  | k + 1 => l[k]?
def netE (l : List Ck.Bar) : Int := if 4096 < l.length then 5 else netFrom none l

theorem netFrom_bad {l : List Ck.Bar} {k : Nat} (hk : k < l.length) (h : ¬ barE l[k].x l[k].y l[k].s = 0) : netFrom (prevAt l k) (l.drop k) = barE l[k].x l[k].y l[k].s := by
  rw [List.drop_eq_getElem_cons hk]
  cases prevAt l k <;> simp [netFrom, h]
theorem netFrom_step0 {l : List Ck.Bar} (hk : 0 < l.length) (h : barE l[0].x l[0].y l[0].s = 0) : netFrom (prevAt l 0) (l.drop 0) = netFrom (prevAt l 1) (l.drop 1) := by
  rw [List.drop_eq_getElem_cons hk]
  simp [prevAt, netFrom, h, List.getElem?_eq_getElem hk]
theorem netFrom_step {l : List Ck.Bar} {k : Nat} (hk : k + 1 < l.length) (h : barE l[k+1].x l[k+1].y l[k+1].s = 0) (h2 : lessB l[k].x l[k].y l[k].s l[k+1].x l[k+1].y l[k+1].s = true) : netFrom (prevAt l (k + 1)) (l.drop (k + 1)) = netFrom (prevAt l (k + 1 + 1)) (l.drop (k + 1 + 1)) := by
  rw [List.drop_eq_getElem_cons hk]
  simp only [prevAt, List.getElem?_eq_getElem hk, List.getElem?_eq_getElem (Nat.lt_of_succ_lt hk), netFrom, h, h2, if_true]
theorem netFrom_stop {l : List Ck.Bar} {k : Nat} (hk : k + 1 < l.length) (h : barE l[k+1].x l[k+1].y l[k+1].s = 0) (h2 : lessB l[k].x l[k].y l[k].s l[k+1].x l[k+1].y l[k+1].s = false) : netFrom (prevAt l (k + 1)) (l.drop (k + 1)) = 11 := by
  rw [List.drop_eq_getElem_cons hk]
  simp only [prevAt, List.getElem?_eq_getElem (Nat.lt_of_succ_lt hk), netFrom, h, h2, if_true]
  rfl
theorem netFrom_end (l : List Ck.Bar) : netFrom (prevAt l l.length) (l.drop l.length) = 0 := by
  rw [List.drop_length]
  cases prevAt l l.length <;> rfl

set_option maxHeartbeats 1000000 in
set_option maxRecDepth 100000 in
theorem refCheckNet (A : Option Addr) (c : Nat) (l : List Ck.Bar) (w : World) (hl : l.length ≤ 4096) (h : RB w w.heap.size A l) :
    Calls Tryz.prog 7 #[.slice A l.length c] w fun e w' => e = .returned (.int .i64 (netE l)) ∧ Below w.heap.size w w' := by
  have HE := Lib.hid (show netE l = netFrom (prevAt l 0) (l.drop 0) by simp [netE, prevAt]; omega)
  have hl' : (l.length : Int) ≤ 4096 := by omega
  go_enter Tryz.func7, Tryz.ntmps7
  go_wp2_with fail
  go_loopw [3, 4] (fun i _ wr => ∃ k : Nat, k ≤ l.length ∧ i = .int .i64 k ∧ netE l = netFrom (prevAt l k) (l.drop k) ∧ Below w.heap.size w wr) (fun i _ _ => l.length - (intOf i).toNat)
  case atStart => exact ⟨0, Nat.zero_le _, rfl, HE.out, Below.refl _ _⟩
  case round =>
    obtain ⟨k, hk, rfl, he, hb⟩ := hrel
    have HE2 := Lib.hid he
    clear he
    by_cases hlt : k < l.length
    · have h' := h.below hb
      obtain ⟨b, off, rfl, hB, hc⟩ := h' (by omega)
      have HC := Lib.hid hc
      obtain ⟨c0, c1, c2⟩ := hc k hlt
      clear hc h' h
      by_cases hbad : barE l[k].x l[k].y l[k].s = 0
      · by_cases hk0 : k = 0
        · have hg1 : decide (0 < k) = false := by simp [hk0]
          have hg2 : decide ((0 : Int) < (k : Int)) = false := by simp [hk0]
          have HF := Lib.hid (show netFrom (prevAt l k) (l.drop k) = netFrom (prevAt l (k + 1)) (l.drop (k + 1)) by
            subst hk0
            exact netFrom_step0 hlt hbad)
          have HBE := Lib.hid hbad
          clear hbad hk0
          go_wp2_with fail
          refine (refCheckBar _ _ _ _).mono ?_
          rintro e w1 ⟨rfl, hb2⟩
          rw [HBE.out]
          go_wp2_with fail
          go_quiet (fail)
          go_wp2
          go_roundw
          case rel => exact ⟨k + 1, by omega, by go_num, HE2.out.trans HF.out, hb.trans (below_drewN (hb2.mono hb.size) _)⟩
          case measure => simp [intOf]; omega
        · obtain ⟨j, rfl⟩ : ∃ j, k = j + 1 := ⟨k - 1, by omega⟩
          obtain ⟨d0, d1, d2⟩ := HC.out j (by omega)
          have hg1 : decide (0 < j + 1) = true := by simp
          have hg2 : decide ((0 : Int) < ((j + 1 : Nat) : Int)) = true := by simp
          have HBE := Lib.hid hbad
          clear hbad hk0
          cases hl2 : lessB l[j].x l[j].y l[j].s l[j+1].x l[j+1].y l[j+1].s
          · have HF := Lib.hid (netFrom_stop hlt HBE.out hl2)
            have HL := Lib.hid hl2
            clear hl2
            go_wp2_with fail
            refine (refCheckBar _ _ _ _).mono ?_
            rintro e w1 ⟨rfl, hb2⟩
            rw [HBE.out]
            obtain ⟨hc1, hf1⟩ := bcell hb2
            have hz := hb.size
            have hz1 : b < wr.heap.size := by omega
            go_wp2_with fail
            have hw1 : IntKind.i64.wrap (j : Int) = (j : Int) := by rw [IntKind.wrap_i64]; omega
            have hw2 : j < l.length := by omega
            have hw4 : IntKind.i64.wrap ((j : Int) + 1) = (j : Int) + 1 := by rw [IntKind.wrap_i64]; omega
            have hw5 : 0 ≤ (j : Int) + 1 := by omega
            have hw3 : ((j : Int) + 1).toNat = j + 1 := by omega
            refine wp_region_still_tail 12 (by kernel_rfl) (by kernel_rfl) ?_
            simp only [List.take_succ_cons, List.take_zero, List.drop_succ_cons, List.drop_zero]
            repeat still_step
            refine wpStill_nil ?_
            change wpList _ _ _ _ _ w1.drew
            clear hw1 hw2 hw4 hw5 hw3
            go_wp2_with fail
            refine (refLess _ _ _ _ _ _ _).mono ?_
            rintro e w2 ⟨rfl, hb3⟩
            rw [HL.out]
            go_wp2
            go_ret
            exact ⟨ret_i (HE2.out.trans HF.out).symm, (below_drew (hb.trans (hb2.mono hz))).trans (hb3.mono (by have := hb2.size; show w.heap.size ≤ w1.heap.size; omega))⟩
          · have HF := Lib.hid (netFrom_step hlt HBE.out hl2)
            have HL := Lib.hid hl2
            clear hl2
            go_wp2_with fail
            refine (refCheckBar _ _ _ _).mono ?_
            rintro e w1 ⟨rfl, hb2⟩
            rw [HBE.out]
            obtain ⟨hc1, hf1⟩ := bcell hb2
            have hz := hb.size
            have hz1 : b < wr.heap.size := by omega
            go_wp2_with fail
            have hw1 : IntKind.i64.wrap (j : Int) = (j : Int) := by rw [IntKind.wrap_i64]; omega
            have hw2 : j < l.length := by omega
            have hw4 : IntKind.i64.wrap ((j : Int) + 1) = (j : Int) + 1 := by rw [IntKind.wrap_i64]; omega
            have hw5 : 0 ≤ (j : Int) + 1 := by omega
            have hw3 : ((j : Int) + 1).toNat = j + 1 := by omega
            refine wp_region_still_tail 12 (by kernel_rfl) (by kernel_rfl) ?_
            simp only [List.take_succ_cons, List.take_zero, List.drop_succ_cons, List.drop_zero]
            repeat still_step
            refine wpStill_nil ?_
            change wpList _ _ _ _ _ w1.drew
            clear hw1 hw2 hw4 hw5 hw3
            go_wp2_with fail
            refine (refLess _ _ _ _ _ _ _).mono ?_
            rintro e w2 ⟨rfl, hb3⟩
            rw [HL.out]
            go_wp2
            go_roundw
            case rel => exact ⟨j + 1 + 1, by omega, by go_num, HE2.out.trans HF.out, (below_drew (hb.trans (hb2.mono hz))).trans (hb3.mono (by have := hb2.size; show w.heap.size ≤ w1.heap.size; omega))⟩
            case measure => simp [intOf]; omega
      · have hb1 : (barE l[k].x l[k].y l[k].s != 0) = true := by rw [bne_iff_ne]; exact hbad
        have HF := Lib.hid (netFrom_bad hlt hbad)
        clear hbad
        generalize hbe : barE l[k].x l[k].y l[k].s = be at *
        have HBE := Lib.hid hbe
        clear hbe
        go_wp2_with fail
        refine (refCheckBar _ _ _ _).mono ?_
        rintro e w1 ⟨rfl, hb2⟩
        rw [HBE.out]
        go_wp2
        go_ret
        exact ⟨ret_i (HE2.out.trans HF.out).symm, hb.trans (hb2.mono hb.size)⟩
    · obtain rfl : k = l.length := by omega
      have HF := Lib.hid (netFrom_end l)
      go_wp2
      go_ret
      exact ⟨ret_i (HE2.out.trans HF.out).symm, hb⟩
end Go.Proofs.YthihjphcjjpjpaaGreat

/- Contracts of the program's small functions of netting: ranges, the first error, knots, sides, ends. -/
namespace Go.Proofs.YthihjphcjjpjpaaGreat
open Go.RowKit

set_option maxHeartbeats 400000 in
theorem netCheckRange (n lo hi : Int) (w : World) :
    Calls Tryz.prog 35 #[.int .i64 n, .int .i64 lo, .int .i64 hi] w fun e w' => e = .returned (.int .i64 (if n < lo ∨ hi < n then 3 else 0)) ∧ w = w' := by
  by_cases h1 : n < lo
  · go_enter Tryz.func35, Tryz.ntmps35
    go_wp2
    go_ret
    simp
  · by_cases h2 : hi < n
    all_goals
      go_enter Tryz.func35, Tryz.ntmps35
      go_wp2
      go_ret
      simp <;> omega

def placeE (n : Int) : Int := if farB n then 3 else 0
theorem placeE_eq (n : Int) : (if n < -100000 ∨ 100000 < n then 3 else 0) = placeE n := by simp [placeE, farB]
set_option maxHeartbeats 400000 in
theorem netCheckPlace (n : Int) (w : World) :
    Calls Tryz.prog 36 #[.int .i64 n] w fun e w' => e = .returned (.int .i64 (placeE n)) ∧ w = w' := by
  go_enter Tryz.func36, Tryz.ntmps36
  go_wp2_with fail
  refine (netCheckRange _ _ _ _).mono ?_
  rintro e w' ⟨rfl, rfl⟩
  rw [placeE_eq]
  go_wp2
  go_ret
  exact ⟨rfl, rfl⟩

def sideE (s : Int) : Int := if s = 1 ∨ s = -1 then 0 else 13
set_option maxHeartbeats 400000 in
theorem netCheckSide (s : Int) (w : World) :
    Calls Tryz.prog 62 #[.int .i64 s] w fun e w' => e = .returned (.int .i64 (sideE s)) ∧ w = w' := by
  by_cases h : s = 1 ∨ s = -1
  · rcases h with rfl | rfl
    all_goals
      go_enter Tryz.func62, Tryz.ntmps62
      go_wp2
      go_ret
      exact ⟨rfl, rfl⟩
  · have h1 : (s != 1) = true := by rw [bne_iff_ne]; omega
    have h2 : (s != -1) = true := by rw [bne_iff_ne]; omega
    have HS := Lib.hid (show sideE s = 13 by simp [sideE, h])
    clear h
    go_enter Tryz.func62, Tryz.ntmps62
    go_wp2
    go_ret
    exact ⟨ret_i HS.out.symm, rfl⟩

def firstE : List Int → Int
  | [] => 0
  | e :: r => if e = 0 then firstE r else e
set_option maxHeartbeats 400000 in
theorem netFirst (b c : Nat) (es : List Int) (w : World) (hn : es.length ≤ 100) (hc : ∀ i (h : i < es.length), w.cell? ⟨b, i, none⟩ = some (.int .i64 es[i])) :
    Calls Tryz.prog 28 #[.slice (some ⟨b, 0, none⟩) es.length c] w fun e w' => e = .returned (.int .i64 (firstE es)) ∧ w = w' := by
  have HC := Lib.hid hc
  have hn' : (es.length : Int) ≤ 100 := by omega
  clear hc
  go_enter Tryz.func28, Tryz.ntmps28
  go_wp2_with fail
  go_loop [4, 7] (fun _ i => ∃ k : Nat, k ≤ es.length ∧ i = .int .i64 k ∧ firstE es = firstE (es.drop k)) (fun _ i => es.length - (intOf i).toNat)
  case atStart => exact ⟨0, Nat.zero_le _, rfl, rfl⟩
  case round =>
    obtain ⟨k, hk, rfl, he⟩ := hrel
    have HE := Lib.hid he
    clear he
    by_cases hlt : k < es.length
    · have hcell := HC.out k hlt
      by_cases hz : es[k] = 0
      · have HF := Lib.hid (show firstE (es.drop k) = firstE (es.drop (k + 1)) by
          rw [List.drop_eq_getElem_cons hlt]
          simp only [firstE, hz, if_true])
        rw [hz] at hcell
        clear hz
        go_wp2
        go_round
        case rel => exact ⟨k + 1, by omega, by go_num, HE.out.trans HF.out⟩
        case measure => simp [intOf]; omega
      · have HF := Lib.hid (show firstE (es.drop k) = es[k] by
          rw [List.drop_eq_getElem_cons hlt]
          simp only [firstE, if_neg hz])
        have hz1 : (es[k] != 0) = true := by rw [bne_iff_ne]; exact hz
        clear hz
        go_wp2
        go_ret
        exact ⟨ret_i (HE.out.trans HF.out).symm, rfl⟩
    · obtain rfl : k = es.length := by omega
      have HF := Lib.hid (show firstE (es.drop es.length) = 0 by rw [List.drop_length]; rfl)
      go_wp2
      go_ret
      exact ⟨ret_i (HE.out.trans HF.out).symm, rfl⟩

set_option maxHeartbeats 400000 in
theorem netLower (x y s : Int) (w : World) :
    Calls Tryz.prog 52 #[.agg #[.int .i64 x, .int .i64 y, .int .i64 s]] w fun e w' => e = .returned (.agg #[.int .i64 x, .int .i64 y]) ∧ Below w.heap.size w w' := by
  go_enter Tryz.func52, Tryz.ntmps52
  go_wp2
  exact bodyPost_ret (v := .agg #[.int .i64 x, .int .i64 y]) (by simp [results, Tryz.results52, go_sem]) rfl ⟨rfl, (((Below.refl _ _).alloc (Nat.le_refl _) _).alloc (by simp) _)⟩

set_option maxHeartbeats 400000 in
theorem netUpper (x y s : Int) (w : World) (hx1 : -100000 ≤ x) (hx2 : x ≤ 100000) (hy1 : -100000 ≤ y) (hy2 : y ≤ 100000) (hs1 : -1 ≤ s) (hs2 : s ≤ 1) :
    Calls Tryz.prog 55 #[.agg #[.int .i64 x, .int .i64 y, .int .i64 s]] w fun e w' => e = .returned (.agg #[.int .i64 (x + s), .int .i64 (y + 1)]) ∧ Below w.heap.size w w' := by
  go_enter Tryz.func55, Tryz.ntmps55
  go_wp2
  exact bodyPost_ret (v := .agg #[.int .i64 (x + s), .int .i64 (y + 1)]) (by simp [results, Tryz.results55, go_sem]) rfl ⟨rfl, (((Below.refl _ _).alloc (Nat.le_refl _) _).alloc (by simp) _)⟩
end Go.Proofs.YthihjphcjjpjpaaGreat

/- Contracts of the program's CheckKnot and CheckBar. -/
namespace Go.Proofs.YthihjphcjjpjpaaGreat
open Go.RowKit

theorem tmod2 (n : Int) : (n.tmod 2 != 0) = !decide (n % 2 = 0) := by
  rw [Bool.eq_iff_iff]
  simp only [bne_iff_ne, ne_eq, Bool.not_eq_true', decide_eq_false_iff_not]
  rw [← Int.dvd_iff_tmod_eq_zero, ← Int.dvd_iff_emod_eq_zero]
theorem firstE_one {a : Int} (h : ¬ a = 0) (b : Int) : firstE [a, b] = a := by simp [firstE, h]
theorem firstE_two (b : Int) : firstE [0, b] = b := by unfold firstE firstE firstE; split <;> simp_all
theorem two_cells {w : World} {g : Nat} {a b : Int} {t : TypeId} (h : w.heap[g]? = some (.cells #[.int .i64 a, .int .i64 b] t (0, 0))) : ∀ i (hi : i < [a, b].length), w.cell? ⟨g, i, none⟩ = some (.int .i64 [a, b][i]) := by
  intro i hi
  have hi' : i = 0 ∨ i = 1 := by simp at hi; omega
  rcases hi' with rfl | rfl <;> simp [World.cell?, h]

theorem netFirst2 (g c : Nat) (a b : Int) (t : TypeId) (w : World) (h : w.heap[g]? = some (.cells #[.int .i64 a, .int .i64 b] t (0, 0))) :
    Calls Tryz.prog 28 #[.slice (some ⟨g, 0, none⟩) 2 c] w fun e w' => e = .returned (.int .i64 (firstE [a, b])) ∧ w = w' :=
  netFirst g c [a, b] w (by simp) (two_cells h)
def sumE (x y : Int) : Int := firstE [placeE x, placeE y]
theorem sumE_bad {x y : Int} (h : ¬ (farB x = false ∧ farB y = false)) : sumE x y = 3 ∧ knotE x y = 3 := by
  cases hx : farB x <;> cases hy : farB y <;> simp_all [sumE, knotE, placeE, firstE]
theorem sumE_ok {x y : Int} (hx : farB x = false) (hy : farB y = false) : sumE x y = 0 := by simp [sumE, placeE, firstE, hx, hy]

set_option maxHeartbeats 1000000 in
set_option maxRecDepth 100000 in
theorem netCheckKnot (x y : Int) (w : World) :
    Calls Tryz.prog 29 #[.agg #[.int .i64 x, .int .i64 y]] w fun e w' => e = .returned (.int .i64 (knotE x y)) ∧ Below w.heap.size w w' := by
  by_cases hg : farB x = false ∧ farB y = false
  · obtain ⟨hx, hy⟩ := hg
    obtain ⟨h1, h2⟩ := farB_no hx
    obtain ⟨h3, h4⟩ := farB_no hy
    have HS := Lib.hid (sumE_ok hx hy)
    cases he : evenB x y
    all_goals
      have ht := tmod2 (x + y)
      have he' : decide ((x + y) % 2 = 0) = _ := he
      rw [he'] at ht
      have HK := Lib.hid (show knotE x y = _ by simp only [knotE, hx, hy, he]; rfl)
      clear hx hy he he'
      go_enter Tryz.func29, Tryz.ntmps29
      go_wp2_with fail
      obtain ⟨w1, hw1, c0, c1, hb1, hz1⟩ := box2 w (.int .i64 x) (.int .i64 y) 23
      rw [← hw1]
      clear hw1
      refine wp_region_still_tail 6 (by kernel_rfl) (by kernel_rfl) ?_
      simp only [List.take_succ_cons, List.take_zero, List.drop_succ_cons, List.drop_zero]
      still_step
      still_step
      still_call (Calls.mono (netCheckPlace _ _) fun _ _ h => ⟨h.1, h.2.symm⟩)
      still_step
      still_step
      still_call (Calls.mono (netCheckPlace _ _) fun _ _ h => ⟨h.1, h.2.symm⟩)
      refine wpStill_nil ?_
      change wpList _ _ _ _ _ w1.drew
      go_wp2_with fail
      refine (netFirst2 _ _ (placeE x) (placeE y) 30 _ (by exact heap_alloc_new _ _)).mono ?_
      rintro e w2 ⟨rfl, rfl⟩
      rw [show firstE [placeE x, placeE y] = 0 from HS.out]
      go_wp2
      go_ret
      exact ⟨ret_i HK.out.symm, (below_drew hb1).alloc (by show _ ≤ w1.heap.size; omega) _⟩
  · obtain ⟨hs, hk⟩ := sumE_bad hg
    have HS := Lib.hid hs
    have HK := Lib.hid hk
    clear hs hk hg
    go_enter Tryz.func29, Tryz.ntmps29
    go_wp2_with fail
    obtain ⟨w1, hw1, c0, c1, hb1, hz1⟩ := box2 w (.int .i64 x) (.int .i64 y) 23
    rw [← hw1]
    clear hw1
    refine wp_region_still_tail 6 (by kernel_rfl) (by kernel_rfl) ?_
    simp only [List.take_succ_cons, List.take_zero, List.drop_succ_cons, List.drop_zero]
    still_step
    still_step
    still_call (Calls.mono (netCheckPlace _ _) fun _ _ h => ⟨h.1, h.2.symm⟩)
    still_step
    still_step
    still_call (Calls.mono (netCheckPlace _ _) fun _ _ h => ⟨h.1, h.2.symm⟩)
    refine wpStill_nil ?_
    change wpList _ _ _ _ _ w1.drew
    go_wp2_with fail
    refine (netFirst2 _ _ (placeE x) (placeE y) 30 _ (by exact heap_alloc_new _ _)).mono ?_
    rintro e w2 ⟨rfl, rfl⟩
    rw [show firstE [placeE x, placeE y] = 3 from HS.out]
    go_wp2
    go_ret
    exact ⟨ret_i HK.out.symm, (below_drew hb1).alloc (by show _ ≤ w1.heap.size; omega) _⟩
end Go.Proofs.YthihjphcjjpjpaaGreat

/- The contract of the program's CheckBar. -/
namespace Go.Proofs.YthihjphcjjpjpaaGreat
open Go.RowKit

theorem keep3 {W w1 w2 : World} {g : Nat} {x y s : Value} (h : w1.cell? ⟨g, 0, none⟩ = some x ∧ w1.cell? ⟨g, 1, none⟩ = some y ∧ w1.cell? ⟨g, 2, none⟩ = some s ∧ Below g W w1 ∧ g < w1.heap.size) (hb : Below w1.heap.size w1 w2) :
    w2.cell? ⟨g, 0, none⟩ = some x ∧ w2.cell? ⟨g, 1, none⟩ = some y ∧ w2.cell? ⟨g, 2, none⟩ = some s ∧ Below g W w2 ∧ g < w2.heap.size := by
  obtain ⟨h0, h1, h2, h3, h4⟩ := h
  exact ⟨(hb.cell (p := ⟨g, 0, none⟩) h4).trans h0, (hb.cell (p := ⟨g, 1, none⟩) h4).trans h1, (hb.cell (p := ⟨g, 2, none⟩) h4).trans h2, h3.trans (hb.mono (by omega)), by have := hb.size; omega⟩

theorem knotX (u v : Value) (w : World) : (Instr.field 23 (.agg #[u, v]) 0).run Tryz.prog w = .ok u w := by kernel_rfl
theorem knotY (u v : Value) (w : World) : (Instr.field 23 (.agg #[u, v]) 1).run Tryz.prog w = .ok v w := by kernel_rfl

theorem barE_ok {x y s : Int} (hk : knotE x y = 0) (hs : s = 1 ∨ s = -1) : firstE [placeE (x + s), placeE (y + 1)] = barE x y s := by
  have hp : (x + y) % 2 = 0 := by
    unfold knotE at hk
    split at hk
    · omega
    · split at hk
      · omega
      · split at hk
        · rename_i h; simpa [evenB] using h
        · omega
  have he : evenB (x + s) (y + 1) = true := by simp only [evenB, decide_eq_true_eq]; omega
  simp only [barE, if_true, if_pos hs, knotE, he]
  have hk' := hk
  simp only [knotE] at hk'
  simp only [hk', ite_true]
  unfold placeE firstE firstE
  cases farB (x + s) <;> cases farB (y + 1) <;> simp [firstE]

set_option maxHeartbeats 4000000 in
set_option maxRecDepth 100000 in
theorem netCheckBar (x y s : Int) (w : World) :
    Calls Tryz.prog 38 #[.agg #[.int .i64 x, .int .i64 y, .int .i64 s]] w fun e w' => e = .returned (.int .i64 (barE x y s)) ∧ Below w.heap.size w w' := by
  by_cases hg : knotE x y = 0 ∧ (s = 1 ∨ s = -1)
  · obtain ⟨hk, hs⟩ := hg
    obtain ⟨h1, h2, h3, h4⟩ := knotE_zero hk
    have HF := Lib.hid (show firstE [knotE x y, sideE s] = 0 by simp [firstE, hk, sideE, hs])
    have HB := Lib.hid (barE_ok hk hs)
    have h5 : -1 ≤ s := by omega
    have h6 : s ≤ 1 := by omega
    clear hk hs
    have fx := knotX
    have fy := knotY
    go_enter Tryz.func38, Tryz.ntmps38
    go_wp2_with fail
    obtain ⟨w1, hw1, c0, c1, c2, hb1, hz1⟩ := box3 w (.int .i64 x) (.int .i64 y) (.int .i64 s) 52
    rw [← hw1]
    clear hw1
    go_region_held3 (fun w' => w'.cell? ⟨w.heap.size, 0, none⟩ = some (.int .i64 x) ∧ w'.cell? ⟨w.heap.size, 1, none⟩ = some (.int .i64 y) ∧ w'.cell? ⟨w.heap.size, 2, none⟩ = some (.int .i64 s) ∧ Below w.heap.size w w' ∧ w.heap.size < w'.heap.size)
      (first | exact ⟨c0, c1, c2, below_drew hb1, hz1⟩ | exact keep3 (by assumption) (by assumption) | exact keep3 (by assumption) ((Below.refl _ _).alloc (Nat.le_refl _) _) | assumption | (refine ⟨?_, ?_, ?_, ?_, ?_⟩ <;> first | assumption | (simp at *; omega)) | exact keep3 (by assumption) (below_drew (Below.refl _ _)) | go_keep)
      (first
        | (go_at_call 52; refine (netLower _ _ _ _).mono ?_; rintro e w' ⟨rfl, hb⟩)
        | (go_at_call 29; refine (netCheckKnot _ _ _).mono ?_; rintro e w' ⟨rfl, hb⟩)
        | (go_at_call 62; refine (netCheckSide _ _).mono ?_; rintro e w' ⟨rfl, rfl⟩)
        | (go_at_call 28; refine (netFirst2 _ _ (knotE x y) (sideE s) 30 _ (by exact heap_alloc_new _ _)).mono ?_; rintro e w' ⟨rfl, rfl⟩))
    rw [HF.out]
    go_wp2_with fail
    go_region_held3 (fun w' => w'.cell? ⟨w.heap.size, 0, none⟩ = some (.int .i64 x) ∧ w'.cell? ⟨w.heap.size, 1, none⟩ = some (.int .i64 y) ∧ w'.cell? ⟨w.heap.size, 2, none⟩ = some (.int .i64 s) ∧ Below w.heap.size w w' ∧ w.heap.size < w'.heap.size)
      (first | exact ⟨c0, c1, c2, below_drew hb1, hz1⟩ | exact keep3 (by assumption) (by assumption) | exact keep3 (by assumption) ((Below.refl _ _).alloc (Nat.le_refl _) _) | assumption | (refine ⟨?_, ?_, ?_, ?_, ?_⟩ <;> first | assumption | (simp at *; omega)) | exact keep3 (by assumption) (below_drew (Below.refl _ _)) | go_keep)
      (first
        | (go_at_call 55; refine (netUpper _ _ _ _ h1 h2 h3 h4 h5 h6).mono ?_; rintro e w' ⟨rfl, hb⟩)
        | (go_at_call 36; refine (netCheckPlace _ _).mono ?_; rintro e w' ⟨rfl, rfl⟩)
        | (go_at_call 28; refine (netFirst2 _ _ (placeE (x + s)) (placeE (y + 1)) 30 _ (by exact heap_alloc_new _ _)).mono ?_; rintro e w' ⟨rfl, rfl⟩))
    all_goals
      rw [HB.out]
      go_wp2
      go_ret
      exact ⟨rfl, by first | (simp_all; done) | assumption⟩
  · have hf : ¬ firstE [knotE x y, sideE s] = 0 := by
      simp only [firstE, sideE]
      split
      · rename_i h
        simp [h] at hg
        simp [hg]
      · assumption
    have hf1 : (firstE [knotE x y, sideE s] != 0) = true := by rw [bne_iff_ne]; exact hf
    have HB := Lib.hid (show firstE [knotE x y, sideE s] = barE x y s by
      simp only [firstE, sideE, barE]
      split
      · rename_i h
        simp [h] at hg
        simp [hg]
      · rfl)
    clear hg hf
    go_enter Tryz.func38, Tryz.ntmps38
    go_wp2_with fail
    obtain ⟨w1, hw1, c0, c1, c2, hb1, hz1⟩ := box3 w (.int .i64 x) (.int .i64 y) (.int .i64 s) 52
    rw [← hw1]
    clear hw1
    go_region_held3 (fun w' => w'.cell? ⟨w.heap.size, 0, none⟩ = some (.int .i64 x) ∧ w'.cell? ⟨w.heap.size, 1, none⟩ = some (.int .i64 y) ∧ w'.cell? ⟨w.heap.size, 2, none⟩ = some (.int .i64 s) ∧ Below w.heap.size w w' ∧ w.heap.size < w'.heap.size)
      (first | exact ⟨c0, c1, c2, below_drew hb1, hz1⟩ | exact keep3 (by assumption) (by assumption) | exact keep3 (by assumption) ((Below.refl _ _).alloc (Nat.le_refl _) _) | assumption | (refine ⟨?_, ?_, ?_, ?_, ?_⟩ <;> first | assumption | (simp at *; omega)) | exact keep3 (by assumption) (below_drew (Below.refl _ _)) | go_keep)
      (first
        | (go_at_call 52; refine (netLower _ _ _ _).mono ?_; rintro e w' ⟨rfl, hb⟩)
        | (go_at_call 29; refine (netCheckKnot _ _ _).mono ?_; rintro e w' ⟨rfl, hb⟩)
        | (go_at_call 62; refine (netCheckSide _ _).mono ?_; rintro e w' ⟨rfl, rfl⟩)
        | (go_at_call 28; refine (netFirst2 _ _ (knotE x y) (sideE s) 30 _ (by exact heap_alloc_new _ _)).mono ?_; rintro e w' ⟨rfl, rfl⟩))
    go_wp2
    go_ret
    exact ⟨ret_i HB.out, by first | (simp_all; done) | assumption⟩
end Go.Proofs.YthihjphcjjpjpaaGreat

/- Contracts of the order of bars in the program: cmp.Compare, cmp.Or, compareBars, checkOrder. -/
namespace Go.Proofs.YthihjphcjjpjpaaGreat
open Go.RowKit

def cmpE (a b : Int) : Int := if a < b then -1 else if b < a then 1 else 0

set_option maxHeartbeats 400000 in
theorem cmpIsNaN (a : Int) (w : World) :
    Calls Tryz.prog 91 #[.int .i64 a] w fun e w' => e = .returned (.bool false) ∧ w = w' := by
  go_enter Tryz.func91, Tryz.ntmps91
  go_wp2
  go_ret
  simp

set_option maxHeartbeats 400000 in
theorem cmpCompare (a b : Int) (w : World) :
    Calls Tryz.prog 73 #[.int .i64 a, .int .i64 b] w fun e w' => e = .returned (.int .i64 (cmpE a b)) ∧ w = w' := by
  by_cases h1 : a < b
  · have HC := Lib.hid (show cmpE a b = -1 by simp [cmpE, h1])
    go_enter Tryz.func73, Tryz.ntmps73
    go_wp2_with (go_at_call 91; refine (cmpIsNaN _ _).mono ?_; rintro e w' ⟨rfl, rfl⟩)
    go_ret
    exact ⟨ret_i HC.out.symm, rfl⟩
  · by_cases h2 : b < a
    · have HC := Lib.hid (show cmpE a b = 1 by simp [cmpE, h1, h2])
      go_enter Tryz.func73, Tryz.ntmps73
      go_wp2_with (go_at_call 91; refine (cmpIsNaN _ _).mono ?_; rintro e w' ⟨rfl, rfl⟩)
      go_ret
      exact ⟨ret_i HC.out.symm, rfl⟩
    · have HC := Lib.hid (show cmpE a b = 0 by simp [cmpE, h1, h2])
      go_enter Tryz.func73, Tryz.ntmps73
      go_wp2_with (go_at_call 91; refine (cmpIsNaN _ _).mono ?_; rintro e w' ⟨rfl, rfl⟩)
      go_ret
      exact ⟨ret_i HC.out.symm, rfl⟩

set_option maxHeartbeats 400000 in
theorem cmpOr (b c : Nat) (es : List Int) (w : World) (hn : es.length ≤ 100) (hc : ∀ i (h : i < es.length), w.cell? ⟨b, i, none⟩ = some (.int .i64 es[i])) :
    Calls Tryz.prog 72 #[.slice (some ⟨b, 0, none⟩) es.length c] w fun e w' => e = .returned (.int .i64 (firstE es)) ∧ w = w' := by
  have HC := Lib.hid hc
  have hn' : (es.length : Int) ≤ 100 := by omega
  clear hc
  go_enter Tryz.func72, Tryz.ntmps72
  go_wp2_with fail
  go_loop [5, 8] (fun _ i => ∃ k : Nat, k ≤ es.length ∧ i = .int .i64 k ∧ firstE es = firstE (es.drop k)) (fun _ i => es.length - (intOf i).toNat)
  case atStart => exact ⟨0, Nat.zero_le _, rfl, rfl⟩
  case round =>
    obtain ⟨k, hk, rfl, he⟩ := hrel
    have HE := Lib.hid he
    clear he
    by_cases hlt : k < es.length
    · have hcell := HC.out k hlt
      by_cases hz : es[k] = 0
      · have HF := Lib.hid (show firstE (es.drop k) = firstE (es.drop (k + 1)) by
          rw [List.drop_eq_getElem_cons hlt]
          simp only [firstE, hz, if_true])
        rw [hz] at hcell
        clear hz
        go_wp2
        go_round
        case rel => exact ⟨k + 1, by omega, by go_num, HE.out.trans HF.out⟩
        case measure => simp [intOf]; omega
      · have HF := Lib.hid (show firstE (es.drop k) = es[k] by
          rw [List.drop_eq_getElem_cons hlt]
          simp only [firstE, if_neg hz])
        have hz1 : (es[k] != 0) = true := by rw [bne_iff_ne]; exact hz
        clear hz
        go_wp2
        go_ret
        exact ⟨ret_i (HE.out.trans HF.out).symm, rfl⟩
    · obtain rfl : k = es.length := by omega
      have HF := Lib.hid (show firstE (es.drop es.length) = 0 by rw [List.drop_length]; rfl)
      go_wp2
      go_ret
      exact ⟨ret_i (HE.out.trans HF.out).symm, rfl⟩
theorem three_cells {w : World} {g : Nat} {a b c : Int} {t : TypeId} (h : w.heap[g]? = some (.cells #[.int .i64 a, .int .i64 b, .int .i64 c] t (0, 0))) : ∀ i (hi : i < [a, b, c].length), w.cell? ⟨g, i, none⟩ = some (.int .i64 [a, b, c][i]) := by
  intro i hi
  have hi' : i = 0 ∨ i = 1 ∨ i = 2 := by simp at hi; omega
  rcases hi' with rfl | rfl | rfl <;> simp [World.cell?, h]
theorem cmpOr3 (g c : Nat) (x y z : Int) (t : TypeId) (w : World) (h : w.heap[g]? = some (.cells #[.int .i64 x, .int .i64 y, .int .i64 z] t (0, 0))) :
    Calls Tryz.prog 72 #[.slice (some ⟨g, 0, none⟩) 3 c] w fun e w' => e = .returned (.int .i64 (firstE [x, y, z])) ∧ w = w' :=
  cmpOr g c [x, y, z] w (by simp) (three_cells h)
theorem cmpOr2 (g c : Nat) (x y : Int) (t : TypeId) (w : World) (h : w.heap[g]? = some (.cells #[.int .i64 x, .int .i64 y] t (0, 0))) :
    Calls Tryz.prog 72 #[.slice (some ⟨g, 0, none⟩) 2 c] w fun e w' => e = .returned (.int .i64 (firstE [x, y])) ∧ w = w' :=
  cmpOr g c [x, y] w (by simp) (two_cells h)

def cmpB (a b : Ck.Bar) : Int := firstE [cmpE a.y b.y, cmpE a.x b.x, cmpE a.s b.s]
set_option maxHeartbeats 1000000 in
set_option maxRecDepth 100000 in
/-- The world behind compareBars, outright. -/
theorem netCompareBars (x y s x' y' s' : Int) (w : World) :
    Calls Tryz.prog 57 #[.agg #[.int .i64 x, .int .i64 y, .int .i64 s], .agg #[.int .i64 x', .int .i64 y', .int .i64 s']] w fun e w' => e = .returned (.int .i64 (cmpB ⟨x, y, s⟩ ⟨x', y', s'⟩)) ∧
      w' = (((w.alloc (.cells #[.int .i64 x, .int .i64 y, .int .i64 s] 52)).alloc (.cells #[.int .i64 x', .int .i64 y', .int .i64 s'] 52)).alloc (.cells #[.int .i64 (cmpE y y'), .int .i64 (cmpE x x'), .int .i64 (cmpE s s')] 3)).drew := by
  obtain ⟨w1, hw1, c0, c1, c2, d0, d1, d2⟩ := box33 w (.int .i64 x) (.int .i64 y) (.int .i64 s) (.int .i64 x') (.int .i64 y') (.int .i64 s') 52 52
  rw [← hw1]
  have HW := Lib.hid hw1
  clear hw1
  go_enter Tryz.func57, Tryz.ntmps57
  go_wp2_with fail
  rw [← HW.out]
  refine wp_region_still_tail 15 (by kernel_rfl) (by kernel_rfl) ?_
  simp only [List.take_succ_cons, List.take_zero, List.drop_succ_cons, List.drop_zero]
  repeat (first | still_step | still_call (Calls.mono (cmpCompare _ _ _) fun _ _ h => ⟨h.1, h.2.symm⟩))
  refine wpStill_nil ?_
  change wpList _ _ _ _ _ w1.drew
  go_wp2_with fail
  refine (cmpOr3 _ _ (cmpE y y') (cmpE x x') (cmpE s s') 3 _ (by exact heap_alloc_new _ _)).mono ?_
  rintro e w2 ⟨rfl, rfl⟩
  go_wp2
  go_ret
  exact ⟨rfl, rfl⟩
theorem netCompareBars_below (x y s x' y' s' : Int) (w : World) :
    Calls Tryz.prog 57 #[.agg #[.int .i64 x, .int .i64 y, .int .i64 s], .agg #[.int .i64 x', .int .i64 y', .int .i64 s']] w fun e w' => e = .returned (.int .i64 (cmpB ⟨x, y, s⟩ ⟨x', y', s'⟩)) ∧ Below w.heap.size w w' :=
  (netCompareBars x y s x' y' s' w).mono fun _ _ ⟨he, hw⟩ => ⟨he, hw ▸ below_drew ((((Below.refl _ _).alloc (Nat.le_refl _) _).alloc (by simp) _).alloc (by simp; omega) _)⟩
end Go.Proofs.YthihjphcjjpjpaaGreat

/- Contracts of checkOrder and CheckNet of the program. -/
namespace Go.Proofs.YthihjphcjjpjpaaGreat
open Go.RowKit

theorem cmpB_less (p b : Ck.Bar) : decide (0 ≤ cmpB p b) = !lessB p.x p.y p.s b.x b.y b.s := by
  obtain ⟨x, y, s⟩ := p
  obtain ⟨x', y', s'⟩ := b
  rcases Int.lt_trichotomy y y' with h | rfl | h
  · have h2 : ¬ y = y' := by omega
    simp [cmpB, lessB, cmpE, firstE, h, h2]
  · rcases Int.lt_trichotomy x x' with h | rfl | h
    · have h2 : ¬ x = x' := by omega
      simp [cmpB, lessB, cmpE, firstE, h, h2]
    · rcases Int.lt_trichotomy s s' with h | rfl | h
      · simp [cmpB, lessB, cmpE, firstE, h]
      · simp [cmpB, lessB, cmpE, firstE]
      · have h3 : ¬ s < s' := by omega
        simp [cmpB, lessB, cmpE, firstE, h, h3]
    · have h2 : ¬ x = x' := by omega
      have h3 : ¬ x < x' := by omega
      simp [cmpB, lessB, cmpE, firstE, h, h2, h3]
  · have h2 : ¬ y = y' := by omega
    have h3 : ¬ y < y' := by omega
    simp [cmpB, lessB, cmpE, firstE, h, h2, h3]

def orderE (p b : Ck.Bar) : Int := if lessB p.x p.y p.s b.x b.y b.s then 0 else 11

set_option maxHeartbeats 400000 in
theorem netCheckOrder0 (A : Option Addr) (c : Nat) (x y s : Int) (w : World) :
    Calls Tryz.prog 49 #[.slice A 0 c, .agg #[.int .i64 x, .int .i64 y, .int .i64 s]] w fun e w' => e = .returned (.int .i64 0) ∧ Below w.heap.size w w' := by
  have hg1 : decide ((0 : Int) < 0) = false := rfl
  have hg2 : decide ((0 : Nat) < 0) = false := rfl
  go_enter Tryz.func49, Tryz.ntmps49
  go_wp2_with fail
  go_quiet (fail)
  go_wp2
  go_ret
  exact ⟨rfl, below_drewN ((Below.refl _ _).alloc (Nat.le_refl _) _) _⟩

set_option maxHeartbeats 1000000 in
set_option maxRecDepth 100000 in
theorem netCheckOrder1 (b off n c : Nat) (p : Ck.Bar) (x y s : Int) (w : World) (hb : b < w.heap.size) (hn : n < 100000)
    (d0 : w.cell? ⟨b, off + n * 3, none⟩ = some (.int .i64 p.x)) (d1 : w.cell? ⟨b, off + n * 3 + 1, none⟩ = some (.int .i64 p.y)) (d2 : w.cell? ⟨b, off + n * 3 + 2, none⟩ = some (.int .i64 p.s)) :
    Calls Tryz.prog 49 #[.slice (some ⟨b, off, none⟩) (n + 1) c, .agg #[.int .i64 x, .int .i64 y, .int .i64 s]] w fun e w' => e = .returned (.int .i64 (orderE p ⟨x, y, s⟩)) ∧ Below w.heap.size w w' := by
  have hw1 : IntKind.i64.wrap (n : Int) = (n : Int) := by rw [IntKind.wrap_i64]; omega
  have hw2 : n < n + 1 := by omega
  have hg1 : decide (0 < n + 1) = true := by simp
  have hg2 : decide ((0 : Int) < ((n + 1 : Nat) : Int)) = true := by simp
  have hw6 : (n : Int) < (n : Int) + 1 := by omega
  obtain ⟨w1, hw, c0, c1, c2, hb1, hz1⟩ := box3 w (.int .i64 x) (.int .i64 y) (.int .i64 s) 52
  have HW := Lib.hid hw
  replace d0 := (hb1.cell (p := ⟨b, _, none⟩) hb).trans d0
  replace d1 := (hb1.cell (p := ⟨b, _, none⟩) hb).trans d1
  replace d2 := (hb1.cell (p := ⟨b, _, none⟩) hb).trans d2
  clear hw
  have hcb := cmpB_less p ⟨x, y, s⟩
  have HO := Lib.hid (show orderE p ⟨x, y, s⟩ = _ from rfl)
  unfold orderE at HO
  cases hl : lessB p.x p.y p.s x y s
  all_goals
    have HL := Lib.hid hl
    rw [show lessB p.x p.y p.s (Ck.Bar.mk x y s).x (Ck.Bar.mk x y s).y (Ck.Bar.mk x y s).s = _ from hl] at hcb
    clear hl
    go_enter Tryz.func49, Tryz.ntmps49
    go_wp2_with fail
    rw [← HW.out]
    refine wp_region_still_tail 11 (by kernel_rfl) (by kernel_rfl) ?_
    simp only [List.take_succ_cons, List.take_zero, List.drop_succ_cons, List.drop_zero]
    repeat still_step
    refine wpStill_nil ?_
    change wpList _ _ _ _ _ w1.drew
    clear hw1 hw2 hw6
    go_wp2_with fail
    refine (netCompareBars_below _ _ _ _ _ _ _).mono ?_
    rintro e w2 ⟨rfl, hb2⟩
    go_wp2
    go_ret
    exact ⟨ret_i (by unfold orderE; rw [show lessB p.x p.y p.s (Ck.Bar.mk x y s).x (Ck.Bar.mk x y s).y (Ck.Bar.mk x y s).s = _ from HL.out]; rfl), (below_drew hb1).trans (hb2.mono (by show _ ≤ w1.heap.size; omega))⟩
end Go.Proofs.YthihjphcjjpjpaaGreat

/- The contract of CheckNet of the program: it returns the error that the reference returns. -/
namespace Go.Proofs.YthihjphcjjpjpaaGreat
open Go.RowKit

theorem keep6 {W w1 w2 : World} {g b o : Nat} {x y s p q r : Value} (h : w1.cell? ⟨g, 0, none⟩ = some x ∧ w1.cell? ⟨g, 1, none⟩ = some y ∧ w1.cell? ⟨g, 2, none⟩ = some s ∧
      w1.cell? ⟨b, o, none⟩ = some p ∧ w1.cell? ⟨b, o + 1, none⟩ = some q ∧ w1.cell? ⟨b, o + 2, none⟩ = some r ∧ Below g W w1 ∧ b < g ∧ g < w1.heap.size) (hb : Below w1.heap.size w1 w2) :
    w2.cell? ⟨g, 0, none⟩ = some x ∧ w2.cell? ⟨g, 1, none⟩ = some y ∧ w2.cell? ⟨g, 2, none⟩ = some s ∧
      w2.cell? ⟨b, o, none⟩ = some p ∧ w2.cell? ⟨b, o + 1, none⟩ = some q ∧ w2.cell? ⟨b, o + 2, none⟩ = some r ∧ Below g W w2 ∧ b < g ∧ g < w2.heap.size := by
  obtain ⟨h0, h1, h2, k0, k1, k2, h3, h5, h4⟩ := h
  exact ⟨(hb.cell (p := ⟨g, 0, none⟩) h4).trans h0, (hb.cell (p := ⟨g, 1, none⟩) h4).trans h1, (hb.cell (p := ⟨g, 2, none⟩) h4).trans h2,
    (hb.cell (p := ⟨b, _, none⟩) (by show b < _; omega)).trans k0, (hb.cell (p := ⟨b, _, none⟩) (by show b < _; omega)).trans k1, (hb.cell (p := ⟨b, _, none⟩) (by show b < _; omega)).trans k2, h3.trans (hb.mono (by omega)), h5, by have := hb.size; omega⟩

theorem belowOf3 {W w1 : World} {g : Nat} {x y s : Value} (h : w1.cell? ⟨g, 0, none⟩ = some x ∧ w1.cell? ⟨g, 1, none⟩ = some y ∧ w1.cell? ⟨g, 2, none⟩ = some s ∧ Below g W w1 ∧ g < w1.heap.size) : Below g W w1 := h.2.2.2.1
theorem belowOf6 {W w1 : World} {g b o : Nat} {x y s p q r : Value} (h : w1.cell? ⟨g, 0, none⟩ = some x ∧ w1.cell? ⟨g, 1, none⟩ = some y ∧ w1.cell? ⟨g, 2, none⟩ = some s ∧
      w1.cell? ⟨b, o, none⟩ = some p ∧ w1.cell? ⟨b, o + 1, none⟩ = some q ∧ w1.cell? ⟨b, o + 2, none⟩ = some r ∧ Below g W w1 ∧ b < g ∧ g < w1.heap.size) : Below g W w1 := h.2.2.2.2.2.2.1
theorem netCheckOrderS (b off n c : Nat) (p : Ck.Bar) (x y s : Int) {g : Nat} {W : World} {u v z : Value} (w : World) (hn : n < 100000)
    (h : w.cell? ⟨g, 0, none⟩ = some u ∧ w.cell? ⟨g, 1, none⟩ = some v ∧ w.cell? ⟨g, 2, none⟩ = some z ∧
      w.cell? ⟨b, off + n * 3, none⟩ = some (.int .i64 p.x) ∧ w.cell? ⟨b, off + n * 3 + 1, none⟩ = some (.int .i64 p.y) ∧ w.cell? ⟨b, off + n * 3 + 2, none⟩ = some (.int .i64 p.s) ∧ Below g W w ∧ b < g ∧ g < w.heap.size) :
    Calls Tryz.prog 49 #[.slice (some ⟨b, off, none⟩) (n + 1) c, .agg #[.int .i64 x, .int .i64 y, .int .i64 s]] w fun e w' => e = .returned (.int .i64 (orderE p ⟨x, y, s⟩)) ∧ Below w.heap.size w w' :=
  netCheckOrder1 b off n c p x y s w (by omega) hn h.2.2.2.1 h.2.2.2.2.1 h.2.2.2.2.2.1

theorem stepE_bad {e o : Int} (h : ¬ e = 0) : firstE [e, o] = e := by simp [firstE, h]

set_option maxHeartbeats 4000000 in
set_option maxRecDepth 100000 in
theorem netCheckNet (A : Option Addr) (c : Nat) (l : List Ck.Bar) (w : World) (hl : l.length ≤ 4096) (hcap : l.length ≤ c) (hcm : c ≤ maxLen) (h : RB w w.heap.size A l) :
    Calls Tryz.prog 22 #[.slice A l.length c] w fun e w' => e = .returned (.int .i64 (netE l)) ∧ Below w.heap.size w w' := by
  have HE := Lib.hid (show netE l = netFrom (prevAt l 0) (l.drop 0) by simp [netE, prevAt]; omega)
  have hl' : (l.length : Int) ≤ 4096 := by omega
  unfold maxLen at hcm
  go_enter Tryz.func22, Tryz.ntmps22
  go_wp2_with fail
  go_loopw [3, 4, 5, 11] (fun _ _ _ i wr => ∃ k : Nat, k ≤ l.length ∧ i = .int .i64 k ∧ netE l = netFrom (prevAt l k) (l.drop k) ∧ Below w.heap.size w wr) (fun _ _ _ i _ => l.length - (intOf i).toNat)
  case atStart => exact ⟨0, Nat.zero_le _, rfl, HE.out, Below.refl _ _⟩
  case round =>
    obtain ⟨k, hk, rfl, he, hb⟩ := hrel
    have HE2 := Lib.hid he
    clear he
    by_cases hlt : k < l.length
    · have h' := h.below hb
      obtain ⟨b, off, rfl, hB, hc⟩ := h' (by omega)
      have HC := Lib.hid hc
      obtain ⟨c0, c1, c2⟩ := hc k hlt
      have hz := hb.size
      have hz1 : b < wr.heap.size := by omega
      have hki : (k : Int) ≤ (c : Int) := by omega
      have hk0 : (0 : Int) ≤ (k : Int) := by omega
      clear hc h' h
      go_wp2_with fail
      obtain ⟨w1, hw1, e0, e1, e2, hb1, hz2⟩ := box3 wr (.int .i64 l[k].x) (.int .i64 l[k].y) (.int .i64 l[k].s) 52
      rw [← hw1]
      clear hw1 c0 c1 c2
      by_cases hk1 : k = 0
      · subst hk1
        by_cases hbad : barE l[0].x l[0].y l[0].s = 0
        · have HF := Lib.hid (netFrom_step0 hlt hbad)
          have HV := Lib.hid (show firstE [barE l[0].x l[0].y l[0].s, 0] = 0 by simp [firstE, hbad])
          clear hbad
          go_region_held3 (fun w' => w'.cell? ⟨wr.heap.size, 0, none⟩ = some (.int .i64 l[0].x) ∧ w'.cell? ⟨wr.heap.size, 1, none⟩ = some (.int .i64 l[0].y) ∧ w'.cell? ⟨wr.heap.size, 2, none⟩ = some (.int .i64 l[0].s) ∧ Below wr.heap.size wr w' ∧ wr.heap.size < w'.heap.size)
            (first | exact ⟨e0, e1, e2, below_drew hb1, hz2⟩ | exact keep3 (by assumption) (by assumption) | exact keep3 (by assumption) ((Below.refl _ _).alloc (Nat.le_refl _) _) | assumption | (refine ⟨?_, ?_, ?_, ?_, ?_⟩ <;> first | assumption | (simp at *; omega)) | go_keep)
            (first
              | (go_at_call 38; refine (netCheckBar _ _ _ _).mono ?_; rintro e w' ⟨rfl, hbq⟩)
              | (go_at_call 49; refine (netCheckOrder0 _ _ _ _ _ _).mono ?_; rintro e w' ⟨rfl, hbq⟩)
              | (go_at_call 28; refine (netFirst2 _ _ (barE l[0].x l[0].y l[0].s) 0 30 _ (by exact heap_alloc_new _ _)).mono ?_; rintro e w' ⟨rfl, rfl⟩))
          rw [HV.out]
          go_wp2
          go_roundw
          case rel => exact ⟨1, by omega, by go_num, HE2.out.trans HF.out, hb.trans (Below.mono (B := wr.heap.size) (belowOf3 (by assumption)) hz)⟩
          case measure => simp [intOf]; omega
        · have HF := Lib.hid (netFrom_bad hlt hbad)
          have HV := Lib.hid (stepE_bad (o := 0) hbad)
          have hbb : (barE l[0].x l[0].y l[0].s != 0) = true := by rw [bne_iff_ne]; exact hbad
          clear hbad
          go_region_held3 (fun w' => w'.cell? ⟨wr.heap.size, 0, none⟩ = some (.int .i64 l[0].x) ∧ w'.cell? ⟨wr.heap.size, 1, none⟩ = some (.int .i64 l[0].y) ∧ w'.cell? ⟨wr.heap.size, 2, none⟩ = some (.int .i64 l[0].s) ∧ Below wr.heap.size wr w' ∧ wr.heap.size < w'.heap.size)
            (first | exact ⟨e0, e1, e2, below_drew hb1, hz2⟩ | exact keep3 (by assumption) (by assumption) | exact keep3 (by assumption) ((Below.refl _ _).alloc (Nat.le_refl _) _) | assumption | (refine ⟨?_, ?_, ?_, ?_, ?_⟩ <;> first | assumption | (simp at *; omega)) | go_keep)
            (first
              | (go_at_call 38; refine (netCheckBar _ _ _ _).mono ?_; rintro e w' ⟨rfl, hbq⟩)
              | (go_at_call 49; refine (netCheckOrder0 _ _ _ _ _ _).mono ?_; rintro e w' ⟨rfl, hbq⟩)
              | (go_at_call 28; refine (netFirst2 _ _ (barE l[0].x l[0].y l[0].s) 0 30 _ (by exact heap_alloc_new _ _)).mono ?_; rintro e w' ⟨rfl, rfl⟩))
          rw [HV.out]
          go_wp2
          go_ret
          exact ⟨ret_i (HE2.out.trans HF.out).symm, hb.trans (Below.mono (B := wr.heap.size) (belowOf3 (by assumption)) hz)⟩
      · obtain ⟨j, rfl⟩ : ∃ j, k = j + 1 := ⟨k - 1, by omega⟩
        obtain ⟨d0, d1, d2⟩ := HC.out j (by omega)
        have hw2 : j < l.length := by omega
        have hji : (j : Int) + 1 ≤ (c : Int) := by omega
        have hj0 : (0 : Int) ≤ (j : Int) + 1 := by omega
        have hjn : ((j : Int) + 1).toNat = j + 1 := by omega
        replace d0 := (hb1.cell (p := ⟨b, _, none⟩) hz1).trans d0
        replace d1 := (hb1.cell (p := ⟨b, _, none⟩) hz1).trans d1
        replace d2 := (hb1.cell (p := ⟨b, _, none⟩) hz1).trans d2
        by_cases hbad : barE l[j + 1].x l[j + 1].y l[j + 1].s = 0
        · cases hl2 : lessB l[j].x l[j].y l[j].s l[j + 1].x l[j + 1].y l[j + 1].s
          · have HF := Lib.hid (netFrom_stop hlt hbad hl2)
            have HV := Lib.hid (show firstE [barE l[j + 1].x l[j + 1].y l[j + 1].s, orderE l[j] l[j + 1]] = 11 by simp [firstE, hbad, orderE, hl2])
            clear hbad hl2
            go_region_held3 (fun w' => w'.cell? ⟨wr.heap.size, 0, none⟩ = some (.int .i64 l[j + 1].x) ∧ w'.cell? ⟨wr.heap.size, 1, none⟩ = some (.int .i64 l[j + 1].y) ∧ w'.cell? ⟨wr.heap.size, 2, none⟩ = some (.int .i64 l[j + 1].s) ∧ w'.cell? ⟨b, off + j * 3, none⟩ = some (.int .i64 l[j].x) ∧ w'.cell? ⟨b, off + j * 3 + 1, none⟩ = some (.int .i64 l[j].y) ∧ w'.cell? ⟨b, off + j * 3 + 2, none⟩ = some (.int .i64 l[j].s) ∧ Below wr.heap.size wr w' ∧ b < wr.heap.size ∧ wr.heap.size < w'.heap.size)
              (first | exact ⟨e0, e1, e2, d0, d1, d2, below_drew hb1, hz1, hz2⟩ | exact keep6 (by assumption) (by assumption) | exact keep6 (by assumption) ((Below.refl _ _).alloc (Nat.le_refl _) _) | assumption | (refine ⟨?_, ?_, ?_, ?_, ?_, ?_, ?_, ?_, ?_⟩ <;> first | assumption | (simp at *; omega)) | go_keep)
              (first
                | (go_at_call 38; refine (netCheckBar _ _ _ _).mono ?_; rintro e w' ⟨rfl, hbq⟩)
                | (go_at_call 49; refine (netCheckOrderS _ _ _ _ l[j] _ _ _ _ (by omega) (by assumption)).mono ?_; rintro e w' ⟨rfl, hbq⟩)
                | (go_at_call 28; refine (netFirst2 _ _ (barE l[j + 1].x l[j + 1].y l[j + 1].s) (orderE l[j] l[j + 1]) 30 _ (by exact heap_alloc_new _ _)).mono ?_; rintro e w' ⟨rfl, rfl⟩))
            rw [HV.out]
            go_wp2
            go_ret
            exact ⟨ret_i (HE2.out.trans HF.out).symm, hb.trans (Below.mono (B := wr.heap.size) (belowOf6 (by assumption)) hz)⟩
          · have HF := Lib.hid (netFrom_step hlt hbad hl2)
            have HV := Lib.hid (show firstE [barE l[j + 1].x l[j + 1].y l[j + 1].s, orderE l[j] l[j + 1]] = 0 by simp [firstE, hbad, orderE, hl2])
            clear hbad hl2
            go_region_held3 (fun w' => w'.cell? ⟨wr.heap.size, 0, none⟩ = some (.int .i64 l[j + 1].x) ∧ w'.cell? ⟨wr.heap.size, 1, none⟩ = some (.int .i64 l[j + 1].y) ∧ w'.cell? ⟨wr.heap.size, 2, none⟩ = some (.int .i64 l[j + 1].s) ∧ w'.cell? ⟨b, off + j * 3, none⟩ = some (.int .i64 l[j].x) ∧ w'.cell? ⟨b, off + j * 3 + 1, none⟩ = some (.int .i64 l[j].y) ∧ w'.cell? ⟨b, off + j * 3 + 2, none⟩ = some (.int .i64 l[j].s) ∧ Below wr.heap.size wr w' ∧ b < wr.heap.size ∧ wr.heap.size < w'.heap.size)
              (first | exact ⟨e0, e1, e2, d0, d1, d2, below_drew hb1, hz1, hz2⟩ | exact keep6 (by assumption) (by assumption) | exact keep6 (by assumption) ((Below.refl _ _).alloc (Nat.le_refl _) _) | assumption | (refine ⟨?_, ?_, ?_, ?_, ?_, ?_, ?_, ?_, ?_⟩ <;> first | assumption | (simp at *; omega)) | go_keep)
              (first
                | (go_at_call 38; refine (netCheckBar _ _ _ _).mono ?_; rintro e w' ⟨rfl, hbq⟩)
                | (go_at_call 49; refine (netCheckOrderS _ _ _ _ l[j] _ _ _ _ (by omega) (by assumption)).mono ?_; rintro e w' ⟨rfl, hbq⟩)
                | (go_at_call 28; refine (netFirst2 _ _ (barE l[j + 1].x l[j + 1].y l[j + 1].s) (orderE l[j] l[j + 1]) 30 _ (by exact heap_alloc_new _ _)).mono ?_; rintro e w' ⟨rfl, rfl⟩))
            rw [HV.out]
            go_wp2
            go_roundw
            case rel => exact ⟨j + 1 + 1, by omega, by go_num, HE2.out.trans HF.out, hb.trans (Below.mono (B := wr.heap.size) (belowOf6 (by assumption)) hz)⟩
            case measure => simp [intOf]; omega
        · have HF := Lib.hid (netFrom_bad hlt hbad)
          have HV := Lib.hid (stepE_bad (o := orderE l[j] l[j + 1]) hbad)
          have hbb : (barE l[j + 1].x l[j + 1].y l[j + 1].s != 0) = true := by rw [bne_iff_ne]; exact hbad
          clear hbad
          go_region_held3 (fun w' => w'.cell? ⟨wr.heap.size, 0, none⟩ = some (.int .i64 l[j + 1].x) ∧ w'.cell? ⟨wr.heap.size, 1, none⟩ = some (.int .i64 l[j + 1].y) ∧ w'.cell? ⟨wr.heap.size, 2, none⟩ = some (.int .i64 l[j + 1].s) ∧ w'.cell? ⟨b, off + j * 3, none⟩ = some (.int .i64 l[j].x) ∧ w'.cell? ⟨b, off + j * 3 + 1, none⟩ = some (.int .i64 l[j].y) ∧ w'.cell? ⟨b, off + j * 3 + 2, none⟩ = some (.int .i64 l[j].s) ∧ Below wr.heap.size wr w' ∧ b < wr.heap.size ∧ wr.heap.size < w'.heap.size)
            (first | exact ⟨e0, e1, e2, d0, d1, d2, below_drew hb1, hz1, hz2⟩ | exact keep6 (by assumption) (by assumption) | exact keep6 (by assumption) ((Below.refl _ _).alloc (Nat.le_refl _) _) | assumption | (refine ⟨?_, ?_, ?_, ?_, ?_, ?_, ?_, ?_, ?_⟩ <;> first | assumption | (simp at *; omega)) | go_keep)
            (first
              | (go_at_call 38; refine (netCheckBar _ _ _ _).mono ?_; rintro e w' ⟨rfl, hbq⟩)
              | (go_at_call 49; refine (netCheckOrderS _ _ _ _ l[j] _ _ _ _ (by omega) (by assumption)).mono ?_; rintro e w' ⟨rfl, hbq⟩)
              | (go_at_call 28; refine (netFirst2 _ _ (barE l[j + 1].x l[j + 1].y l[j + 1].s) (orderE l[j] l[j + 1]) 30 _ (by exact heap_alloc_new _ _)).mono ?_; rintro e w' ⟨rfl, rfl⟩))
          rw [HV.out]
          go_wp2
          go_ret
          exact ⟨ret_i (HE2.out.trans HF.out).symm, hb.trans (Below.mono (B := wr.heap.size) (belowOf6 (by assumption)) hz)⟩
    · obtain rfl : k = l.length := by omega
      have HF := Lib.hid (netFrom_end l)
      go_wp2
      go_ret
      exact ⟨ret_i (HE2.out.trans HF.out).symm, hb⟩
end Go.Proofs.YthihjphcjjpjpaaGreat

/- A map from knots to ints that the call itself has made: what its block holds, and what its operations do. -/
namespace Go.Proofs.YthihjphcjjpjpaaGreat
open Go.RowKit Go.ChangeMaps Go.MapKept

def kvv (k : Ck.Knot) : Value := .agg #[.int .i64 k.x, .int .i64 k.y]
def mget : List (Ck.Knot × Int) → Ck.Knot → Int
  | [], _ => 0
  | p :: r, k => if k = p.1 then p.2 else mget r k
def mput : List (Ck.Knot × Int) → Ck.Knot → Int → List (Ck.Knot × Int)
  | [], k, v => [(k, v)]
  | p :: r, k, v => if k = p.1 then (k, v) :: r else p :: mput r k v
def fnd : List (Ck.Knot × Int) → Ck.Knot → Nat → Option (Nat × Value)
  | [], _, _ => none
  | p :: r, k, i => if k = p.1 then some (i, .int .i64 p.2) else fnd r k (i + 1)

theorem eqKnot (a b : Ck.Knot) (w : World) : (Op.equal 23 (kvv a) (kvv b)).run Tryz.prog w = .ok (decide (a = b)) w := by
  have u3 := Tryz.underlying3
  have a3 := Tryz.isAgg3
  have z3 := Tryz.sizeOf3
  have hS : Tryz.prog.underlying 23 = some (.struct (Tryz.prog.fieldsOf 23)) := by kernel_rfl
  have hp : Tryz.prog.stoodInHeld 23 = false := by kernel_rfl
  obtain ⟨x, y⟩ := a
  obtain ⟨x', y'⟩ := b
  simp only [kvv, Op.equal]
  rw [show Op.maxDepth = 9999 + 1 from rfl, run_equalIn_struct w 9999 23 _ _ hS hp]
  simp only [Program.fieldsOf, Tryz.underlying23]
  go_simp
  by_cases h1 : x = x' <;> by_cases h2 : y = y' <;> simp [h1, h2]

/-- The entries es hold the pairs m. -/
def Ents (es : Array MapEntry) (m : List (Ck.Knot × Int)) : Prop := es.toList.map (fun e => (e.key, e.val)) = m.map fun p => (kvv p.1, Value.int .i64 p.2)
theorem run_findAsking (k : Ck.Knot) (w : World) : ∀ (l : List MapEntry) (m : List (Ck.Knot × Int)) (i : Nat), l.map (fun e => (e.key, e.val)) = m.map (fun p => (kvv p.1, Value.int .i64 p.2)) →
    (Instr.findAsking 23 (kvv k) l i).run Tryz.prog w = .ok (fnd m k i) w
  | [], [], _, _ => rfl
  | [], _ :: _, _, h => by simp at h
  | _ :: _, [], _, h => by simp at h
  | e :: l, p :: m, i, h => by
    simp only [List.map_cons, List.cons.injEq, Prod.mk.injEq] at h
    obtain ⟨⟨h1, h2⟩, h3⟩ := h
    simp only [Instr.findAsking, Sem.run_bind, h1, eqKnot, Result.andThen, fnd, h2]
    by_cases hk : k = p.1
    · simp [hk]
    · simp [hk, run_findAsking k w l m (i + 1) h3]
theorem run_findKey (k : Ck.Knot) (w : World) (es : Array MapEntry) (m : List (Ck.Knot × Int)) (h : Ents es m) : (Instr.findKey 23 (kvv k) es.toList).run Tryz.prog w = .ok (fnd m k 0) w := by
  have hu := Tryz.underlying23
  unfold Ents at h
  simp only [Instr.findKey, Sem.run_bind, run_underlying hu, Result.andThen]
  cases hl : es.toList with
  | nil =>
    rw [hl] at h
    cases m with
    | nil => rfl
    | cons _ _ => simp at h
  | cons e l =>
    rw [hl] at h
    have hn : ∀ fs, Instr.findNow (.struct fs) (kvv k) (e :: l) 0 = none := fun fs => by
      unfold Instr.findNow Instr.sameNow
      rfl
    simp only [hn]
    exact run_findAsking k w (e :: l) m 0 h
theorem run_checkKnot (b : Bool) (k : Ck.Knot) (w : World) : (Instr.checkKey b 10000 23 (kvv k)).run Tryz.prog w = .ok () w := by
  obtain ⟨x, y⟩ := k
  cases b <;> kernel_rfl

theorem fnd_spec (k : Ck.Knot) : ∀ (m : List (Ck.Knot × Int)) (i : Nat), (fnd m k i = none ∧ k ∉ m.map (·.1) ∧ mget m k = 0 ∧ ∀ v, mput m k v = m ++ [(k, v)]) ∨
    ∃ j, fnd m k i = some (i + j, .int .i64 (mget m k)) ∧ m[j]? = some (k, mget m k) ∧ ∀ v, mput m k v = m.set j (k, v)
  | [], i => .inl ⟨rfl, by simp, rfl, fun _ => rfl⟩
  | p :: m, i => by
    by_cases hk : k = p.1
    · refine .inr ⟨0, by simp [fnd, mget, hk], by simp [mget, hk], fun v => by simp [mput, hk]⟩
    · rcases fnd_spec k m (i + 1) with ⟨h1, h2, h3, h4⟩ | ⟨j, h1, h2, h3⟩
      · refine .inl ⟨by simp [fnd, hk, h1], by simp only [List.map_cons, List.mem_cons, not_or]; exact ⟨hk, h2⟩, by simp [mget, hk, h3], fun v => by simp [mput, hk, h4]⟩
      · refine .inr ⟨j + 1, by simp [fnd, hk, h1, mget]; omega, by simp [h2, mget, hk], fun v => by simp [mput, hk, h3]⟩

/-- Block b of w is a map that holds the pairs m, each key once. -/
def MIs (w : World) (b : Nat) (m : List (Ck.Knot × Int)) : Prop :=
  ∃ es clock, w.heap[b]? = some (.map es clock) ∧ Ents es m ∧ (m.map (·.1)).Nodup ∧ (es.toList.map (·.born)).Nodup ∧ ∀ e ∈ es.toList, e.born < clock
theorem MIs.made (w : World) : MIs (w.alloc (.map #[] 0)) w.heap.size [] := ⟨#[], 0, heap_alloc_new _ _, rfl, by simp, by simp, by simp⟩
theorem MIs.of_block {w w' : World} {b : Nat} {m : List (Ck.Knot × Int)} (h : MIs w b m) (hb : w'.heap[b]? = w.heap[b]?) : MIs w' b m := by
  obtain ⟨es, clock, h1, h2⟩ := h
  exact ⟨es, clock, hb.trans h1, h2⟩
theorem MIs.below {w w' : World} {b B : Nat} {m : List (Ck.Knot × Int)} (h : MIs w b m) (hb : Below B w w') (hB : b < B) : MIs w' b m := h.of_block (hb.block b hB)
theorem MIs.drew {w : World} {b : Nat} {m : List (Ck.Knot × Int)} (h : MIs w b m) : MIs w.drew b m := h
theorem MIs.lt {w : World} {b : Nat} {m : List (Ck.Knot × Int)} (h : MIs w b m) : b < w.heap.size := by
  obtain ⟨_, _, h1, _⟩ := h
  exact (Array.getElem?_eq_some_iff.1 h1).1

theorem MIs.lookup {w : World} {b : Nat} {m : List (Ck.Knot × Int)} (h : MIs w b m) (k : Ck.Knot) : (Instr.lookup 62 (.map (some b)) (kvv k) false).run Tryz.prog w = .ok (.int .i64 (mget m k)) w := by
  obtain ⟨es, clock, h1, h2, _⟩ := h
  have hz : (zeroValue 3).run Tryz.prog w = .ok (.int .i64 0) w := by kernel_rfl
  rcases fnd_spec k m 0 with ⟨g1, _, g3, _⟩ | ⟨j, g1, _⟩
  · simp [Instr.lookup, run_underlying Tryz.underlying62, MapKept.run_getObj_map h1, run_checkKnot, run_findKey k w es m h2, g1, g3, hz, Result.andThen]
  · simp [Instr.lookup, run_underlying Tryz.underlying62, MapKept.run_getObj_map h1, run_checkKnot, run_findKey k w es m h2, g1, Result.andThen]

theorem stays (k : Ck.Knot) (w : World) (old : Value) (h : old = kvv k) : (Instr.keyThatStays old (kvv k)).run Tryz.prog w = .ok (kvv k) w := by
  have hs : Instr.sameBits 10000 (kvv k) (kvv k) = true := by
    rw [show (10000 : Nat) = 9998 + 1 + 1 from rfl]
    simp [Instr.sameBits, kvv]
  subst h
  simp [Instr.keyThatStays, hs]
theorem Ents.key {es : Array MapEntry} {m : List (Ck.Knot × Int)} (h : Ents es m) {j : Nat} {p : Ck.Knot × Int} (hj : m[j]? = some p) : ∃ e, es.toList[j]? = some e ∧ e.key = kvv p.1 ∧ e.val = .int .i64 p.2 := by
  have h' := congrArg (fun l => l[j]?) h
  simp only [List.getElem?_map, hj, Option.map_some] at h'
  cases he : es.toList[j]? with
  | none => rw [he] at h'; simp at h'
  | some e =>
    rw [he] at h'
    simp at h'
    exact ⟨e, rfl, h'.1, h'.2⟩
theorem Ents.set {es es' : Array MapEntry} {m : List (Ck.Knot × Int)} (h : Ents es m) {j : Nat} {p : Ck.Knot × Int} {e : MapEntry} (he : es'.toList = es.toList.set j e) (hk : e.key = kvv p.1) (hv : e.val = .int .i64 p.2) : Ents es' (m.set j p) := by
  unfold Ents at h ⊢
  rw [he, List.map_set, List.map_set, h, hk, hv]
theorem modify_set (es : Array MapEntry) (j : Nat) (e : MapEntry) (f : MapEntry → MapEntry) (h : es.toList[j]? = some e) : (es.modify j f).toList = es.toList.set j (f e) := by
  rw [Array.toList_modify]
  have hj : j < es.toList.length := (List.getElem?_eq_some_iff.1 h).1
  apply List.ext_getElem?
  intro i
  rw [List.getElem?_modify, List.getElem?_set]
  by_cases hi : j = i
  · subst hi
    simp only [if_true, h]
    rw [if_pos hj]
    rfl
  · simp [hi]

theorem MIs.update {w : World} {b : Nat} {m : List (Ck.Knot × Int)} (h : MIs w b m) (k : Ck.Knot) (v : Int) :
    ∃ w', (Instr.mapUpdate 62 (.map (some b)) (kvv k) (.int .i64 v)).run Tryz.prog w = .ok () w' ∧ MIs w' b (mput m k v) ∧ w.grownBy w' (some b) := by
  obtain ⟨es, clock, h1, h2, h3, h4, h5⟩ := h
  have grown : ∀ o, w.grownBy (setBlock w b o) (some b) := fun o => ⟨rfl, rfl, rfl, by simp [setBlock], fun i _ hi => heap_setBlock_other h1 _ (fun e => hi (by rw [e]))⟩
  rcases fnd_spec k m 0 with ⟨g1, g2, g3, g4⟩ | ⟨j, g1, g2, g3⟩
  · refine ⟨setBlock w b (.map (es.push { key := kvv k, val := .int .i64 v, born := clock }) (clock + 1)), ?_, ?_, grown _⟩
    · simp [Instr.mapUpdate, run_underlying Tryz.underlying62, MapKept.run_getObj_map h1, run_checkKnot, run_findKey k w es m h2, g1, MapKept.run_setObj_map _ h1, Result.andThen, setBlock]
    · refine ⟨_, _, heap_setBlock_same h1 _, ?_, ?_, ?_, ?_⟩
      · rw [g4]; unfold Ents at h2 ⊢; simp [h2]
      · rw [g4, List.map_append]
        exact List.nodup_append.2 ⟨h3, by simp, fun x hx y hy e => g2 (by simp at hy; rw [← hy, ← e]; exact hx)⟩
      · simp only [Array.toList_push, List.map_append]
        exact List.nodup_append.2 ⟨h4, by simp, fun x hx y hy e => by
          simp at hy
          obtain ⟨e', he', rfl⟩ := List.mem_map.1 hx
          have := h5 e' he'
          omega⟩
      · intro e he
        simp at he
        rcases he with he | rfl
        · have := h5 e (by simpa using he); omega
        · simp
  · obtain ⟨e, he, hek, hev⟩ := h2.key g2
    have he' : es[j]? = some e := by simpa using he
    have hm := modify_set es j e (fun e => { e with key := kvv k, val := .int .i64 v }) he
    refine ⟨setBlock w b (.map (es.modify j fun e => { e with key := kvv k, val := .int .i64 v }) clock), ?_, ?_, grown _⟩
    · simp [Instr.mapUpdate, run_underlying Tryz.underlying62, MapKept.run_getObj_map h1, run_checkKnot, run_findKey k w es m h2, g1, MapKept.run_setObj_map _ h1, Result.andThen, setBlock, he', stays k w e.key hek]
    · refine ⟨_, _, heap_setBlock_same h1 _, ?_, ?_, ?_, ?_⟩
      · rw [g3]; exact h2.set hm rfl rfl
      · rw [g3, List.map_set]
        have : (m.map (·.1)).set j k = m.map (·.1) := by
          apply List.ext_getElem?
          intro i
          rw [List.getElem?_set]
          split
          · rename_i hi
            subst hi
            simp [g2]
            exact (List.getElem?_eq_some_iff.1 g2).1
          · rfl
        simp only [this]
        exact h3
      · rw [hm, List.map_set]
        have : (es.toList.map (·.born)).set j e.born = es.toList.map (·.born) := by
          apply List.ext_getElem?
          intro i
          rw [List.getElem?_set]
          split
          · rename_i hi
            subst hi
            simp [he']
            exact (Array.getElem?_eq_some_iff.1 he').1
          · rfl
        simp only [this]
        exact h4
      · intro x hx
        rw [hm] at hx
        rcases List.mem_or_eq_of_mem_set hx with hx | rfl
        · exact h5 x hx
        · exact h5 e (List.mem_of_getElem? he)
end Go.Proofs.YthihjphcjjpjpaaGreat
