/- Helpers: H1. -/
import Derived.Test.YtlkeejhaodedmaaGreatDoorRows
import Derived.WalkKit
import Derived.WalkSpells
import Derived.WalkLawsBesides
import Derived.Lib.Hide
import Derived.IntWalk
import Derived.StillTailTactics
import Derived.Deep.RegionWith
import Derived.Deep.QuietTactic
import Derived.BigQuiet
import Derived.Deep.RegionHeld3
import Derived.Deep.LoopGhost
import Derived.Deep.RegionLaw
import Derived.Laws.StructEq
import Derived.ChangeKeysEq
import Derived.LoopTactic
import Derived.Laws.Rows
import Derived.Lib.Strings
import Derived.Laws.RangeAny
/- Plain mathematics of nets: bars, knots, meshes and connected parts of lists of bars; how their numbers add up for two lists far from one another. No program is spoken of here. -/
namespace Go.Proofs.YtlkeejhaodedmaaGreatDoor.Ck

structure Knot where
  x : Int
  y : Int
deriving DecidableEq

structure Bar where
  x : Int
  y : Int
  s : Int
deriving DecidableEq

def Bar.lo (b : Bar) : Knot := ⟨b.x, b.y⟩
def Bar.hi (b : Bar) : Knot := ⟨b.x + b.s, b.y + 1⟩
def Blt (a b : Bar) : Prop := a.y < b.y ∨ a.y = b.y ∧ (a.x < b.x ∨ a.x = b.x ∧ a.s < b.s)
theorem Bar.ext' {a b : Bar} (h1 : a.x = b.x) (h2 : a.y = b.y) (h3 : a.s = b.s) : a = b := by
  cases a; cases b; cases h1; cases h2; cases h3; rfl
def inPlace (n : Int) : Prop := -100000 ≤ n ∧ n ≤ 100000
def okKnot (k : Knot) : Prop := inPlace k.x ∧ inPlace k.y ∧ (k.x + k.y) % 2 = 0
def okBar (b : Bar) : Prop := okKnot b.lo ∧ (b.s = -1 ∨ b.s = 1) ∧ inPlace b.hi.x ∧ inPlace b.hi.y
def Net (l : List Bar) : Prop := (∀ b ∈ l, okBar b) ∧ l.Pairwise Blt
def near (b : Bar) : Prop := -200 ≤ b.x ∧ b.x ≤ 200 ∧ -200 ≤ b.y ∧ b.y ≤ 200

theorem Blt.trans {a b c : Bar} (h : Blt a b) (k : Blt b c) : Blt a c := by unfold Blt at *; omega
theorem Blt.irrefl {a : Bar} (h : Blt a a) : False := by unfold Blt at h; omega
theorem Blt.tri (a b : Bar) : Blt a b ∨ a = b ∨ Blt b a := by
  obtain ⟨a1, a2, a3⟩ := a
  obtain ⟨b1, b2, b3⟩ := b
  simp only [Blt, Bar.mk.injEq]
  omega
theorem Net.nodup {l : List Bar} (h : Net l) : l.Nodup := h.2.imp (fun {a b} (k : Blt a b) e => by subst e; exact k.irrefl)

def ends (l : List Bar) : List Knot := l.flatMap fun b => [b.lo, b.hi]
theorem mem_ends {l : List Bar} {k : Knot} : k ∈ ends l ↔ ∃ b ∈ l, k = b.lo ∨ k = b.hi := by simp [ends]
theorem ends_append (a b : List Bar) : ends (a ++ b) = ends a ++ ends b := by simp [ends]

/-! ### lists without repetition -/
def nub : List Knot → List Knot
  | [] => []
  | k :: r => if k ∈ r then nub r else k :: nub r
theorem mem_nub {k : Knot} : ∀ {l : List Knot}, k ∈ nub l ↔ k ∈ l
  | [] => Iff.rfl
  | m :: r => by
    unfold nub
    split
    · rename_i h
      rw [mem_nub, List.mem_cons]
      exact ⟨Or.inr, fun h' => h'.elim (fun e => e ▸ h) id⟩
    · rw [List.mem_cons, List.mem_cons, mem_nub]
theorem nub_nodup : ∀ l : List Knot, (nub l).Nodup
  | [] => by simp [nub]
  | m :: r => by
    unfold nub
    split
    · exact nub_nodup r
    · rename_i h
      exact List.nodup_cons.2 ⟨fun h' => h (mem_nub.1 h'), nub_nodup r⟩
theorem same_length {a b : List Knot} (ha : a.Nodup) (hb : b.Nodup) (h : ∀ k, k ∈ a ↔ k ∈ b) : a.length = b.length :=
  ((List.perm_ext_iff_of_nodup ha hb).2 h).length_eq

def nK (l : List Bar) : Nat := (nub (ends l)).length
theorem nK_eq {l : List Bar} {ks : List Knot} (hn : ks.Nodup) (hm : ∀ k, k ∈ ks ↔ k ∈ ends l) : ks.length = nK l :=
  same_length hn (nub_nodup _) fun k => by rw [hm, mem_nub]
theorem nK_add {a b : List Bar} (h : ∀ k ∈ ends a, k ∉ ends b) : nK (a ++ b) = nK a + nK b := by
  rw [nK, nK, nK, ← List.length_append]
  refine same_length (nub_nodup _) ?_ fun k => ?_
  · exact List.nodup_append.2 ⟨nub_nodup _, nub_nodup _, fun x hx y hy e => h x (mem_nub.1 hx) (mem_nub.1 (e ▸ hy))⟩
  · rw [mem_nub, ends_append, List.mem_append, List.mem_append, mem_nub, mem_nub]
theorem knots_union {a b u : List Bar} {k l m : List Knot} (hk : k.Nodup) (hl : l.Nodup) (hm : m.Nodup) (mk : ∀ p, p ∈ k ↔ p ∈ ends a) (ml : ∀ p, p ∈ l ↔ p ∈ ends b) (mm : ∀ p, p ∈ m ↔ p ∈ ends u)
    (hu : ∀ x, x ∈ u ↔ x ∈ a ∨ x ∈ b) : m.length + k.countP (fun p => decide (p ∈ l)) = k.length + l.length := by
  have he : ∀ p, p ∈ ends u ↔ p ∈ ends a ∨ p ∈ ends b := by
    intro p
    simp only [mem_ends, hu]
    constructor
    · rintro ⟨x, hx | hx, h⟩
      · exact .inl ⟨x, hx, h⟩
      · exact .inr ⟨x, hx, h⟩
    · rintro (⟨x, hx, h⟩ | ⟨x, hx, h⟩)
      · exact ⟨x, .inl hx, h⟩
      · exact ⟨x, .inr hx, h⟩
  have h1 : m.length = (l ++ k.filter (fun p => !decide (p ∈ l))).length := by
    refine same_length hm (List.nodup_append.2 ⟨hl, hk.filter _, ?_⟩) fun p => ?_
    · intro x hx y hy e
      subst e
      have := (List.mem_filter.1 hy).2
      simp [hx] at this
    · rw [mm, he, List.mem_append, List.mem_filter]
      by_cases hp : p ∈ l
      · simp [hp, (ml p).1 hp]
      · have : p ∉ ends b := fun h => hp ((ml p).2 h)
        simp [hp, this, mk]
  rw [h1, List.length_append, ← List.countP_eq_length_filter]
  have h2 := List.length_eq_countP_add_countP (l := k) (fun p => decide (p ∈ l))
  have h3 : List.countP (fun p => !decide (p ∈ l)) k = List.countP (fun a => decide ¬(decide (a ∈ l)) = true) k := List.countP_congr fun x _ => by simp
  omega

/-! ### meshes -/
def isMesh (l : List Bar) (b : Bar) : Bool := decide (b.s = -1) && (decide ((⟨b.x, b.y, 1⟩ : Bar) ∈ l) && (decide ((⟨b.x - 1, b.y + 1, 1⟩ : Bar) ∈ l) && decide ((⟨b.x + 1, b.y + 1, -1⟩ : Bar) ∈ l)))
def nM (l : List Bar) : Nat := l.countP (isMesh l)
theorem nM_add {a b : List Bar} (ha : ∀ x ∈ a, x.y ≤ 200) (hb : ∀ x ∈ b, 800 ≤ x.y) : nM (a ++ b) = nM a + nM b := by
  have h1 : ∀ x : Bar, x.y ≤ 201 → (x ∈ a ++ b ↔ x ∈ a) := fun x hx => by
    rw [List.mem_append]
    exact ⟨fun h => h.elim id (fun h' => absurd (hb x h') (by omega)), .inl⟩
  have h2 : ∀ x : Bar, 201 ≤ x.y → (x ∈ a ++ b ↔ x ∈ b) := fun x hx => by
    rw [List.mem_append]
    exact ⟨fun h => h.elim (fun h' => absurd (ha x h') (by omega)) id, .inr⟩
  rw [nM, List.countP_append, nM, nM]
  congr 1
  · refine List.countP_congr fun x hx => ?_
    have := ha x hx
    unfold isMesh
    rw [decide_eq_decide.2 (h1 ⟨x.x, x.y, 1⟩ (by simp; omega)), decide_eq_decide.2 (h1 ⟨x.x - 1, x.y + 1, 1⟩ (by simp; omega)), decide_eq_decide.2 (h1 ⟨x.x + 1, x.y + 1, -1⟩ (by simp; omega))]
  · refine List.countP_congr fun x hx => ?_
    have := hb x hx
    unfold isMesh
    rw [decide_eq_decide.2 (h2 ⟨x.x, x.y, 1⟩ (by simp; omega)), decide_eq_decide.2 (h2 ⟨x.x - 1, x.y + 1, 1⟩ (by simp; omega)), decide_eq_decide.2 (h2 ⟨x.x + 1, x.y + 1, -1⟩ (by simp; omega))]

/-! ### parts -/
def Adj (b : Bar) (k m : Knot) : Prop := k = b.lo ∧ m = b.hi ∨ k = b.hi ∧ m = b.lo
inductive Conn (l : List Bar) : Knot → Knot → Prop
  | refl (k : Knot) : Conn l k k
  | step {k m n : Knot} (b : Bar) : b ∈ l → Adj b k m → Conn l m n → Conn l k n
theorem Conn.trans {l : List Bar} {k m n : Knot} (h : Conn l k m) (h' : Conn l m n) : Conn l k n := by
  induction h with
  | refl => exact h'
  | step b hb ha _ ih => exact .step b hb ha (ih h')
theorem Adj.symm {b : Bar} {k m : Knot} (h : Adj b k m) : Adj b m k := h.elim (fun h => .inr ⟨h.2, h.1⟩) (fun h => .inl ⟨h.2, h.1⟩)
theorem Conn.one {l : List Bar} {b : Bar} {k m : Knot} (hb : b ∈ l) (h : Adj b k m) : Conn l k m := .step b hb h (.refl m)
theorem Conn.symm {l : List Bar} {k m : Knot} (h : Conn l k m) : Conn l m k := by
  induction h with
  | refl => exact .refl _
  | step b hb ha _ ih => exact ih.trans (.one hb ha.symm)
theorem Conn.mono {l l' : List Bar} (hl : ∀ b ∈ l, b ∈ l') {k m : Knot} (h : Conn l k m) : Conn l' k m := by
  induction h with
  | refl => exact .refl _
  | step b hb ha _ ih => exact .step b (hl b hb) ha ih
theorem Adj.ends {l : List Bar} {b : Bar} {k m : Knot} (hb : b ∈ l) (h : Adj b k m) : k ∈ ends l ∧ m ∈ ends l := by
  rw [mem_ends, mem_ends]
  rcases h with ⟨h1, h2⟩ | ⟨h1, h2⟩
  · exact ⟨⟨b, hb, .inl h1⟩, ⟨b, hb, .inr h2⟩⟩
  · exact ⟨⟨b, hb, .inr h1⟩, ⟨b, hb, .inl h2⟩⟩

inductive CntIs (l : List Bar) : List Knot → List Bar → Nat → Prop
  | nil (seen : List Knot) : CntIs l seen [] 0
  | old {seen : List Knot} {b : Bar} {r : List Bar} {n : Nat} : (∃ s ∈ seen, Conn l s b.lo) → CntIs l (b.lo :: seen) r n → CntIs l seen (b :: r) n
  | fresh {seen : List Knot} {b : Bar} {r : List Bar} {n : Nat} : (¬ ∃ s ∈ seen, Conn l s b.lo) → CntIs l (b.lo :: seen) r n → CntIs l seen (b :: r) (n + 1)
def PartsIs (l : List Bar) (n : Nat) : Prop := CntIs l [] l n
theorem CntIs.det {l : List Bar} : ∀ {r : List Bar} {seen : List Knot} {n m : Nat}, CntIs l seen r n → CntIs l seen r m → n = m
  | [], _, _, _, .nil _, .nil _ => rfl
  | _ :: _, _, _, _, .old _ h, .old _ h' => h.det h'
  | _ :: _, _, _, _, .old e _, .fresh e' _ => absurd e e'
  | _ :: _, _, _, _, .fresh e _, .old e' _ => absurd e' e
  | _ :: _, _, _, _, .fresh _ h, .fresh _ h' => congrArg (· + 1) (h.det h')
theorem CntIs.total {l : List Bar} : ∀ (r : List Bar) (seen : List Knot), ∃ n, CntIs l seen r n
  | [], seen => ⟨0, .nil seen⟩
  | b :: r, seen => by
    obtain ⟨n, h⟩ := CntIs.total (l := l) r (b.lo :: seen)
    by_cases e : ∃ s ∈ seen, Conn l s b.lo
    · exact ⟨n, .old e h⟩
    · exact ⟨n + 1, .fresh e h⟩
theorem CntIs.mono {l l' : List Bar} : ∀ {r : List Bar} {seen seen' : List Knot} {n : Nat}, (∀ b ∈ r, ∀ t : List Knot, (∀ x ∈ t, ∃ c ∈ r, x = c.lo) → ((∃ s ∈ t ++ seen, Conn l s b.lo) ↔ ∃ s ∈ t ++ seen', Conn l' s b.lo)) → CntIs l seen r n → CntIs l' seen' r n
  | [], _, _, _, _, .nil _ => .nil _
  | b :: r, seen, seen', _, hc, .old e h =>
    .old ((hc b (by simp) [] (by simp)).1 e) (h.mono fun c hcr t ht => by
      have := hc c (by simp [hcr]) (t ++ [b.lo]) (by
        intro x hx
        rcases List.mem_append.1 hx with hx | hx
        · obtain ⟨d, hd, e⟩ := ht x hx; exact ⟨d, by simp [hd], e⟩
        · exact ⟨b, by simp, by simpa using hx⟩)
      simpa using this)
  | b :: r, seen, seen', _, hc, .fresh e h =>
    .fresh (fun e' => e ((hc b (by simp) [] (by simp)).2 e')) (h.mono fun c hcr t ht => by
      have := hc c (by simp [hcr]) (t ++ [b.lo]) (by
        intro x hx
        rcases List.mem_append.1 hx with hx | hx
        · obtain ⟨d, hd, e⟩ := ht x hx; exact ⟨d, by simp [hd], e⟩
        · exact ⟨b, by simp, by simpa using hx⟩)
      simpa using this)
theorem CntIs.append {l : List Bar} : ∀ {r r' : List Bar} {seen : List Knot} {n m : Nat}, CntIs l seen r n → CntIs l ((r.map Bar.lo).reverse ++ seen) r' m → CntIs l seen (r ++ r') (n + m)
  | [], _, _, _, _, .nil _, h' => by simpa using h'
  | b :: r, r', seen, _, m, .old e h, h' => .old e (h.append (by simpa using h'))
  | b :: r, r', seen, _, m, .fresh (n := n) e h, h' => by
    rw [show n + 1 + m = (n + m) + 1 from by omega]
    exact .fresh e (h.append (by simpa using h'))

theorem Conn.left {a b : List Bar} (hd : ∀ k ∈ ends a, k ∉ ends b) {k m : Knot} (h : Conn (a ++ b) k m) : k ∈ ends a → Conn a k m ∧ m ∈ ends a := by
  induction h with
  | refl => exact fun h => ⟨.refl _, h⟩
  | step c hc ha _ ih =>
    intro hk
    rcases List.mem_append.1 hc with hc | hc
    · obtain ⟨h1, h2⟩ := ih (ha.ends hc).2
      exact ⟨.step c hc ha h1, h2⟩
    · exact absurd (ha.ends hc).1 (hd _ hk)
theorem Conn.right {a b : List Bar} (hd : ∀ k ∈ ends a, k ∉ ends b) {k m : Knot} (h : Conn (a ++ b) k m) : k ∈ ends b → Conn b k m ∧ m ∈ ends b := by
  induction h with
  | refl => exact fun h => ⟨.refl _, h⟩
  | step c hc ha _ ih =>
    intro hk
    rcases List.mem_append.1 hc with hc | hc
    · exact absurd hk (hd _ (ha.ends hc).1)
    · obtain ⟨h1, h2⟩ := ih (ha.ends hc).2
      exact ⟨.step c hc ha h1, h2⟩
theorem lo_ends {l : List Bar} {b : Bar} (h : b ∈ l) : b.lo ∈ ends l := mem_ends.2 ⟨b, h, .inl rfl⟩

theorem PartsIs.add {a b : List Bar} {p q : Nat} (hd : ∀ k ∈ ends a, k ∉ ends b) (hp : PartsIs a p) (hq : PartsIs b q) : PartsIs (a ++ b) (p + q) := by
  have inl : ∀ {k m : Knot}, Conn a k m → Conn (a ++ b) k m := fun h => h.mono fun _ h => List.mem_append.2 (.inl h)
  have inr : ∀ {k m : Knot}, Conn b k m → Conn (a ++ b) k m := fun h => h.mono fun _ h => List.mem_append.2 (.inr h)
  refine CntIs.append (hp.mono (l' := a ++ b) (seen' := []) fun x _ t ht => ?_) (hq.mono fun x hx t ht => ?_)
  · constructor
    · rintro ⟨s, hs, h⟩; exact ⟨s, hs, inl h⟩
    · rintro ⟨s, hs, h⟩
      obtain ⟨c, hc, rfl⟩ := ht s (by simpa using hs)
      exact ⟨_, hs, (h.left hd (lo_ends hc)).1⟩
  · constructor
    · rintro ⟨s, hs, h⟩; exact ⟨s, by simp at hs ⊢; exact .inl hs, inr h⟩
    · rintro ⟨s, hs, h⟩
      rcases List.mem_append.1 hs with hs | hs
      · obtain ⟨c, hc, rfl⟩ := ht s hs
        exact ⟨_, by simp [hs], (h.right hd (lo_ends hc)).1⟩
      · have : s ∈ ends a := by
          simp at hs
          obtain ⟨c, hc, rfl⟩ := hs
          exact lo_ends hc
        exact absurd (lo_ends hx) (hd _ (h.left hd this).2)

/-! ### shifts -/
def Bar.shift (dx dy : Int) (b : Bar) : Bar := ⟨b.x + dx, b.y + dy, b.s⟩
def Knot.shift (dx dy : Int) (k : Knot) : Knot := ⟨k.x + dx, k.y + dy⟩
theorem shift_lo (dx dy : Int) (b : Bar) : (b.shift dx dy).lo = b.lo.shift dx dy := rfl
theorem shift_hi (dx dy : Int) (b : Bar) : (b.shift dx dy).hi = b.hi.shift dx dy := by simp [Bar.shift, Bar.hi, Knot.shift]; omega
theorem Knot.shift_inj {dx dy : Int} {k m : Knot} (h : k.shift dx dy = m.shift dx dy) : k = m := by
  obtain ⟨a, b⟩ := k
  obtain ⟨c, d⟩ := m
  simp only [Knot.shift, Knot.mk.injEq] at h ⊢
  omega
theorem Conn.shift {l : List Bar} {k m : Knot} (dx dy : Int) (h : Conn l k m) : Conn (l.map (Bar.shift dx dy)) (k.shift dx dy) (m.shift dx dy) := by
  induction h with
  | refl => exact .refl _
  | step b hb ha _ ih =>
    refine .step (b.shift dx dy) (List.mem_map_of_mem hb) ?_ ih
    rcases ha with ⟨rfl, rfl⟩ | ⟨rfl, rfl⟩
    · exact .inl ⟨(shift_lo ..).symm, (shift_hi ..).symm⟩
    · exact .inr ⟨(shift_hi ..).symm, (shift_lo ..).symm⟩
theorem Bar.shift_back (dx dy : Int) (b : Bar) : (b.shift dx dy).shift (-dx) (-dy) = b :=
  Bar.ext' (show b.x + dx + -dx = b.x by omega) (show b.y + dy + -dy = b.y by omega) rfl
theorem Knot.shift_back (dx dy : Int) (b : Knot) : (b.shift dx dy).shift (-dx) (-dy) = b := by
  obtain ⟨x, y⟩ := b
  simp only [Knot.shift, Knot.mk.injEq]
  omega
theorem Conn.unshift {l : List Bar} {k m : Knot} (dx dy : Int) (h : Conn (l.map (Bar.shift dx dy)) (k.shift dx dy) (m.shift dx dy)) : Conn l k m := by
  have := h.shift (-dx) (-dy)
  rw [List.map_map, Knot.shift_back, Knot.shift_back] at this
  have e : (Bar.shift (-dx) (-dy) ∘ Bar.shift dx dy) = id := funext fun b => Bar.shift_back dx dy b
  rwa [e, List.map_id] at this
theorem CntIs.shift {l : List Bar} (dx dy : Int) : ∀ {r : List Bar} {seen : List Knot} {n : Nat}, CntIs l seen r n → CntIs (l.map (Bar.shift dx dy)) (seen.map (Knot.shift dx dy)) (r.map (Bar.shift dx dy)) n
  | [], _, _, .nil _ => .nil _
  | b :: r, seen, _, .old e h => by
    obtain ⟨s, hs, hc⟩ := e
    exact .old ⟨_, List.mem_map_of_mem hs, hc.shift dx dy⟩ (h.shift dx dy)
  | b :: r, seen, _, .fresh e h => by
    refine .fresh (fun ⟨s, hs, hc⟩ => ?_) (h.shift dx dy)
    obtain ⟨t, ht, rfl⟩ := List.mem_map.1 hs
    exact e ⟨t, ht, hc.unshift dx dy⟩
theorem PartsIs.shift {l : List Bar} {n : Nat} (dx dy : Int) (h : PartsIs l n) : PartsIs (l.map (Bar.shift dx dy)) n := CntIs.shift dx dy h
theorem ends_shift (dx dy : Int) (l : List Bar) : ends (l.map (Bar.shift dx dy)) = (ends l).map (Knot.shift dx dy) := by
  simp only [ends, List.flatMap_map, List.map_flatMap]
  congr
  funext b
  simp [shift_lo, shift_hi]
theorem nub_map (dx dy : Int) : ∀ l : List Knot, nub (l.map (Knot.shift dx dy)) = (nub l).map (Knot.shift dx dy)
  | [] => rfl
  | k :: r => by
    have e : k.shift dx dy ∈ r.map (Knot.shift dx dy) ↔ k ∈ r := by
      constructor
      · intro h
        obtain ⟨m, hm, e⟩ := List.mem_map.1 h
        exact Knot.shift_inj e ▸ hm
      · exact fun h => List.mem_map_of_mem h
    rw [List.map_cons, nub, nub]
    by_cases h : k ∈ r
    · rw [if_pos (e.2 h), if_pos h, nub_map dx dy r]
    · rw [if_neg (fun h' => h (e.1 h')), if_neg h, List.map_cons, nub_map dx dy r]
theorem nK_shift (dx dy : Int) (l : List Bar) : nK (l.map (Bar.shift dx dy)) = nK l := by
  rw [nK, nK, ends_shift, nub_map, List.length_map]
theorem mem_shift {dx dy : Int} {l : List Bar} {b : Bar} : b ∈ l.map (Bar.shift dx dy) ↔ (⟨b.x - dx, b.y - dy, b.s⟩ : Bar) ∈ l := by
  rw [List.mem_map]
  constructor
  · rintro ⟨c, hc, rfl⟩
    have e : (⟨(c.shift dx dy).x - dx, (c.shift dx dy).y - dy, (c.shift dx dy).s⟩ : Bar) = c :=
      Bar.ext' (show c.x + dx - dx = c.x by omega) (show c.y + dy - dy = c.y by omega) rfl
    rw [e]; exact hc
  · intro h
    exact ⟨_, h, Bar.ext' (show b.x - dx + dx = b.x by omega) (show b.y - dy + dy = b.y by omega) rfl⟩
theorem nM_shift (dx dy : Int) (l : List Bar) : nM (l.map (Bar.shift dx dy)) = nM l := by
  rw [nM, nM, List.countP_map]
  refine List.countP_congr fun b _ => ?_
  have h : ∀ x y s : Int, ((⟨x, y, s⟩ : Bar) ∈ l.map (Bar.shift dx dy)) ↔ (⟨x - dx, y - dy, s⟩ : Bar) ∈ l := fun x y s => mem_shift
  simp only [Function.comp, isMesh, Bar.shift, h]
  rw [show b.x + dx - dx = b.x from by omega, show b.y + dy - dy = b.y from by omega, show b.x + dx - 1 - dx = b.x - 1 from by omega, show b.y + dy + 1 - dy = b.y + 1 from by omega, show b.x + dx + 1 - dx = b.x + 1 from by omega]
  exact Iff.rfl
end Go.Proofs.YtlkeejhaodedmaaGreatDoor.Ck

/- Lists of bars in memory: what it means that a slice holds a list of bars, and that this is kept. -/
namespace Go.Proofs.YtlkeejhaodedmaaGreatDoor
open Go.RowKit

theorem ret_i {a b : Int} (h : a = b) : Ending.returned (.int .i64 a) = .returned (.int .i64 b) := by rw [h]
theorem ret_b {a b : Bool} (h : a = b) : Ending.returned (.bool a) = .returned (.bool b) := by rw [h]

def bv (b : Ck.Bar) : Value := .agg #[.int .i64 b.x, .int .i64 b.y, .int .i64 b.s]
def kv (k : Ck.Knot) : Value := .agg #[.int .i64 k.x, .int .i64 k.y]
def bcells (b : Ck.Bar) : List Value := [.int .i64 b.x, .int .i64 b.y, .int .i64 b.s]
def kcells (k : Ck.Knot) : List Value := [.int .i64 k.x, .int .i64 k.y]

/-- The slice at A holds the bars l, below block B. -/
def RB (w : World) (B : Nat) (A : Option Addr) (l : List Ck.Bar) : Prop :=
  0 < l.length → ∃ b off, A = some ⟨b, off, none⟩ ∧ b < B ∧ ∀ i (h : i < l.length), w.cell? ⟨b, off + i * 3, none⟩ = some (.int .i64 l[i].x) ∧ w.cell? ⟨b, off + i * 3 + 1, none⟩ = some (.int .i64 l[i].y) ∧ w.cell? ⟨b, off + i * 3 + 2, none⟩ = some (.int .i64 l[i].s)
/-- The slice at A holds the knots l, below block B. -/
def RK (w : World) (B : Nat) (A : Option Addr) (l : List Ck.Knot) : Prop :=
  0 < l.length → ∃ b off, A = some ⟨b, off, none⟩ ∧ b < B ∧ ∀ i (h : i < l.length), w.cell? ⟨b, off + i * 2, none⟩ = some (.int .i64 l[i].x) ∧ w.cell? ⟨b, off + i * 2 + 1, none⟩ = some (.int .i64 l[i].y)

theorem RB.below {w w' : World} {B : Nat} {A : Option Addr} {l : List Ck.Bar} (h : RB w B A l) (hb : Below B w w') : RB w' B A l := fun hl => by
  obtain ⟨b, off, rfl, hB, hc⟩ := h hl
  exact ⟨b, off, rfl, hB, fun i hi => ⟨(hb.cell (p := ⟨b, _, none⟩) hB).trans (hc i hi).1, (hb.cell (p := ⟨b, _, none⟩) hB).trans (hc i hi).2.1, (hb.cell (p := ⟨b, _, none⟩) hB).trans (hc i hi).2.2⟩⟩
theorem RB.more {w : World} {B B' : Nat} {A : Option Addr} {l : List Ck.Bar} (h : RB w B A l) (hB : B ≤ B') : RB w B' A l := fun hl => by
  obtain ⟨b, off, h1, h2, hc⟩ := h hl
  exact ⟨b, off, h1, by omega, hc⟩
theorem RK.below {w w' : World} {B : Nat} {A : Option Addr} {l : List Ck.Knot} (h : RK w B A l) (hb : Below B w w') : RK w' B A l := fun hl => by
  obtain ⟨b, off, rfl, hB, hc⟩ := h hl
  exact ⟨b, off, rfl, hB, fun i hi => ⟨(hb.cell (p := ⟨b, _, none⟩) hB).trans (hc i hi).1, (hb.cell (p := ⟨b, _, none⟩) hB).trans (hc i hi).2⟩⟩
theorem RK.more {w : World} {B B' : Nat} {A : Option Addr} {l : List Ck.Knot} (h : RK w B A l) (hB : B ≤ B') : RK w B' A l := fun hl => by
  obtain ⟨b, off, h1, h2, hc⟩ := h hl
  exact ⟨b, off, h1, by omega, hc⟩
theorem below_drewN {B : Nat} {a w : World} (h : Below B a w) (n : Nat) : Below B a (w.drewN n) := ⟨h.os, h.tape, h.output, h.size, h.block⟩
theorem below_drew {B : Nat} {a w : World} (h : Below B a w) : Below B a w.drew := ⟨h.os, h.tape, h.output, h.size, h.block⟩
theorem bcell {W w1 : World} (hb : Below W.heap.size W w1) : (∀ b o, b < W.heap.size → w1.cell? ⟨b, o, none⟩ = W.cell? ⟨b, o, none⟩) ∧ (∀ b o, b < W.heap.size → w1.frozen? ⟨b, o, none⟩ = W.frozen? ⟨b, o, none⟩) :=
  ⟨fun b o h => hb.cell (p := ⟨b, o, none⟩) h, fun b o h => hb.frozen (p := ⟨b, o, none⟩) h⟩
theorem box2 (w : World) (a b : Value) (t : TypeId) : ∃ w1, w1 = w.alloc (.cells #[a, b] t) ∧ w1.cell? ⟨w.heap.size, 0, none⟩ = some a ∧ w1.cell? ⟨w.heap.size, 1, none⟩ = some b ∧ Below w.heap.size w w1 ∧ w.heap.size < w1.heap.size :=
  ⟨_, rfl, by rw [World.cell?_alloc_at _ _ _ _ rfl]; rfl, by rw [World.cell?_alloc_at _ _ _ _ rfl]; rfl, (Below.refl _ _).alloc (Nat.le_refl _) _, by simp⟩
theorem box3 (w : World) (a b c : Value) (t : TypeId) : ∃ w1, w1 = w.alloc (.cells #[a, b, c] t) ∧ w1.cell? ⟨w.heap.size, 0, none⟩ = some a ∧ w1.cell? ⟨w.heap.size, 1, none⟩ = some b ∧ w1.cell? ⟨w.heap.size, 2, none⟩ = some c ∧ Below w.heap.size w w1 ∧ w.heap.size < w1.heap.size :=
  ⟨_, rfl, by rw [World.cell?_alloc_at _ _ _ _ rfl]; rfl, by rw [World.cell?_alloc_at _ _ _ _ rfl]; rfl, by rw [World.cell?_alloc_at _ _ _ _ rfl]; rfl, (Below.refl _ _).alloc (Nat.le_refl _) _, by simp⟩
theorem box33 (w : World) (a b c a' b' c' : Value) (t t' : TypeId) : ∃ w1, w1 = (w.alloc (.cells #[a, b, c] t)).alloc (.cells #[a', b', c'] t') ∧ w1.cell? ⟨w.heap.size, 0, none⟩ = some a ∧ w1.cell? ⟨w.heap.size, 1, none⟩ = some b ∧ w1.cell? ⟨w.heap.size, 2, none⟩ = some c ∧
    w1.cell? ⟨w.heap.size + 1, 0, none⟩ = some a' ∧ w1.cell? ⟨w.heap.size + 1, 1, none⟩ = some b' ∧ w1.cell? ⟨w.heap.size + 1, 2, none⟩ = some c' := by
  obtain ⟨w0, rfl, h0, h1, h2, _, hz⟩ := box3 w a b c t
  have hs : (w.alloc (.cells #[a, b, c] t)).heap.size = w.heap.size + 1 := by simp
  obtain ⟨w1, rfl, k0, k1, k2, hb, _⟩ := box3 (w.alloc (.cells #[a, b, c] t)) a' b' c' t'
  rw [hs] at k0 k1 k2
  exact ⟨_, rfl, (hb.cell (p := ⟨_, _, none⟩) hz).trans h0, (hb.cell (p := ⟨_, _, none⟩) hz).trans h1, (hb.cell (p := ⟨_, _, none⟩) hz).trans h2, k0, k1, k2⟩
end Go.Proofs.YtlkeejhaodedmaaGreatDoor

/- Helpers for chapter 6: errors in their order, boxes of some cells, equality of small structs, numbers. -/
namespace Go.Proofs.YtlkeejhaodedmaaGreatDoor
open Go.RowKit

def fstE : List Int → Int
  | [] => 0
  | e :: r => if e = 0 then fstE r else e
def rngH (n lo hi : Int) : Int := if n < lo ∨ hi < n then 3 else 0
theorem rngH_zero {n lo hi : Int} (h : rngH n lo hi = 0) : lo ≤ n ∧ n ≤ hi := by
  unfold rngH at h
  split at h
  · cases h
  · omega
theorem rngH_in {n lo hi : Int} (h1 : lo ≤ n) (h2 : n ≤ hi) : rngH n lo hi = 0 := by
  unfold rngH
  rw [if_neg (by omega)]
theorem fst1 (a : Int) : fstE [a] = a := by
  simp only [fstE]
  split
  · omega
  · rfl
theorem fst2_zero {a b : Int} (h : fstE [a, b] = 0) : a = 0 ∧ b = 0 := by
  simp only [fstE] at h
  split at h
  · split at h
    · omega
    · contradiction
  · contradiction
theorem fst3_zero {a b c : Int} (h : fstE [a, b, c] = 0) : a = 0 ∧ b = 0 ∧ c = 0 := by
  simp only [fstE] at h
  repeat' split at h
  all_goals first | omega | contradiction
theorem fst4_zero {a b c d : Int} (h : fstE [a, b, c, d] = 0) : a = 0 ∧ b = 0 ∧ c = 0 ∧ d = 0 := by
  simp only [fstE] at h
  repeat' split at h
  all_goals first | omega | contradiction
theorem nzH {E : Int} (h : E ≠ 0) : (E != 0) = true := by rw [bne_iff_ne]; exact h
theorem newBlk (w : World) (o : Obj) : (w.alloc o).heap[w.heap.size]? = some o := heap_alloc_new w o
theorem tw {a w w' : World} (h : Below a.heap.size a w) (hb : Below w.heap.size w w') : Below a.heap.size a w' := h.trans (hb.mono h.size)
theorem boxO (w : World) (o : Obj) : ∃ w1, w1 = w.alloc o ∧ w1.heap[w.heap.size]? = some o ∧ Below w.heap.size w w1 ∧ w.heap.size < w1.heap.size := ⟨_, rfl, newBlk _ _, (Below.refl _ _).alloc (Nat.le_refl _) _, by simp⟩
theorem boxS (w : World) (o : Obj) : ∃ w1, w.alloc o = w1 ∧ w1.heap[w.heap.size]? = some o ∧ Below w.heap.size w w1 ∧ w.heap.size < w1.heap.size := ⟨_, rfl, newBlk _ _, (Below.refl _ _).alloc (Nat.le_refl _) _, by simp⟩
theorem blkT {w w' : World} {g : Nat} {o : Obj} (h : w.heap[g]? = some o) (hb : Below w.heap.size w w') : w'.heap[g]? = some o := (hb.block _ (Array.getElem?_eq_some_iff.1 h).1).trans h
theorem blkSz {w : World} {g : Nat} {o : Obj} (h : w.heap[g]? = some o) : g < w.heap.size := (Array.getElem?_eq_some_iff.1 h).1
theorem cel1 {W : World} {b : Nat} {u : Value} {t : TypeId} (h : W.heap[b]? = some (.cells #[u] t (0, 0))) : W.cell? ⟨b, 0, none⟩ = some u ∧ W.frozen? ⟨b, 0, none⟩ = false := by
  refine ⟨?_, ?_⟩ <;> simp [World.cell?, World.frozen?, h]
theorem cel2 {W : World} {b : Nat} {u v : Value} {t : TypeId} (h : W.heap[b]? = some (.cells #[u, v] t (0, 0))) : W.cell? ⟨b, 0, none⟩ = some u ∧ W.cell? ⟨b, 1, none⟩ = some v ∧ W.frozen? ⟨b, 0, none⟩ = false ∧ W.frozen? ⟨b, 1, none⟩ = false := by
  refine ⟨?_, ?_, ?_, ?_⟩ <;> simp [World.cell?, World.frozen?, h]
theorem cel3 {W : World} {b : Nat} {u v x : Value} {t : TypeId} (h : W.heap[b]? = some (.cells #[u, v, x] t (0, 0))) : W.cell? ⟨b, 0, none⟩ = some u ∧ W.cell? ⟨b, 1, none⟩ = some v ∧ W.cell? ⟨b, 2, none⟩ = some x ∧ W.frozen? ⟨b, 0, none⟩ = false ∧ W.frozen? ⟨b, 1, none⟩ = false ∧ W.frozen? ⟨b, 2, none⟩ = false := by
  refine ⟨?_, ?_, ?_, ?_, ?_, ?_⟩ <;> simp [World.cell?, World.frozen?, h]
theorem cel4 {W : World} {b : Nat} {u v x y : Value} {t : TypeId} (h : W.heap[b]? = some (.cells #[u, v, x, y] t (0, 0))) : W.cell? ⟨b, 0, none⟩ = some u ∧ W.cell? ⟨b, 1, none⟩ = some v ∧ W.cell? ⟨b, 2, none⟩ = some x ∧ W.cell? ⟨b, 3, none⟩ = some y ∧ W.frozen? ⟨b, 0, none⟩ = false ∧ W.frozen? ⟨b, 1, none⟩ = false ∧ W.frozen? ⟨b, 2, none⟩ = false ∧ W.frozen? ⟨b, 3, none⟩ = false := by
  refine ⟨?_, ?_, ?_, ?_, ?_, ?_, ?_, ?_⟩ <;> simp [World.cell?, World.frozen?, h]
/-- A store of two cells into a block of two cells. -/
theorem set2 {W : World} {b : Nat} {u v : Value} {t : TypeId} (h : W.heap[b]? = some (.cells #[u, v] t (0, 0))) (p q : Value) :
    ((W.setCell ⟨b, 0, none⟩ p).setCell ⟨b, 1, none⟩ q).heap[b]? = some (.cells #[p, q] t (0, 0)) ∧ W.grownBy ((W.setCell ⟨b, 0, none⟩ p).setCell ⟨b, 1, none⟩ q) (some b) := by
  have e0 : (W.setCell ⟨b, 0, none⟩ p).heap[b]? = some (.cells #[p, v] t (0, 0)) := by
    simp only [World.setCell, Array.getElem?_modify, if_true, h, Option.map_some]
    rfl
  have e1 : ((W.setCell ⟨b, 0, none⟩ p).setCell ⟨b, 1, none⟩ q).heap[b]? = some (.cells #[p, q] t (0, 0)) := by
    generalize W.setCell ⟨b, 0, none⟩ p = X at *
    simp only [World.setCell, Array.getElem?_modify, if_true, e0, Option.map_some]
    rfl
  refine ⟨e1, ⟨rfl, rfl, rfl, by simp [World.setCell], fun i _ hne => ?_⟩⟩
  have : i ≠ b := fun e => hne (by rw [e])
  exact (Below.heap_setCell _ _ _ i this).trans (Below.heap_setCell _ _ _ i this)
theorem errs2 {w : World} {g : Nat} {a b : Int} {t : TypeId} (h : w.heap[g]? = some (.cells #[.int .i64 a, .int .i64 b] t (0, 0))) : ∀ i (hi : i < [a, b].length), w.cell? ⟨g, i, none⟩ = some (.int .i64 [a, b][i]) := by
  intro i hi
  have hi' : i = 0 ∨ i = 1 := by simp at hi; omega
  rcases hi' with rfl | rfl <;> simp [World.cell?, h]
theorem errs3 {w : World} {g : Nat} {a b c : Int} {t : TypeId} (h : w.heap[g]? = some (.cells #[.int .i64 a, .int .i64 b, .int .i64 c] t (0, 0))) : ∀ i (hi : i < [a, b, c].length), w.cell? ⟨g, i, none⟩ = some (.int .i64 [a, b, c][i]) := by
  intro i hi
  have hi' : i = 0 ∨ i = 1 ∨ i = 2 := by simp at hi; omega
  rcases hi' with rfl | rfl | rfl <;> simp [World.cell?, h]
theorem errs4 {w : World} {g : Nat} {a b c d : Int} {t : TypeId} (h : w.heap[g]? = some (.cells #[.int .i64 a, .int .i64 b, .int .i64 c, .int .i64 d] t (0, 0))) : ∀ i (hi : i < [a, b, c, d].length), w.cell? ⟨g, i, none⟩ = some (.int .i64 [a, b, c, d][i]) := by
  intro i hi
  have hi' : i = 0 ∨ i = 1 ∨ i = 2 ∨ i = 3 := by simp at hi; omega
  rcases hi' with rfl | rfl | rfl | rfl <;> simp [World.cell?, h]
theorem modN (p q : Nat) : (p : Int).tmod (q : Int) = ((p % q : Nat) : Int) := by rw [Int.tmod_eq_emod_of_nonneg (by omega)]; rfl
theorem divN (p q : Nat) : (p : Int).tdiv (q : Int) = ((p / q : Nat) : Int) := by rw [Int.tdiv_eq_ediv_of_nonneg (by omega)]; rfl
theorem wr64 {x : Int} (h1 : -9223372036854775808 ≤ x) (h2 : x ≤ 9223372036854775807) : IntKind.i64.wrap x = x := by rw [IntKind.wrap_i64]; omega

/-! ### equality of small structs -/
set_option maxRecDepth 100000 in
theorem eqRat (a b c d : Int) (r : Bool) (hr : decide (a = c ∧ b = d) = r) (w : World) : (Op.equalIn 10000 23 (.agg #[.int .i64 a, .int .i64 b]) (.agg #[.int .i64 c, .int .i64 d])).run Tryz.prog w = .ok r w := by
  have u3 := Tryz.underlying3
  have a3 := Tryz.isAgg3
  have z3 := Tryz.sizeOf3
  have hS : Tryz.prog.underlying 23 = some (.struct (Tryz.prog.fieldsOf 23)) := by kernel_rfl
  have hp : Tryz.prog.stoodInHeld 23 = false := by kernel_rfl
  subst hr
  rw [show (10000 : Nat) = 9999 + 1 from rfl, run_equalIn_struct w 9999 23 _ _ hS hp]
  simp only [Program.fieldsOf, Tryz.underlying23]
  go_simp
  by_cases h1 : a = c <;> by_cases h2 : b = d <;> simp [h1, h2]
theorem guardRat : Tryz.prog.eqGuardType Tryz.prog.depth 23 = false := by kernel_rfl
set_option maxRecDepth 100000 in
theorem eqSqr (a b c d : Int) (r : Bool) (hr : decide (a = c ∧ b = d) = r) (w : World) : (Op.equalIn 10000 25 (.agg #[.int .i64 a, .int .i64 b]) (.agg #[.int .i64 c, .int .i64 d])).run Tryz.prog w = .ok r w := by
  have u3 := Tryz.underlying3
  have a3 := Tryz.isAgg3
  have z3 := Tryz.sizeOf3
  have hS : Tryz.prog.underlying 25 = some (.struct (Tryz.prog.fieldsOf 25)) := by kernel_rfl
  have hp : Tryz.prog.stoodInHeld 25 = false := by kernel_rfl
  subst hr
  rw [show (10000 : Nat) = 9999 + 1 from rfl, run_equalIn_struct w 9999 25 _ _ hS hp]
  simp only [Program.fieldsOf, Tryz.underlying25]
  go_simp
  by_cases h1 : a = c <;> by_cases h2 : b = d <;> simp [h1, h2]
theorem guardSqr : Tryz.prog.eqGuardType Tryz.prog.depth 25 = false := by kernel_rfl
set_option maxRecDepth 100000 in
theorem eqSq6 (a b c d : Int) (r : Bool) (hr : decide (a = c ∧ b = d) = r) (w : World) : (Op.equalIn 10000 24 (.agg #[.int .i64 a, .int .i64 b]) (.agg #[.int .i64 c, .int .i64 d])).run Tryz.prog w = .ok r w := by
  have u3 := Tryz.underlying3
  have a3 := Tryz.isAgg3
  have z3 := Tryz.sizeOf3
  have hS : Tryz.prog.underlying 24 = some (.struct (Tryz.prog.fieldsOf 24)) := by kernel_rfl
  have hp : Tryz.prog.stoodInHeld 24 = false := by kernel_rfl
  subst hr
  rw [show (10000 : Nat) = 9999 + 1 from rfl, run_equalIn_struct w 9999 24 _ _ hS hp]
  simp only [Program.fieldsOf, Tryz.underlying24]
  go_simp
  by_cases h1 : a = c <;> by_cases h2 : b = d <;> simp [h1, h2]
theorem guardSq6 : Tryz.prog.eqGuardType Tryz.prog.depth 24 = false := by kernel_rfl

/-! ### lowest terms -/
def qn (a b : Nat) : Nat := a / a.gcd b
def qd (a b : Nat) : Nat := b / a.gcd b
theorem qn_le (a b : Nat) : qn a b ≤ a := Nat.div_le_self _ _
theorem qd_le (a b : Nat) : qd a b ≤ b := Nat.div_le_self _ _
theorem qd_pos {a b : Nat} (h : 0 < b) : 0 < qd a b := Nat.div_pos (Nat.le_of_dvd h (Nat.gcd_dvd_right _ _)) (Nat.gcd_pos_of_pos_right _ h)
theorem lowest_iff {a b : Nat} (h : 0 < b) : (qn a b = a ∧ qd a b = b) ↔ a.gcd b = 1 := by
  constructor
  · intro ⟨_, h2⟩
    have hg : 0 < a.gcd b := Nat.gcd_pos_of_pos_right _ h
    unfold qd at h2
    obtain ⟨k, hk⟩ := Nat.gcd_dvd_right a b
    have hbk : b / a.gcd b = k := by
      conv => lhs; lhs; rw [hk]
      rw [Nat.mul_div_cancel_left _ hg]
    rw [hbk] at h2
    have hk0 : 0 < k := by omega
    have : a.gcd b * k = 1 * k := by omega
    exact Nat.eq_of_mul_eq_mul_right hk0 this
  · intro hg
    unfold qn qd
    rw [hg]
    simp
end Go.Proofs.YtlkeejhaodedmaaGreatDoor

/- IsName of the reference and of the program, at every string. -/
namespace Go.Proofs.YtlkeejhaodedmaaGreatDoor
open Go.RowKit

def nmC (z : Bool) (c : Nat) : Bool := (decide (65 ≤ c) && decide (c ≤ 90)) || (decide (97 ≤ c) && decide (c ≤ 122)) || (!z && ((decide (48 ≤ c) && decide (c ≤ 57)) || decide (c = 95)))
def nmG : Bool → List UInt8 → Bool
  | _, [] => true
  | z, c :: r => nmC z c.toNat && nmG false r
def nameB (s : ByteArray) : Bool := decide (1 ≤ s.size) && (decide (s.size ≤ 24) && nmG true s.data.toList)
theorem nm_cls (z : Bool) (d : Nat) : (97 ≤ d ∧ d ≤ 122 ∧ nmC z d = true) ∨ (65 ≤ d ∧ d ≤ 90 ∧ nmC z d = true) ∨ (d < 48 ∧ nmC z d = false) ∨ (48 ≤ d ∧ d ≤ 57 ∧ nmC z d = !z) ∨ (58 ≤ d ∧ d ≤ 64 ∧ nmC z d = false) ∨ (91 ≤ d ∧ d ≤ 96 ∧ d ≠ 95 ∧ nmC z d = false) ∨ (d = 95 ∧ nmC z d = !z) ∨ (122 < d ∧ nmC z d = false) := by
  have key : nmC z d = true ↔ (65 ≤ d ∧ d ≤ 90) ∨ (97 ≤ d ∧ d ≤ 122) ∨ (z = false ∧ ((48 ≤ d ∧ d ≤ 57) ∨ d = 95)) := by
    simp [nmC, or_assoc]
  have keyF : nmC z d = false ↔ ¬ ((65 ≤ d ∧ d ≤ 90) ∨ (97 ≤ d ∧ d ≤ 122) ∨ (z = false ∧ ((48 ≤ d ∧ d ≤ 57) ∨ d = 95))) := by
    rw [← key]; simp
  by_cases h1 : 97 ≤ d
  · by_cases h2 : d ≤ 122
    · exact .inl ⟨h1, h2, key.2 (.inr (.inl ⟨h1, h2⟩))⟩
    · exact .inr (.inr (.inr (.inr (.inr (.inr (.inr ⟨by omega, keyF.2 (by omega)⟩))))))
  · by_cases h3 : 65 ≤ d
    · by_cases h4 : d ≤ 90
      · exact .inr (.inl ⟨h3, h4, key.2 (.inl ⟨h3, h4⟩)⟩)
      · by_cases h5 : d = 95
        · refine .inr (.inr (.inr (.inr (.inr (.inr (.inl ⟨h5, ?_⟩))))))
          cases z
          · exact key.2 (.inr (.inr ⟨rfl, .inr h5⟩))
          · exact keyF.2 (by rintro (h | h | h) <;> first | omega | cases h.1)
        · exact .inr (.inr (.inr (.inr (.inr (.inl ⟨by omega, by omega, h5, keyF.2 (by omega)⟩)))))
    · by_cases h4 : d < 48
      · exact .inr (.inr (.inl ⟨h4, keyF.2 (by omega)⟩))
      · by_cases h5 : d ≤ 57
        · refine .inr (.inr (.inr (.inl ⟨by omega, h5, ?_⟩)))
          cases z
          · exact key.2 (.inr (.inr ⟨rfl, .inl ⟨by omega, h5⟩⟩))
          · exact keyF.2 (by rintro (h | h | h) <;> first | omega | cases h.1)
        · exact .inr (.inr (.inr (.inr (.inl ⟨by omega, by omega, keyF.2 (by omega)⟩))))
theorem nmG_step {z : Bool} {c : UInt8} {r : List UInt8} {R : Bool} (h : nmG z (c :: r) = R) (hc : nmC z c.toNat = true) : nmG false r = R := by
  rw [← h, nmG, hc]; rfl
theorem nmG_no {z : Bool} {c : UInt8} {r : List UInt8} {R : Bool} (h : nmG z (c :: r) = R) (hc : nmC z c.toNat = false) : false = R := by
  rw [← h, nmG, hc]; rfl
theorem netIsLetter (r : Int) (b : Bool) (w : World) (hb : ((65 ≤ r ∧ r ≤ 90) ∨ (97 ≤ r ∧ r ≤ 122)) ↔ b = true) : Calls Tryz.prog 144 #[.int .i32 r] w fun e w' => e = .returned (.bool b) ∧ w = w' := by
  by_cases h1 : 65 ≤ r <;> by_cases h2 : r ≤ 90 <;> by_cases h3 : 97 ≤ r <;> by_cases h4 : r ≤ 122
  all_goals first
    | (exfalso; omega)
    | (have hb' : b = true := hb.1 (by omega)
       subst hb'
       clear hb
       go_enter Tryz.func144, Tryz.ntmps144
       go_wp2
       go_ret
       simp)
    | (have hb' : b = false := by
         cases b
         · rfl
         · have := hb.2 rfl
           omega
       subst hb'
       clear hb
       go_enter Tryz.func144, Tryz.ntmps144
       go_wp2
       go_ret
       simp)
theorem netIsDigit (r : Int) (b : Bool) (w : World) (hb : (48 ≤ r ∧ r ≤ 57) ↔ b = true) : Calls Tryz.prog 145 #[.int .i32 r] w fun e w' => e = .returned (.bool b) ∧ w = w' := by
  by_cases h1 : 48 ≤ r <;> by_cases h2 : r ≤ 57
  all_goals first
    | (exfalso; omega)
    | (have hb' : b = true := hb.1 (by omega)
       subst hb'
       clear hb
       go_enter Tryz.func145, Tryz.ntmps145
       go_wp2
       go_ret
       simp)
    | (have hb' : b = false := by
         cases b
         · rfl
         · have := hb.2 rfl
           omega
       subst hb'
       clear hb
       go_enter Tryz.func145, Tryz.ntmps145
       go_wp2
       go_ret
       simp)
theorem nameB_zero {s : ByteArray} (h : s.size = 0) : nameB s = false := by simp [nameB, h]
theorem nameB_big {s : ByteArray} (h : 24 < s.size) : nameB s = false := by simp [nameB]; omega
theorem nameB_mid {s : ByteArray} (h1 : 1 ≤ s.size) (h2 : s.size ≤ 24) : nameB s = nmG true s.data.toList := by simp [nameB, h1, h2]

set_option maxHeartbeats 8000000 in
set_option maxRecDepth 100000 in
theorem refIsName (s : ByteArray) (w : World) : Calls Tryz.prog 104 #[.string s] w fun e w' => e = .returned (.bool (nameB s)) ∧ w = w' := by
  by_cases hz : s.size = 0
  · have h0 : ((s.size : Int) == 0) = true := by rw [beq_iff_eq]; omega
    rw [nameB_zero hz]
    go_enter Tryz.func104, Tryz.ntmps104
    go_wp2
    go_ret
    simp
  by_cases hb : 24 < s.size
  · have h0 : ((s.size : Int) == 0) = false := by rw [beq_eq_false_iff_ne]; omega
    have h1 : (24 : Int) < (s.size : Int) := by omega
    rw [nameB_big hb]
    go_enter Tryz.func104, Tryz.ntmps104
    go_wp2
    go_ret
    simp
  rw [nameB_mid (by omega) (by omega)]
  have h0 : ((s.size : Int) == 0) = false := by rw [beq_eq_false_iff_ne]; omega
  have h1 : ¬ (24 : Int) < (s.size : Int) := by omega
  obtain ⟨L, hL⟩ : ∃ L, s.data.toList = L := ⟨_, rfl⟩
  have hsz : L.length = s.size := by rw [← hL, ← Lib.size_eq]
  obtain ⟨R, hR⟩ : ∃ R, nmG true L = R := ⟨_, rfl⟩
  rw [hL, hR]
  have HL := Lib.hid hL
  have HZ := Lib.hid hsz
  have HR := Lib.hid hR
  clear hL hsz hR
  go_enter Tryz.func104, Tryz.ntmps104
  go_wp2_with fail
  go_loopw [3] (fun i wr => ∃ k : Nat, k ≤ s.size ∧ i = .int .i64 k ∧ nmG (decide (k = 0)) (L.drop k) = R ∧ w = wr) (fun i _ => s.size - (intOf i).toNat)
  case atStart => exact ⟨0, Nat.zero_le _, rfl, HR.out, rfl⟩
  case round =>
    obtain ⟨k, hk, rfl, hG, rfl⟩ := hrel
    by_cases hlt : k < s.size
    · have b0 : (0 : Int) ≤ (k : Int) := by omega
      have b1 : (k : Int) < (s.size : Int) := by omega
      have hkl : k < L.length := by have := HZ.out; omega
      have hel : s[k]'hlt = L[k]'hkl := by
        have hkd : k < s.data.toList.length := by rw [HL.out]; exact hkl
        rw [← show s.data.toList[k] = s[k] from by rw [Array.getElem_toList]; rfl]
        simp only [HL.out]
      rw [List.drop_eq_getElem_cons hkl] at hG
      obtain ⟨c, hc0⟩ : ∃ c, L[k] = c := ⟨_, rfl⟩
      rw [hc0] at hG hel
      have HG := Lib.hid hG
      clear hG hc0
      have kn : decide (k + 1 = 0) = false := by simp
      by_cases k0 : k = 0
      · have hz0 : ((k : Int) == 0) = true := by rw [beq_iff_eq]; omega
        rw [show decide (k = 0) = true by simp [k0]] at HG
        clear k0
        rcases nm_cls true c.toNat with ⟨x1, x2, hc⟩ | ⟨x1, x2, hc⟩ | ⟨x1, hc⟩ | ⟨x1, x2, hc⟩ | ⟨x1, x2, hc⟩ | ⟨x1, x2, x3, hc⟩ | ⟨x1, hc⟩ | ⟨x1, hc⟩
        · have g0 : (97 : Int) ≤ (c.toNat : Int) := by omega
          have g1 : (c.toNat : Int) ≤ 122 := by omega
          have HN := Lib.hid (nmG_step HG.out hc)
          clear HG hc
          go_wp2
          go_roundw
          case rel => exact ⟨k + 1, by omega, by go_num, by rw [kn]; exact HN.out, by first | rfl | trivial⟩
          case measure => simp [intOf]; omega
        · have g0 : ¬ (97 : Int) ≤ (c.toNat : Int) := by omega
          have g1 : (65 : Int) ≤ (c.toNat : Int) := by omega
          have g2 : (c.toNat : Int) ≤ 90 := by omega
          have HN := Lib.hid (nmG_step HG.out hc)
          clear HG hc
          go_wp2
          go_roundw
          case rel => exact ⟨k + 1, by omega, by go_num, by rw [kn]; exact HN.out, by first | rfl | trivial⟩
          case measure => simp [intOf]; omega
        · have g0 : ¬ (97 : Int) ≤ (c.toNat : Int) := by omega
          have g1 : ¬ (65 : Int) ≤ (c.toNat : Int) := by omega
          have gn : ((c.toNat : Int) != 95) = true := by rw [bne_iff_ne]; omega
          have gl : (c.toNat : Int) < 48 := by omega
          have HN := Lib.hid (nmG_no HG.out hc)
          clear HG hc
          go_wp2
          go_ret
          exact ⟨by rw [← HN.out]; rfl, rfl⟩
        · have g0 : ¬ (97 : Int) ≤ (c.toNat : Int) := by omega
          have g1 : ¬ (65 : Int) ≤ (c.toNat : Int) := by omega
          have gn : ((c.toNat : Int) != 95) = true := by rw [bne_iff_ne]; omega
          have gl : ¬ (c.toNat : Int) < 48 := by omega
          have gg : ¬ (57 : Int) < (c.toNat : Int) := by omega
          have HN := Lib.hid (nmG_no HG.out hc)
          clear HG hc
          go_wp2
          go_ret
          exact ⟨by rw [← HN.out]; rfl, rfl⟩
        · have g0 : ¬ (97 : Int) ≤ (c.toNat : Int) := by omega
          have g1 : ¬ (65 : Int) ≤ (c.toNat : Int) := by omega
          have gn : ((c.toNat : Int) != 95) = true := by rw [bne_iff_ne]; omega
          have gl : ¬ (c.toNat : Int) < 48 := by omega
          have gg : (57 : Int) < (c.toNat : Int) := by omega
          have HN := Lib.hid (nmG_no HG.out hc)
          clear HG hc
          go_wp2
          go_ret
          exact ⟨by rw [← HN.out]; rfl, rfl⟩
        · have g0 : ¬ (97 : Int) ≤ (c.toNat : Int) := by omega
          have g1 : (65 : Int) ≤ (c.toNat : Int) := by omega
          have g2 : ¬ (c.toNat : Int) ≤ 90 := by omega
          have gn : ((c.toNat : Int) != 95) = true := by rw [bne_iff_ne]; omega
          have gl : ¬ (c.toNat : Int) < 48 := by omega
          have gg : (57 : Int) < (c.toNat : Int) := by omega
          have HN := Lib.hid (nmG_no HG.out hc)
          clear HG hc
          go_wp2
          go_ret
          exact ⟨by rw [← HN.out]; rfl, rfl⟩
        · have g0 : ¬ (97 : Int) ≤ (c.toNat : Int) := by omega
          have g1 : (65 : Int) ≤ (c.toNat : Int) := by omega
          have g2 : ¬ (c.toNat : Int) ≤ 90 := by omega
          have gn : ((c.toNat : Int) != 95) = false := by simp; omega
          have HN := Lib.hid (nmG_no HG.out hc)
          clear HG hc
          go_wp2
          go_ret
          exact ⟨by rw [← HN.out]; rfl, rfl⟩
        · have g0 : (97 : Int) ≤ (c.toNat : Int) := by omega
          have g1 : ¬ (c.toNat : Int) ≤ 122 := by omega
          have g2 : (65 : Int) ≤ (c.toNat : Int) := by omega
          have g3 : ¬ (c.toNat : Int) ≤ 90 := by omega
          have gn : ((c.toNat : Int) != 95) = true := by rw [bne_iff_ne]; omega
          have gl : ¬ (c.toNat : Int) < 48 := by omega
          have gg : (57 : Int) < (c.toNat : Int) := by omega
          have HN := Lib.hid (nmG_no HG.out hc)
          clear HG hc
          go_wp2
          go_ret
          exact ⟨by rw [← HN.out]; rfl, rfl⟩
      · have hz0 : ((k : Int) == 0) = false := by rw [beq_eq_false_iff_ne]; omega
        rw [show decide (k = 0) = false by simp [k0]] at HG
        rcases nm_cls false c.toNat with ⟨x1, x2, hc⟩ | ⟨x1, x2, hc⟩ | ⟨x1, hc⟩ | ⟨x1, x2, hc⟩ | ⟨x1, x2, hc⟩ | ⟨x1, x2, x3, hc⟩ | ⟨x1, hc⟩ | ⟨x1, hc⟩
        · have g0 : (97 : Int) ≤ (c.toNat : Int) := by omega
          have g1 : (c.toNat : Int) ≤ 122 := by omega
          have HN := Lib.hid (nmG_step HG.out hc)
          clear HG hc
          go_wp2
          go_roundw
          case rel => exact ⟨k + 1, by omega, by go_num, by rw [kn]; exact HN.out, by first | rfl | trivial⟩
          case measure => simp [intOf]; omega
        · have g0 : ¬ (97 : Int) ≤ (c.toNat : Int) := by omega
          have g1 : (65 : Int) ≤ (c.toNat : Int) := by omega
          have g2 : (c.toNat : Int) ≤ 90 := by omega
          have HN := Lib.hid (nmG_step HG.out hc)
          clear HG hc
          go_wp2
          go_roundw
          case rel => exact ⟨k + 1, by omega, by go_num, by rw [kn]; exact HN.out, by first | rfl | trivial⟩
          case measure => simp [intOf]; omega
        · have g0 : ¬ (97 : Int) ≤ (c.toNat : Int) := by omega
          have g1 : ¬ (65 : Int) ≤ (c.toNat : Int) := by omega
          have gn : ((c.toNat : Int) != 95) = true := by rw [bne_iff_ne]; omega
          have gl : (c.toNat : Int) < 48 := by omega
          have HN := Lib.hid (nmG_no HG.out hc)
          clear HG hc
          go_wp2
          go_ret
          exact ⟨by rw [← HN.out]; rfl, rfl⟩
        · have g0 : ¬ (97 : Int) ≤ (c.toNat : Int) := by omega
          have g1 : ¬ (65 : Int) ≤ (c.toNat : Int) := by omega
          have gn : ((c.toNat : Int) != 95) = true := by rw [bne_iff_ne]; omega
          have gl : ¬ (c.toNat : Int) < 48 := by omega
          have gg : ¬ (57 : Int) < (c.toNat : Int) := by omega
          have HN := Lib.hid (nmG_step HG.out hc)
          clear HG hc
          go_wp2
          go_roundw
          case rel => exact ⟨k + 1, by omega, by go_num, by rw [kn]; exact HN.out, by first | rfl | trivial⟩
          case measure => simp [intOf]; omega
        · have g0 : ¬ (97 : Int) ≤ (c.toNat : Int) := by omega
          have g1 : ¬ (65 : Int) ≤ (c.toNat : Int) := by omega
          have gn : ((c.toNat : Int) != 95) = true := by rw [bne_iff_ne]; omega
          have gl : ¬ (c.toNat : Int) < 48 := by omega
          have gg : (57 : Int) < (c.toNat : Int) := by omega
          have HN := Lib.hid (nmG_no HG.out hc)
          clear HG hc
          go_wp2
          go_ret
          exact ⟨by rw [← HN.out]; rfl, rfl⟩
        · have g0 : ¬ (97 : Int) ≤ (c.toNat : Int) := by omega
          have g1 : (65 : Int) ≤ (c.toNat : Int) := by omega
          have g2 : ¬ (c.toNat : Int) ≤ 90 := by omega
          have gn : ((c.toNat : Int) != 95) = true := by rw [bne_iff_ne]; omega
          have gl : ¬ (c.toNat : Int) < 48 := by omega
          have gg : (57 : Int) < (c.toNat : Int) := by omega
          have HN := Lib.hid (nmG_no HG.out hc)
          clear HG hc
          go_wp2
          go_ret
          exact ⟨by rw [← HN.out]; rfl, rfl⟩
        · have g0 : ¬ (97 : Int) ≤ (c.toNat : Int) := by omega
          have g1 : (65 : Int) ≤ (c.toNat : Int) := by omega
          have g2 : ¬ (c.toNat : Int) ≤ 90 := by omega
          have gn : ((c.toNat : Int) != 95) = false := by simp; omega
          have HN := Lib.hid (nmG_step HG.out hc)
          clear HG hc
          go_wp2
          go_roundw
          case rel => exact ⟨k + 1, by omega, by go_num, by rw [kn]; exact HN.out, by first | rfl | trivial⟩
          case measure => simp [intOf]; omega
        · have g0 : (97 : Int) ≤ (c.toNat : Int) := by omega
          have g1 : ¬ (c.toNat : Int) ≤ 122 := by omega
          have g2 : (65 : Int) ≤ (c.toNat : Int) := by omega
          have g3 : ¬ (c.toNat : Int) ≤ 90 := by omega
          have gn : ((c.toNat : Int) != 95) = true := by rw [bne_iff_ne]; omega
          have gl : ¬ (c.toNat : Int) < 48 := by omega
          have gg : (57 : Int) < (c.toNat : Int) := by omega
          have HN := Lib.hid (nmG_no HG.out hc)
          clear HG hc
          go_wp2
          go_ret
          exact ⟨by rw [← HN.out]; rfl, rfl⟩
    · have hd : L.drop k = [] := List.drop_of_length_le (by have := HZ.out; omega)
      rw [hd] at hG
      have HN := Lib.hid (show true = R from hG)
      have b1 : ¬ (k : Int) < (s.size : Int) := by omega
      clear hG hd
      go_wp2
      go_ret
      exact ⟨by rw [← HN.out]; rfl, rfl⟩

set_option maxHeartbeats 8000000 in
set_option maxRecDepth 100000 in
theorem netIsName (s : ByteArray) (w : World) : Calls Tryz.prog 132 #[.string s] w fun e w' => e = .returned (.bool (nameB s)) ∧ Below w.heap.size w w' := by
  by_cases hz : s.size = 0
  · have h0 : (s.size : Int) < 1 := by omega
    rw [nameB_zero hz]
    go_enter Tryz.func132, Tryz.ntmps132
    go_wp2
    go_ret
    exact ⟨by simp, Below.refl _ _⟩
  by_cases hb : 24 < s.size
  · have h0 : ¬ (s.size : Int) < 1 := by omega
    have h1 : (24 : Int) < (s.size : Int) := by omega
    rw [nameB_big hb]
    go_enter Tryz.func132, Tryz.ntmps132
    go_wp2
    go_ret
    exact ⟨by simp, Below.refl _ _⟩
  rw [nameB_mid (by omega) (by omega)]
  have h0 : ¬ (s.size : Int) < 1 := by omega
  have h1 : ¬ (24 : Int) < (s.size : Int) := by omega
  obtain ⟨L, hL⟩ : ∃ L, s.data.toList = L := ⟨_, rfl⟩
  have hsz : L.length = s.size := by rw [← hL, ← Lib.size_eq]
  obtain ⟨R, hR⟩ : ∃ R, nmG true L = R := ⟨_, rfl⟩
  rw [hL, hR]
  have HL := Lib.hid hL
  have HZ := Lib.hid hsz
  have HR := Lib.hid hR
  clear hL hsz hR
  obtain ⟨w1, hw1⟩ : ∃ w1, w1 = w.iter s 0 := ⟨_, rfl⟩
  have it1 : w1.heap[w.heap.size]? = some (.stringIter s 0) := by rw [hw1]; exact World.iter_heap w s 0
  have hb1 : Below w.heap.size w w1 := by rw [hw1]; exact (Below.refl _ _).alloc (Nat.le_refl _) (.stringIter s 0)
  have HW1 := Lib.hid hw1
  clear hw1
  go_enter Tryz.func132, Tryz.ntmps132
  go_wp2_with fail
  rw [← HW1.out]
  go_loopw [] (fun wr => ∃ pos : Nat, pos ≤ L.length ∧ wr.heap[w.heap.size]? = some (.stringIter s pos) ∧ Below w.heap.size w wr ∧ nmG (decide (pos = 0)) (L.drop pos) = R) (fun wr => s.size - wr.iterPos w.heap.size)
  case atStart => exact ⟨0, Nat.zero_le _, it1, hb1, HR.out⟩
  case round =>
    obtain ⟨pos, hpos, hit, hb, hG⟩ := hrel
    have hln := HZ.out
    clear it1 hb1
    by_cases hp : pos < s.size
    · have hpl : pos < L.length := by omega
      have hel : s[pos]'hp = L[pos]'hpl := by
        have hkd : pos < s.data.toList.length := by rw [HL.out]; exact hpl
        rw [← show s.data.toList[pos] = s[pos] from by rw [Array.getElem_toList]; rfl]
        simp only [HL.out]
      rw [List.drop_eq_getElem_cons hpl] at hG
      obtain ⟨c, hc0⟩ : ∃ c, L[pos] = c := ⟨_, rfl⟩
      rw [hc0] at hG hel
      have HG := Lib.hid hG
      have hmu : wr.iterPos w.heap.size = pos := by simp [World.iterPos, hit]
      have kn : decide (pos + 1 = 0) = false := by simp
      have p0 : (0 : Int) ≤ (pos : Int) := by omega
      clear hG hc0
      by_cases ha : c.toNat < 128
      · have hnext : ∀ ty, (Instr.next (.pointer (some ⟨w.heap.size, 0, none⟩)) true ty).run Tryz.prog wr = _ := fun ty => Lib.run_next_ascii_at wr w.heap.size s pos ty hit hp (by rw [hel]; exact ha)
        rw [hel] at hnext
        have hit1 := Lib.iterAt_heap wr w.heap.size s pos (pos + 1) hit
        have hb1' : Below w.heap.size w (wr.iterAt w.heap.size s (pos + 1)) := Lib.below_iterAt hb (Nat.le_refl _) s (pos + 1)
        generalize wr.iterAt w.heap.size s (pos + 1) = W1 at hnext hit1 hb1'
        have hmu1 : W1.iterPos w.heap.size = pos + 1 := by simp [World.iterPos, hit1]
        clear hel hit hb
        by_cases k0 : pos = 0
        · have hz0 : ((pos : Int) == 0) = true := by rw [beq_iff_eq]; omega
          rw [show decide (pos = 0) = true by simp [k0]] at HG
          rcases nm_cls true c.toNat with ⟨x1, x2, hc⟩ | ⟨x1, x2, hc⟩ | ⟨x1, hc⟩ | ⟨x1, x2, hc⟩ | ⟨x1, x2, hc⟩ | ⟨x1, x2, x3, hc⟩ | ⟨x1, hc⟩ | ⟨x1, hc⟩
          · have HN := Lib.hid (nmG_step HG.out hc)
            clear HG hc
            go_wp2_with fail
            refine (netIsLetter _ true _ (by simp <;> omega)).mono ?_
            rintro e W2 ⟨rfl, rfl⟩
            go_wp2
            go_roundw
            case rel => exact ⟨pos + 1, by omega, hit1, hb1', by rw [kn]; exact HN.out⟩
            case measure => rw [hmu, hmu1]; omega
          · have HN := Lib.hid (nmG_step HG.out hc)
            clear HG hc
            go_wp2_with fail
            refine (netIsLetter _ true _ (by simp <;> omega)).mono ?_
            rintro e W2 ⟨rfl, rfl⟩
            go_wp2
            go_roundw
            case rel => exact ⟨pos + 1, by omega, hit1, hb1', by rw [kn]; exact HN.out⟩
            case measure => rw [hmu, hmu1]; omega
          · have gn : ((c.toNat : Int) != 95) = true := by rw [bne_iff_ne]; omega
            have HN := Lib.hid (nmG_no HG.out hc)
            clear HG hc
            go_wp2_with fail
            refine (netIsLetter _ false _ (by simp <;> omega)).mono ?_
            rintro e W2 ⟨rfl, rfl⟩
            go_wp2
            go_ret
            exact ⟨by rw [← HN.out]; rfl, hb1'⟩
          · have gn : ((c.toNat : Int) != 95) = true := by rw [bne_iff_ne]; omega
            have HN := Lib.hid (nmG_no HG.out hc)
            clear HG hc
            go_wp2_with fail
            refine (netIsLetter _ false _ (by simp <;> omega)).mono ?_
            rintro e W2 ⟨rfl, rfl⟩
            go_wp2
            go_ret
            exact ⟨by rw [← HN.out]; rfl, hb1'⟩
          · have gn : ((c.toNat : Int) != 95) = true := by rw [bne_iff_ne]; omega
            have HN := Lib.hid (nmG_no HG.out hc)
            clear HG hc
            go_wp2_with fail
            refine (netIsLetter _ false _ (by simp <;> omega)).mono ?_
            rintro e W2 ⟨rfl, rfl⟩
            go_wp2
            go_ret
            exact ⟨by rw [← HN.out]; rfl, hb1'⟩
          · have gn : ((c.toNat : Int) != 95) = true := by rw [bne_iff_ne]; omega
            have HN := Lib.hid (nmG_no HG.out hc)
            clear HG hc
            go_wp2_with fail
            refine (netIsLetter _ false _ (by simp <;> omega)).mono ?_
            rintro e W2 ⟨rfl, rfl⟩
            go_wp2
            go_ret
            exact ⟨by rw [← HN.out]; rfl, hb1'⟩
          · have gn : ((c.toNat : Int) != 95) = false := by simp; omega
            have HN := Lib.hid (nmG_no HG.out hc)
            clear HG hc
            go_wp2_with fail
            refine (netIsLetter _ false _ (by simp <;> omega)).mono ?_
            rintro e W2 ⟨rfl, rfl⟩
            go_wp2
            go_ret
            exact ⟨by rw [← HN.out]; rfl, hb1'⟩
          · have gn : ((c.toNat : Int) != 95) = true := by rw [bne_iff_ne]; omega
            have HN := Lib.hid (nmG_no HG.out hc)
            clear HG hc
            go_wp2_with fail
            refine (netIsLetter _ false _ (by simp <;> omega)).mono ?_
            rintro e W2 ⟨rfl, rfl⟩
            go_wp2
            go_ret
            exact ⟨by rw [← HN.out]; rfl, hb1'⟩
        · have hz0 : ((pos : Int) == 0) = false := by rw [beq_eq_false_iff_ne]; omega
          rw [show decide (pos = 0) = false by simp [k0]] at HG
          rcases nm_cls false c.toNat with ⟨x1, x2, hc⟩ | ⟨x1, x2, hc⟩ | ⟨x1, hc⟩ | ⟨x1, x2, hc⟩ | ⟨x1, x2, hc⟩ | ⟨x1, x2, x3, hc⟩ | ⟨x1, hc⟩ | ⟨x1, hc⟩
          · have HN := Lib.hid (nmG_step HG.out hc)
            clear HG hc
            go_wp2_with fail
            refine (netIsLetter _ true _ (by simp <;> omega)).mono ?_
            rintro e W2 ⟨rfl, rfl⟩
            go_wp2
            go_roundw
            case rel => exact ⟨pos + 1, by omega, hit1, hb1', by rw [kn]; exact HN.out⟩
            case measure => rw [hmu, hmu1]; omega
          · have HN := Lib.hid (nmG_step HG.out hc)
            clear HG hc
            go_wp2_with fail
            refine (netIsLetter _ true _ (by simp <;> omega)).mono ?_
            rintro e W2 ⟨rfl, rfl⟩
            go_wp2
            go_roundw
            case rel => exact ⟨pos + 1, by omega, hit1, hb1', by rw [kn]; exact HN.out⟩
            case measure => rw [hmu, hmu1]; omega
          · have gn : ((c.toNat : Int) != 95) = true := by rw [bne_iff_ne]; omega
            have HN := Lib.hid (nmG_no HG.out hc)
            clear HG hc
            go_wp2_with fail
            refine (netIsLetter _ false _ (by simp <;> omega)).mono ?_
            rintro e W2 ⟨rfl, rfl⟩
            go_wp2_with fail
            refine (netIsDigit _ false _ (by simp <;> omega)).mono ?_
            rintro e W2 ⟨rfl, rfl⟩
            go_wp2
            go_ret
            exact ⟨by rw [← HN.out]; rfl, hb1'⟩
          · have gn : ((c.toNat : Int) != 95) = true := by rw [bne_iff_ne]; omega
            have HN := Lib.hid (nmG_step HG.out hc)
            clear HG hc
            go_wp2_with fail
            refine (netIsLetter _ false _ (by simp <;> omega)).mono ?_
            rintro e W2 ⟨rfl, rfl⟩
            go_wp2_with fail
            refine (netIsDigit _ true _ (by simp <;> omega)).mono ?_
            rintro e W2 ⟨rfl, rfl⟩
            go_wp2
            go_roundw
            case rel => exact ⟨pos + 1, by omega, hit1, hb1', by rw [kn]; exact HN.out⟩
            case measure => rw [hmu, hmu1]; omega
          · have gn : ((c.toNat : Int) != 95) = true := by rw [bne_iff_ne]; omega
            have HN := Lib.hid (nmG_no HG.out hc)
            clear HG hc
            go_wp2_with fail
            refine (netIsLetter _ false _ (by simp <;> omega)).mono ?_
            rintro e W2 ⟨rfl, rfl⟩
            go_wp2_with fail
            refine (netIsDigit _ false _ (by simp <;> omega)).mono ?_
            rintro e W2 ⟨rfl, rfl⟩
            go_wp2
            go_ret
            exact ⟨by rw [← HN.out]; rfl, hb1'⟩
          · have gn : ((c.toNat : Int) != 95) = true := by rw [bne_iff_ne]; omega
            have HN := Lib.hid (nmG_no HG.out hc)
            clear HG hc
            go_wp2_with fail
            refine (netIsLetter _ false _ (by simp <;> omega)).mono ?_
            rintro e W2 ⟨rfl, rfl⟩
            go_wp2_with fail
            refine (netIsDigit _ false _ (by simp <;> omega)).mono ?_
            rintro e W2 ⟨rfl, rfl⟩
            go_wp2
            go_ret
            exact ⟨by rw [← HN.out]; rfl, hb1'⟩
          · have gn : ((c.toNat : Int) != 95) = false := by simp; omega
            have HN := Lib.hid (nmG_step HG.out hc)
            clear HG hc
            go_wp2_with fail
            refine (netIsLetter _ false _ (by simp <;> omega)).mono ?_
            rintro e W2 ⟨rfl, rfl⟩
            go_wp2_with fail
            refine (netIsDigit _ false _ (by simp <;> omega)).mono ?_
            rintro e W2 ⟨rfl, rfl⟩
            go_wp2
            go_roundw
            case rel => exact ⟨pos + 1, by omega, hit1, hb1', by rw [kn]; exact HN.out⟩
            case measure => rw [hmu, hmu1]; omega
          · have gn : ((c.toNat : Int) != 95) = true := by rw [bne_iff_ne]; omega
            have HN := Lib.hid (nmG_no HG.out hc)
            clear HG hc
            go_wp2_with fail
            refine (netIsLetter _ false _ (by simp <;> omega)).mono ?_
            rintro e W2 ⟨rfl, rfl⟩
            go_wp2_with fail
            refine (netIsDigit _ false _ (by simp <;> omega)).mono ?_
            rintro e W2 ⟨rfl, rfl⟩
            go_wp2
            go_ret
            exact ⟨by rw [← HN.out]; rfl, hb1'⟩
      · have hnC : nmC (decide (pos = 0)) c.toNat = false := by
          rcases nm_cls (decide (pos = 0)) c.toNat with ⟨x1, x2, hc⟩ | ⟨x1, x2, hc⟩ | ⟨x1, hc⟩ | ⟨x1, x2, hc⟩ | ⟨x1, x2, hc⟩ | ⟨x1, x2, x3, hc⟩ | ⟨x1, hc⟩ | ⟨x1, hc⟩ <;> first | exact hc | (exfalso; omega)
        have HN := Lib.hid (nmG_no HG.out hnC)
        have hnext : ∀ ty, (Instr.next (.pointer (some ⟨w.heap.size, 0, none⟩)) true ty).run Tryz.prog wr = _ := fun ty => Lib.run_next_any_at wr w.heap.size s pos ty hit hp
        have hrn := (decode_high s pos hp (by rw [hel]; omega)).1
        have hb1' : Below w.heap.size w (wr.iterAt w.heap.size s (pos + (Utf8.decode s pos).2)) := Lib.below_iterAt hb (Nat.le_refl _) s _
        generalize wr.iterAt w.heap.size s (pos + (Utf8.decode s pos).2) = W1 at hnext hb1'
        generalize (Utf8.decode s pos).1 = rn at hnext hrn
        have gn : ((rn : Int) != 95) = true := by rw [bne_iff_ne]; omega
        clear hel hit hb HG hnC
        by_cases k0 : pos = 0
        · have hz0 : ((pos : Int) == 0) = true := by rw [beq_iff_eq]; omega
          go_wp2_with fail
          refine (netIsLetter _ false _ (by simp <;> omega)).mono ?_
          rintro e W2 ⟨rfl, rfl⟩
          go_wp2
          go_ret
          exact ⟨by rw [← HN.out]; rfl, hb1'⟩
        · have hz0 : ((pos : Int) == 0) = false := by rw [beq_eq_false_iff_ne]; omega
          go_wp2_with fail
          refine (netIsLetter _ false _ (by simp <;> omega)).mono ?_
          rintro e W2 ⟨rfl, rfl⟩
          go_wp2_with fail
          refine (netIsDigit _ false _ (by simp <;> omega)).mono ?_
          rintro e W2 ⟨rfl, rfl⟩
          go_wp2
          go_ret
          exact ⟨by rw [← HN.out]; rfl, hb1'⟩
    · have hd : L.drop pos = [] := List.drop_of_length_le (by omega)
      rw [hd] at hG
      have HN := Lib.hid (show true = R from hG)
      have hnext : ∀ ty, (Instr.next (.pointer (some ⟨w.heap.size, 0, none⟩)) true ty).run Tryz.prog wr = _ := fun ty => Lib.run_next_end_at wr w.heap.size s pos ty hit hp
      clear hG hd
      go_wp2
      go_ret
      exact ⟨by rw [← HN.out]; rfl, hb⟩
end Go.Proofs.YtlkeejhaodedmaaGreatDoor

/- hang: first, the checks of numbers, divisors, quotients in lowest terms. -/
namespace Go.Proofs.YtlkeejhaodedmaaGreatDoor
open Go.RowKit

set_option maxHeartbeats 400000 in
theorem hgCheckRange (n lo hi : Int) (w : World) :
    Calls Tryz.prog 73 #[.int .i64 n, .int .i64 lo, .int .i64 hi] w fun e w' => e = .returned (.int .i64 (rngH n lo hi)) ∧ w = w' := by
  unfold rngH
  by_cases h1 : n < lo
  · go_enter Tryz.func73, Tryz.ntmps73
    go_wp2
    go_ret
    simp
  · by_cases h2 : hi < n
    all_goals
      go_enter Tryz.func73, Tryz.ntmps73
      go_wp2
      go_ret
      simp <;> omega
set_option maxHeartbeats 400000 in
theorem hgFirst (b c : Nat) (es : List Int) (w : World) (hn : es.length ≤ 100) (hc : ∀ i (h : i < es.length), w.cell? ⟨b, i, none⟩ = some (.int .i64 es[i])) :
    Calls Tryz.prog 72 #[.slice (some ⟨b, 0, none⟩) es.length c] w fun e w' => e = .returned (.int .i64 (fstE es)) ∧ w = w' := by
  have HC := Lib.hid hc
  have hn' : (es.length : Int) ≤ 100 := by omega
  clear hc
  go_enter Tryz.func72, Tryz.ntmps72
  go_wp2_with fail
  go_loop [4, 7] (fun _ i => ∃ k : Nat, k ≤ es.length ∧ i = .int .i64 k ∧ fstE es = fstE (es.drop k)) (fun _ i => es.length - (intOf i).toNat)
  case atStart => exact ⟨0, Nat.zero_le _, rfl, rfl⟩
  case round =>
    obtain ⟨k, hk, rfl, he⟩ := hrel
    have HE := Lib.hid he
    clear he
    by_cases hlt : k < es.length
    · have hcell := HC.out k hlt
      by_cases hz : es[k] = 0
      · have HF := Lib.hid (show fstE (es.drop k) = fstE (es.drop (k + 1)) by
          rw [List.drop_eq_getElem_cons hlt]
          simp only [fstE, hz, if_true])
        rw [hz] at hcell
        clear hz
        go_wp2
        go_round
        case rel => exact ⟨k + 1, by omega, by go_num, HE.out.trans HF.out⟩
        case measure => simp [intOf]; omega
      · have HF := Lib.hid (show fstE (es.drop k) = es[k] by
          rw [List.drop_eq_getElem_cons hlt]
          simp only [fstE, if_neg hz])
        have hz1 : (es[k] != 0) = true := by rw [bne_iff_ne]; exact hz
        clear hz
        go_wp2
        go_ret
        exact ⟨ret_i (HE.out.trans HF.out).symm, rfl⟩
    · obtain rfl : k = es.length := by omega
      have HF := Lib.hid (show fstE (es.drop es.length) = 0 by rw [List.drop_length]; rfl)
      go_wp2
      go_ret
      exact ⟨ret_i (HE.out.trans HF.out).symm, rfl⟩
theorem hgFirst2 (g d : Nat) (a b : Int) (t : TypeId) (w : World) (h : w.heap[g]? = some (.cells #[.int .i64 a, .int .i64 b] t (0, 0))) :
    Calls Tryz.prog 72 #[.slice (some ⟨g, 0, none⟩) 2 d] w fun e w' => e = .returned (.int .i64 (fstE [a, b])) ∧ w = w' :=
  hgFirst g d [a, b] w (by simp) (errs2 h)
theorem hgFirst3 (g d : Nat) (a b c : Int) (t : TypeId) (w : World) (h : w.heap[g]? = some (.cells #[.int .i64 a, .int .i64 b, .int .i64 c] t (0, 0))) :
    Calls Tryz.prog 72 #[.slice (some ⟨g, 0, none⟩) 3 d] w fun e w' => e = .returned (.int .i64 (fstE [a, b, c])) ∧ w = w' :=
  hgFirst g d [a, b, c] w (by simp) (errs3 h)
theorem hgFirst4 (g d : Nat) (a b c e' : Int) (t : TypeId) (w : World) (h : w.heap[g]? = some (.cells #[.int .i64 a, .int .i64 b, .int .i64 c, .int .i64 e'] t (0, 0))) :
    Calls Tryz.prog 72 #[.slice (some ⟨g, 0, none⟩) 4 d] w fun e w' => e = .returned (.int .i64 (fstE [a, b, c, e'])) ∧ w = w' :=
  hgFirst g d [a, b, c, e'] w (by simp) (errs4 h)
theorem hgCheckBar (n : Int) (w : World) :
    Calls Tryz.prog 77 #[.int .i64 n] w fun e w' => e = .returned (.int .i64 (rngH n 1 100)) ∧ w = w' := by
  go_enter Tryz.func77, Tryz.ntmps77
  go_wp2_with fail
  refine (hgCheckRange _ _ _ _).mono ?_
  rintro e w' ⟨rfl, rfl⟩
  go_wp2
  go_ret
  exact ⟨rfl, rfl⟩
theorem hgCheckMeshes (n : Int) (w : World) :
    Calls Tryz.prog 78 #[.int .i64 n] w fun e w' => e = .returned (.int .i64 (rngH n 1 300)) ∧ w = w' := by
  go_enter Tryz.func78, Tryz.ntmps78
  go_wp2_with fail
  refine (hgCheckRange _ _ _ _).mono ?_
  rintro e w' ⟨rfl, rfl⟩
  go_wp2
  go_ret
  exact ⟨rfl, rfl⟩
theorem hgCheckCount (n : Int) (w : World) :
    Calls Tryz.prog 112 #[.int .i64 n] w fun e w' => e = .returned (.int .i64 (rngH n 0 100000)) ∧ w = w' := by
  go_enter Tryz.func112, Tryz.ntmps112
  go_wp2_with fail
  refine (hgCheckRange _ _ _ _).mono ?_
  rintro e w' ⟨rfl, rfl⟩
  go_wp2
  go_ret
  exact ⟨rfl, rfl⟩
theorem hgCheckAllowance (n : Int) (w : World) :
    Calls Tryz.prog 113 #[.int .i64 n] w fun e w' => e = .returned (.int .i64 (rngH n 0 100)) ∧ w = w' := by
  go_enter Tryz.func113, Tryz.ntmps113
  go_wp2_with fail
  refine (hgCheckRange _ _ _ _).mono ?_
  rintro e w' ⟨rfl, rfl⟩
  go_wp2
  go_ret
  exact ⟨rfl, rfl⟩
theorem hgCheckTex (n : Int) (w : World) :
    Calls Tryz.prog 97 #[.int .i64 n] w fun e w' => e = .returned (.int .i64 (rngH n 1 100000)) ∧ w = w' := by
  go_enter Tryz.func97, Tryz.ntmps97
  go_wp2_with fail
  refine (hgCheckRange _ _ _ _).mono ?_
  rintro e w' ⟨rfl, rfl⟩
  go_wp2
  go_ret
  exact ⟨rfl, rfl⟩
set_option maxHeartbeats 400000 in
theorem hgStretched (b m : Nat) (w : World) (hb : b ≤ 100) (hm : m ≤ 300) :
    Calls Tryz.prog 79 #[.int .i64 b, .int .i64 m] w fun e w' => e = .returned (.int .i64 ((2 * b * m : Nat) : Int)) ∧ w = w' := by
  have p1 : 2 * b * m ≤ 200 * 300 := Nat.mul_le_mul (by omega) hm
  have q1 : 2 * (b : Int) * (m : Int) = ((2 * b * m : Nat) : Int) := by push_cast; rfl
  have w1 : IntKind.i64.wrap (2 * (b : Int)) = 2 * (b : Int) := wr64 (by omega) (by omega)
  have w2 : IntKind.i64.wrap (2 * (b : Int) * (m : Int)) = 2 * (b : Int) * (m : Int) := by rw [q1]; exact wr64 (by omega) (by omega)
  have Q := Lib.hid q1
  clear q1
  go_enter Tryz.func79, Tryz.ntmps79
  go_wp2
  go_ret
  refine ⟨ret_i ?_, rfl⟩
  rw [← Q.out]
set_option maxHeartbeats 1000000 in
set_option maxRecDepth 100000 in
theorem hgDivisor (a b : Nat) (w : World) (ha : a ≤ 9000000000000000000) (hb : b ≤ 9000000000000000000) :
    Calls Tryz.prog 139 #[.int .i64 a, .int .i64 b] w fun e w' => e = .returned (.int .i64 (a.gcd b : Nat)) ∧ Below w.heap.size w w' := by
  obtain ⟨g, hg⟩ : ∃ g, a.gcd b = g := ⟨_, rfl⟩
  rw [hg]
  have HG := Lib.hid hg
  clear hg
  go_enter Tryz.func139, Tryz.ntmps139
  go_wp2_with fail
  go_loopw [0, 1] (fun x y wr => ∃ p q : Nat, p ≤ 9000000000000000000 ∧ q ≤ 9000000000000000000 ∧ x = .int .i64 p ∧ y = .int .i64 q ∧ p.gcd q = g ∧ Below w.heap.size w wr) (fun _ y _ => (intOf y).toNat)
  case atStart => exact ⟨a, b, ha, hb, rfl, rfl, HG.out, Below.refl _ _⟩
  case round =>
    obtain ⟨p, q, hp, hq, rfl, rfl, hgg, hbw⟩ := hrel
    by_cases hz : q = 0
    · subst hz
      rw [Nat.gcd_zero_right] at hgg
      subst hgg
      go_wp2
      go_ret
      exact ⟨rfl, hbw⟩
    · have hz0 : ((q : Int) != 0) = true := by rw [bne_iff_ne]; omega
      have hz1 : ¬ (q : Int) = 0 := by omega
      have hm := modN p q
      have hlt : p % q < q := Nat.mod_lt _ (by omega)
      have HGG := Lib.hid (show q.gcd (p % q) = g by rw [← hgg, Nat.gcd_comm p q, Nat.gcd_rec q p, Nat.gcd_comm])
      clear hgg
      obtain ⟨r, hr⟩ : ∃ r, p % q = r := ⟨_, rfl⟩
      rw [hr] at hm hlt HGG
      clear hr hz
      go_wp2_with fail
      go_quiet (fail)
      have hb8 := below_drewN hbw nq
      go_wp2
      go_roundw
      case rel => exact ⟨q, r, hq, by omega, rfl, rfl, HGG.out, hb8⟩
      case measure => simp [intOf]; omega
set_option maxHeartbeats 1000000 in
set_option maxRecDepth 100000 in
theorem hgLowest (a b : Nat) (w : World) (ha : a ≤ 9000000000000000000) (hb : b ≤ 9000000000000000000) (h : 0 < b) :
    Calls Tryz.prog 123 #[.int .i64 a, .int .i64 b] w fun e w' => e = .returned (.agg #[.int .i64 (qn a b), .int .i64 (qd a b)]) ∧ Below w.heap.size w w' := by
  unfold qn qd
  obtain ⟨g, hg⟩ : ∃ g, a.gcd b = g := ⟨_, rfl⟩
  have hg0 : 0 < g := by rw [← hg]; exact Nat.gcd_pos_of_pos_right _ h
  have hz1 : ¬ (g : Int) = 0 := by omega
  have hz0 : ((g : Int) != 0) = true := by rw [bne_iff_ne]; omega
  have h1 := divN a g
  have h2 := divN b g
  have h3 : a / g ≤ a := Nat.div_le_self _ _
  have h4 : b / g ≤ b := Nat.div_le_self _ _
  rw [hg]
  have HG := Lib.hid hg
  obtain ⟨u, hu⟩ : ∃ u, a / g = u := ⟨_, rfl⟩
  obtain ⟨v, hv⟩ : ∃ v, b / g = v := ⟨_, rfl⟩
  rw [hu] at h1 h3 ⊢
  rw [hv] at h2 h4 ⊢
  have hw1 : IntKind.i64.wrap (u : Int) = (u : Int) := wr64 (by omega) (by omega)
  have hw2 : IntKind.i64.wrap (v : Int) = (v : Int) := wr64 (by omega) (by omega)
  clear hu hv hg
  obtain ⟨w0, hw0, hB, hb0, hz⟩ := boxS w (.cells #[.int .i64 0, .int .i64 0] 51)
  have hg1 : ¬ g = 0 := by omega
  go_enter Tryz.func123, Tryz.ntmps123
  go_wp2_with fail
  refine (hgDivisor a b _ ha hb).mono ?_
  rintro e w1 ⟨rfl, hb1⟩
  rw [HG.out]
  have hB1 := blkT hB hb1
  have hbw := tw hb0 hb1
  obtain ⟨p0, p1, p2, p3⟩ := cel2 hB1
  obtain ⟨s1, s2⟩ := set2 hB1 (.int .i64 u) (.int .i64 v)
  obtain ⟨t0, t1, -, -⟩ := cel2 s1
  have hbf := hbw.grown s2 hbw.size (fun j e => by cases e; exact Nat.le_refl _)
  clear hB hb1 hB1 hbw hb0 hw0
  go_wp2_with fail
  go_region
  go_wp2
  exact bodyPost_ret (v := .agg #[.int .i64 u, .int .i64 v]) (by simp [results, Tryz.results123, go_sem, t0, t1]) rfl ⟨rfl, below_drew hbf⟩
set_option maxHeartbeats 1000000 in
set_option maxRecDepth 100000 in
theorem hgRatioOf (a b : Nat) (w : World) (ha : a ≤ 9000000000000000000) (hb : b ≤ 9000000000000000000) (h : 0 < b) :
    Calls Tryz.prog 74 #[.int .i64 a, .int .i64 b] w fun e w' => e = .returned (.agg #[.int .i64 (qn a b), .int .i64 (qd a b)]) ∧ Below w.heap.size w w' := by
  have HL := fun w => hgLowest a b w ha hb h
  generalize qn a b = u at HL ⊢
  generalize qd a b = v at HL ⊢
  obtain ⟨w0, hw0, h0, hb0, hz0⟩ := boxS w (.cells #[.int .i64 0, .int .i64 0] 23)
  go_enter Tryz.func74, Tryz.ntmps74
  go_wp2_with fail
  refine (HL _).mono ?_
  rintro e w1 ⟨rfl, hb1⟩
  obtain ⟨w2, hw2, h2, hb2, hz2⟩ := boxS w1 (.cells #[.int .i64 u, .int .i64 v] 51)
  have k2 := blkT (blkT h0 hb1) hb2
  have hbw := tw (tw hb0 hb1) hb2
  obtain ⟨p0, p1, p2, p3⟩ := cel2 k2
  obtain ⟨c0, c1, -, -⟩ := cel2 h2
  obtain ⟨s1, s2⟩ := set2 k2 (.int .i64 u) (.int .i64 v)
  obtain ⟨t0, t1, -, -⟩ := cel2 s1
  have hbf := hbw.grown s2 hbw.size (fun j e => by cases e; exact Nat.le_refl _)
  clear h0 hb1 hb2 k2 hbw hb0 hw0 h2
  go_wp2_with fail
  go_wp2
  exact bodyPost_ret (v := .agg #[.int .i64 u, .int .i64 v]) (by simp [results, Tryz.results74, go_sem, t0, t1]) rfl ⟨rfl, hbf⟩
set_option maxHeartbeats 1000000 in
set_option maxRecDepth 100000 in
theorem hgSquareOf (a b : Nat) (w : World) (ha : a ≤ 9000000000000000000) (hb : b ≤ 9000000000000000000) (h : 0 < b) :
    Calls Tryz.prog 75 #[.int .i64 a, .int .i64 b] w fun e w' => e = .returned (.agg #[.int .i64 (qn a b), .int .i64 (qd a b)]) ∧ Below w.heap.size w w' := by
  have HL := fun w => hgLowest a b w ha hb h
  generalize qn a b = u at HL ⊢
  generalize qd a b = v at HL ⊢
  obtain ⟨w0, hw0, h0, hb0, hz0⟩ := boxS w (.cells #[.int .i64 0, .int .i64 0] 25)
  go_enter Tryz.func75, Tryz.ntmps75
  go_wp2_with fail
  refine (HL _).mono ?_
  rintro e w1 ⟨rfl, hb1⟩
  obtain ⟨w2, hw2, h2, hb2, hz2⟩ := boxS w1 (.cells #[.int .i64 u, .int .i64 v] 51)
  have k2 := blkT (blkT h0 hb1) hb2
  have hbw := tw (tw hb0 hb1) hb2
  obtain ⟨p0, p1, p2, p3⟩ := cel2 k2
  obtain ⟨c0, c1, -, -⟩ := cel2 h2
  obtain ⟨s1, s2⟩ := set2 k2 (.int .i64 u) (.int .i64 v)
  obtain ⟨t0, t1, -, -⟩ := cel2 s1
  have hbf := hbw.grown s2 hbw.size (fun j e => by cases e; exact Nat.le_refl _)
  clear h0 hb1 hb2 k2 hbw hb0 hw0 h2
  go_wp2_with fail
  go_wp2
  exact bodyPost_ret (v := .agg #[.int .i64 u, .int .i64 v]) (by simp [results, Tryz.results75, go_sem, t0, t1]) rfl ⟨rfl, hbf⟩
end Go.Proofs.YtlkeejhaodedmaaGreatDoor

/- hang: CheckRatio and CheckSquare. -/
namespace Go.Proofs.YtlkeejhaodedmaaGreatDoor
open Go.RowKit

theorem keepR {W w1 w2 : World} {g : Nat} {x y : Value} (h : w1.cell? ⟨g, 0, none⟩ = some x ∧ w1.cell? ⟨g, 1, none⟩ = some y ∧ Below g W w1 ∧ g < w1.heap.size) (hb : Below w1.heap.size w1 w2) :
    w2.cell? ⟨g, 0, none⟩ = some x ∧ w2.cell? ⟨g, 1, none⟩ = some y ∧ Below g W w2 ∧ g < w2.heap.size := by
  obtain ⟨h0, h1, h3, h4⟩ := h
  exact ⟨(hb.cell (p := ⟨g, 0, none⟩) h4).trans h0, (hb.cell (p := ⟨g, 1, none⟩) h4).trans h1, h3.trans (hb.mono (by omega)), by have := hb.size; omega⟩
/-- The error of a hanging ratio. -/
def ratH (n d : Int) : Int := if fstE [rngH n 1 30, rngH d 1 30] = 0 then (if d < n then 11 else if n.toNat.gcd d.toNat = 1 then 0 else 1) else fstE [rngH n 1 30, rngH d 1 30]
theorem ratH_zero {n d : Int} (h : ratH n d = 0) : ∃ P D : Nat, n = P ∧ d = D ∧ 1 ≤ P ∧ P ≤ D ∧ D ≤ 30 ∧ P.gcd D = 1 := by
  unfold ratH at h
  split at h
  · rename_i h0
    obtain ⟨h1, h2⟩ := fst2_zero h0
    have b1 := rngH_zero h1
    have b2 := rngH_zero h2
    split at h
    · cases h
    · split at h
      · refine ⟨n.toNat, d.toNat, by omega, by omega, by omega, by omega, by omega, by assumption⟩
      · cases h
  · contradiction
/-- The error of a square. -/
def sqH (n d : Int) : Int := if fstE [rngH n 0 4000000000000, rngH d 1 810000] = 0 then (if n.toNat.gcd d.toNat = 1 then 0 else 1) else fstE [rngH n 0 4000000000000, rngH d 1 810000]
theorem sqH_zero {n d : Int} (h : sqH n d = 0) : ∃ P D : Nat, n = P ∧ d = D ∧ P ≤ 4000000000000 ∧ 1 ≤ D ∧ D ≤ 810000 ∧ P.gcd D = 1 := by
  unfold sqH at h
  split at h
  · rename_i h0
    obtain ⟨h1, h2⟩ := fst2_zero h0
    have b1 := rngH_zero h1
    have b2 := rngH_zero h2
    split at h
    · refine ⟨n.toNat, d.toNat, by omega, by omega, by omega, by omega, by omega, by assumption⟩
    · cases h
  · contradiction
set_option maxHeartbeats 4000000 in
set_option maxRecDepth 100000 in
theorem hgCheckRatio (a b : Int) (w : World) :
    Calls Tryz.prog 19 #[.agg #[.int .i64 a, .int .i64 b]] w fun e w' => e = .returned (.int .i64 (ratH a b)) ∧ Below w.heap.size w w' := by
  obtain ⟨w1, hw1, h1, hb1, hz1⟩ := boxS w (.cells #[.int .i64 a, .int .i64 b] 23)
  obtain ⟨p0, p1, -, -⟩ := cel2 h1
  clear h1
  by_cases hz : fstE [rngH a 1 30, rngH b 1 30] = 0
  · obtain ⟨r1, r2⟩ := fst2_zero hz
    obtain ⟨g1, g2⟩ := rngH_zero r1
    obtain ⟨g3, g4⟩ := rngH_zero r2
    have HZ := Lib.hid hz
    obtain ⟨P, rfl⟩ : ∃ P : Nat, a = (P : Int) := ⟨a.toNat, by omega⟩
    obtain ⟨D, rfl⟩ : ∃ D : Nat, b = (D : Int) := ⟨b.toNat, by omega⟩
    obtain ⟨E, hE⟩ : ∃ E, ratH (P : Int) (D : Int) = E := ⟨_, rfl⟩
    have HE := Lib.hid hE
    rw [hE]
    rw [ratH, if_pos hz, Int.toNat_natCast, Int.toNat_natCast] at hE
    clear hz r1 r2
    by_cases ho : (D : Int) < (P : Int)
    · rw [if_pos ho] at hE
      subst hE
      go_enter Tryz.func19, Tryz.ntmps19
      go_wp2_with fail
      refine wp_region_still_tail 6 (by kernel_rfl) (by kernel_rfl) ?_
      simp only [List.take_succ_cons, List.take_zero, List.drop_succ_cons, List.drop_zero]
      still_step
      still_step
      still_call (Calls.mono (hgCheckRange _ _ _ _) fun _ _ h => ⟨h.1, h.2.symm⟩)
      still_step
      still_step
      still_call (Calls.mono (hgCheckRange _ _ _ _) fun _ _ h => ⟨h.1, h.2.symm⟩)
      refine wpStill_nil ?_
      change wpList _ _ _ _ _ w1.drew
      go_wp2_with fail
      refine (hgFirst2 _ _ _ _ 26 _ (by exact newBlk _ _)).mono ?_
      rintro e w3 ⟨rfl, rfl⟩
      rw [HZ.out]
      obtain ⟨w4, hw4, hb4, e0, e1⟩ : ∃ w4, (w1.alloc (.cells #[.int .i64 (rngH (P : Int) 1 30), .int .i64 (rngH (D : Int) 1 30)] 26)).drew = w4 ∧ Below w1.heap.size w1 w4 ∧ w4.cell? ⟨w.heap.size, 0, none⟩ = some (.int .i64 P) ∧ w4.cell? ⟨w.heap.size, 1, none⟩ = some (.int .i64 D) := by
        have hb : Below w1.heap.size w1 (w1.alloc (.cells #[.int .i64 (rngH (P : Int) 1 30), .int .i64 (rngH (D : Int) 1 30)] 26)).drew := below_drew ((Below.refl _ _).alloc (Nat.le_refl _) _)
        exact ⟨_, rfl, hb, (hb.cell (p := ⟨w.heap.size, 0, none⟩) hz1).trans p0, (hb.cell (p := ⟨w.heap.size, 1, none⟩) hz1).trans p1⟩
      go_wp2
      go_ret
      exact ⟨rfl, tw hb1 hb4⟩
    rw [if_neg ho] at hE
    have hlow := lowest_iff (a := P) (b := D) (by omega)
    have HLO := Lib.hid hlow
    clear hlow
    have hgd := guardRat
    by_cases hg : P.gcd D = 1
    · rw [if_pos hg] at hE
      subst hE
      obtain ⟨u0, v0⟩ := HLO.out.2 hg
      have heq := fun w => eqRat (P : Int) (D : Int) (P : Int) (D : Int) true (by simp) w
      have HQ := fun w => hgRatioOf P D w (by omega) (by omega) (by omega)
      rw [u0, v0] at HQ
      clear u0 v0 hg
      go_enter Tryz.func19, Tryz.ntmps19
      go_wp2_with fail
      refine wp_region_still_tail 6 (by kernel_rfl) (by kernel_rfl) ?_
      simp only [List.take_succ_cons, List.take_zero, List.drop_succ_cons, List.drop_zero]
      still_step
      still_step
      still_call (Calls.mono (hgCheckRange _ _ _ _) fun _ _ h => ⟨h.1, h.2.symm⟩)
      still_step
      still_step
      still_call (Calls.mono (hgCheckRange _ _ _ _) fun _ _ h => ⟨h.1, h.2.symm⟩)
      refine wpStill_nil ?_
      change wpList _ _ _ _ _ w1.drew
      go_wp2_with fail
      refine (hgFirst2 _ _ _ _ 26 _ (by exact newBlk _ _)).mono ?_
      rintro e w3 ⟨rfl, rfl⟩
      rw [HZ.out]
      obtain ⟨w4, hw4, hb4', e0, e1⟩ : ∃ w4, (w1.alloc (.cells #[.int .i64 (rngH (P : Int) 1 30), .int .i64 (rngH (D : Int) 1 30)] 26)).drew = w4 ∧ Below w1.heap.size w1 w4 ∧ w4.cell? ⟨w.heap.size, 0, none⟩ = some (.int .i64 P) ∧ w4.cell? ⟨w.heap.size, 1, none⟩ = some (.int .i64 D) := by
        have hb : Below w1.heap.size w1 (w1.alloc (.cells #[.int .i64 (rngH (P : Int) 1 30), .int .i64 (rngH (D : Int) 1 30)] 26)).drew := below_drew ((Below.refl _ _).alloc (Nat.le_refl _) _)
        exact ⟨_, rfl, hb, (hb.cell (p := ⟨w.heap.size, 0, none⟩) hz1).trans p0, (hb.cell (p := ⟨w.heap.size, 1, none⟩) hz1).trans p1⟩
      have hb4 := tw hb1 hb4'
      have hz4 := Nat.lt_of_lt_of_le hz1 hb4'.size
      clear hb4' hb1 hz1 p0 p1
      go_wp2_with fail
      go_region_held3 (fun w' => w'.cell? ⟨w.heap.size, 0, none⟩ = some (.int .i64 P) ∧ w'.cell? ⟨w.heap.size, 1, none⟩ = some (.int .i64 D) ∧ Below w.heap.size w w' ∧ w.heap.size < w'.heap.size)
        (first | exact ⟨e0, e1, hb4, hz4⟩ | exact ⟨e0, e1, below_drew hb4, hz4⟩ | exact keepR (by assumption) (by assumption) | exact keepR (by assumption) ((Below.refl _ _).alloc (Nat.le_refl _) _) | assumption | exact keepR (by assumption) (below_drew (Below.refl _ _)) | go_keep)
        (first
          | (go_at_call 74; refine (HQ _).mono ?_; rintro e w' ⟨rfl, hb⟩))
      all_goals
        rename_i hH
        go_wp2
        go_ret
        exact ⟨rfl, hH.2.2.1⟩
    · rw [if_neg hg] at hE
      subst hE
      have hne : ¬ (qn P D = P ∧ qd P D = D) := fun h => hg (HLO.out.1 h)
      have HQ := fun w => hgRatioOf P D w (by omega) (by omega) (by omega)
      generalize qn P D = u at HQ hne
      generalize qd P D = v at HQ hne
      have heq := fun w => eqRat (P : Int) (D : Int) (u : Int) (v : Int) false (by rw [decide_eq_false_iff_not]; omega) w
      clear hg hne
      go_enter Tryz.func19, Tryz.ntmps19
      go_wp2_with fail
      refine wp_region_still_tail 6 (by kernel_rfl) (by kernel_rfl) ?_
      simp only [List.take_succ_cons, List.take_zero, List.drop_succ_cons, List.drop_zero]
      still_step
      still_step
      still_call (Calls.mono (hgCheckRange _ _ _ _) fun _ _ h => ⟨h.1, h.2.symm⟩)
      still_step
      still_step
      still_call (Calls.mono (hgCheckRange _ _ _ _) fun _ _ h => ⟨h.1, h.2.symm⟩)
      refine wpStill_nil ?_
      change wpList _ _ _ _ _ w1.drew
      go_wp2_with fail
      refine (hgFirst2 _ _ _ _ 26 _ (by exact newBlk _ _)).mono ?_
      rintro e w3 ⟨rfl, rfl⟩
      rw [HZ.out]
      obtain ⟨w4, hw4, hb4', e0, e1⟩ : ∃ w4, (w1.alloc (.cells #[.int .i64 (rngH (P : Int) 1 30), .int .i64 (rngH (D : Int) 1 30)] 26)).drew = w4 ∧ Below w1.heap.size w1 w4 ∧ w4.cell? ⟨w.heap.size, 0, none⟩ = some (.int .i64 P) ∧ w4.cell? ⟨w.heap.size, 1, none⟩ = some (.int .i64 D) := by
        have hb : Below w1.heap.size w1 (w1.alloc (.cells #[.int .i64 (rngH (P : Int) 1 30), .int .i64 (rngH (D : Int) 1 30)] 26)).drew := below_drew ((Below.refl _ _).alloc (Nat.le_refl _) _)
        exact ⟨_, rfl, hb, (hb.cell (p := ⟨w.heap.size, 0, none⟩) hz1).trans p0, (hb.cell (p := ⟨w.heap.size, 1, none⟩) hz1).trans p1⟩
      have hb4 := tw hb1 hb4'
      have hz4 := Nat.lt_of_lt_of_le hz1 hb4'.size
      clear hb4' hb1 hz1 p0 p1
      go_wp2_with fail
      go_region_held3 (fun w' => w'.cell? ⟨w.heap.size, 0, none⟩ = some (.int .i64 P) ∧ w'.cell? ⟨w.heap.size, 1, none⟩ = some (.int .i64 D) ∧ Below w.heap.size w w' ∧ w.heap.size < w'.heap.size)
        (first | exact ⟨e0, e1, hb4, hz4⟩ | exact ⟨e0, e1, below_drew hb4, hz4⟩ | exact keepR (by assumption) (by assumption) | exact keepR (by assumption) ((Below.refl _ _).alloc (Nat.le_refl _) _) | assumption | exact keepR (by assumption) (below_drew (Below.refl _ _)) | go_keep)
        (first
          | (go_at_call 74; refine (HQ _).mono ?_; rintro e w' ⟨rfl, hb⟩))
      all_goals
        rename_i hH
        go_wp2
        go_ret
        exact ⟨rfl, hH.2.2.1⟩
  · obtain ⟨E, hE⟩ : ∃ E, fstE [rngH a 1 30, rngH b 1 30] = E := ⟨_, rfl⟩
    have hE2 : ratH a b = E := by rw [ratH, if_neg hz]; exact hE
    have HE0 := Lib.hid hE
    rw [hE] at hz
    rw [hE2]
    have hne := nzH hz
    clear hE hE2 hz
    go_enter Tryz.func19, Tryz.ntmps19
    go_wp2_with fail
    refine wp_region_still_tail 6 (by kernel_rfl) (by kernel_rfl) ?_
    simp only [List.take_succ_cons, List.take_zero, List.drop_succ_cons, List.drop_zero]
    still_step
    still_step
    still_call (Calls.mono (hgCheckRange _ _ _ _) fun _ _ h => ⟨h.1, h.2.symm⟩)
    still_step
    still_step
    still_call (Calls.mono (hgCheckRange _ _ _ _) fun _ _ h => ⟨h.1, h.2.symm⟩)
    refine wpStill_nil ?_
    change wpList _ _ _ _ _ w1.drew
    go_wp2_with fail
    refine (hgFirst2 _ _ _ _ 26 _ (by exact newBlk _ _)).mono ?_
    rintro e w3 ⟨rfl, rfl⟩
    rw [HE0.out]
    go_wp2
    go_ret
    exact ⟨rfl, below_drew (hb1.alloc hb1.size _)⟩
set_option maxHeartbeats 4000000 in
set_option maxRecDepth 100000 in
theorem hgCheckSquare (a b : Int) (w : World) :
    Calls Tryz.prog 20 #[.agg #[.int .i64 a, .int .i64 b]] w fun e w' => e = .returned (.int .i64 (sqH a b)) ∧ Below w.heap.size w w' := by
  obtain ⟨w1, hw1, h1, hb1, hz1⟩ := boxS w (.cells #[.int .i64 a, .int .i64 b] 25)
  obtain ⟨p0, p1, -, -⟩ := cel2 h1
  clear h1
  by_cases hz : fstE [rngH a 0 4000000000000, rngH b 1 810000] = 0
  · obtain ⟨r1, r2⟩ := fst2_zero hz
    obtain ⟨g1, g2⟩ := rngH_zero r1
    obtain ⟨g3, g4⟩ := rngH_zero r2
    have HZ := Lib.hid hz
    obtain ⟨P, rfl⟩ : ∃ P : Nat, a = (P : Int) := ⟨a.toNat, by omega⟩
    obtain ⟨D, rfl⟩ : ∃ D : Nat, b = (D : Int) := ⟨b.toNat, by omega⟩
    obtain ⟨E, hE⟩ : ∃ E, sqH (P : Int) (D : Int) = E := ⟨_, rfl⟩
    have HE := Lib.hid hE
    rw [hE]
    rw [sqH, if_pos hz, Int.toNat_natCast, Int.toNat_natCast] at hE
    clear hz r1 r2
    have hlow := lowest_iff (a := P) (b := D) (by omega)
    have HLO := Lib.hid hlow
    clear hlow
    have hgd := guardSqr
    by_cases hg : P.gcd D = 1
    · rw [if_pos hg] at hE
      subst hE
      obtain ⟨u0, v0⟩ := HLO.out.2 hg
      have heq := fun w => eqSqr (P : Int) (D : Int) (P : Int) (D : Int) true (by simp) w
      have HQ := fun w => hgSquareOf P D w (by omega) (by omega) (by omega)
      rw [u0, v0] at HQ
      clear u0 v0 hg
      go_enter Tryz.func20, Tryz.ntmps20
      go_wp2_with fail
      refine wp_region_still_tail 6 (by kernel_rfl) (by kernel_rfl) ?_
      simp only [List.take_succ_cons, List.take_zero, List.drop_succ_cons, List.drop_zero]
      still_step
      still_step
      still_call (Calls.mono (hgCheckRange _ _ _ _) fun _ _ h => ⟨h.1, h.2.symm⟩)
      still_step
      still_step
      still_call (Calls.mono (hgCheckRange _ _ _ _) fun _ _ h => ⟨h.1, h.2.symm⟩)
      refine wpStill_nil ?_
      change wpList _ _ _ _ _ w1.drew
      go_wp2_with fail
      refine (hgFirst2 _ _ _ _ 26 _ (by exact newBlk _ _)).mono ?_
      rintro e w3 ⟨rfl, rfl⟩
      rw [HZ.out]
      obtain ⟨w4, hw4, hb4', e0, e1⟩ : ∃ w4, (w1.alloc (.cells #[.int .i64 (rngH (P : Int) 0 4000000000000), .int .i64 (rngH (D : Int) 1 810000)] 26)).drew = w4 ∧ Below w1.heap.size w1 w4 ∧ w4.cell? ⟨w.heap.size, 0, none⟩ = some (.int .i64 P) ∧ w4.cell? ⟨w.heap.size, 1, none⟩ = some (.int .i64 D) := by
        have hb : Below w1.heap.size w1 (w1.alloc (.cells #[.int .i64 (rngH (P : Int) 0 4000000000000), .int .i64 (rngH (D : Int) 1 810000)] 26)).drew := below_drew ((Below.refl _ _).alloc (Nat.le_refl _) _)
        exact ⟨_, rfl, hb, (hb.cell (p := ⟨w.heap.size, 0, none⟩) hz1).trans p0, (hb.cell (p := ⟨w.heap.size, 1, none⟩) hz1).trans p1⟩
      have hb4 := tw hb1 hb4'
      have hz4 := Nat.lt_of_lt_of_le hz1 hb4'.size
      clear hb4' hb1 hz1 p0 p1
      go_wp2_with fail
      go_region_held3 (fun w' => w'.cell? ⟨w.heap.size, 0, none⟩ = some (.int .i64 P) ∧ w'.cell? ⟨w.heap.size, 1, none⟩ = some (.int .i64 D) ∧ Below w.heap.size w w' ∧ w.heap.size < w'.heap.size)
        (first | exact ⟨e0, e1, hb4, hz4⟩ | exact ⟨e0, e1, below_drew hb4, hz4⟩ | exact keepR (by assumption) (by assumption) | exact keepR (by assumption) ((Below.refl _ _).alloc (Nat.le_refl _) _) | assumption | exact keepR (by assumption) (below_drew (Below.refl _ _)) | go_keep)
        (first
          | (go_at_call 75; refine (HQ _).mono ?_; rintro e w' ⟨rfl, hb⟩))
      all_goals
        rename_i hH
        go_wp2
        go_ret
        exact ⟨rfl, hH.2.2.1⟩
    · rw [if_neg hg] at hE
      subst hE
      have hne : ¬ (qn P D = P ∧ qd P D = D) := fun h => hg (HLO.out.1 h)
      have HQ := fun w => hgSquareOf P D w (by omega) (by omega) (by omega)
      generalize qn P D = u at HQ hne
      generalize qd P D = v at HQ hne
      have heq := fun w => eqSqr (P : Int) (D : Int) (u : Int) (v : Int) false (by rw [decide_eq_false_iff_not]; omega) w
      clear hg hne
      go_enter Tryz.func20, Tryz.ntmps20
      go_wp2_with fail
      refine wp_region_still_tail 6 (by kernel_rfl) (by kernel_rfl) ?_
      simp only [List.take_succ_cons, List.take_zero, List.drop_succ_cons, List.drop_zero]
      still_step
      still_step
      still_call (Calls.mono (hgCheckRange _ _ _ _) fun _ _ h => ⟨h.1, h.2.symm⟩)
      still_step
      still_step
      still_call (Calls.mono (hgCheckRange _ _ _ _) fun _ _ h => ⟨h.1, h.2.symm⟩)
      refine wpStill_nil ?_
      change wpList _ _ _ _ _ w1.drew
      go_wp2_with fail
      refine (hgFirst2 _ _ _ _ 26 _ (by exact newBlk _ _)).mono ?_
      rintro e w3 ⟨rfl, rfl⟩
      rw [HZ.out]
      obtain ⟨w4, hw4, hb4', e0, e1⟩ : ∃ w4, (w1.alloc (.cells #[.int .i64 (rngH (P : Int) 0 4000000000000), .int .i64 (rngH (D : Int) 1 810000)] 26)).drew = w4 ∧ Below w1.heap.size w1 w4 ∧ w4.cell? ⟨w.heap.size, 0, none⟩ = some (.int .i64 P) ∧ w4.cell? ⟨w.heap.size, 1, none⟩ = some (.int .i64 D) := by
        have hb : Below w1.heap.size w1 (w1.alloc (.cells #[.int .i64 (rngH (P : Int) 0 4000000000000), .int .i64 (rngH (D : Int) 1 810000)] 26)).drew := below_drew ((Below.refl _ _).alloc (Nat.le_refl _) _)
        exact ⟨_, rfl, hb, (hb.cell (p := ⟨w.heap.size, 0, none⟩) hz1).trans p0, (hb.cell (p := ⟨w.heap.size, 1, none⟩) hz1).trans p1⟩
      have hb4 := tw hb1 hb4'
      have hz4 := Nat.lt_of_lt_of_le hz1 hb4'.size
      clear hb4' hb1 hz1 p0 p1
      go_wp2_with fail
      go_region_held3 (fun w' => w'.cell? ⟨w.heap.size, 0, none⟩ = some (.int .i64 P) ∧ w'.cell? ⟨w.heap.size, 1, none⟩ = some (.int .i64 D) ∧ Below w.heap.size w w' ∧ w.heap.size < w'.heap.size)
        (first | exact ⟨e0, e1, hb4, hz4⟩ | exact ⟨e0, e1, below_drew hb4, hz4⟩ | exact keepR (by assumption) (by assumption) | exact keepR (by assumption) ((Below.refl _ _).alloc (Nat.le_refl _) _) | assumption | exact keepR (by assumption) (below_drew (Below.refl _ _)) | go_keep)
        (first
          | (go_at_call 75; refine (HQ _).mono ?_; rintro e w' ⟨rfl, hb⟩))
      all_goals
        rename_i hH
        go_wp2
        go_ret
        exact ⟨rfl, hH.2.2.1⟩
  · obtain ⟨E, hE⟩ : ∃ E, fstE [rngH a 0 4000000000000, rngH b 1 810000] = E := ⟨_, rfl⟩
    have hE2 : sqH a b = E := by rw [sqH, if_neg hz]; exact hE
    have HE0 := Lib.hid hE
    rw [hE] at hz
    rw [hE2]
    have hne := nzH hz
    clear hE hE2 hz
    go_enter Tryz.func20, Tryz.ntmps20
    go_wp2_with fail
    refine wp_region_still_tail 6 (by kernel_rfl) (by kernel_rfl) ?_
    simp only [List.take_succ_cons, List.take_zero, List.drop_succ_cons, List.drop_zero]
    still_step
    still_step
    still_call (Calls.mono (hgCheckRange _ _ _ _) fun _ _ h => ⟨h.1, h.2.symm⟩)
    still_step
    still_step
    still_call (Calls.mono (hgCheckRange _ _ _ _) fun _ _ h => ⟨h.1, h.2.symm⟩)
    refine wpStill_nil ?_
    change wpList _ _ _ _ _ w1.drew
    go_wp2_with fail
    refine (hgFirst2 _ _ _ _ 26 _ (by exact newBlk _ _)).mono ?_
    rintro e w3 ⟨rfl, rfl⟩
    rw [HE0.out]
    go_wp2
    go_ret
    exact ⟨rfl, below_drew (hb1.alloc hb1.size _)⟩
end Go.Proofs.YtlkeejhaodedmaaGreatDoor

/- hang: squares and widths of ratios, with their errors. -/
namespace Go.Proofs.YtlkeejhaodedmaaGreatDoor
open Go.RowKit

theorem keepR2 {W w1 w2 : World} {g r : Nat} {x y : Value} {o : Obj} (h : w1.cell? ⟨g, 0, none⟩ = some x ∧ w1.cell? ⟨g, 1, none⟩ = some y ∧ w1.heap[r]? = some o ∧ Below g W w1 ∧ g < w1.heap.size) (hb : Below w1.heap.size w1 w2) :
    w2.cell? ⟨g, 0, none⟩ = some x ∧ w2.cell? ⟨g, 1, none⟩ = some y ∧ w2.heap[r]? = some o ∧ Below g W w2 ∧ g < w2.heap.size := by
  obtain ⟨h0, h1, h2, h3, h4⟩ := h
  exact ⟨(hb.cell (p := ⟨g, 0, none⟩) h4).trans h0, (hb.cell (p := ⟨g, 1, none⟩) h4).trans h1, blkT h2 hb, h3.trans (hb.mono (by omega)), by have := hb.size; omega⟩
def cmpH (x y : Int) : Int := if x < y then -1 else if y < x then 1 else 0
set_option maxHeartbeats 400000 in
theorem nanH (a : Int) (w : World) :
    Calls Tryz.prog 131 #[.int .i64 a] w fun e w' => e = .returned (.bool false) ∧ w = w' := by
  go_enter Tryz.func131, Tryz.ntmps131
  go_wp2
  go_ret
  simp
set_option maxHeartbeats 400000 in
theorem cmpIntH (x y : Int) (w : World) : Calls Tryz.prog 101 #[.int .i64 x, .int .i64 y] w fun e w' => e = .returned (.int .i64 (cmpH x y)) ∧ w = w' := by
  unfold cmpH
  by_cases h : x < y
  · rw [if_pos h]
    go_enter Tryz.func101, Tryz.ntmps101
    go_wp2_with (go_at_call 131; refine (nanH _ _).mono ?_; rintro e w' ⟨rfl, rfl⟩)
    go_ret
    exact ⟨rfl, rfl⟩
  · rw [if_neg h]
    by_cases k : y < x
    · rw [if_pos k]
      go_enter Tryz.func101, Tryz.ntmps101
      go_wp2_with (go_at_call 131; refine (nanH _ _).mono ?_; rintro e w' ⟨rfl, rfl⟩)
      go_ret
      exact ⟨rfl, rfl⟩
    · rw [if_neg k]
      go_enter Tryz.func101, Tryz.ntmps101
      go_wp2_with (go_at_call 131; refine (nanH _ _).mono ?_; rintro e w' ⟨rfl, rfl⟩)
      go_ret
      exact ⟨rfl, rfl⟩
theorem mulB {a b A B : Nat} (ha : a ≤ A) (hb : b ≤ B) : 0 ≤ (a : Int) * (b : Int) ∧ (a : Int) * (b : Int) ≤ ((A * B : Nat) : Int) := by
  have h := Nat.mul_le_mul ha hb
  have e : (a : Int) * (b : Int) = ((a * b : Nat) : Int) := by push_cast; rfl
  rw [e]
  omega
/-- The square of a length times that of the vertical ratio: its numerator. -/
def upN (L P D : Nat) : Nat := L * L * (D * D - P * P)
def fuN (P D : Nat) : Nat := 4 * (P * P) * (D * D - P * P)
theorem upN_le {L P D : Nat} (hL : L ≤ 60000) (hD : D ≤ 30) : upN L P D ≤ 3240000000000 :=
  Nat.le_trans (Nat.mul_le_mul (Nat.mul_le_mul hL hL) (Nat.le_trans (Nat.sub_le _ _) (Nat.mul_le_mul hD hD))) (by decide)
theorem fuN_le {P D : Nat} (hP : P ≤ D) (hD : D ≤ 30) : fuN P D ≤ 3240000 :=
  Nat.le_trans (Nat.mul_le_mul (Nat.mul_le_mul (Nat.le_refl 4) (Nat.mul_le_mul (Nat.le_trans hP hD) (Nat.le_trans hP hD))) (Nat.le_trans (Nat.sub_le _ _) (Nat.mul_le_mul hD hD))) (by decide)
theorem sqSub {P D : Nat} (hP : P ≤ D) : (D : Int) * (D : Int) - (P : Int) * (P : Int) = ((D * D - P * P : Nat) : Int) := by
  have := Nat.mul_le_mul hP hP
  rw [Int.ofNat_sub this]
  push_cast
  rfl
theorem upNI {L P D : Nat} (hP : P ≤ D) : (L : Int) * (L : Int) * ((D : Int) * (D : Int) - (P : Int) * (P : Int)) = (upN L P D : Nat) := by
  rw [sqSub hP]
  unfold upN
  push_cast
  rfl
theorem fuNI {P D : Nat} (hP : P ≤ D) : 4 * ((P : Int) * (P : Int)) * ((D : Int) * (D : Int) - (P : Int) * (P : Int)) = (fuN P D : Nat) := by
  rw [sqSub hP]
  unfold fuN
  push_cast
  rfl
theorem mulI (a b : Nat) : (a : Int) * (b : Int) = ((a * b : Nat) : Int) := by push_cast; rfl
set_option maxHeartbeats 1000000 in
set_option maxRecDepth 100000 in
theorem hgUpright (P D L : Nat) (w : World) (h1 : 1 ≤ P) (hP : P ≤ D) (hD : D ≤ 30) (hL : L ≤ 60000) :
    Calls Tryz.prog 69 #[.agg #[.int .i64 P, .int .i64 D], .int .i64 L] w fun e w' => e = .returned (.agg #[.int .i64 (qn (upN L P D) (D * D)), .int .i64 (qd (upN L P D) (D * D))]) ∧ Below w.heap.size w w' := by
  have hU := upN_le (P := P) hL hD
  have hDD : 0 < D * D := Nat.mul_pos (by omega) (by omega)
  have hDD2 : D * D ≤ 30 * 30 := Nat.mul_le_mul hD hD
  have HQ := fun w => hgSquareOf (upN L P D) (D * D) w (by omega) (by omega) hDD
  have HU := Lib.hid (upNI (L := L) hP)
  have HDD := Lib.hid (mulI D D)
  have HLL := Lib.hid (mulI L L)
  have HPP := Lib.hid (mulI P P)
  have b1 := mulB hL hL
  have b2 := mulB hD hD
  have b3 := mulB (Nat.le_trans hP hD) (Nat.le_trans hP hD)
  have b4 := sqSub hP
  have b5 : 0 ≤ (L : Int) * (L : Int) * ((D : Int) * (D : Int) - (P : Int) * (P : Int)) ∧ (L : Int) * (L : Int) * ((D : Int) * (D : Int) - (P : Int) * (P : Int)) ≤ 3240000000000 := by rw [HU.out]; omega
  obtain ⟨b10, b11⟩ := b1
  obtain ⟨b20, b21⟩ := b2
  obtain ⟨b30, b31⟩ := b3
  obtain ⟨b50, b51⟩ := b5
  clear b4 hU hDD hDD2
  generalize upN L P D = U at HQ HU ⊢
  generalize hE : D * D = E at HQ HDD ⊢
  generalize qn U E = u at HQ ⊢
  generalize qd U E = v at HQ ⊢
  clear hE
  obtain ⟨w1, hw1, k1, hb1, hz1⟩ := boxS w (.cells #[.int .i64 P, .int .i64 D] 23)
  obtain ⟨w2, hw2, k2, hb2, hz2⟩ := boxS w1 (.cells #[.int .i64 0, .int .i64 0] 25)
  obtain ⟨p0, p1, -, -⟩ := cel2 (blkT k1 hb2)
  go_enter Tryz.func69, Tryz.ntmps69
  go_wp2_with fail
  rw [HU.out, HDD.out]
  refine (HQ _).mono ?_
  rintro e w3 ⟨rfl, hb3⟩
  have k3 := blkT k2 hb3
  obtain ⟨q0, q1, q2, q3⟩ := cel2 k3
  obtain ⟨s1, s2⟩ := set2 k3 (.int .i64 u) (.int .i64 v)
  obtain ⟨t0, t1, -, -⟩ := cel2 s1
  have hbw := tw (tw hb1 hb2) hb3
  have hbf := hbw.grown s2 hbw.size (fun j e => by cases e; exact hb1.size)
  go_wp2
  exact bodyPost_ret (v := .agg #[.int .i64 u, .int .i64 v]) (by simp [results, Tryz.results69, go_sem, t0, t1]) rfl ⟨rfl, hbf⟩
set_option maxHeartbeats 1000000 in
set_option maxRecDepth 100000 in
theorem hgFullnessN (P D : Nat) (w : World) (h1 : 1 ≤ P) (hP : P ≤ D) (hD : D ≤ 30) :
    Calls Tryz.prog 70 #[.agg #[.int .i64 P, .int .i64 D]] w fun e w' => e = .returned (.agg #[.int .i64 (qn (fuN P D) (D * D * (D * D))), .int .i64 (qd (fuN P D) (D * D * (D * D)))]) ∧ Below w.heap.size w w' := by
  have hU := fuN_le hP hD
  have hDD : 0 < D * D := Nat.mul_pos (by omega) (by omega)
  have hDD2 : D * D ≤ 30 * 30 := Nat.mul_le_mul hD hD
  have hD4 : D * D * (D * D) ≤ 900 * 900 := Nat.mul_le_mul hDD2 hDD2
  have HQ := fun w => hgSquareOf (fuN P D) (D * D * (D * D)) w (by omega) (by omega) (Nat.mul_pos hDD hDD)
  have HU := Lib.hid (fuNI hP)
  have HD4 := Lib.hid (show (D : Int) * (D : Int) * ((D : Int) * (D : Int)) = ((D * D * (D * D) : Nat) : Int) by push_cast; rfl)
  have b2 := mulB hD hD
  have b3 := mulB (Nat.le_trans hP hD) (Nat.le_trans hP hD)
  have b5 : 0 ≤ 4 * ((P : Int) * (P : Int)) * ((D : Int) * (D : Int) - (P : Int) * (P : Int)) ∧ 4 * ((P : Int) * (P : Int)) * ((D : Int) * (D : Int) - (P : Int) * (P : Int)) ≤ 3240000 := by rw [HU.out]; omega
  have b6 : 0 ≤ (D : Int) * (D : Int) * ((D : Int) * (D : Int)) ∧ (D : Int) * (D : Int) * ((D : Int) * (D : Int)) ≤ 810000 := by rw [HD4.out]; omega
  obtain ⟨b20, b21⟩ := b2
  obtain ⟨b30, b31⟩ := b3
  obtain ⟨b50, b51⟩ := b5
  obtain ⟨b60, b61⟩ := b6
  have w1' : IntKind.i64.wrap ((P : Int) * (P : Int)) = (P : Int) * (P : Int) := wr64 (by omega) (by omega)
  have w2' : IntKind.i64.wrap ((D : Int) * (D : Int)) = (D : Int) * (D : Int) := wr64 (by omega) (by omega)
  clear hU hDD hDD2 hD4
  generalize fuN P D = U at HQ HU ⊢
  generalize hE : D * D * (D * D) = E at HQ HD4 ⊢
  generalize qn U E = u at HQ ⊢
  generalize qd U E = v at HQ ⊢
  clear hE
  obtain ⟨w1, hw1, k1, hb1, hz1⟩ := boxS w (.cells #[.int .i64 P, .int .i64 D] 23)
  obtain ⟨w2, hw2, k2, hb2, hz2⟩ := boxS w1 (.cells #[.int .i64 0, .int .i64 0] 25)
  obtain ⟨p0, p1, -, -⟩ := cel2 (blkT k1 hb2)
  go_enter Tryz.func70, Tryz.ntmps70
  go_wp2_with fail
  go_quiet (fail)
  have hb2n := below_drewN hb2 nq
  have k2n : (w2.drewN nq).heap[w1.heap.size]? = some (.cells #[.int .i64 0, .int .i64 0] 25 (0, 0)) := k2
  generalize World.drewN w2 nq = w2' at *
  go_wp2_with fail
  rw [HU.out, HD4.out]
  refine (HQ _).mono ?_
  rintro e w3 ⟨rfl, hb3⟩
  have k3 := blkT k2n hb3
  obtain ⟨q0, q1, q2, q3⟩ := cel2 k3
  obtain ⟨s1, s2⟩ := set2 k3 (.int .i64 u) (.int .i64 v)
  obtain ⟨t0, t1, -, -⟩ := cel2 s1
  have hbw := tw (tw hb1 hb2n) hb3
  have hbf := hbw.grown s2 hbw.size (fun j e => by cases e; exact hb1.size)
  go_wp2
  exact bodyPost_ret (v := .agg #[.int .i64 u, .int .i64 v]) (by simp [results, Tryz.results70, go_sem, t0, t1]) rfl ⟨rfl, hbf⟩
/-- A number beside an error: 0 beside any but OK. -/
def oz (E X : Int) : Int := if E = 0 then X else 0
theorem oz0 (X : Int) : oz 0 X = X := if_pos rfl
theorem ozE {E : Int} (h : E ≠ 0) (X : Int) : oz E X = 0 := if_neg h
set_option maxHeartbeats 1000000 in
set_option maxRecDepth 100000 in
theorem hgSecondary (a b : Int) (w : World) :
    Calls Tryz.prog 14 #[.agg #[.int .i64 a, .int .i64 b]] w fun e w' => e = .returned (.tuple #[.agg #[.int .i64 (oz (ratH a b) (qn (upN 1 a.toNat b.toNat) (b.toNat * b.toNat) : Nat)), .int .i64 (oz (ratH a b) (qd (upN 1 a.toNat b.toNat) (b.toNat * b.toNat) : Nat))], .int .i64 (ratH a b)]) ∧ Below w.heap.size w w' := by
  obtain ⟨w1, hw1, k1, hb1, hz1⟩ := boxS w (.cells #[.int .i64 a, .int .i64 b] 23)
  obtain ⟨w2, hw2, k2, hb2, hz2⟩ := boxS w1 (.cells #[.int .i64 0, .int .i64 0] 25)
  obtain ⟨c0, c1, -, -⟩ := cel2 (blkT k1 hb2)
  have HC := fun w => hgCheckRatio a b w
  by_cases hE : ratH a b = 0
  · rw [hE, oz0, oz0]
    rw [hE] at HC
    obtain ⟨P, D, rfl, rfl, p1, p2, p3, -⟩ := ratH_zero hE
    rw [Int.toNat_natCast, Int.toNat_natCast]
    have HI := fun _ : Unit => fun w => (hgUpright P D 1 w p1 p2 p3 (by omega) : Calls _ _ _ w _)
    generalize qn _ _ = u at HI ⊢
    generalize qd _ _ = v at HI ⊢
    clear hE
    go_enter Tryz.func14, Tryz.ntmps14
    go_wp2_with fail
    refine (HC _).mono ?_
    rintro e w3 ⟨rfl, hb3⟩
    obtain ⟨d0, d1, -, -⟩ := cel2 (blkT (blkT k1 hb2) hb3)
    go_wp2_with fail
    refine (HI () _).mono ?_
    rintro e w4 ⟨rfl, hb4⟩
    have k4 := blkT (blkT k2 hb3) hb4
    obtain ⟨q0, q1, q2, q3⟩ := cel2 k4
    obtain ⟨s1, s2⟩ := set2 k4 (.int .i64 u) (.int .i64 v)
    obtain ⟨t0, t1, -, -⟩ := cel2 s1
    have hbw := tw (tw (tw hb1 hb2) hb3) hb4
    have hbf := hbw.grown s2 hbw.size (fun j e => by cases e; exact hb1.size)
    go_wp2
    exact bodyPost_ret (v := .tuple #[.agg #[.int .i64 u, .int .i64 v], .int .i64 0]) (by simp [results, Tryz.results14, go_sem, t0, t1]) rfl ⟨rfl, hbf⟩
  · rw [ozE hE, ozE hE]
    generalize ratH a b = E at HC hE ⊢
    have hne := nzH hE
    clear hE
    go_enter Tryz.func14, Tryz.ntmps14
    go_wp2_with fail
    refine (HC _).mono ?_
    rintro e w3 ⟨rfl, hb3⟩
    have k3 := blkT k2 hb3
    obtain ⟨q0, q1, q2, q3⟩ := cel2 k3
    obtain ⟨s1, s2⟩ := set2 k3 (.int .i64 0) (.int .i64 0)
    obtain ⟨t0, t1, -, -⟩ := cel2 s1
    have hbw := tw (tw hb1 hb2) hb3
    have hbf := hbw.grown s2 hbw.size (fun j e => by cases e; exact hb1.size)
    go_wp2
    exact bodyPost_ret (v := .tuple #[.agg #[.int .i64 0, .int .i64 0], .int .i64 E]) (by simp [results, Tryz.results14, go_sem, t0, t1]) rfl ⟨rfl, hbf⟩
set_option maxHeartbeats 1000000 in
set_option maxRecDepth 100000 in
theorem hgFullness (a b : Int) (w : World) :
    Calls Tryz.prog 15 #[.agg #[.int .i64 a, .int .i64 b]] w fun e w' => e = .returned (.tuple #[.agg #[.int .i64 (oz (ratH a b) (qn (fuN a.toNat b.toNat) (b.toNat * b.toNat * (b.toNat * b.toNat)) : Nat)), .int .i64 (oz (ratH a b) (qd (fuN a.toNat b.toNat) (b.toNat * b.toNat * (b.toNat * b.toNat)) : Nat))], .int .i64 (ratH a b)]) ∧ Below w.heap.size w w' := by
  obtain ⟨w1, hw1, k1, hb1, hz1⟩ := boxS w (.cells #[.int .i64 a, .int .i64 b] 23)
  obtain ⟨w2, hw2, k2, hb2, hz2⟩ := boxS w1 (.cells #[.int .i64 0, .int .i64 0] 25)
  obtain ⟨c0, c1, -, -⟩ := cel2 (blkT k1 hb2)
  have HC := fun w => hgCheckRatio a b w
  by_cases hE : ratH a b = 0
  · rw [hE, oz0, oz0]
    rw [hE] at HC
    obtain ⟨P, D, rfl, rfl, p1, p2, p3, -⟩ := ratH_zero hE
    rw [Int.toNat_natCast, Int.toNat_natCast]
    have HI := fun _ : Unit => fun w => (hgFullnessN P D w p1 p2 p3 : Calls _ _ _ w _)
    generalize qn _ _ = u at HI ⊢
    generalize qd _ _ = v at HI ⊢
    clear hE
    go_enter Tryz.func15, Tryz.ntmps15
    go_wp2_with fail
    refine (HC _).mono ?_
    rintro e w3 ⟨rfl, hb3⟩
    obtain ⟨d0, d1, -, -⟩ := cel2 (blkT (blkT k1 hb2) hb3)
    go_wp2_with fail
    refine (HI () _).mono ?_
    rintro e w4 ⟨rfl, hb4⟩
    have k4 := blkT (blkT k2 hb3) hb4
    obtain ⟨q0, q1, q2, q3⟩ := cel2 k4
    obtain ⟨s1, s2⟩ := set2 k4 (.int .i64 u) (.int .i64 v)
    obtain ⟨t0, t1, -, -⟩ := cel2 s1
    have hbw := tw (tw (tw hb1 hb2) hb3) hb4
    have hbf := hbw.grown s2 hbw.size (fun j e => by cases e; exact hb1.size)
    go_wp2
    exact bodyPost_ret (v := .tuple #[.agg #[.int .i64 u, .int .i64 v], .int .i64 0]) (by simp [results, Tryz.results15, go_sem, t0, t1]) rfl ⟨rfl, hbf⟩
  · rw [ozE hE, ozE hE]
    generalize ratH a b = E at HC hE ⊢
    have hne := nzH hE
    clear hE
    go_enter Tryz.func15, Tryz.ntmps15
    go_wp2_with fail
    refine (HC _).mono ?_
    rintro e w3 ⟨rfl, hb3⟩
    have k3 := blkT k2 hb3
    obtain ⟨q0, q1, q2, q3⟩ := cel2 k3
    obtain ⟨s1, s2⟩ := set2 k3 (.int .i64 0) (.int .i64 0)
    obtain ⟨t0, t1, -, -⟩ := cel2 s1
    have hbw := tw (tw hb1 hb2) hb3
    have hbf := hbw.grown s2 hbw.size (fun j e => by cases e; exact hb1.size)
    go_wp2
    exact bodyPost_ret (v := .tuple #[.agg #[.int .i64 0, .int .i64 0], .int .i64 E]) (by simp [results, Tryz.results15, go_sem, t0, t1]) rfl ⟨rfl, hbf⟩
end Go.Proofs.YtlkeejhaodedmaaGreatDoor

/- hang: checkHung, Width, Height and Hanging. -/
namespace Go.Proofs.YtlkeejhaodedmaaGreatDoor
open Go.RowKit

def hunH (a b bar m : Int) : Int := fstE [ratH a b, rngH bar 1 100, rngH m 1 300]
theorem hunH_zero {a b bar m : Int} (h : hunH a b bar m = 0) : ∃ P D B M : Nat, a = P ∧ b = D ∧ bar = B ∧ m = M ∧ 1 ≤ P ∧ P ≤ D ∧ D ≤ 30 ∧ P.gcd D = 1 ∧ 1 ≤ B ∧ B ≤ 100 ∧ 1 ≤ M ∧ M ≤ 300 := by
  obtain ⟨h1, h2, h3⟩ := fst3_zero h
  obtain ⟨P, D, rfl, rfl, p1, p2, p3, p4⟩ := ratH_zero h1
  have b1 := rngH_zero h2
  have b2 := rngH_zero h3
  exact ⟨P, D, bar.toNat, m.toNat, rfl, rfl, by omega, by omega, p1, p2, p3, p4, by omega, by omega, by omega, by omega⟩
set_option maxHeartbeats 1000000 in
set_option maxRecDepth 100000 in
theorem hgCheckHung (a b bar m : Int) (w : World) :
    Calls Tryz.prog 80 #[.agg #[.int .i64 a, .int .i64 b], .int .i64 bar, .int .i64 m] w fun e w' => e = .returned (.int .i64 (hunH a b bar m)) ∧ Below w.heap.size w w' := by
  obtain ⟨w1, hw1, k1, hb1, hz1⟩ := boxS w (.cells #[.int .i64 a, .int .i64 b] 23)
  obtain ⟨c0, c1, -, -⟩ := cel2 k1
  have HE := Lib.hid (show fstE [ratH a b, rngH bar 1 100, rngH m 1 300] = hunH a b bar m from rfl)
  generalize hunH a b bar m = E at HE ⊢
  go_enter Tryz.func80, Tryz.ntmps80
  go_wp2_with fail
  refine (hgCheckRatio a b _).mono ?_
  rintro e w2 ⟨rfl, hb2⟩
  go_wp2_with fail
  refine (hgCheckBar bar _).mono ?_
  rintro e w3 ⟨rfl, rfl⟩
  go_wp2_with fail
  refine (hgCheckMeshes m _).mono ?_
  rintro e w3 ⟨rfl, rfl⟩
  go_wp2_with fail
  refine (hgFirst3 _ _ _ _ _ 26 _ (by exact newBlk _ _)).mono ?_
  rintro e w3 ⟨rfl, rfl⟩
  rw [HE.out]
  have hbw := tw hb1 hb2
  go_wp2
  go_ret
  exact ⟨rfl, hbw.alloc hbw.size _⟩
theorem strB {B M : Nat} (hB : B ≤ 100) (hM : M ≤ 300) : 2 * B * M ≤ 60000 := Nat.le_trans (Nat.mul_le_mul (Nat.mul_le_mul (Nat.le_refl 2) hB) hM) (by decide)
set_option maxHeartbeats 2000000 in
set_option maxRecDepth 100000 in
theorem hgWidth (a b bar m : Int) (w : World) :
    Calls Tryz.prog 24 #[.agg #[.int .i64 a, .int .i64 b], .int .i64 bar, .int .i64 m] w fun e w' => e = .returned (.tuple #[.agg #[.int .i64 (oz (hunH a b bar m) (qn (2 * bar.toNat * m.toNat * a.toNat) (b.toNat) : Nat)), .int .i64 (oz (hunH a b bar m) (qd (2 * bar.toNat * m.toNat * a.toNat) (b.toNat) : Nat))], .int .i64 (hunH a b bar m)]) ∧ Below w.heap.size w w' := by
  obtain ⟨w1, hw1, k1, hb1, hz1⟩ := boxS w (.cells #[.int .i64 a, .int .i64 b] 23)
  obtain ⟨w2, hw2, k2, hb2, hz2⟩ := boxS w1 (.cells #[.int .i64 0, .int .i64 0] 23)
  obtain ⟨c0, c1, -, -⟩ := cel2 (blkT k1 hb2)
  have HC := fun w => hgCheckHung a b bar m w
  by_cases hE : hunH a b bar m = 0
  · rw [hE, oz0, oz0]
    rw [hE] at HC
    obtain ⟨P, D, B, M, rfl, rfl, rfl, rfl, p1, p2, p3, -, p4, p5, p6, p7⟩ := hunH_zero hE
    simp only [Int.toNat_natCast]
    have HS := fun w => hgStretched B M w p5 p7
    have hL := strB p5 p7
    generalize 2 * B * M = L at HS hL ⊢
    have hLP : L * P ≤ 60000 * 30 := Nat.mul_le_mul hL (by omega)
    have hw : IntKind.i64.wrap ((L : Int) * (P : Int)) = ((L * P : Nat) : Int) := by rw [mulI]; exact wr64 (by omega) (by omega)
    have HI := fun w => hgRatioOf (L * P) D w (by omega) (by omega) (by omega)
    generalize hW : L * P = W at HI hw ⊢
    clear hW hLP hE
    generalize qn _ _ = u at HI ⊢
    generalize qd _ _ = v at HI ⊢
    go_enter Tryz.func24, Tryz.ntmps24
    go_wp2_with fail
    refine (HC _).mono ?_
    rintro e w3 ⟨rfl, hb3⟩
    obtain ⟨d0, d1, -, -⟩ := cel2 (blkT (blkT k1 hb2) hb3)
    go_wp2_with fail
    refine wp_region_still_tail 8 (by kernel_rfl) (by kernel_rfl) ?_
    simp only [List.take_succ_cons, List.take_zero, List.drop_succ_cons, List.drop_zero]
    still_step
    still_step
    still_call (Calls.mono (HS _) fun _ _ h => ⟨h.1, h.2.symm⟩)
    still_step
    still_step
    still_step
    still_step
    still_step
    refine wpStill_nil ?_
    change wpList _ _ _ _ _ w3.drew
    have hb3d : Below w2.heap.size w2 w3.drew := below_drew hb3
    generalize World.drew w3 = w3' at *
    go_wp2_with fail
    refine (HI _).mono ?_
    rintro e w4 ⟨rfl, hb4⟩
    have k4 := blkT (blkT k2 hb3d) hb4
    obtain ⟨q0, q1, q2, q3⟩ := cel2 k4
    obtain ⟨s1, s2⟩ := set2 k4 (.int .i64 u) (.int .i64 v)
    obtain ⟨t0, t1, -, -⟩ := cel2 s1
    have hbw := tw (tw (tw hb1 hb2) hb3d) hb4
    have hbf := hbw.grown s2 hbw.size (fun j e => by cases e; exact hb1.size)
    go_wp2
    exact bodyPost_ret (v := .tuple #[.agg #[.int .i64 u, .int .i64 v], .int .i64 0]) (by simp [results, Tryz.results24, go_sem, t0, t1]) rfl ⟨rfl, hbf⟩
  · rw [ozE hE, ozE hE]
    generalize hunH a b bar m = E at HC hE ⊢
    have hne := nzH hE
    clear hE
    go_enter Tryz.func24, Tryz.ntmps24
    go_wp2_with fail
    refine (HC _).mono ?_
    rintro e w3 ⟨rfl, hb3⟩
    have k3 := blkT k2 hb3
    obtain ⟨q0, q1, q2, q3⟩ := cel2 k3
    obtain ⟨s1, s2⟩ := set2 k3 (.int .i64 0) (.int .i64 0)
    obtain ⟨t0, t1, -, -⟩ := cel2 s1
    have hbw := tw (tw hb1 hb2) hb3
    have hbf := hbw.grown s2 hbw.size (fun j e => by cases e; exact hb1.size)
    go_wp2
    exact bodyPost_ret (v := .tuple #[.agg #[.int .i64 0, .int .i64 0], .int .i64 E]) (by simp [results, Tryz.results24, go_sem, t0, t1]) rfl ⟨rfl, hbf⟩
set_option maxHeartbeats 2000000 in
set_option maxRecDepth 100000 in
theorem hgHeight (a b bar m : Int) (w : World) :
    Calls Tryz.prog 25 #[.agg #[.int .i64 a, .int .i64 b], .int .i64 bar, .int .i64 m] w fun e w' => e = .returned (.tuple #[.agg #[.int .i64 (oz (hunH a b bar m) (qn (upN (2 * bar.toNat * m.toNat) a.toNat b.toNat) (b.toNat * b.toNat) : Nat)), .int .i64 (oz (hunH a b bar m) (qd (upN (2 * bar.toNat * m.toNat) a.toNat b.toNat) (b.toNat * b.toNat) : Nat))], .int .i64 (hunH a b bar m)]) ∧ Below w.heap.size w w' := by
  obtain ⟨w1, hw1, k1, hb1, hz1⟩ := boxS w (.cells #[.int .i64 a, .int .i64 b] 23)
  obtain ⟨w2, hw2, k2, hb2, hz2⟩ := boxS w1 (.cells #[.int .i64 0, .int .i64 0] 25)
  obtain ⟨c0, c1, -, -⟩ := cel2 (blkT k1 hb2)
  have HC := fun w => hgCheckHung a b bar m w
  by_cases hE : hunH a b bar m = 0
  · rw [hE, oz0, oz0]
    rw [hE] at HC
    obtain ⟨P, D, B, M, rfl, rfl, rfl, rfl, p1, p2, p3, -, p4, p5, p6, p7⟩ := hunH_zero hE
    simp only [Int.toNat_natCast]
    have HS := fun w => hgStretched B M w p5 p7
    have hL := strB p5 p7
    generalize 2 * B * M = L at HS hL ⊢
    have hLP : L * P ≤ 60000 * 30 := Nat.mul_le_mul hL (by omega)
    have hw : IntKind.i64.wrap ((L : Int) * (P : Int)) = ((L * P : Nat) : Int) := by rw [mulI]; exact wr64 (by omega) (by omega)
    have HI := fun w => hgUpright P D L w p1 p2 p3 hL
    clear hw hLP hE
    generalize qn _ _ = u at HI ⊢
    generalize qd _ _ = v at HI ⊢
    go_enter Tryz.func25, Tryz.ntmps25
    go_wp2_with fail
    refine (HC _).mono ?_
    rintro e w3 ⟨rfl, hb3⟩
    obtain ⟨d0, d1, -, -⟩ := cel2 (blkT (blkT k1 hb2) hb3)
    go_wp2_with fail
    refine wp_region_still_tail 4 (by kernel_rfl) (by kernel_rfl) ?_
    simp only [List.take_succ_cons, List.take_zero, List.drop_succ_cons, List.drop_zero]
    still_step
    still_step
    still_step
    still_call (Calls.mono (HS _) fun _ _ h => ⟨h.1, h.2.symm⟩)
    refine wpStill_nil ?_
    change wpList _ _ _ _ _ w3.drew
    have hb3d : Below w2.heap.size w2 w3.drew := below_drew hb3
    generalize World.drew w3 = w3' at *
    go_wp2_with fail
    refine (HI _).mono ?_
    rintro e w4 ⟨rfl, hb4⟩
    have k4 := blkT (blkT k2 hb3d) hb4
    obtain ⟨q0, q1, q2, q3⟩ := cel2 k4
    obtain ⟨s1, s2⟩ := set2 k4 (.int .i64 u) (.int .i64 v)
    obtain ⟨t0, t1, -, -⟩ := cel2 s1
    have hbw := tw (tw (tw hb1 hb2) hb3d) hb4
    have hbf := hbw.grown s2 hbw.size (fun j e => by cases e; exact hb1.size)
    go_wp2
    exact bodyPost_ret (v := .tuple #[.agg #[.int .i64 u, .int .i64 v], .int .i64 0]) (by simp [results, Tryz.results25, go_sem, t0, t1]) rfl ⟨rfl, hbf⟩
  · rw [ozE hE, ozE hE]
    generalize hunH a b bar m = E at HC hE ⊢
    have hne := nzH hE
    clear hE
    go_enter Tryz.func25, Tryz.ntmps25
    go_wp2_with fail
    refine (HC _).mono ?_
    rintro e w3 ⟨rfl, hb3⟩
    have k3 := blkT k2 hb3
    obtain ⟨q0, q1, q2, q3⟩ := cel2 k3
    obtain ⟨s1, s2⟩ := set2 k3 (.int .i64 0) (.int .i64 0)
    obtain ⟨t0, t1, -, -⟩ := cel2 s1
    have hbw := tw (tw hb1 hb2) hb3
    have hbf := hbw.grown s2 hbw.size (fun j e => by cases e; exact hb1.size)
    go_wp2
    exact bodyPost_ret (v := .tuple #[.agg #[.int .i64 0, .int .i64 0], .int .i64 E]) (by simp [results, Tryz.results25, go_sem, t0, t1]) rfl ⟨rfl, hbf⟩
/-- The error of Hanging. -/
def hanH (r b m : Int) : Int := if fstE [rngH r 1 60000, rngH b 1 100, rngH m 1 300] = 0 then (if 2 * b.toNat * m.toNat < r.toNat then 23 else if 30 < qd r.toNat (2 * b.toNat * m.toNat) then 4 else 0) else fstE [rngH r 1 60000, rngH b 1 100, rngH m 1 300]
set_option maxHeartbeats 2000000 in
set_option maxRecDepth 100000 in
theorem hgHanging (r b m : Int) (w : World) :
    Calls Tryz.prog 23 #[.int .i64 r, .int .i64 b, .int .i64 m] w fun e w' => e = .returned (.tuple #[.agg #[.int .i64 (oz (hanH r b m) (qn r.toNat (2 * b.toNat * m.toNat) : Nat)), .int .i64 (oz (hanH r b m) (qd r.toNat (2 * b.toNat * m.toNat) : Nat))], .int .i64 (hanH r b m)]) ∧ Below w.heap.size w w' := by
  obtain ⟨w1, hw1, k1, hb1, hz1⟩ := boxS w (.cells #[.int .i64 0, .int .i64 0] 23)
  by_cases hz : fstE [rngH r 1 60000, rngH b 1 100, rngH m 1 300] = 0
  · obtain ⟨r1, r2, r3⟩ := fst3_zero hz
    have H0 := Lib.hid hz
    obtain ⟨g1, g2⟩ := rngH_zero r1
    obtain ⟨g3, g4⟩ := rngH_zero r2
    obtain ⟨g5, g6⟩ := rngH_zero r3
    obtain ⟨R, rfl⟩ : ∃ R : Nat, r = (R : Int) := ⟨r.toNat, by omega⟩
    obtain ⟨B, rfl⟩ : ∃ B : Nat, b = (B : Int) := ⟨b.toNat, by omega⟩
    obtain ⟨M, rfl⟩ : ∃ M : Nat, m = (M : Int) := ⟨m.toNat, by omega⟩
    have HS := fun w => hgStretched B M w (by omega) (by omega)
    have hL := strB (B := B) (M := M) (by omega) (by omega)
    have hL0 : 0 < 2 * B * M := Nat.mul_pos (by omega) (by omega)
    obtain ⟨E, hE⟩ : ∃ E, hanH (R : Int) (B : Int) (M : Int) = E := ⟨_, rfl⟩
    rw [hE]
    rw [hanH, if_pos hz] at hE
    replace hE : (if 2 * B * M < R then (23 : Int) else if 30 < qd R (2 * B * M) then 4 else 0) = E := hE
    simp only [Int.toNat_natCast]
    generalize 2 * B * M = L at HS hL hL0 hE ⊢
    clear hz r1 r2 r3
    by_cases hlt : L < R
    · rw [if_pos hlt] at hE
      subst hE
      have hlti : (L : Int) < (R : Int) := by omega
      rw [ozE (by decide), ozE (by decide)]
      clear hlt
      go_enter Tryz.func23, Tryz.ntmps23
      go_wp2_with fail
      refine (hgCheckRange _ _ _ _).mono ?_
      rintro e w2 ⟨rfl, rfl⟩
      go_wp2_with fail
      refine (hgCheckBar _ _).mono ?_
      rintro e w2 ⟨rfl, rfl⟩
      go_wp2_with fail
      refine (hgCheckMeshes _ _).mono ?_
      rintro e w2 ⟨rfl, rfl⟩
      obtain ⟨w2, hw2, -, hb2, hz2⟩ := boxS w1 (.cells #[.int .i64 (rngH (R : Int) 1 60000), .int .i64 (rngH (B : Int) 1 100), .int .i64 (rngH (M : Int) 1 300)] 26)
      have k2 := blkT k1 hb2
      have n2 : w2.heap[w1.heap.size]? = some (.cells #[.int .i64 (rngH (R : Int) 1 60000), .int .i64 (rngH (B : Int) 1 100), .int .i64 (rngH (M : Int) 1 300)] 26 (0, 0)) := by rw [← hw2]; exact newBlk _ _
      go_wp2_with fail
      refine (hgFirst3 _ _ _ _ _ 26 _ n2).mono ?_
      rintro e w3 ⟨rfl, rfl⟩
      rw [H0.out]
      go_wp2_with fail
      refine (HS _).mono ?_
      rintro e w3 ⟨rfl, rfl⟩
      have hbw := tw hb1 hb2
      obtain ⟨q0, q1, q2, q3⟩ := cel2 k2
      obtain ⟨s1, s2⟩ := set2 k2 (.int .i64 0) (.int .i64 0)
      obtain ⟨t0, t1, -, -⟩ := cel2 s1
      have hbf := hbw.grown s2 hbw.size (fun j e => by cases e; exact Nat.le_refl _)
      go_wp2
      exact bodyPost_ret (v := .tuple #[.agg #[.int .i64 0, .int .i64 0], .int .i64 23]) (by simp [results, Tryz.results23, go_sem, t0, t1]) rfl ⟨rfl, hbf⟩
    · rw [if_neg hlt] at hE
      have hlti : ¬ (L : Int) < (R : Int) := by omega
      have HI := fun w => hgRatioOf R L w (by omega) (by omega) hL0
      have hvle := qd_le R L
      generalize qn R L = u at HI ⊢
      generalize qd R L = v at HI hE hvle ⊢
      by_cases hv : 30 < v
      · rw [if_pos hv] at hE
        subst hE
        have hvi : (30 : Int) < (v : Int) := by omega
        rw [ozE (by decide), ozE (by decide)]
        clear hlt hv
        go_enter Tryz.func23, Tryz.ntmps23
        go_wp2_with fail
        refine (hgCheckRange _ _ _ _).mono ?_
        rintro e w2 ⟨rfl, rfl⟩
        go_wp2_with fail
        refine (hgCheckBar _ _).mono ?_
        rintro e w2 ⟨rfl, rfl⟩
        go_wp2_with fail
        refine (hgCheckMeshes _ _).mono ?_
        rintro e w2 ⟨rfl, rfl⟩
        obtain ⟨w2, hw2, -, hb2, hz2⟩ := boxS w1 (.cells #[.int .i64 (rngH (R : Int) 1 60000), .int .i64 (rngH (B : Int) 1 100), .int .i64 (rngH (M : Int) 1 300)] 26)
        have k2 := blkT k1 hb2
        have n2 : w2.heap[w1.heap.size]? = some (.cells #[.int .i64 (rngH (R : Int) 1 60000), .int .i64 (rngH (B : Int) 1 100), .int .i64 (rngH (M : Int) 1 300)] 26 (0, 0)) := by rw [← hw2]; exact newBlk _ _
        go_wp2_with fail
        refine (hgFirst3 _ _ _ _ _ 26 _ n2).mono ?_
        rintro e w3 ⟨rfl, rfl⟩
        rw [H0.out]
        go_wp2_with fail
        refine (HS _).mono ?_
        rintro e w3 ⟨rfl, rfl⟩
        go_wp2_with fail
        refine (HI _).mono ?_
        rintro e w3 ⟨rfl, hb3⟩
        obtain ⟨w4, hw4, k4, hb4, hz4⟩ := boxS w3 (.cells #[.int .i64 u, .int .i64 v] 23)
        obtain ⟨x0, x1, -, -⟩ := cel2 k4
        have k5 := blkT (blkT k2 hb3) hb4
        have hbw := tw (tw (tw hb1 hb2) hb3) hb4
        obtain ⟨q0, q1, q2, q3⟩ := cel2 k5
        obtain ⟨s1, s2⟩ := set2 k5 (.int .i64 0) (.int .i64 0)
        obtain ⟨t0, t1, -, -⟩ := cel2 s1
        have hbf := hbw.grown s2 hbw.size (fun j e => by cases e; exact Nat.le_refl _)
        go_wp2
        exact bodyPost_ret (v := .tuple #[.agg #[.int .i64 0, .int .i64 0], .int .i64 4]) (by simp [results, Tryz.results23, go_sem, t0, t1]) rfl ⟨rfl, hbf⟩
      · rw [if_neg hv] at hE
        subst hE
        have hvi : ¬ (30 : Int) < (v : Int) := by omega
        rw [oz0, oz0]
        clear hlt hv
        go_enter Tryz.func23, Tryz.ntmps23
        go_wp2_with fail
        refine (hgCheckRange _ _ _ _).mono ?_
        rintro e w2 ⟨rfl, rfl⟩
        go_wp2_with fail
        refine (hgCheckBar _ _).mono ?_
        rintro e w2 ⟨rfl, rfl⟩
        go_wp2_with fail
        refine (hgCheckMeshes _ _).mono ?_
        rintro e w2 ⟨rfl, rfl⟩
        obtain ⟨w2, hw2, -, hb2, hz2⟩ := boxS w1 (.cells #[.int .i64 (rngH (R : Int) 1 60000), .int .i64 (rngH (B : Int) 1 100), .int .i64 (rngH (M : Int) 1 300)] 26)
        have k2 := blkT k1 hb2
        have n2 : w2.heap[w1.heap.size]? = some (.cells #[.int .i64 (rngH (R : Int) 1 60000), .int .i64 (rngH (B : Int) 1 100), .int .i64 (rngH (M : Int) 1 300)] 26 (0, 0)) := by rw [← hw2]; exact newBlk _ _
        go_wp2_with fail
        refine (hgFirst3 _ _ _ _ _ 26 _ n2).mono ?_
        rintro e w3 ⟨rfl, rfl⟩
        rw [H0.out]
        go_wp2_with fail
        refine (HS _).mono ?_
        rintro e w3 ⟨rfl, rfl⟩
        go_wp2_with fail
        refine (HI _).mono ?_
        rintro e w3 ⟨rfl, hb3⟩
        obtain ⟨w4, hw4, k4, hb4, hz4⟩ := boxS w3 (.cells #[.int .i64 u, .int .i64 v] 23)
        obtain ⟨x0, x1, -, -⟩ := cel2 k4
        have k5 := blkT (blkT k2 hb3) hb4
        have hbw := tw (tw (tw hb1 hb2) hb3) hb4
        obtain ⟨q0, q1, q2, q3⟩ := cel2 k5
        obtain ⟨s1, s2⟩ := set2 k5 (.int .i64 u) (.int .i64 v)
        obtain ⟨t0, t1, -, -⟩ := cel2 s1
        have hbf := hbw.grown s2 hbw.size (fun j e => by cases e; exact Nat.le_refl _)
        go_wp2
        exact bodyPost_ret (v := .tuple #[.agg #[.int .i64 u, .int .i64 v], .int .i64 0]) (by simp [results, Tryz.results23, go_sem, t0, t1]) rfl ⟨rfl, hbf⟩
  · obtain ⟨E, hE⟩ : ∃ E, hanH r b m = E := ⟨_, rfl⟩
    rw [hE]
    rw [hanH, if_neg hz] at hE
    have H0 := Lib.hid hE
    rw [hE] at hz
    rw [ozE hz, ozE hz]
    have hne := nzH hz
    clear hE hz
    go_enter Tryz.func23, Tryz.ntmps23
    go_wp2_with fail
    refine (hgCheckRange _ _ _ _).mono ?_
    rintro e w2 ⟨rfl, rfl⟩
    go_wp2_with fail
    refine (hgCheckBar _ _).mono ?_
    rintro e w2 ⟨rfl, rfl⟩
    go_wp2_with fail
    refine (hgCheckMeshes _ _).mono ?_
    rintro e w2 ⟨rfl, rfl⟩
    obtain ⟨w2, hw2, -, hb2, hz2⟩ := boxS w1 (.cells #[.int .i64 (rngH r 1 60000), .int .i64 (rngH b 1 100), .int .i64 (rngH m 1 300)] 26)
    have k2 := blkT k1 hb2
    have n2 : w2.heap[w1.heap.size]? = some (.cells #[.int .i64 (rngH r 1 60000), .int .i64 (rngH b 1 100), .int .i64 (rngH m 1 300)] 26 (0, 0)) := by rw [← hw2]; exact newBlk _ _
    go_wp2_with fail
    refine (hgFirst3 _ _ _ _ _ 26 _ n2).mono ?_
    rintro e w3 ⟨rfl, rfl⟩
    rw [H0.out]
    have hbw := tw hb1 hb2
    obtain ⟨q0, q1, q2, q3⟩ := cel2 k2
    obtain ⟨s1, s2⟩ := set2 k2 (.int .i64 0) (.int .i64 0)
    obtain ⟨t0, t1, -, -⟩ := cel2 s1
    have hbf := hbw.grown s2 hbw.size (fun j e => by cases e; exact Nat.le_refl _)
    go_wp2
    exact bodyPost_ret (v := .tuple #[.agg #[.int .i64 0, .int .i64 0], .int .i64 E]) (by simp [results, Tryz.results23, go_sem, t0, t1]) rfl ⟨rfl, hbf⟩
end Go.Proofs.YtlkeejhaodedmaaGreatDoor
