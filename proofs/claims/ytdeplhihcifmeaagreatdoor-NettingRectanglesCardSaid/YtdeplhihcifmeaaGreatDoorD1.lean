/- Helpers: D1. -/
import Derived.Test.YtdeplhihcifmeaaGreatDoorRows
import Derived.WalkKit
import Derived.WalkSpells
import Derived.WalkLawsBesides
import Derived.Lib.Hide
import Derived.IntWalk
import Derived.MapKept
import Derived.Laws.StructEq
import Derived.ChangeMaps5
import Derived.WideKeyEntry
import Derived.Maps.Range
import Derived.Sort.MapsRangeIn
import Derived.RangeFuncSeq
import Derived.Deep.RegionWith
import Derived.Deep.QuietTactic
import Derived.Deep.DeepCutAuto
import Derived.BigQuiet
import Derived.StillTailTactics
import Derived.Deep.RegionHeld3
import Derived.Laws.BitsAllLaws
/- Plain mathematics of nets: bars, knots, meshes and connected parts of lists of bars; how their numbers add up for two lists far from one another. No program is spoken of here. -/
namespace Go.Proofs.YtdeplhihcifmeaaGreatDoor.Ck

structure Knot where
  x : Int
  y : Int
deriving DecidableEq

structure Bar where
  x : Int
  y : Int
  s : Int
deriving DecidableEq

def Bar.lo (b : Bar) : Knot := ⟨b.x, b.y⟩
def Bar.hi (b : Bar) : Knot := ⟨b.x + b.s, b.y + 1⟩
def Blt (a b : Bar) : Prop := a.y < b.y ∨ a.y = b.y ∧ (a.x < b.x ∨ a.x = b.x ∧ a.s < b.s)
theorem Bar.ext' {a b : Bar} (h1 : a.x = b.x) (h2 : a.y = b.y) (h3 : a.s = b.s) : a = b := by
  cases a; cases b; cases h1; cases h2; cases h3; rfl
def inPlace (n : Int) : Prop := -100000 ≤ n ∧ n ≤ 100000
def okKnot (k : Knot) : Prop := inPlace k.x ∧ inPlace k.y ∧ (k.x + k.y) % 2 = 0
def okBar (b : Bar) : Prop := okKnot b.lo ∧ (b.s = -1 ∨ b.s = 1) ∧ inPlace b.hi.x ∧ inPlace b.hi.y
def Net (l : List Bar) : Prop := (∀ b ∈ l, okBar b) ∧ l.Pairwise Blt
def near (b : Bar) : Prop := -200 ≤ b.x ∧ b.x ≤ 200 ∧ -200 ≤ b.y ∧ b.y ≤ 200

theorem Blt.trans {a b c : Bar} (h : Blt a b) (k : Blt b c) : Blt a c := by unfold Blt at *; omega
theorem Blt.irrefl {a : Bar} (h : Blt a a) : False := by unfold Blt at h; omega
theorem Blt.tri (a b : Bar) : Blt a b ∨ a = b ∨ Blt b a := by
  obtain ⟨a1, a2, a3⟩ := a
  obtain ⟨b1, b2, b3⟩ := b
  simp only [Blt, Bar.mk.injEq]
  omega
theorem Net.nodup {l : List Bar} (h : Net l) : l.Nodup := h.2.imp (fun {a b} (k : Blt a b) e => by subst e; exact k.irrefl)

def ends (l : List Bar) : List Knot := l.flatMap fun b => [b.lo, b.hi]
theorem mem_ends {l : List Bar} {k : Knot} : k ∈ ends l ↔ ∃ b ∈ l, k = b.lo ∨ k = b.hi := by simp [ends]
theorem ends_append (a b : List Bar) : ends (a ++ b) = ends a ++ ends b := by simp [ends]

/-! ### lists without repetition -/
def nub : List Knot → List Knot
  | [] => []
  | k :: r => if k ∈ r then nub r else k :: nub r
theorem mem_nub {k : Knot} : ∀ {l : List Knot}, k ∈ nub l ↔ k ∈ l
  | [] => Iff.rfl
  | m :: r => by
    unfold nub
    split
    · rename_i h
      rw [mem_nub, List.mem_cons]
      exact ⟨Or.inr, fun h' => h'.elim (fun e => e ▸ h) id⟩
    · rw [List.mem_cons, List.mem_cons, mem_nub]
theorem nub_nodup : ∀ l : List Knot, (nub l).Nodup
  | [] => by simp [nub]
  | m :: r => by
    unfold nub
    split
    · exact nub_nodup r
    · rename_i h
      exact List.nodup_cons.2 ⟨fun h' => h (mem_nub.1 h'), nub_nodup r⟩
theorem same_length {a b : List Knot} (ha : a.Nodup) (hb : b.Nodup) (h : ∀ k, k ∈ a ↔ k ∈ b) : a.length = b.length :=
  ((List.perm_ext_iff_of_nodup ha hb).2 h).length_eq

def nK (l : List Bar) : Nat := (nub (ends l)).length
theorem nK_eq {l : List Bar} {ks : List Knot} (hn : ks.Nodup) (hm : ∀ k, k ∈ ks ↔ k ∈ ends l) : ks.length = nK l :=
  same_length hn (nub_nodup _) fun k => by rw [hm, mem_nub]
theorem nK_add {a b : List Bar} (h : ∀ k ∈ ends a, k ∉ ends b) : nK (a ++ b) = nK a + nK b := by
  rw [nK, nK, nK, ← List.length_append]
  refine same_length (nub_nodup _) ?_ fun k => ?_
  · exact List.nodup_append.2 ⟨nub_nodup _, nub_nodup _, fun x hx y hy e => h x (mem_nub.1 hx) (mem_nub.1 (e ▸ hy))⟩
  · rw [mem_nub, ends_append, List.mem_append, List.mem_append, mem_nub, mem_nub]
theorem knots_union {a b u : List Bar} {k l m : List Knot} (hk : k.Nodup) (hl : l.Nodup) (hm : m.Nodup) (mk : ∀ p, p ∈ k ↔ p ∈ ends a) (ml : ∀ p, p ∈ l ↔ p ∈ ends b) (mm : ∀ p, p ∈ m ↔ p ∈ ends u)
    (hu : ∀ x, x ∈ u ↔ x ∈ a ∨ x ∈ b) : m.length + k.countP (fun p => decide (p ∈ l)) = k.length + l.length := by
  have he : ∀ p, p ∈ ends u ↔ p ∈ ends a ∨ p ∈ ends b := by
    intro p
    simp only [mem_ends, hu]
    constructor
    · rintro ⟨x, hx | hx, h⟩
      · exact .inl ⟨x, hx, h⟩
      · exact .inr ⟨x, hx, h⟩
    · rintro (⟨x, hx, h⟩ | ⟨x, hx, h⟩)
      · exact ⟨x, .inl hx, h⟩
      · exact ⟨x, .inr hx, h⟩
  have h1 : m.length = (l ++ k.filter (fun p => !decide (p ∈ l))).length := by
    refine same_length hm (List.nodup_append.2 ⟨hl, hk.filter _, ?_⟩) fun p => ?_
    · intro x hx y hy e
      subst e
      have := (List.mem_filter.1 hy).2
      simp [hx] at this
    · rw [mm, he, List.mem_append, List.mem_filter]
      by_cases hp : p ∈ l
      · simp [hp, (ml p).1 hp]
      · have : p ∉ ends b := fun h => hp ((ml p).2 h)
        simp [hp, this, mk]
  rw [h1, List.length_append, ← List.countP_eq_length_filter]
  have h2 := List.length_eq_countP_add_countP (l := k) (fun p => decide (p ∈ l))
  have h3 : List.countP (fun p => !decide (p ∈ l)) k = List.countP (fun a => decide ¬(decide (a ∈ l)) = true) k := List.countP_congr fun x _ => by simp
  omega

/-! ### meshes -/
def isMesh (l : List Bar) (b : Bar) : Bool := decide (b.s = -1) && (decide ((⟨b.x, b.y, 1⟩ : Bar) ∈ l) && (decide ((⟨b.x - 1, b.y + 1, 1⟩ : Bar) ∈ l) && decide ((⟨b.x + 1, b.y + 1, -1⟩ : Bar) ∈ l)))
def nM (l : List Bar) : Nat := l.countP (isMesh l)
theorem nM_add {a b : List Bar} (ha : ∀ x ∈ a, x.y ≤ 200) (hb : ∀ x ∈ b, 800 ≤ x.y) : nM (a ++ b) = nM a + nM b := by
  have h1 : ∀ x : Bar, x.y ≤ 201 → (x ∈ a ++ b ↔ x ∈ a) := fun x hx => by
    rw [List.mem_append]
    exact ⟨fun h => h.elim id (fun h' => absurd (hb x h') (by omega)), .inl⟩
  have h2 : ∀ x : Bar, 201 ≤ x.y → (x ∈ a ++ b ↔ x ∈ b) := fun x hx => by
    rw [List.mem_append]
    exact ⟨fun h => h.elim (fun h' => absurd (ha x h') (by omega)) id, .inr⟩
  rw [nM, List.countP_append, nM, nM]
  congr 1
  · refine List.countP_congr fun x hx => ?_
    have := ha x hx
    unfold isMesh
    rw [decide_eq_decide.2 (h1 ⟨x.x, x.y, 1⟩ (by simp; omega)), decide_eq_decide.2 (h1 ⟨x.x - 1, x.y + 1, 1⟩ (by simp; omega)), decide_eq_decide.2 (h1 ⟨x.x + 1, x.y + 1, -1⟩ (by simp; omega))]
  · refine List.countP_congr fun x hx => ?_
    have := hb x hx
    unfold isMesh
    rw [decide_eq_decide.2 (h2 ⟨x.x, x.y, 1⟩ (by simp; omega)), decide_eq_decide.2 (h2 ⟨x.x - 1, x.y + 1, 1⟩ (by simp; omega)), decide_eq_decide.2 (h2 ⟨x.x + 1, x.y + 1, -1⟩ (by simp; omega))]

/-! ### parts -/
def Adj (b : Bar) (k m : Knot) : Prop := k = b.lo ∧ m = b.hi ∨ k = b.hi ∧ m = b.lo
inductive Conn (l : List Bar) : Knot → Knot → Prop
  | refl (k : Knot) : Conn l k k
  | step {k m n : Knot} (b : Bar) : b ∈ l → Adj b k m → Conn l m n → Conn l k n
theorem Conn.trans {l : List Bar} {k m n : Knot} (h : Conn l k m) (h' : Conn l m n) : Conn l k n := by
  induction h with
  | refl => exact h'
  | step b hb ha _ ih => exact .step b hb ha (ih h')
theorem Adj.symm {b : Bar} {k m : Knot} (h : Adj b k m) : Adj b m k := h.elim (fun h => .inr ⟨h.2, h.1⟩) (fun h => .inl ⟨h.2, h.1⟩)
theorem Conn.one {l : List Bar} {b : Bar} {k m : Knot} (hb : b ∈ l) (h : Adj b k m) : Conn l k m := .step b hb h (.refl m)
theorem Conn.symm {l : List Bar} {k m : Knot} (h : Conn l k m) : Conn l m k := by
  induction h with
  | refl => exact .refl _
  | step b hb ha _ ih => exact ih.trans (.one hb ha.symm)
theorem Conn.mono {l l' : List Bar} (hl : ∀ b ∈ l, b ∈ l') {k m : Knot} (h : Conn l k m) : Conn l' k m := by
  induction h with
  | refl => exact .refl _
  | step b hb ha _ ih => exact .step b (hl b hb) ha ih
theorem Adj.ends {l : List Bar} {b : Bar} {k m : Knot} (hb : b ∈ l) (h : Adj b k m) : k ∈ ends l ∧ m ∈ ends l := by
  rw [mem_ends, mem_ends]
  rcases h with ⟨h1, h2⟩ | ⟨h1, h2⟩
  · exact ⟨⟨b, hb, .inl h1⟩, ⟨b, hb, .inr h2⟩⟩
  · exact ⟨⟨b, hb, .inr h1⟩, ⟨b, hb, .inl h2⟩⟩

inductive CntIs (l : List Bar) : List Knot → List Bar → Nat → Prop
  | nil (seen : List Knot) : CntIs l seen [] 0
  | old {seen : List Knot} {b : Bar} {r : List Bar} {n : Nat} : (∃ s ∈ seen, Conn l s b.lo) → CntIs l (b.lo :: seen) r n → CntIs l seen (b :: r) n
  | fresh {seen : List Knot} {b : Bar} {r : List Bar} {n : Nat} : (¬ ∃ s ∈ seen, Conn l s b.lo) → CntIs l (b.lo :: seen) r n → CntIs l seen (b :: r) (n + 1)
def PartsIs (l : List Bar) (n : Nat) : Prop := CntIs l [] l n
theorem CntIs.det {l : List Bar} : ∀ {r : List Bar} {seen : List Knot} {n m : Nat}, CntIs l seen r n → CntIs l seen r m → n = m
  | [], _, _, _, .nil _, .nil _ => rfl
  | _ :: _, _, _, _, .old _ h, .old _ h' => h.det h'
  | _ :: _, _, _, _, .old e _, .fresh e' _ => absurd e e'
  | _ :: _, _, _, _, .fresh e _, .old e' _ => absurd e' e
  | _ :: _, _, _, _, .fresh _ h, .fresh _ h' => congrArg (· + 1) (h.det h')
theorem CntIs.total {l : List Bar} : ∀ (r : List Bar) (seen : List Knot), ∃ n, CntIs l seen r n
  | [], seen => ⟨0, .nil seen⟩
  | b :: r, seen => by
    obtain ⟨n, h⟩ := CntIs.total (l := l) r (b.lo :: seen)
    by_cases e : ∃ s ∈ seen, Conn l s b.lo
    · exact ⟨n, .old e h⟩
    · exact ⟨n + 1, .fresh e h⟩
theorem CntIs.mono {l l' : List Bar} : ∀ {r : List Bar} {seen seen' : List Knot} {n : Nat}, (∀ b ∈ r, ∀ t : List Knot, (∀ x ∈ t, ∃ c ∈ r, x = c.lo) → ((∃ s ∈ t ++ seen, Conn l s b.lo) ↔ ∃ s ∈ t ++ seen', Conn l' s b.lo)) → CntIs l seen r n → CntIs l' seen' r n
  | [], _, _, _, _, .nil _ => .nil _
  | b :: r, seen, seen', _, hc, .old e h =>
    .old ((hc b (by simp) [] (by simp)).1 e) (h.mono fun c hcr t ht => by
      have := hc c (by simp [hcr]) (t ++ [b.lo]) (by
        intro x hx
        rcases List.mem_append.1 hx with hx | hx
        · obtain ⟨d, hd, e⟩ := ht x hx; exact ⟨d, by simp [hd], e⟩
        · exact ⟨b, by simp, by simpa using hx⟩)
      simpa using this)
  | b :: r, seen, seen', _, hc, .fresh e h =>
    .fresh (fun e' => e ((hc b (by simp) [] (by simp)).2 e')) (h.mono fun c hcr t ht => by
      have := hc c (by simp [hcr]) (t ++ [b.lo]) (by
        intro x hx
        rcases List.mem_append.1 hx with hx | hx
        · obtain ⟨d, hd, e⟩ := ht x hx; exact ⟨d, by simp [hd], e⟩
        · exact ⟨b, by simp, by simpa using hx⟩)
      simpa using this)
theorem CntIs.append {l : List Bar} : ∀ {r r' : List Bar} {seen : List Knot} {n m : Nat}, CntIs l seen r n → CntIs l ((r.map Bar.lo).reverse ++ seen) r' m → CntIs l seen (r ++ r') (n + m)
  | [], _, _, _, _, .nil _, h' => by simpa using h'
  | b :: r, r', seen, _, m, .old e h, h' => .old e (h.append (by simpa using h'))
  | b :: r, r', seen, _, m, .fresh (n := n) e h, h' => by
    rw [show n + 1 + m = (n + m) + 1 from by omega]
    exact .fresh e (h.append (by simpa using h'))

theorem Conn.left {a b : List Bar} (hd : ∀ k ∈ ends a, k ∉ ends b) {k m : Knot} (h : Conn (a ++ b) k m) : k ∈ ends a → Conn a k m ∧ m ∈ ends a := by
  induction h with
  | refl => exact fun h => ⟨.refl _, h⟩
  | step c hc ha _ ih =>
    intro hk
    rcases List.mem_append.1 hc with hc | hc
    · obtain ⟨h1, h2⟩ := ih (ha.ends hc).2
      exact ⟨.step c hc ha h1, h2⟩
    · exact absurd (ha.ends hc).1 (hd _ hk)
theorem Conn.right {a b : List Bar} (hd : ∀ k ∈ ends a, k ∉ ends b) {k m : Knot} (h : Conn (a ++ b) k m) : k ∈ ends b → Conn b k m ∧ m ∈ ends b := by
  induction h with
  | refl => exact fun h => ⟨.refl _, h⟩
  | step c hc ha _ ih =>
    intro hk
    rcases List.mem_append.1 hc with hc | hc
    · exact absurd hk (hd _ (ha.ends hc).1)
    · obtain ⟨h1, h2⟩ := ih (ha.ends hc).2
      exact ⟨.step c hc ha h1, h2⟩
theorem lo_ends {l : List Bar} {b : Bar} (h : b ∈ l) : b.lo ∈ ends l := mem_ends.2 ⟨b, h, .inl rfl⟩

theorem PartsIs.add {a b : List Bar} {p q : Nat} (hd : ∀ k ∈ ends a, k ∉ ends b) (hp : PartsIs a p) (hq : PartsIs b q) : PartsIs (a ++ b) (p + q) := by
  have inl : ∀ {k m : Knot}, Conn a k m → Conn (a ++ b) k m := fun h => h.mono fun _ h => List.mem_append.2 (.inl h)
  have inr : ∀ {k m : Knot}, Conn b k m → Conn (a ++ b) k m := fun h => h.mono fun _ h => List.mem_append.2 (.inr h)
  refine CntIs.append (hp.mono (l' := a ++ b) (seen' := []) fun x _ t ht => ?_) (hq.mono fun x hx t ht => ?_)
  · constructor
    · rintro ⟨s, hs, h⟩; exact ⟨s, hs, inl h⟩
    · rintro ⟨s, hs, h⟩
      obtain ⟨c, hc, rfl⟩ := ht s (by simpa using hs)
      exact ⟨_, hs, (h.left hd (lo_ends hc)).1⟩
  · constructor
    · rintro ⟨s, hs, h⟩; exact ⟨s, by simp at hs ⊢; exact .inl hs, inr h⟩
    · rintro ⟨s, hs, h⟩
      rcases List.mem_append.1 hs with hs | hs
      · obtain ⟨c, hc, rfl⟩ := ht s hs
        exact ⟨_, by simp [hs], (h.right hd (lo_ends hc)).1⟩
      · have : s ∈ ends a := by
          simp at hs
          obtain ⟨c, hc, rfl⟩ := hs
          exact lo_ends hc
        exact absurd (lo_ends hx) (hd _ (h.left hd this).2)

/-! ### shifts -/
def Bar.shift (dx dy : Int) (b : Bar) : Bar := ⟨b.x + dx, b.y + dy, b.s⟩
def Knot.shift (dx dy : Int) (k : Knot) : Knot := ⟨k.x + dx, k.y + dy⟩
theorem shift_lo (dx dy : Int) (b : Bar) : (b.shift dx dy).lo = b.lo.shift dx dy := rfl
theorem shift_hi (dx dy : Int) (b : Bar) : (b.shift dx dy).hi = b.hi.shift dx dy := by simp [Bar.shift, Bar.hi, Knot.shift]; omega
theorem Knot.shift_inj {dx dy : Int} {k m : Knot} (h : k.shift dx dy = m.shift dx dy) : k = m := by
  obtain ⟨a, b⟩ := k
  obtain ⟨c, d⟩ := m
  simp only [Knot.shift, Knot.mk.injEq] at h ⊢
  omega
theorem Conn.shift {l : List Bar} {k m : Knot} (dx dy : Int) (h : Conn l k m) : Conn (l.map (Bar.shift dx dy)) (k.shift dx dy) (m.shift dx dy) := by
  induction h with
  | refl => exact .refl _
  | step b hb ha _ ih =>
    refine .step (b.shift dx dy) (List.mem_map_of_mem hb) ?_ ih
    rcases ha with ⟨rfl, rfl⟩ | ⟨rfl, rfl⟩
    · exact .inl ⟨(shift_lo ..).symm, (shift_hi ..).symm⟩
    · exact .inr ⟨(shift_hi ..).symm, (shift_lo ..).symm⟩
theorem Bar.shift_back (dx dy : Int) (b : Bar) : (b.shift dx dy).shift (-dx) (-dy) = b :=
  Bar.ext' (show b.x + dx + -dx = b.x by omega) (show b.y + dy + -dy = b.y by omega) rfl
theorem Knot.shift_back (dx dy : Int) (b : Knot) : (b.shift dx dy).shift (-dx) (-dy) = b := by
  obtain ⟨x, y⟩ := b
  simp only [Knot.shift, Knot.mk.injEq]
  omega
theorem Conn.unshift {l : List Bar} {k m : Knot} (dx dy : Int) (h : Conn (l.map (Bar.shift dx dy)) (k.shift dx dy) (m.shift dx dy)) : Conn l k m := by
  have := h.shift (-dx) (-dy)
  rw [List.map_map, Knot.shift_back, Knot.shift_back] at this
  have e : (Bar.shift (-dx) (-dy) ∘ Bar.shift dx dy) = id := funext fun b => Bar.shift_back dx dy b
  rwa [e, List.map_id] at this
theorem CntIs.shift {l : List Bar} (dx dy : Int) : ∀ {r : List Bar} {seen : List Knot} {n : Nat}, CntIs l seen r n → CntIs (l.map (Bar.shift dx dy)) (seen.map (Knot.shift dx dy)) (r.map (Bar.shift dx dy)) n
  | [], _, _, .nil _ => .nil _
  | b :: r, seen, _, .old e h => by
    obtain ⟨s, hs, hc⟩ := e
    exact .old ⟨_, List.mem_map_of_mem hs, hc.shift dx dy⟩ (h.shift dx dy)
  | b :: r, seen, _, .fresh e h => by
    refine .fresh (fun ⟨s, hs, hc⟩ => ?_) (h.shift dx dy)
    obtain ⟨t, ht, rfl⟩ := List.mem_map.1 hs
    exact e ⟨t, ht, hc.unshift dx dy⟩
theorem PartsIs.shift {l : List Bar} {n : Nat} (dx dy : Int) (h : PartsIs l n) : PartsIs (l.map (Bar.shift dx dy)) n := CntIs.shift dx dy h
theorem ends_shift (dx dy : Int) (l : List Bar) : ends (l.map (Bar.shift dx dy)) = (ends l).map (Knot.shift dx dy) := by
  simp only [ends, List.flatMap_map, List.map_flatMap]
  congr
  funext b
  simp [shift_lo, shift_hi]
theorem nub_map (dx dy : Int) : ∀ l : List Knot, nub (l.map (Knot.shift dx dy)) = (nub l).map (Knot.shift dx dy)
  | [] => rfl
  | k :: r => by
    have e : k.shift dx dy ∈ r.map (Knot.shift dx dy) ↔ k ∈ r := by
      constructor
      · intro h
        obtain ⟨m, hm, e⟩ := List.mem_map.1 h
        exact Knot.shift_inj e ▸ hm
      · exact fun h => List.mem_map_of_mem h
    rw [List.map_cons, nub, nub]
    by_cases h : k ∈ r
    · rw [if_pos (e.2 h), if_pos h, nub_map dx dy r]
    · rw [if_neg (fun h' => h (e.1 h')), if_neg h, List.map_cons, nub_map dx dy r]
theorem nK_shift (dx dy : Int) (l : List Bar) : nK (l.map (Bar.shift dx dy)) = nK l := by
  rw [nK, nK, ends_shift, nub_map, List.length_map]
theorem mem_shift {dx dy : Int} {l : List Bar} {b : Bar} : b ∈ l.map (Bar.shift dx dy) ↔ (⟨b.x - dx, b.y - dy, b.s⟩ : Bar) ∈ l := by
  rw [List.mem_map]
  constructor
  · rintro ⟨c, hc, rfl⟩
    have e : (⟨(c.shift dx dy).x - dx, (c.shift dx dy).y - dy, (c.shift dx dy).s⟩ : Bar) = c :=
      Bar.ext' (show c.x + dx - dx = c.x by omega) (show c.y + dy - dy = c.y by omega) rfl
    rw [e]; exact hc
  · intro h
    exact ⟨_, h, Bar.ext' (show b.x - dx + dx = b.x by omega) (show b.y - dy + dy = b.y by omega) rfl⟩
theorem nM_shift (dx dy : Int) (l : List Bar) : nM (l.map (Bar.shift dx dy)) = nM l := by
  rw [nM, nM, List.countP_map]
  refine List.countP_congr fun b _ => ?_
  have h : ∀ x y s : Int, ((⟨x, y, s⟩ : Bar) ∈ l.map (Bar.shift dx dy)) ↔ (⟨x - dx, y - dy, s⟩ : Bar) ∈ l := fun x y s => mem_shift
  simp only [Function.comp, isMesh, Bar.shift, h]
  rw [show b.x + dx - dx = b.x from by omega, show b.y + dy - dy = b.y from by omega, show b.x + dx - 1 - dx = b.x - 1 from by omega, show b.y + dy + 1 - dy = b.y + 1 from by omega, show b.x + dx + 1 - dx = b.x + 1 from by omega]
  exact Iff.rfl
end Go.Proofs.YtdeplhihcifmeaaGreatDoor.Ck

/- Lists of bars in memory: what it means that a slice holds a list of bars, and that this is kept. -/
namespace Go.Proofs.YtdeplhihcifmeaaGreatDoor
open Go.RowKit

theorem ret_i {a b : Int} (h : a = b) : Ending.returned (.int .i64 a) = .returned (.int .i64 b) := by rw [h]
theorem ret_b {a b : Bool} (h : a = b) : Ending.returned (.bool a) = .returned (.bool b) := by rw [h]

def bv (b : Ck.Bar) : Value := .agg #[.int .i64 b.x, .int .i64 b.y, .int .i64 b.s]
def kv (k : Ck.Knot) : Value := .agg #[.int .i64 k.x, .int .i64 k.y]
def bcells (b : Ck.Bar) : List Value := [.int .i64 b.x, .int .i64 b.y, .int .i64 b.s]
def kcells (k : Ck.Knot) : List Value := [.int .i64 k.x, .int .i64 k.y]

/-- The slice at A holds the bars l, below block B. -/
def RB (w : World) (B : Nat) (A : Option Addr) (l : List Ck.Bar) : Prop :=
  0 < l.length → ∃ b off, A = some ⟨b, off, none⟩ ∧ b < B ∧ ∀ i (h : i < l.length), w.cell? ⟨b, off + i * 3, none⟩ = some (.int .i64 l[i].x) ∧ w.cell? ⟨b, off + i * 3 + 1, none⟩ = some (.int .i64 l[i].y) ∧ w.cell? ⟨b, off + i * 3 + 2, none⟩ = some (.int .i64 l[i].s)
/-- The slice at A holds the knots l, below block B. -/
def RK (w : World) (B : Nat) (A : Option Addr) (l : List Ck.Knot) : Prop :=
  0 < l.length → ∃ b off, A = some ⟨b, off, none⟩ ∧ b < B ∧ ∀ i (h : i < l.length), w.cell? ⟨b, off + i * 2, none⟩ = some (.int .i64 l[i].x) ∧ w.cell? ⟨b, off + i * 2 + 1, none⟩ = some (.int .i64 l[i].y)

theorem RB.below {w w' : World} {B : Nat} {A : Option Addr} {l : List Ck.Bar} (h : RB w B A l) (hb : Below B w w') : RB w' B A l := fun hl => by
  obtain ⟨b, off, rfl, hB, hc⟩ := h hl
  exact ⟨b, off, rfl, hB, fun i hi => ⟨(hb.cell (p := ⟨b, _, none⟩) hB).trans (hc i hi).1, (hb.cell (p := ⟨b, _, none⟩) hB).trans (hc i hi).2.1, (hb.cell (p := ⟨b, _, none⟩) hB).trans (hc i hi).2.2⟩⟩
theorem RB.more {w : World} {B B' : Nat} {A : Option Addr} {l : List Ck.Bar} (h : RB w B A l) (hB : B ≤ B') : RB w B' A l := fun hl => by
  obtain ⟨b, off, h1, h2, hc⟩ := h hl
  exact ⟨b, off, h1, by omega, hc⟩
theorem RK.below {w w' : World} {B : Nat} {A : Option Addr} {l : List Ck.Knot} (h : RK w B A l) (hb : Below B w w') : RK w' B A l := fun hl => by
  obtain ⟨b, off, rfl, hB, hc⟩ := h hl
  exact ⟨b, off, rfl, hB, fun i hi => ⟨(hb.cell (p := ⟨b, _, none⟩) hB).trans (hc i hi).1, (hb.cell (p := ⟨b, _, none⟩) hB).trans (hc i hi).2⟩⟩
theorem RK.more {w : World} {B B' : Nat} {A : Option Addr} {l : List Ck.Knot} (h : RK w B A l) (hB : B ≤ B') : RK w B' A l := fun hl => by
  obtain ⟨b, off, h1, h2, hc⟩ := h hl
  exact ⟨b, off, h1, by omega, hc⟩
theorem below_drewN {B : Nat} {a w : World} (h : Below B a w) (n : Nat) : Below B a (w.drewN n) := ⟨h.os, h.tape, h.output, h.size, h.block⟩
theorem below_drew {B : Nat} {a w : World} (h : Below B a w) : Below B a w.drew := ⟨h.os, h.tape, h.output, h.size, h.block⟩
theorem bcell {W w1 : World} (hb : Below W.heap.size W w1) : (∀ b o, b < W.heap.size → w1.cell? ⟨b, o, none⟩ = W.cell? ⟨b, o, none⟩) ∧ (∀ b o, b < W.heap.size → w1.frozen? ⟨b, o, none⟩ = W.frozen? ⟨b, o, none⟩) :=
  ⟨fun b o h => hb.cell (p := ⟨b, o, none⟩) h, fun b o h => hb.frozen (p := ⟨b, o, none⟩) h⟩
theorem box2 (w : World) (a b : Value) (t : TypeId) : ∃ w1, w1 = w.alloc (.cells #[a, b] t) ∧ w1.cell? ⟨w.heap.size, 0, none⟩ = some a ∧ w1.cell? ⟨w.heap.size, 1, none⟩ = some b ∧ Below w.heap.size w w1 ∧ w.heap.size < w1.heap.size :=
  ⟨_, rfl, by rw [World.cell?_alloc_at _ _ _ _ rfl]; rfl, by rw [World.cell?_alloc_at _ _ _ _ rfl]; rfl, (Below.refl _ _).alloc (Nat.le_refl _) _, by simp⟩
theorem box3 (w : World) (a b c : Value) (t : TypeId) : ∃ w1, w1 = w.alloc (.cells #[a, b, c] t) ∧ w1.cell? ⟨w.heap.size, 0, none⟩ = some a ∧ w1.cell? ⟨w.heap.size, 1, none⟩ = some b ∧ w1.cell? ⟨w.heap.size, 2, none⟩ = some c ∧ Below w.heap.size w w1 ∧ w.heap.size < w1.heap.size :=
  ⟨_, rfl, by rw [World.cell?_alloc_at _ _ _ _ rfl]; rfl, by rw [World.cell?_alloc_at _ _ _ _ rfl]; rfl, by rw [World.cell?_alloc_at _ _ _ _ rfl]; rfl, (Below.refl _ _).alloc (Nat.le_refl _) _, by simp⟩
theorem box33 (w : World) (a b c a' b' c' : Value) (t t' : TypeId) : ∃ w1, w1 = (w.alloc (.cells #[a, b, c] t)).alloc (.cells #[a', b', c'] t') ∧ w1.cell? ⟨w.heap.size, 0, none⟩ = some a ∧ w1.cell? ⟨w.heap.size, 1, none⟩ = some b ∧ w1.cell? ⟨w.heap.size, 2, none⟩ = some c ∧
    w1.cell? ⟨w.heap.size + 1, 0, none⟩ = some a' ∧ w1.cell? ⟨w.heap.size + 1, 1, none⟩ = some b' ∧ w1.cell? ⟨w.heap.size + 1, 2, none⟩ = some c' := by
  obtain ⟨w0, rfl, h0, h1, h2, _, hz⟩ := box3 w a b c t
  have hs : (w.alloc (.cells #[a, b, c] t)).heap.size = w.heap.size + 1 := by simp
  obtain ⟨w1, rfl, k0, k1, k2, hb, _⟩ := box3 (w.alloc (.cells #[a, b, c] t)) a' b' c' t'
  rw [hs] at k0 k1 k2
  exact ⟨_, rfl, (hb.cell (p := ⟨_, _, none⟩) hz).trans h0, (hb.cell (p := ⟨_, _, none⟩) hz).trans h1, (hb.cell (p := ⟨_, _, none⟩) hz).trans h2, k0, k1, k2⟩
end Go.Proofs.YtdeplhihcifmeaaGreatDoor

/- A map from knots to ints that the call itself has made: what its block holds, and what its operations do. -/
namespace Go.Proofs.YtdeplhihcifmeaaGreatDoor
open Go.RowKit Go.ChangeMaps Go.MapKept

def kvv (k : Ck.Knot) : Value := .agg #[.int .i64 k.x, .int .i64 k.y]
def mget : List (Ck.Knot × Int) → Ck.Knot → Int
  | [], _ => 0
  | p :: r, k => if k = p.1 then p.2 else mget r k
def mput : List (Ck.Knot × Int) → Ck.Knot → Int → List (Ck.Knot × Int)
  | [], k, v => [(k, v)]
  | p :: r, k, v => if k = p.1 then (k, v) :: r else p :: mput r k v
def fnd : List (Ck.Knot × Int) → Ck.Knot → Nat → Option (Nat × Value)
  | [], _, _ => none
  | p :: r, k, i => if k = p.1 then some (i, .int .i64 p.2) else fnd r k (i + 1)

theorem eqKnot (a b : Ck.Knot) (w : World) : (Op.equal 26 (kvv a) (kvv b)).run Tryz.prog w = .ok (decide (a = b)) w := by
  have u3 := Tryz.underlying3
  have a3 := Tryz.isAgg3
  have z3 := Tryz.sizeOf3
  have hS : Tryz.prog.underlying 26 = some (.struct (Tryz.prog.fieldsOf 26)) := by kernel_rfl
  have hp : Tryz.prog.stoodInHeld 26 = false := by kernel_rfl
  obtain ⟨x, y⟩ := a
  obtain ⟨x', y'⟩ := b
  simp only [kvv, Op.equal]
  rw [show Op.maxDepth = 9999 + 1 from rfl, run_equalIn_struct w 9999 26 _ _ hS hp]
  simp only [Program.fieldsOf, Tryz.underlying26]
  go_simp
  by_cases h1 : x = x' <;> by_cases h2 : y = y' <;> simp [h1, h2]

/-- The entries es hold the pairs m. -/
def Ents (es : Array MapEntry) (m : List (Ck.Knot × Int)) : Prop := es.toList.map (fun e => (e.key, e.val)) = m.map fun p => (kvv p.1, Value.int .i64 p.2)
theorem run_findAsking (k : Ck.Knot) (w : World) : ∀ (l : List MapEntry) (m : List (Ck.Knot × Int)) (i : Nat), l.map (fun e => (e.key, e.val)) = m.map (fun p => (kvv p.1, Value.int .i64 p.2)) →
    (Instr.findAsking 26 (kvv k) l i).run Tryz.prog w = .ok (fnd m k i) w
  | [], [], _, _ => rfl
  | [], _ :: _, _, h => by simp at h
  | _ :: _, [], _, h => by simp at h
  | e :: l, p :: m, i, h => by
    simp only [List.map_cons, List.cons.injEq, Prod.mk.injEq] at h
    obtain ⟨⟨h1, h2⟩, h3⟩ := h
    simp only [Instr.findAsking, Sem.run_bind, h1, eqKnot, Result.andThen, fnd, h2]
    by_cases hk : k = p.1
    · simp [hk]
    · simp [hk, run_findAsking k w l m (i + 1) h3]
theorem run_findKey (k : Ck.Knot) (w : World) (es : Array MapEntry) (m : List (Ck.Knot × Int)) (h : Ents es m) : (Instr.findKey 26 (kvv k) es.toList).run Tryz.prog w = .ok (fnd m k 0) w := by
  have hu := Tryz.underlying26
  unfold Ents at h
  simp only [Instr.findKey, Sem.run_bind, run_underlying hu, Result.andThen]
  cases hl : es.toList with
  | nil =>
    rw [hl] at h
    cases m with
    | nil => rfl
    | cons _ _ => simp at h
  | cons e l =>
    rw [hl] at h
    have hn : ∀ fs, Instr.findNow (.struct fs) (kvv k) (e :: l) 0 = none := fun fs => by
      unfold Instr.findNow Instr.sameNow
      rfl
    simp only [hn]
    exact run_findAsking k w (e :: l) m 0 h
theorem run_checkKnot (b : Bool) (k : Ck.Knot) (w : World) : (Instr.checkKey b 10000 26 (kvv k)).run Tryz.prog w = .ok () w := by
  obtain ⟨x, y⟩ := k
  cases b <;> kernel_rfl

theorem fnd_spec (k : Ck.Knot) : ∀ (m : List (Ck.Knot × Int)) (i : Nat), (fnd m k i = none ∧ k ∉ m.map (·.1) ∧ mget m k = 0 ∧ ∀ v, mput m k v = m ++ [(k, v)]) ∨
    ∃ j, fnd m k i = some (i + j, .int .i64 (mget m k)) ∧ m[j]? = some (k, mget m k) ∧ ∀ v, mput m k v = m.set j (k, v)
  | [], i => .inl ⟨rfl, by simp, rfl, fun _ => rfl⟩
  | p :: m, i => by
    by_cases hk : k = p.1
    · refine .inr ⟨0, by simp [fnd, mget, hk], by simp [mget, hk], fun v => by simp [mput, hk]⟩
    · rcases fnd_spec k m (i + 1) with ⟨h1, h2, h3, h4⟩ | ⟨j, h1, h2, h3⟩
      · refine .inl ⟨by simp [fnd, hk, h1], by simp only [List.map_cons, List.mem_cons, not_or]; exact ⟨hk, h2⟩, by simp [mget, hk, h3], fun v => by simp [mput, hk, h4]⟩
      · refine .inr ⟨j + 1, by simp [fnd, hk, h1, mget]; omega, by simp [h2, mget, hk], fun v => by simp [mput, hk, h3]⟩

/-- Block b of w is a map that holds the pairs m, each key once. -/
def MIs (w : World) (b : Nat) (m : List (Ck.Knot × Int)) : Prop :=
  ∃ es clock, w.heap[b]? = some (.map es clock) ∧ Ents es m ∧ (m.map (·.1)).Nodup ∧ (es.toList.map (·.born)).Nodup ∧ ∀ e ∈ es.toList, e.born < clock
theorem MIs.made (w : World) : MIs (w.alloc (.map #[] 0)) w.heap.size [] := ⟨#[], 0, heap_alloc_new _ _, rfl, by simp, by simp, by simp⟩
theorem MIs.of_block {w w' : World} {b : Nat} {m : List (Ck.Knot × Int)} (h : MIs w b m) (hb : w'.heap[b]? = w.heap[b]?) : MIs w' b m := by
  obtain ⟨es, clock, h1, h2⟩ := h
  exact ⟨es, clock, hb.trans h1, h2⟩
theorem MIs.below {w w' : World} {b B : Nat} {m : List (Ck.Knot × Int)} (h : MIs w b m) (hb : Below B w w') (hB : b < B) : MIs w' b m := h.of_block (hb.block b hB)
theorem MIs.drew {w : World} {b : Nat} {m : List (Ck.Knot × Int)} (h : MIs w b m) : MIs w.drew b m := h
theorem MIs.lt {w : World} {b : Nat} {m : List (Ck.Knot × Int)} (h : MIs w b m) : b < w.heap.size := by
  obtain ⟨_, _, h1, _⟩ := h
  exact (Array.getElem?_eq_some_iff.1 h1).1

theorem MIs.lookup {w : World} {b : Nat} {m : List (Ck.Knot × Int)} (h : MIs w b m) (k : Ck.Knot) : (Instr.lookup 139 (.map (some b)) (kvv k) false).run Tryz.prog w = .ok (.int .i64 (mget m k)) w := by
  obtain ⟨es, clock, h1, h2, _⟩ := h
  have hz : (zeroValue 3).run Tryz.prog w = .ok (.int .i64 0) w := by kernel_rfl
  rcases fnd_spec k m 0 with ⟨g1, _, g3, _⟩ | ⟨j, g1, _⟩
  · simp [Instr.lookup, run_underlying Tryz.underlying139, MapKept.run_getObj_map h1, run_checkKnot, run_findKey k w es m h2, g1, g3, hz, Result.andThen]
  · simp [Instr.lookup, run_underlying Tryz.underlying139, MapKept.run_getObj_map h1, run_checkKnot, run_findKey k w es m h2, g1, Result.andThen]

theorem stays (k : Ck.Knot) (w : World) (old : Value) (h : old = kvv k) : (Instr.keyThatStays old (kvv k)).run Tryz.prog w = .ok (kvv k) w := by
  have hs : Instr.sameBits 10000 (kvv k) (kvv k) = true := by
    rw [show (10000 : Nat) = 9998 + 1 + 1 from rfl]
    simp [Instr.sameBits, kvv]
  subst h
  simp [Instr.keyThatStays, hs]
theorem Ents.key {es : Array MapEntry} {m : List (Ck.Knot × Int)} (h : Ents es m) {j : Nat} {p : Ck.Knot × Int} (hj : m[j]? = some p) : ∃ e, es.toList[j]? = some e ∧ e.key = kvv p.1 ∧ e.val = .int .i64 p.2 := by
  have h' := congrArg (fun l => l[j]?) h
  simp only [List.getElem?_map, hj, Option.map_some] at h'
  cases he : es.toList[j]? with
  | none => rw [he] at h'; simp at h'
  | some e =>
    rw [he] at h'
    simp at h'
    exact ⟨e, rfl, h'.1, h'.2⟩
theorem Ents.set {es es' : Array MapEntry} {m : List (Ck.Knot × Int)} (h : Ents es m) {j : Nat} {p : Ck.Knot × Int} {e : MapEntry} (he : es'.toList = es.toList.set j e) (hk : e.key = kvv p.1) (hv : e.val = .int .i64 p.2) : Ents es' (m.set j p) := by
  unfold Ents at h ⊢
  rw [he, List.map_set, List.map_set, h, hk, hv]
theorem modify_set (es : Array MapEntry) (j : Nat) (e : MapEntry) (f : MapEntry → MapEntry) (h : es.toList[j]? = some e) : (es.modify j f).toList = es.toList.set j (f e) := by
  rw [Array.toList_modify]
  have hj : j < es.toList.length := (List.getElem?_eq_some_iff.1 h).1
  apply List.ext_getElem?
  intro i
  rw [List.getElem?_modify, List.getElem?_set]
  by_cases hi : j = i
  · subst hi
    simp only [if_true, h]
    rw [if_pos hj]
    rfl
  · simp [hi]

theorem MIs.update {w : World} {b : Nat} {m : List (Ck.Knot × Int)} (h : MIs w b m) (k : Ck.Knot) (v : Int) :
    ∃ w', (Instr.mapUpdate 139 (.map (some b)) (kvv k) (.int .i64 v)).run Tryz.prog w = .ok () w' ∧ MIs w' b (mput m k v) ∧ w.grownBy w' (some b) := by
  obtain ⟨es, clock, h1, h2, h3, h4, h5⟩ := h
  have grown : ∀ o, w.grownBy (setBlock w b o) (some b) := fun o => ⟨rfl, rfl, rfl, by simp [setBlock], fun i _ hi => heap_setBlock_other h1 _ (fun e => hi (by rw [e]))⟩
  rcases fnd_spec k m 0 with ⟨g1, g2, g3, g4⟩ | ⟨j, g1, g2, g3⟩
  · refine ⟨setBlock w b (.map (es.push { key := kvv k, val := .int .i64 v, born := clock }) (clock + 1)), ?_, ?_, grown _⟩
    · simp [Instr.mapUpdate, run_underlying Tryz.underlying139, MapKept.run_getObj_map h1, run_checkKnot, run_findKey k w es m h2, g1, MapKept.run_setObj_map _ h1, Result.andThen, setBlock]
    · refine ⟨_, _, heap_setBlock_same h1 _, ?_, ?_, ?_, ?_⟩
      · rw [g4]; unfold Ents at h2 ⊢; simp [h2]
      · rw [g4, List.map_append]
        exact List.nodup_append.2 ⟨h3, by simp, fun x hx y hy e => g2 (by simp at hy; rw [← hy, ← e]; exact hx)⟩
      · simp only [Array.toList_push, List.map_append]
        exact List.nodup_append.2 ⟨h4, by simp, fun x hx y hy e => by
          simp at hy
          obtain ⟨e', he', rfl⟩ := List.mem_map.1 hx
          have := h5 e' he'
          omega⟩
      · intro e he
        simp at he
        rcases he with he | rfl
        · have := h5 e (by simpa using he); omega
        · simp
  · obtain ⟨e, he, hek, hev⟩ := h2.key g2
    have he' : es[j]? = some e := by simpa using he
    have hm := modify_set es j e (fun e => { e with key := kvv k, val := .int .i64 v }) he
    refine ⟨setBlock w b (.map (es.modify j fun e => { e with key := kvv k, val := .int .i64 v }) clock), ?_, ?_, grown _⟩
    · simp [Instr.mapUpdate, run_underlying Tryz.underlying139, MapKept.run_getObj_map h1, run_checkKnot, run_findKey k w es m h2, g1, MapKept.run_setObj_map _ h1, Result.andThen, setBlock, he', stays k w e.key hek]
    · refine ⟨_, _, heap_setBlock_same h1 _, ?_, ?_, ?_, ?_⟩
      · rw [g3]; exact h2.set hm rfl rfl
      · rw [g3, List.map_set]
        have : (m.map (·.1)).set j k = m.map (·.1) := by
          apply List.ext_getElem?
          intro i
          rw [List.getElem?_set]
          split
          · rename_i hi
            subst hi
            simp [g2]
            exact (List.getElem?_eq_some_iff.1 g2).1
          · rfl
        simp only [this]
        exact h3
      · rw [hm, List.map_set]
        have : (es.toList.map (·.born)).set j e.born = es.toList.map (·.born) := by
          apply List.ext_getElem?
          intro i
          rw [List.getElem?_set]
          split
          · rename_i hi
            subst hi
            simp [he']
            exact (Array.getElem?_eq_some_iff.1 he').1
          · rfl
        simp only [this]
        exact h4
      · intro x hx
        rw [hm] at hx
        rcases List.mem_or_eq_of_mem_set hx with hx | rfl
        · exact h5 x hx
        · exact h5 e (List.mem_of_getElem? he)
end Go.Proofs.YtdeplhihcifmeaaGreatDoor

/- m[k]++ on such a map: the entry, and the store into it. -/
namespace Go.Proofs.YtdeplhihcifmeaaGreatDoor
open Go.RowKit Go.ChangeMaps Go.MapKept

theorem map_fst_set {m : List (Ck.Knot × Int)} {j : Nat} {k : Ck.Knot} {u : Int} (h : m[j]? = some (k, u)) (v : Int) : (m.set j (k, v)).map (·.1) = m.map (·.1) := by
  rw [List.map_set]
  apply List.ext_getElem?
  intro i
  rw [List.getElem?_set]
  split
  · rename_i hi
    subst hi
    simp [h]
    exact (List.getElem?_eq_some_iff.1 h).1
  · rfl
theorem map_born_set {l : List MapEntry} {j : Nat} {e e' : MapEntry} (h : l[j]? = some e) (hb : e'.born = e.born) : (l.set j e').map (·.born) = l.map (·.born) := by
  rw [List.map_set]
  apply List.ext_getElem?
  intro i
  rw [List.getElem?_set]
  split
  · rename_i hi
    subst hi
    simp [h, hb]
    exact (List.getElem?_eq_some_iff.1 h).1
  · rfl
theorem mem_set_born {l : List MapEntry} {j c : Nat} {e e' : MapEntry} (h : l[j]? = some e) (hb : e'.born = e.born) (h5 : ∀ x ∈ l, x.born < c) : ∀ x ∈ l.set j e', x.born < c := by
  intro x hx
  rcases List.mem_or_eq_of_mem_set hx with hx | rfl
  · exact h5 x hx
  · rw [hb]; exact h5 e (List.mem_of_getElem? h)

theorem entryStore_run {w : World} {b : Nat} {m : List (Ck.Knot × Int)} {es : Array MapEntry} {clock j : Nat} {k : Ck.Knot} {u : Int} {e : MapEntry} (h1 : w.heap[b]? = some (.map es clock)) (h2 : Ents es m) (h3 : (m.map (·.1)).Nodup) (h4 : (es.toList.map (·.born)).Nodup)
    (h5 : ∀ e ∈ es.toList, e.born < clock) (he : es.toList[j]? = some e) (hk : e.key = kvv k) (hj : m[j]? = some (k, u)) (v : Int) :
    ∃ w', (Instr.entryStore 139 (.map (some b)) (goInt e.born) (.int .i64 v)).run Tryz.prog w = .ok () w' ∧ MIs w' b (m.set j (k, v)) ∧ w.grownBy w' (some b) := by
  have hf : es.findIdx? (fun x => ((x.born : Nat) : Int) == ((e.born : Nat) : Int)) = some j := by rw [WideElems.findIdx_arr]; exact WideElems.findIdx_born h4 he
  have hm := modify_set es j e (fun e => { e with val := .int .i64 v }) he
  refine ⟨setBlock w b (.map (es.modify j fun e => { e with val := .int .i64 v }) clock), ?_, ⟨_, _, heap_setBlock_same h1 _, h2.set hm hk rfl, ?_, ?_, ?_⟩, ⟨rfl, rfl, rfl, by simp [setBlock], fun i _ hi => heap_setBlock_other h1 _ (fun e => hi (by rw [e]))⟩⟩
  · have ha : (asIntOf (.int .i64 (e.born : Int))).run Tryz.prog w = .ok (.i64, (e.born : Int)) w := rfl
    simp [ha, Instr.entryStore, MapKept.run_getObj_map h1, MapKept.run_setObj_map _ h1, Result.andThen, setBlock, goInt, asInt, hf]
  · rw [map_fst_set hj]; exact h3
  · rw [hm, map_born_set (e := e) (e' := { e with val := .int .i64 v }) he rfl]; exact h4
  · rw [hm]; exact mem_set_born (e := e) (e' := { e with val := .int .i64 v }) he rfl h5

theorem mput_self_set {m : List (Ck.Knot × Int)} {j : Nat} {k : Ck.Knot} (h : m[j]? = some (k, mget m k)) : m.set j (k, mget m k) = m := by
  apply List.ext_getElem?
  intro i
  rw [List.getElem?_set]
  split
  · rename_i hi
    subst hi
    rw [if_pos (List.getElem?_eq_some_iff.1 h).1, h]
  · rfl

theorem MIs.entry {w : World} {b : Nat} {m : List (Ck.Knot × Int)} (h : MIs w b m) (k : Ck.Knot) :
    ∃ w' st, (Instr.mapEntry 139 (.map (some b)) (kvv k)).run Tryz.prog w = .ok (.tuple #[.int .i64 (mget m k), st]) w' ∧ MIs w' b (mput m k (mget m k)) ∧ w.grownBy w' (some b) ∧
      ∀ (v : Int) (w2 : World), w2.heap[b]? = w'.heap[b]? → ∃ w3, (Instr.entryStore 139 (.map (some b)) st (.int .i64 v)).run Tryz.prog w2 = .ok () w3 ∧ MIs w3 b (mput m k v) ∧ w2.grownBy w3 (some b) := by
  obtain ⟨es, clock, h1, h2, h3, h4, h5⟩ := h
  have hz : (zeroValue 3).run Tryz.prog w = .ok (.int .i64 0) w := by kernel_rfl
  have grown : ∀ o, w.grownBy (setBlock w b o) (some b) := fun o => ⟨rfl, rfl, rfl, by simp [setBlock], fun i _ hi => heap_setBlock_other h1 _ (fun e => hi (by rw [e]))⟩
  rcases fnd_spec k m 0 with ⟨g1, g2, g3, g4⟩ | ⟨j, g1, g2, g3⟩
  · have e2 : Ents (es.push { key := kvv k, val := .int .i64 0, born := clock }) (m ++ [(k, 0)]) := by unfold Ents at h2 ⊢; simp [h2]
    have e3 : ((m ++ [(k, (0 : Int))]).map (·.1)).Nodup := by
      rw [List.map_append]
      exact List.nodup_append.2 ⟨h3, by simp, fun x hx y hy e => g2 (by simp at hy; rw [← hy, ← e]; exact hx)⟩
    have e4 : ((es.push { key := kvv k, val := .int .i64 0, born := clock }).toList.map (·.born)).Nodup := by
      simp only [Array.toList_push, List.map_append]
      exact List.nodup_append.2 ⟨h4, by simp, fun x hx y hy e => by
        simp at hy
        obtain ⟨e', he', rfl⟩ := List.mem_map.1 hx
        have := h5 e' he'
        omega⟩
    have e5 : ∀ x ∈ (es.push { key := kvv k, val := .int .i64 0, born := clock }).toList, x.born < clock + 1 := by
      intro x hx
      simp at hx
      rcases hx with hx | rfl
      · have := h5 x (by simpa using hx); omega
      · simp
    have hlen : es.toList.length = m.length := by have := congrArg List.length h2; simpa using this
    have he : (es.push { key := kvv k, val := .int .i64 0, born := clock }).toList[m.length]? = some { key := kvv k, val := .int .i64 0, born := clock } := by
      simp [← hlen]
    refine ⟨setBlock w b (.map (es.push { key := kvv k, val := .int .i64 0, born := clock }) (clock + 1)), goInt clock, ?_, ?_, grown _, fun v w2 hw2 => ?_⟩
    · simp [Instr.mapEntry, run_underlying Tryz.underlying139, MapKept.run_getObj_map h1, run_checkKnot, run_findKey k w es m h2, g1, g3, hz, MapKept.run_setObj_map _ h1, Result.andThen, setBlock]
    · rw [g4, g3]; exact ⟨_, _, heap_setBlock_same h1 _, e2, e3, e4, e5⟩
    · rw [g4]
      rw [heap_setBlock_same h1] at hw2
      obtain ⟨w3, r1, r2, r3⟩ := entryStore_run (k := k) (u := 0) hw2 e2 e3 e4 e5 he rfl (by simp) v
      exact ⟨w3, r1, by simpa using r2, r3⟩
  · obtain ⟨e, he, hek, hev⟩ := h2.key g2
    have he' : es[j]? = some e := by simpa using he
    have hm := modify_set es j e (fun e => { e with key := kvv k }) he
    have e2 : Ents (es.modify j fun e => { e with key := kvv k }) m := by
      have := h2.set (p := (k, mget m k)) (e := { e with key := kvv k }) hm rfl hev
      rwa [mput_self_set g2] at this
    have e4 : ((es.modify j fun e => { e with key := kvv k }).toList.map (·.born)).Nodup := by rw [hm, map_born_set (e := e) (e' := { e with key := kvv k }) he rfl]; exact h4
    have e5 : ∀ x ∈ (es.modify j fun e => { e with key := kvv k }).toList, x.born < clock := by rw [hm]; exact mem_set_born (e := e) (e' := { e with key := kvv k }) he rfl h5
    have he2 : (es.modify j fun e => { e with key := kvv k }).toList[j]? = some { e with key := kvv k } := by
      rw [hm, List.getElem?_set_self (List.getElem?_eq_some_iff.1 he).1]
    refine ⟨setBlock w b (.map (es.modify j fun e => { e with key := kvv k }) clock), goInt e.born, ?_, ?_, grown _, fun v w2 hw2 => ?_⟩
    · simp [Instr.mapEntry, run_underlying Tryz.underlying139, MapKept.run_getObj_map h1, run_checkKnot, run_findKey k w es m h2, g1, MapKept.run_setObj_map _ h1, Result.andThen, setBlock, he', stays k w e.key hek]
    · rw [g3, mput_self_set g2]; exact ⟨_, _, heap_setBlock_same h1 _, e2, h3, e4, e5⟩
    · rw [g3]
      rw [heap_setBlock_same h1] at hw2
      exact entryStore_run (e := { e with key := kvv k }) hw2 e2 h3 e4 e5 he2 rfl g2 v
end Go.Proofs.YtdeplhihcifmeaaGreatDoor

/- The range over a map from knots to ints that the call has made: what has come of it so far, and its step. -/
namespace Go.Proofs.YtdeplhihcifmeaaGreatDoor
open Go.RowKit Go.ChangeMaps Go.MapKept

/-- Block r is an iterator over the map in block b, which holds the pairs m; the keys ks have come. -/
def KRange (w : World) (b r : Nat) (m : List (Ck.Knot × Int)) (ks : List Ck.Knot) : Prop :=
  ∃ es clock since seen c0, w.heap[b]? = some (.map es clock) ∧ Ents es m ∧ (m.map (·.1)).Nodup ∧ (es.toList.map (·.born)).Nodup ∧ w.heap[r]? = some (.mapIter (some b) since seen c0) ∧
    (∀ x ∈ es.toList, x.born < since) ∧ since ≤ c0 ∧ since ≤ clock ∧ ks.Nodup ∧ ∀ k, k ∈ ks ↔ ∃ x ∈ es.toList, x.key = kvv k ∧ seen.contains x.born = true
theorem kvv_inj {a b : Ck.Knot} (h : kvv a = kvv b) : a = b := by
  obtain ⟨x, y⟩ := a
  obtain ⟨x', y'⟩ := b
  simpa [kvv] using h
theorem Ents.keys {es : Array MapEntry} {m : List (Ck.Knot × Int)} (h : Ents es m) : es.toList.map (·.key) = m.map fun p => kvv p.1 := by
  have := congrArg (List.map Prod.fst) h
  simpa [List.map_map, Function.comp_def] using this
theorem Ents.mem {es : Array MapEntry} {m : List (Ck.Knot × Int)} (h : Ents es m) {x : MapEntry} (hx : x ∈ es.toList) : ∃ p ∈ m, x.key = kvv p.1 ∧ x.val = .int .i64 p.2 := by
  have : (x.key, x.val) ∈ m.map fun p => (kvv p.1, Value.int .i64 p.2) := h ▸ List.mem_map_of_mem (f := fun e : MapEntry => (e.key, e.val)) hx
  obtain ⟨p, hp, e⟩ := List.mem_map.1 this
  simp only [Prod.mk.injEq] at e
  exact ⟨p, hp, e.1.symm, e.2.symm⟩
theorem Ents.has {es : Array MapEntry} {m : List (Ck.Knot × Int)} (h : Ents es m) (k : Ck.Knot) : k ∈ m.map (·.1) ↔ ∃ x ∈ es.toList, x.key = kvv k := by
  constructor
  · intro hk
    obtain ⟨p, hp, rfl⟩ := List.mem_map.1 hk
    have : kvv p.1 ∈ es.toList.map (·.key) := by rw [h.keys]; exact List.mem_map_of_mem (f := fun p : Ck.Knot × Int => kvv p.1) hp
    obtain ⟨x, hx, e⟩ := List.mem_map.1 this
    exact ⟨x, hx, e⟩
  · rintro ⟨x, hx, e⟩
    obtain ⟨p, hp, e1, _⟩ := h.mem hx
    rw [e] at e1
    rw [kvv_inj e1]
    exact List.mem_map_of_mem hp
theorem Ents.one {es : Array MapEntry} {m : List (Ck.Knot × Int)} (h : Ents es m) (hn : (m.map (·.1)).Nodup) {x y : MapEntry} (hx : x ∈ es.toList) (hy : y ∈ es.toList) (e : x.key = y.key) : x = y := by
  have hk : (es.toList.map (·.key)).Nodup := by
    rw [h.keys, show (m.map fun p => kvv p.1) = (m.map (·.1)).map kvv from by simp [List.map_map, Function.comp_def]]
    exact List.pairwise_map.2 (hn.imp fun {a b} hne e => hne (kvv_inj e))
  exact entry_eq_of_key (List.pairwise_map.1 hk) hx hy e

theorem KRange.owns {w : World} {b r : Nat} {m : List (Ck.Knot × Int)} {ks : List Ck.Knot} (h : KRange w b r m ks) : ∃ es clock since seen c0, w.heap[b]? = some (.map es clock) ∧ w.heap[r]? = some (.mapIter (some b) since seen c0) := by
  obtain ⟨es, clock, since, seen, c0, h1, _, _, _, h2, _⟩ := h
  exact ⟨es, clock, since, seen, c0, h1, h2⟩
theorem KRange.iter_walk {w : World} {b r : Nat} {m : List (Ck.Knot × Int)} {ks : List Ck.Knot} (h : KRange w b r m ks) : ∃ o : Obj, w.heap[r]? = some o ∧ o.isWalk = true := by
  obtain ⟨es, clock, since, seen, c0, _, h2⟩ := h.owns
  exact ⟨_, h2, rfl⟩
theorem KRange.nodup {w : World} {b r : Nat} {m : List (Ck.Knot × Int)} {ks : List Ck.Knot} (h : KRange w b r m ks) : ks.Nodup := by
  obtain ⟨es, clock, since, seen, c0, _, _, _, _, _, _, _, _, h1, _⟩ := h
  exact h1
theorem KRange.sub {w : World} {b r : Nat} {m : List (Ck.Knot × Int)} {ks : List Ck.Knot} (h : KRange w b r m ks) : ∀ k ∈ ks, k ∈ m.map (·.1) := by
  obtain ⟨es, clock, since, seen, c0, _, h2, _, _, _, _, _, _, _, h1⟩ := h
  intro k hk
  obtain ⟨x, hx, e, _⟩ := (h1 k).1 hk
  exact (h2.has k).2 ⟨x, hx, e⟩
theorem KRange.lt_of_new {w : World} {b r : Nat} {m : List (Ck.Knot × Int)} {ks : List Ck.Knot} (h : KRange w b r m ks) {k : Ck.Knot} (hk : k ∈ m.map (·.1)) (hn : k ∉ ks) : ks.length < m.length := by
  have h1 : (k :: ks).Nodup := List.nodup_cons.2 ⟨hn, h.nodup⟩
  have h2 := h1.length_le_of_subset (l₂ := m.map (·.1)) (fun x hx => by
    rcases List.mem_cons.1 hx with rfl | hx
    · exact hk
    · exact h.sub x hx)
  simp only [List.length_cons, List.length_map] at h2; omega
theorem KRange.of_walks {w w' : World} {b r : Nat} {m : List (Ck.Knot × Int)} {ks : List Ck.Knot} (h : KRange w b r m ks) (hk : KeepsWalks w w') : KRange w' b r m ks := by
  obtain ⟨es, clock, since, seen, c0, h1, h2, h3, h4, h5, h6⟩ := h
  exact ⟨es, clock, since, seen, c0, hk.same b _ h1 rfl, h2, h3, h4, hk.same r _ h5 rfl, h6⟩
theorem KRange.left_eq {w w' : World} {b r : Nat} {m : List (Ck.Knot × Int)} {ks : List Ck.Knot} (h : KRange w b r m ks) (hk : KeepsWalks w w') : w'.rangeLeft b r = w.rangeLeft b r := by
  obtain ⟨es, clock, since, seen, c0, h1, h2⟩ := h.owns
  simp only [World.rangeLeft, h1, h2, hk.same b _ h1 rfl, hk.same r _ h2 rfl]

theorem MIs.range {w : World} {b : Nat} {m : List (Ck.Knot × Int)} (h : MIs w b m) :
    ∃ w', (Instr.range 139 (.map (some b))).run Tryz.prog w = .ok (.pointer (some ⟨w.heap.size, 0, none⟩)) w' ∧ KRange w' b w.heap.size m [] ∧ w.grownBy w' none ∧ w'.heap.size = w.heap.size + 1 := by
  have hlt := h.lt
  obtain ⟨es, clock, h1, h2, h3, h4, h5⟩ := h
  refine ⟨_, run_range_map w _ _ _ b es clock Tryz.underlying139 h1, ⟨es, clock, clock, #[], clock, ((MapKept.heap_alloc w _).2 b hlt).trans h1, h2, h3, h4, (MapKept.heap_alloc w _).1, h5, Nat.le_refl _, Nat.le_refl _, List.nodup_nil, fun k => by simp⟩, World.grownBy_alloc w _ none, by simp⟩

theorem KRange.next {w : World} {b r : Nat} {m : List (Ck.Knot × Int)} {ks : List Ck.Knot} (h : KRange w b r m ks) (ty : TypeId) :
    ((∀ k, k ∈ ks ↔ k ∈ m.map (·.1)) ∧ (Instr.next (.pointer (some ⟨r, 0, none⟩)) false ty).run Tryz.prog w = .ok (.tuple #[.bool false]) w) ∨
    ∃ k v w', (k, v) ∈ m ∧ k ∉ ks ∧ (Instr.next (.pointer (some ⟨r, 0, none⟩)) false ty).run Tryz.prog w = .ok (.tuple #[.bool true, kvv k, .int .i64 v]) w' ∧ KRange w' b r m (ks ++ [k]) ∧ w'.rangeLeft b r < w.rangeLeft b r ∧ w.grownBy w' (some r) ∧ w'.heap.size = w.heap.size ∧
      (Instr.entry (.pointer (some ⟨r, 0, none⟩))).run Tryz.prog w' = .ok (.tuple #[kvv k, .int .i64 v]) w' := by
  obtain ⟨es, clock, since, seen, c0, hb, h2, h3, h4, hr, hold, hsc, hsk, hks, hiff⟩ := h
  have hne : r ≠ b := by rintro rfl; rw [hb] at hr; cases hr
  rcases run_next_at (P := Tryz.prog) w ty r b since c0 seen es clock hr hb hold hsc with ⟨h0, hrun⟩ | ⟨e, he, w1, hal, hrun⟩
  · refine .inl ⟨fun k => ?_, hrun⟩
    rw [hiff, h2.has]
    constructor
    · rintro ⟨x, hx, hk, _⟩; exact ⟨x, hx, hk⟩
    · rintro ⟨x, hx, hk⟩; exact ⟨x, hx, hk, all_seen es seen h0 x hx⟩
  · obtain ⟨hem, hes⟩ := mem_left he
    obtain ⟨p, hp, hkey, hval⟩ := h2.mem hem
    have hr1 : w1.heap[r]? = some (.mapIter (some b) since seen c0) := by rcases hal with rfl | rfl <;> exact hr
    have hb1 : w1.heap[b]? = some (.map es clock) := by rcases hal with rfl | rfl <;> exact hb
    have hset := heap_set (o' := .mapIter (some b) since (seen.push e.born) clock) hr1
    have hb' : (setBlock w1 r (.mapIter (some b) since (seen.push e.born) clock)).heap[b]? = some (.map es clock) := (hset.2 b (fun e1 => hne e1.symm)).trans hb1
    have hnew : p.1 ∉ ks := fun hk => by
      obtain ⟨x, hx, hxk, hxs⟩ := (hiff p.1).1 hk
      rw [h2.one h3 hx hem (hxk.trans hkey.symm), hes] at hxs
      cases hxs
    refine .inr ⟨p.1, p.2, _, hp, hnew, by rw [hrun, hkey, hval], ⟨es, clock, since, seen.push e.born, clock, hb', h2, h3, h4, hset.1, hold, hsk, hsk, ?_, fun k => ?_⟩, ?_, ?_, ?_, ?_⟩
    · exact List.nodup_append.2 ⟨hks, by simp, fun a ha c hc => by
        simp at hc; subst hc; exact fun e => hnew (e ▸ ha)⟩
    · rw [List.mem_append, hiff, List.mem_singleton]
      constructor
      · rintro (⟨x, hx, hk, hs⟩ | rfl)
        · exact ⟨x, hx, hk, by rw [contains_push, hs]; rfl⟩
        · exact ⟨e, hem, hkey, by rw [contains_push]; simp⟩
      · rintro ⟨x, hx, hk, hs⟩
        rw [contains_push] at hs
        cases hc : seen.contains x.born
        · rw [hc, Bool.false_or] at hs
          have hbe : x.born = e.born := by simpa using hs
          refine .inr ?_
          have hxe : x = e := born_inj h4 hx hem hbe
          subst hxe
          exact kvv_inj (hk.symm.trans hkey)
        · exact .inl ⟨x, hx, hk, hc⟩
    · have e1 : World.rangeLeft w b r = (leftOf es seen).size := by simp only [World.rangeLeft, hb, hr]
      have e2 : ∀ W : World, W.heap[b]? = some (.map es clock) → W.heap[r]? = some (.mapIter (some b) since (seen.push e.born) clock) → W.rangeLeft b r = (leftOf es (seen.push e.born)).size := fun W h1 h2 => by simp only [World.rangeLeft, h1, h2]
      rw [e1, e2 _ hb' hset.1]
      exact left_shrinks es seen e he
    · rcases hal with rfl | rfl <;> exact ⟨rfl, rfl, rfl, by simp [setBlock], fun i _ hi => hset.2 i (fun e1 => hi (by rw [e1]))⟩
    · rcases hal with rfl | rfl <;> simp [setBlock]
    · rw [run_entry_at _ r b since seen es clock e hset.1 hb' hem h4, hkey, hval]

def PairOf (m : List (Ck.Knot × Int)) (k : Ck.Knot) (v : Int) : Prop := (k, v) ∈ m
def KeyOf (m : List (Ck.Knot × Int)) (k : Ck.Knot) : Prop := k ∈ m.map (·.1)
section
variable {F : Fence} {n : Nat} (w : World) {ops : Array Oper} {rest : List Oper} {o : Oper} {a : Act} {Q : Exit → Act → World → Prop}
theorem wpListIn_range_knots (hg : o.guard = none) (m : Operand) (hop : o.op = Op.range 139 m) (b : Nat) (ps : List (Ck.Knot × Int)) (hm : a.eval m = .map (some b)) (hown : MIs w b ps)
    (hK : ∀ w', KRange w' b w.heap.size ps [] → w.grownBy w' none → w'.heap.size = w.heap.size + 1 → wpListIn F n Tryz.prog ops Q rest (a.put o.dst (.pointer (some ⟨w.heap.size, 0, none⟩))) w') :
    wpListIn F n Tryz.prog ops Q (o :: rest) a w := by
  refine wpListIn_plain hg fun K' hK' => ?_
  obtain ⟨w', hrun, r1, r2, r3⟩ := hown.range
  unfold Oper.wpIn
  refine ⟨?_, ?_⟩
  · simp [Oper.about, hop]
  · rw [Oper.semAt_plain F _ _ (by rw [hop]; intro c hc'; cases hc')]
    simp [execOp, hop, hm, hrun, Result.andThen]
    exact hK' _ _ (hK w' r1 r2 r3)
theorem wpListIn_next_knots (hg : o.guard = none) (it : Operand) (hop : o.op = Op.next it false) (b r : Nat) (ps : List (Ck.Knot × Int)) (ks : List Ck.Knot) (hit : a.eval it = .pointer (some ⟨r, 0, none⟩)) (h : KRange w b r ps ks)
    (hDone : (∀ k, k ∈ ks ↔ KeyOf ps k) → wpListIn F n Tryz.prog ops Q rest (a.put o.dst (.tuple #[.bool false])) w)
    (hMore : ∀ (k : Ck.Knot) (v : Int) (w' : World), KeyOf ps k → k ∉ ks → KRange w' b r ps (ks ++ [k]) → w'.rangeLeft b r < w.rangeLeft b r → w.grownBy w' (some r) → w'.heap.size = w.heap.size →
      (Instr.entry (.pointer (some ⟨r, 0, none⟩))).run Tryz.prog w' = .ok (.tuple #[.agg #[.int .i64 k.x, .int .i64 k.y], .int .i64 v]) w' → wpListIn F n Tryz.prog ops Q rest (a.put o.dst (.tuple #[.bool true, .agg #[.int .i64 k.x, .int .i64 k.y], .int .i64 v])) w') :
    wpListIn F n Tryz.prog ops Q (o :: rest) a w := by
  refine wpListIn_plain hg fun K' hK' => ?_
  unfold Oper.wpIn
  refine ⟨by simp [Oper.about, hop], ?_⟩
  rw [Oper.semAt_plain F _ _ (by rw [hop]; intro c hc'; cases hc')]
  rcases h.next o.type with ⟨hl, hrun⟩ | ⟨k, v, w', h1, h2, hrun, h3, h4, h5, h6, h7⟩
  · simp [execOp, hop, hit, hrun, Result.andThen]
    exact hK' _ _ (hDone hl)
  · simp [execOp, hop, hit, hrun, Result.andThen]
    exact hK' _ _ (hMore k v w' (show KeyOf ps k from List.mem_map_of_mem (f := fun p : Ck.Knot × Int => p.1) h1) h2 h3 h4 h5 h6 h7)
theorem wpListIn_next_pairs (hg : o.guard = none) (it : Operand) (hop : o.op = Op.next it false) (b r : Nat) (ps : List (Ck.Knot × Int)) (ks : List Ck.Knot) (hit : a.eval it = .pointer (some ⟨r, 0, none⟩)) (h : KRange w b r ps ks)
    (hDone : (∀ k, k ∈ ks ↔ KeyOf ps k) → wpListIn F n Tryz.prog ops Q rest (a.put o.dst (.tuple #[.bool false])) w)
    (hMore : ∀ (k : Ck.Knot) (v : Int) (w' : World), PairOf ps k v → k ∉ ks → KRange w' b r ps (ks ++ [k]) → w'.rangeLeft b r < w.rangeLeft b r → w.grownBy w' (some r) → w'.heap.size = w.heap.size →
      (Instr.entry (.pointer (some ⟨r, 0, none⟩))).run Tryz.prog w' = .ok (.tuple #[.agg #[.int .i64 k.x, .int .i64 k.y], .int .i64 v]) w' → wpListIn F n Tryz.prog ops Q rest (a.put o.dst (.tuple #[.bool true, .agg #[.int .i64 k.x, .int .i64 k.y], .int .i64 v])) w') :
    wpListIn F n Tryz.prog ops Q (o :: rest) a w := by
  refine wpListIn_plain hg fun K' hK' => ?_
  unfold Oper.wpIn
  refine ⟨by simp [Oper.about, hop], ?_⟩
  rw [Oper.semAt_plain F _ _ (by rw [hop]; intro c hc'; cases hc')]
  rcases h.next o.type with ⟨hl, hrun⟩ | ⟨k, v, w', h1, h2, hrun, h3, h4, h5, h6, h7⟩
  · simp [execOp, hop, hit, hrun, Result.andThen]
    exact hK' _ _ (hDone hl)
  · simp [execOp, hop, hit, hrun, Result.andThen]
    exact hK' _ _ (hMore k v w' h1 h2 h3 h4 h5 h6 h7)
end
end Go.Proofs.YtdeplhihcifmeaaGreatDoor

/- Contracts of the reference's small functions: ranges, knots, bars, the order of bars. Each for every argument that is an int of the language. -/
namespace Go.Proofs.YtdeplhihcifmeaaGreatDoor
open Go.RowKit


def farB (n : Int) : Bool := decide (n < -100000 ∨ 100000 < n)
set_option maxHeartbeats 400000 in
theorem refFar (n : Int) (w : World) :
    Calls Tryz.prog 82 #[.int .i64 n] w fun e w' => e = .returned (.bool (farB n)) ∧ w = w' := by
  by_cases h1 : n < -100000
  all_goals
    have hf : farB n = (decide (n < -100000) || decide (100000 < n)) := by simp [farB]
    have HF := Lib.hid hf
    clear hf
    go_enter Tryz.func82, Tryz.ntmps82
    go_wp2
    go_ret
    rw [HF.out]
    simp <;> omega

def evenB (x y : Int) : Bool := decide ((x + y) % 2 = 0)
set_option maxHeartbeats 400000 in
theorem refEven (x y : Int) (w : World) (h1 : -100000 ≤ x) (h2 : x ≤ 100000) (h3 : -100000 ≤ y) (h4 : y ≤ 100000) :
    Calls Tryz.prog 83 #[.int .i64 x, .int .i64 y] w fun e w' => e = .returned (.bool (evenB x y)) ∧ w = w' := by
  have hf : evenB x y = decide ((x + y) % 2 = 0) := rfl
  have HF := Lib.hid hf
  clear hf
  go_enter Tryz.func83, Tryz.ntmps83
  go_wp2
  go_ret
  refine ⟨?_, rfl⟩
  rw [HF.out]
  have h : ((x + y).tmod 2 == 0) = decide ((x + y) % 2 = 0) := by
    rw [Bool.eq_iff_iff]
    simp only [beq_iff_eq, decide_eq_true_eq]
    rw [← Int.dvd_iff_tmod_eq_zero, ← Int.dvd_iff_emod_eq_zero]
  exact congrArg (fun b => Ending.returned (.bool b)) h

def knotE (x y : Int) : Int := if farB x then 3 else if farB y then 3 else if evenB x y then 0 else 14
theorem farB_no {n : Int} (h : farB n = false) : -100000 ≤ n ∧ n ≤ 100000 := by simpa [farB] using h

set_option maxHeartbeats 400000 in
theorem refCheckKnot (x y : Int) (w : World) :
    Calls Tryz.prog 19 #[.agg #[.int .i64 x, .int .i64 y]] w fun e w' => e = .returned (.int .i64 (knotE x y)) ∧ Below w.heap.size w w' := by
  cases hx : farB x
  · cases hy : farB y
    · obtain ⟨h1, h2⟩ := farB_no hx
      obtain ⟨h3, h4⟩ := farB_no hy
      cases he : evenB x y
      all_goals
        have HK := Lib.hid (show knotE x y = _ by simp only [knotE, hx, hy, he]; rfl)
        have HX := Lib.hid hx
        have HY := Lib.hid hy
        have HE := Lib.hid he
        clear hx hy he
        go_enter Tryz.func19, Tryz.ntmps19
        go_wp2_with fail
        refine (refFar x _).mono ?_
        rintro e w' ⟨rfl, rfl⟩
        rw [HX.out]
        go_wp2_with fail
        refine (refFar y _).mono ?_
        rintro e w' ⟨rfl, rfl⟩
        rw [HY.out]
        go_wp2_with fail
        refine (refEven x y _ h1 h2 h3 h4).mono ?_
        rintro e w' ⟨rfl, rfl⟩
        rw [HE.out]
        go_wp2
        go_ret
        exact ⟨ret_i HK.out.symm, (Below.refl _ _).alloc (Nat.le_refl _) _⟩
    · have HK := Lib.hid (show knotE x y = 3 by simp [knotE, hx, hy])
      have HX := Lib.hid hx
      have HY := Lib.hid hy
      clear hx hy
      go_enter Tryz.func19, Tryz.ntmps19
      go_wp2_with fail
      refine (refFar x _).mono ?_
      rintro e w' ⟨rfl, rfl⟩
      rw [HX.out]
      go_wp2_with fail
      refine (refFar y _).mono ?_
      rintro e w' ⟨rfl, rfl⟩
      rw [HY.out]
      go_wp2
      go_ret
      exact ⟨ret_i HK.out.symm, (Below.refl _ _).alloc (Nat.le_refl _) _⟩
  · have HK := Lib.hid (show knotE x y = 3 by simp [knotE, hx])
    have HX := Lib.hid hx
    clear hx
    go_enter Tryz.func19, Tryz.ntmps19
    go_wp2_with fail
    refine (refFar x _).mono ?_
    rintro e w' ⟨rfl, rfl⟩
    rw [HX.out]
    go_wp2
    go_ret
    exact ⟨ret_i HK.out.symm, (Below.refl _ _).alloc (Nat.le_refl _) _⟩
end Go.Proofs.YtdeplhihcifmeaaGreatDoor

/- Contracts of the reference's functions on bars: the ends, the error of a bar, the order of bars. -/
namespace Go.Proofs.YtdeplhihcifmeaaGreatDoor
open Go.RowKit

set_option maxHeartbeats 400000 in
theorem refLower (x y s : Int) (w : World) :
    Calls Tryz.prog 80 #[.agg #[.int .i64 x, .int .i64 y, .int .i64 s]] w fun e w' => e = .returned (.agg #[.int .i64 x, .int .i64 y]) ∧ Below w.heap.size w w' := by
  go_enter Tryz.func80, Tryz.ntmps80
  go_wp2
  exact bodyPost_ret (v := .agg #[.int .i64 x, .int .i64 y]) (by simp [results, Tryz.results80, go_sem]) rfl ⟨rfl, (((Below.refl _ _).alloc (Nat.le_refl _) _).alloc (by simp) _)⟩

set_option maxHeartbeats 400000 in
theorem refUpper (x y s : Int) (w : World) (hx1 : -100000 ≤ x) (hx2 : x ≤ 100000) (hy1 : -100000 ≤ y) (hy2 : y ≤ 100000) (hs1 : -1 ≤ s) (hs2 : s ≤ 1) :
    Calls Tryz.prog 81 #[.agg #[.int .i64 x, .int .i64 y, .int .i64 s]] w fun e w' => e = .returned (.agg #[.int .i64 (x + s), .int .i64 (y + 1)]) ∧ Below w.heap.size w w' := by
  go_enter Tryz.func81, Tryz.ntmps81
  go_wp2
  exact bodyPost_ret (v := .agg #[.int .i64 (x + s), .int .i64 (y + 1)]) (by simp [results, Tryz.results81, go_sem]) rfl ⟨rfl, (((Below.refl _ _).alloc (Nat.le_refl _) _).alloc (by simp) _)⟩

def barE (x y s : Int) : Int := if knotE x y = 0 then (if s = 1 ∨ s = -1 then knotE (x + s) (y + 1) else 13) else knotE x y
theorem knotE_zero {x y : Int} (h : knotE x y = 0) : -100000 ≤ x ∧ x ≤ 100000 ∧ -100000 ≤ y ∧ y ≤ 100000 := by
  unfold knotE at h
  split at h
  · omega
  · rename_i h1
    split at h
    · omega
    · rename_i h2
      have a := farB_no (by simpa using h1)
      have b := farB_no (by simpa using h2)
      omega

set_option maxHeartbeats 400000 in
theorem refCheckBar (x y s : Int) (w : World) :
    Calls Tryz.prog 18 #[.agg #[.int .i64 x, .int .i64 y, .int .i64 s]] w fun e w' => e = .returned (.int .i64 (barE x y s)) ∧ Below w.heap.size w w' := by
  by_cases hk : knotE x y = 0
  · obtain ⟨h1, h2, h3, h4⟩ := knotE_zero hk
    by_cases hs : s = 1 ∨ s = -1
    · have HB := Lib.hid (show barE x y s = knotE (x + s) (y + 1) by simp [barE, hk, hs])
      have HK := Lib.hid hk
      clear hk
      rcases hs with rfl | rfl
      all_goals
        go_enter Tryz.func18, Tryz.ntmps18
        go_wp2_with fail
        refine (refLower x y _ _).mono ?_
        rintro e w1 ⟨rfl, hb1⟩
        obtain ⟨hc1, hf1⟩ := bcell hb1
        go_wp2_with fail
        refine (refCheckKnot x y _).mono ?_
        rintro e w2 ⟨rfl, hb2⟩
        obtain ⟨hc2, hf2⟩ := bcell hb2
        have hz : w.heap.size < w1.heap.size := by have := hb1.size; simp at this; omega
        rw [HK.out]
        go_wp2_with fail
        refine (refUpper _ _ _ _ h1 h2 h3 h4 (by decide) (by decide)).mono ?_
        rintro e w3 ⟨rfl, hb3⟩
        obtain ⟨hc3, hf3⟩ := bcell hb3
        go_wp2_with fail
        refine (refCheckKnot _ _ _).mono ?_
        rintro e w4 ⟨rfl, hb4⟩
        go_wp2
        go_ret
        exact ⟨ret_i HB.out.symm, (((((Below.refl _ _).alloc (Nat.le_refl _) _).trans (hb1.mono (by simp))).trans (hb2.mono (by omega))).trans (hb3.mono (by have := hb2.size; omega))).trans (hb4.mono (by have := hb2.size; have := hb3.size; omega))⟩
    · have hs1 : (s != 1) = true := by rw [bne_iff_ne]; omega
      have hs2 : (s != -1) = true := by rw [bne_iff_ne]; omega
      have HB := Lib.hid (show barE x y s = 13 by simp [barE, hk, hs])
      have HK := Lib.hid hk
      clear hk hs
      go_enter Tryz.func18, Tryz.ntmps18
      go_wp2_with fail
      refine (refLower x y _ _).mono ?_
      rintro e w1 ⟨rfl, hb1⟩
      obtain ⟨hc1, hf1⟩ := bcell hb1
      go_wp2_with fail
      refine (refCheckKnot x y _).mono ?_
      rintro e w2 ⟨rfl, hb2⟩
      obtain ⟨hc2, hf2⟩ := bcell hb2
      have hz : w.heap.size < w1.heap.size := by have := hb1.size; simp at this; omega
      rw [HK.out]
      go_wp2
      go_ret
      exact ⟨ret_i HB.out.symm, ((((Below.refl _ _).alloc (Nat.le_refl _) _).trans (hb1.mono (by simp))).trans (hb2.mono (by omega)))⟩
  · have hk1 : (knotE x y == 0) = false := by simpa using hk
    have HB := Lib.hid (show barE x y s = knotE x y by simp [barE, hk])
    clear hk
    go_enter Tryz.func18, Tryz.ntmps18
    go_wp2_with fail
    refine (refLower x y _ _).mono ?_
    rintro e w1 ⟨rfl, hb1⟩
    obtain ⟨hc1, hf1⟩ := bcell hb1
    go_wp2_with fail
    refine (refCheckKnot x y _).mono ?_
    rintro e w2 ⟨rfl, hb2⟩
    obtain ⟨hc2, hf2⟩ := bcell hb2
    have hz : w.heap.size < w1.heap.size := by have := hb1.size; simp at this; omega
    go_wp2
    go_ret
    exact ⟨ret_i HB.out.symm, ((((Below.refl _ _).alloc (Nat.le_refl _) _).trans (hb1.mono (by simp))).trans (hb2.mono (by omega)))⟩
end Go.Proofs.YtdeplhihcifmeaaGreatDoor

/- Contracts of the reference's order of bars and of its check of a net. -/
namespace Go.Proofs.YtdeplhihcifmeaaGreatDoor
open Go.RowKit

def lessB (x y s x' y' s' : Int) : Bool := if y = y' then (if x = x' then decide (s < s') else decide (x < x')) else decide (y < y')

set_option maxHeartbeats 400000 in
theorem refLess (x y s x' y' s' : Int) (w : World) :
    Calls Tryz.prog 72 #[.agg #[.int .i64 x, .int .i64 y, .int .i64 s], .agg #[.int .i64 x', .int .i64 y', .int .i64 s']] w fun e w' => e = .returned (.bool (lessB x y s x' y' s')) ∧ Below w.heap.size w w' := by
  by_cases hy : y = y'
  · subst hy
    by_cases hx : x = x'
    · subst hx
      have HB := Lib.hid (show lessB x y s x y s' = decide (s < s') by simp [lessB])
      go_enter Tryz.func72, Tryz.ntmps72
      go_wp2
      go_ret
      exact ⟨ret_b HB.out.symm, (((Below.refl _ _).alloc (Nat.le_refl _) _).alloc (by simp) _)⟩
    · have h1 : (x != x') = true := by rw [bne_iff_ne]; exact hx
      have HB := Lib.hid (show lessB x y s x' y s' = decide (x < x') by simp [lessB, hx])
      clear hx
      go_enter Tryz.func72, Tryz.ntmps72
      go_wp2
      go_ret
      exact ⟨ret_b HB.out.symm, (((Below.refl _ _).alloc (Nat.le_refl _) _).alloc (by simp) _)⟩
  · have h1 : (y != y') = true := by rw [bne_iff_ne]; exact hy
    have HB := Lib.hid (show lessB x y s x' y' s' = decide (y < y') by simp [lessB, hy])
    clear hy
    go_enter Tryz.func72, Tryz.ntmps72
    go_wp2
    go_ret
    exact ⟨ret_b HB.out.symm, (((Below.refl _ _).alloc (Nat.le_refl _) _).alloc (by simp) _)⟩

def netFrom : Option Ck.Bar → List Ck.Bar → Int
  | _, [] => 0
  | none, b :: r => if barE b.x b.y b.s = 0 then netFrom (some b) r else barE b.x b.y b.s
  | some p, b :: r => if barE b.x b.y b.s = 0 then (if lessB p.x p.y p.s b.x b.y b.s then netFrom (some b) r else 11) else barE b.x b.y b.s
def prevAt (l : List Ck.Bar) : Nat → Option Ck.Bar
  | 0 => none
  | k + 1 => l[k]?
def netE (l : List Ck.Bar) : Int := if 4096 < l.length then 5 else netFrom none l

theorem netFrom_bad {l : List Ck.Bar} {k : Nat} (hk : k < l.length) (h : ¬ barE l[k].x l[k].y l[k].s = 0) : netFrom (prevAt l k) (l.drop k) = barE l[k].x l[k].y l[k].s := by
  rw [List.drop_eq_getElem_cons hk]
  cases prevAt l k <;> simp [netFrom, h]
theorem netFrom_step0 {l : List Ck.Bar} (hk : 0 < l.length) (h : barE l[0].x l[0].y l[0].s = 0) : netFrom (prevAt l 0) (l.drop 0) = netFrom (prevAt l 1) (l.drop 1) := by
  rw [List.drop_eq_getElem_cons hk]
  simp [prevAt, netFrom, h, List.getElem?_eq_getElem hk]
theorem netFrom_step {l : List Ck.Bar} {k : Nat} (hk : k + 1 < l.length) (h : barE l[k+1].x l[k+1].y l[k+1].s = 0) (h2 : lessB l[k].x l[k].y l[k].s l[k+1].x l[k+1].y l[k+1].s = true) : netFrom (prevAt l (k + 1)) (l.drop (k + 1)) = netFrom (prevAt l (k + 1 + 1)) (l.drop (k + 1 + 1)) := by
  rw [List.drop_eq_getElem_cons hk]
  simp only [prevAt, List.getElem?_eq_getElem hk, List.getElem?_eq_getElem (Nat.lt_of_succ_lt hk), netFrom, h, h2, if_true]
theorem netFrom_stop {l : List Ck.Bar} {k : Nat} (hk : k + 1 < l.length) (h : barE l[k+1].x l[k+1].y l[k+1].s = 0) (h2 : lessB l[k].x l[k].y l[k].s l[k+1].x l[k+1].y l[k+1].s = false) : netFrom (prevAt l (k + 1)) (l.drop (k + 1)) = 11 := by
  rw [List.drop_eq_getElem_cons hk]
  simp only [prevAt, List.getElem?_eq_getElem (Nat.lt_of_succ_lt hk), netFrom, h, h2, if_true]
  rfl
theorem netFrom_end (l : List Ck.Bar) : netFrom (prevAt l l.length) (l.drop l.length) = 0 := by
  rw [List.drop_length]
  cases prevAt l l.length <;> rfl

set_option maxHeartbeats 1000000 in
set_option maxRecDepth 100000 in
theorem refCheckNet (A : Option Addr) (c : Nat) (l : List Ck.Bar) (w : World) (hl : l.length ≤ 4096) (h : RB w w.heap.size A l) :
    Calls Tryz.prog 17 #[.slice A l.length c] w fun e w' => e = .returned (.int .i64 (netE l)) ∧ Below w.heap.size w w' := by
  have HE := Lib.hid (show netE l = netFrom (prevAt l 0) (l.drop 0) by simp [netE, prevAt]; omega)
  have hl' : (l.length : Int) ≤ 4096 := by omega
  go_enter Tryz.func17, Tryz.ntmps17
  go_wp2_with fail
  go_loopw [3, 4] (fun i _ wr => ∃ k : Nat, k ≤ l.length ∧ i = .int .i64 k ∧ netE l = netFrom (prevAt l k) (l.drop k) ∧ Below w.heap.size w wr) (fun i _ _ => l.length - (intOf i).toNat)
  case atStart => exact ⟨0, Nat.zero_le _, rfl, HE.out, Below.refl _ _⟩
  case round =>
    obtain ⟨k, hk, rfl, he, hb⟩ := hrel
    have HE2 := Lib.hid he
    clear he
    by_cases hlt : k < l.length
    · have h' := h.below hb
      obtain ⟨b, off, rfl, hB, hc⟩ := h' (by omega)
      have HC := Lib.hid hc
      obtain ⟨c0, c1, c2⟩ := hc k hlt
      clear hc h' h
      by_cases hbad : barE l[k].x l[k].y l[k].s = 0
      · by_cases hk0 : k = 0
        · have hg1 : decide (0 < k) = false := by simp [hk0]
          have hg2 : decide ((0 : Int) < (k : Int)) = false := by simp [hk0]
          have HF := Lib.hid (show netFrom (prevAt l k) (l.drop k) = netFrom (prevAt l (k + 1)) (l.drop (k + 1)) by
            subst hk0
            exact netFrom_step0 hlt hbad)
          have HBE := Lib.hid hbad
          clear hbad hk0
          go_wp2_with fail
          refine (refCheckBar _ _ _ _).mono ?_
          rintro e w1 ⟨rfl, hb2⟩
          rw [HBE.out]
          go_wp2_with fail
          go_quiet (fail)
          go_wp2
          go_roundw
          case rel => exact ⟨k + 1, by omega, by go_num, HE2.out.trans HF.out, hb.trans (below_drewN (hb2.mono hb.size) _)⟩
          case measure => simp [intOf]; omega
        · obtain ⟨j, rfl⟩ : ∃ j, k = j + 1 := ⟨k - 1, by omega⟩
          obtain ⟨d0, d1, d2⟩ := HC.out j (by omega)
          have hg1 : decide (0 < j + 1) = true := by simp
          have hg2 : decide ((0 : Int) < ((j + 1 : Nat) : Int)) = true := by simp
          have HBE := Lib.hid hbad
          clear hbad hk0
          cases hl2 : lessB l[j].x l[j].y l[j].s l[j+1].x l[j+1].y l[j+1].s
          · have HF := Lib.hid (netFrom_stop hlt HBE.out hl2)
            have HL := Lib.hid hl2
            clear hl2
            go_wp2_with fail
            refine (refCheckBar _ _ _ _).mono ?_
            rintro e w1 ⟨rfl, hb2⟩
            rw [HBE.out]
            obtain ⟨hc1, hf1⟩ := bcell hb2
            have hz := hb.size
            have hz1 : b < wr.heap.size := by omega
            go_wp2_with fail
            have hw1 : IntKind.i64.wrap (j : Int) = (j : Int) := by rw [IntKind.wrap_i64]; omega
            have hw2 : j < l.length := by omega
            have hw4 : IntKind.i64.wrap ((j : Int) + 1) = (j : Int) + 1 := by rw [IntKind.wrap_i64]; omega
            have hw5 : 0 ≤ (j : Int) + 1 := by omega
            have hw3 : ((j : Int) + 1).toNat = j + 1 := by omega
            refine wp_region_still_tail 12 (by kernel_rfl) (by kernel_rfl) ?_
            simp only [List.take_succ_cons, List.take_zero, List.drop_succ_cons, List.drop_zero]
            repeat still_step
            refine wpStill_nil ?_
            change wpList _ _ _ _ _ w1.drew
            clear hw1 hw2 hw4 hw5 hw3
            go_wp2_with fail
            refine (refLess _ _ _ _ _ _ _).mono ?_
            rintro e w2 ⟨rfl, hb3⟩
            rw [HL.out]
            go_wp2
            go_ret
            exact ⟨ret_i (HE2.out.trans HF.out).symm, (below_drew (hb.trans (hb2.mono hz))).trans (hb3.mono (by have := hb2.size; show w.heap.size ≤ w1.heap.size; omega))⟩
          · have HF := Lib.hid (netFrom_step hlt HBE.out hl2)
            have HL := Lib.hid hl2
            clear hl2
            go_wp2_with fail
            refine (refCheckBar _ _ _ _).mono ?_
            rintro e w1 ⟨rfl, hb2⟩
            rw [HBE.out]
            obtain ⟨hc1, hf1⟩ := bcell hb2
            have hz := hb.size
            have hz1 : b < wr.heap.size := by omega
            go_wp2_with fail
            have hw1 : IntKind.i64.wrap (j : Int) = (j : Int) := by rw [IntKind.wrap_i64]; omega
            have hw2 : j < l.length := by omega
            have hw4 : IntKind.i64.wrap ((j : Int) + 1) = (j : Int) + 1 := by rw [IntKind.wrap_i64]; omega
            have hw5 : 0 ≤ (j : Int) + 1 := by omega
            have hw3 : ((j : Int) + 1).toNat = j + 1 := by omega
            refine wp_region_still_tail 12 (by kernel_rfl) (by kernel_rfl) ?_
            simp only [List.take_succ_cons, List.take_zero, List.drop_succ_cons, List.drop_zero]
            repeat still_step
            refine wpStill_nil ?_
            change wpList _ _ _ _ _ w1.drew
            clear hw1 hw2 hw4 hw5 hw3
            go_wp2_with fail
            refine (refLess _ _ _ _ _ _ _).mono ?_
            rintro e w2 ⟨rfl, hb3⟩
            rw [HL.out]
            go_wp2
            go_roundw
            case rel => exact ⟨j + 1 + 1, by omega, by go_num, HE2.out.trans HF.out, (below_drew (hb.trans (hb2.mono hz))).trans (hb3.mono (by have := hb2.size; show w.heap.size ≤ w1.heap.size; omega))⟩
            case measure => simp [intOf]; omega
      · have hb1 : (barE l[k].x l[k].y l[k].s != 0) = true := by rw [bne_iff_ne]; exact hbad
        have HF := Lib.hid (netFrom_bad hlt hbad)
        clear hbad
        generalize hbe : barE l[k].x l[k].y l[k].s = be at *
        have HBE := Lib.hid hbe
        clear hbe
        go_wp2_with fail
        refine (refCheckBar _ _ _ _).mono ?_
        rintro e w1 ⟨rfl, hb2⟩
        rw [HBE.out]
        go_wp2
        go_ret
        exact ⟨ret_i (HE2.out.trans HF.out).symm, hb.trans (hb2.mono hb.size)⟩
    · obtain rfl : k = l.length := by omega
      have HF := Lib.hid (netFrom_end l)
      go_wp2
      go_ret
      exact ⟨ret_i (HE2.out.trans HF.out).symm, hb⟩
end Go.Proofs.YtdeplhihcifmeaaGreatDoor

/- Contracts of the program's small functions of netting: ranges, the first error, knots, sides, ends. -/
namespace Go.Proofs.YtdeplhihcifmeaaGreatDoor
open Go.RowKit

set_option maxHeartbeats 400000 in
theorem netCheckRange (n lo hi : Int) (w : World) :
    Calls Tryz.prog 94 #[.int .i64 n, .int .i64 lo, .int .i64 hi] w fun e w' => e = .returned (.int .i64 (if n < lo ∨ hi < n then 3 else 0)) ∧ w = w' := by
  by_cases h1 : n < lo
  · go_enter Tryz.func94, Tryz.ntmps94
    go_wp2
    go_ret
    simp
  · by_cases h2 : hi < n
    all_goals
      go_enter Tryz.func94, Tryz.ntmps94
      go_wp2
      go_ret
      simp <;> omega

def placeE (n : Int) : Int := if farB n then 3 else 0
theorem placeE_eq (n : Int) : (if n < -100000 ∨ 100000 < n then 3 else 0) = placeE n := by simp [placeE, farB]
set_option maxHeartbeats 400000 in
theorem netCheckPlace (n : Int) (w : World) :
    Calls Tryz.prog 88 #[.int .i64 n] w fun e w' => e = .returned (.int .i64 (placeE n)) ∧ w = w' := by
  go_enter Tryz.func88, Tryz.ntmps88
  go_wp2_with fail
  refine (netCheckRange _ _ _ _).mono ?_
  rintro e w' ⟨rfl, rfl⟩
  rw [placeE_eq]
  go_wp2
  go_ret
  exact ⟨rfl, rfl⟩

def sideE (s : Int) : Int := if s = 1 ∨ s = -1 then 0 else 13
set_option maxHeartbeats 400000 in
theorem netCheckSide (s : Int) (w : World) :
    Calls Tryz.prog 87 #[.int .i64 s] w fun e w' => e = .returned (.int .i64 (sideE s)) ∧ w = w' := by
  by_cases h : s = 1 ∨ s = -1
  · rcases h with rfl | rfl
    all_goals
      go_enter Tryz.func87, Tryz.ntmps87
      go_wp2
      go_ret
      exact ⟨rfl, rfl⟩
  · have h1 : (s != 1) = true := by rw [bne_iff_ne]; omega
    have h2 : (s != -1) = true := by rw [bne_iff_ne]; omega
    have HS := Lib.hid (show sideE s = 13 by simp [sideE, h])
    clear h
    go_enter Tryz.func87, Tryz.ntmps87
    go_wp2
    go_ret
    exact ⟨ret_i HS.out.symm, rfl⟩

def firstE : List Int → Int
  | [] => 0
  | e :: r => if e = 0 then firstE r else e
set_option maxHeartbeats 400000 in
theorem netFirst (b c : Nat) (es : List Int) (w : World) (hn : es.length ≤ 100) (hc : ∀ i (h : i < es.length), w.cell? ⟨b, i, none⟩ = some (.int .i64 es[i])) :
    Calls Tryz.prog 84 #[.slice (some ⟨b, 0, none⟩) es.length c] w fun e w' => e = .returned (.int .i64 (firstE es)) ∧ w = w' := by
  have HC := Lib.hid hc
  have hn' : (es.length : Int) ≤ 100 := by omega
  clear hc
  go_enter Tryz.func84, Tryz.ntmps84
  go_wp2_with fail
  go_loop [4, 7] (fun _ i => ∃ k : Nat, k ≤ es.length ∧ i = .int .i64 k ∧ firstE es = firstE (es.drop k)) (fun _ i => es.length - (intOf i).toNat)
  case atStart => exact ⟨0, Nat.zero_le _, rfl, rfl⟩
  case round =>
    obtain ⟨k, hk, rfl, he⟩ := hrel
    have HE := Lib.hid he
    clear he
    by_cases hlt : k < es.length
    · have hcell := HC.out k hlt
      by_cases hz : es[k] = 0
      · have HF := Lib.hid (show firstE (es.drop k) = firstE (es.drop (k + 1)) by
          rw [List.drop_eq_getElem_cons hlt]
          simp only [firstE, hz, if_true])
        rw [hz] at hcell
        clear hz
        go_wp2
        go_round
        case rel => exact ⟨k + 1, by omega, by go_num, HE.out.trans HF.out⟩
        case measure => simp [intOf]; omega
      · have HF := Lib.hid (show firstE (es.drop k) = es[k] by
          rw [List.drop_eq_getElem_cons hlt]
          simp only [firstE, if_neg hz])
        have hz1 : (es[k] != 0) = true := by rw [bne_iff_ne]; exact hz
        clear hz
        go_wp2
        go_ret
        exact ⟨ret_i (HE.out.trans HF.out).symm, rfl⟩
    · obtain rfl : k = es.length := by omega
      have HF := Lib.hid (show firstE (es.drop es.length) = 0 by rw [List.drop_length]; rfl)
      go_wp2
      go_ret
      exact ⟨ret_i (HE.out.trans HF.out).symm, rfl⟩

set_option maxHeartbeats 400000 in
theorem netLower (x y s : Int) (w : World) :
    Calls Tryz.prog 86 #[.agg #[.int .i64 x, .int .i64 y, .int .i64 s]] w fun e w' => e = .returned (.agg #[.int .i64 x, .int .i64 y]) ∧ Below w.heap.size w w' := by
  go_enter Tryz.func86, Tryz.ntmps86
  go_wp2
  exact bodyPost_ret (v := .agg #[.int .i64 x, .int .i64 y]) (by simp [results, Tryz.results86, go_sem]) rfl ⟨rfl, (((Below.refl _ _).alloc (Nat.le_refl _) _).alloc (by simp) _)⟩

set_option maxHeartbeats 400000 in
theorem netUpper (x y s : Int) (w : World) (hx1 : -100000 ≤ x) (hx2 : x ≤ 100000) (hy1 : -100000 ≤ y) (hy2 : y ≤ 100000) (hs1 : -1 ≤ s) (hs2 : s ≤ 1) :
    Calls Tryz.prog 89 #[.agg #[.int .i64 x, .int .i64 y, .int .i64 s]] w fun e w' => e = .returned (.agg #[.int .i64 (x + s), .int .i64 (y + 1)]) ∧ Below w.heap.size w w' := by
  go_enter Tryz.func89, Tryz.ntmps89
  go_wp2
  exact bodyPost_ret (v := .agg #[.int .i64 (x + s), .int .i64 (y + 1)]) (by simp [results, Tryz.results89, go_sem]) rfl ⟨rfl, (((Below.refl _ _).alloc (Nat.le_refl _) _).alloc (by simp) _)⟩
end Go.Proofs.YtdeplhihcifmeaaGreatDoor

/- Contracts of the program's CheckKnot and CheckBar. -/
namespace Go.Proofs.YtdeplhihcifmeaaGreatDoor
open Go.RowKit

theorem tmod2 (n : Int) : (n.tmod 2 != 0) = !decide (n % 2 = 0) := by
  rw [Bool.eq_iff_iff]
  simp only [bne_iff_ne, ne_eq, Bool.not_eq_true', decide_eq_false_iff_not]
  rw [← Int.dvd_iff_tmod_eq_zero, ← Int.dvd_iff_emod_eq_zero]
theorem firstE_one {a : Int} (h : ¬ a = 0) (b : Int) : firstE [a, b] = a := by simp [firstE, h]
theorem firstE_two (b : Int) : firstE [0, b] = b := by unfold firstE firstE firstE; split <;> simp_all
theorem two_cells {w : World} {g : Nat} {a b : Int} {t : TypeId} (h : w.heap[g]? = some (.cells #[.int .i64 a, .int .i64 b] t (0, 0))) : ∀ i (hi : i < [a, b].length), w.cell? ⟨g, i, none⟩ = some (.int .i64 [a, b][i]) := by
  intro i hi
  have hi' : i = 0 ∨ i = 1 := by simp at hi; omega
  rcases hi' with rfl | rfl <;> simp [World.cell?, h]

theorem netFirst2 (g c : Nat) (a b : Int) (t : TypeId) (w : World) (h : w.heap[g]? = some (.cells #[.int .i64 a, .int .i64 b] t (0, 0))) :
    Calls Tryz.prog 84 #[.slice (some ⟨g, 0, none⟩) 2 c] w fun e w' => e = .returned (.int .i64 (firstE [a, b])) ∧ w = w' :=
  netFirst g c [a, b] w (by simp) (two_cells h)
def sumE (x y : Int) : Int := firstE [placeE x, placeE y]
theorem sumE_bad {x y : Int} (h : ¬ (farB x = false ∧ farB y = false)) : sumE x y = 3 ∧ knotE x y = 3 := by
  cases hx : farB x <;> cases hy : farB y <;> simp_all [sumE, knotE, placeE, firstE]
theorem sumE_ok {x y : Int} (hx : farB x = false) (hy : farB y = false) : sumE x y = 0 := by simp [sumE, placeE, firstE, hx, hy]

set_option maxHeartbeats 1000000 in
set_option maxRecDepth 100000 in
theorem netCheckKnot (x y : Int) (w : World) :
    Calls Tryz.prog 23 #[.agg #[.int .i64 x, .int .i64 y]] w fun e w' => e = .returned (.int .i64 (knotE x y)) ∧ Below w.heap.size w w' := by
  by_cases hg : farB x = false ∧ farB y = false
  · obtain ⟨hx, hy⟩ := hg
    obtain ⟨h1, h2⟩ := farB_no hx
    obtain ⟨h3, h4⟩ := farB_no hy
    have HS := Lib.hid (sumE_ok hx hy)
    cases he : evenB x y
    all_goals
      have ht := tmod2 (x + y)
      have he' : decide ((x + y) % 2 = 0) = _ := he
      rw [he'] at ht
      have HK := Lib.hid (show knotE x y = _ by simp only [knotE, hx, hy, he]; rfl)
      clear hx hy he he'
      go_enter Tryz.func23, Tryz.ntmps23
      go_wp2_with fail
      obtain ⟨w1, hw1, c0, c1, hb1, hz1⟩ := box2 w (.int .i64 x) (.int .i64 y) 26
      rw [← hw1]
      clear hw1
      refine wp_region_still_tail 6 (by kernel_rfl) (by kernel_rfl) ?_
      simp only [List.take_succ_cons, List.take_zero, List.drop_succ_cons, List.drop_zero]
      still_step
      still_step
      still_call (Calls.mono (netCheckPlace _ _) fun _ _ h => ⟨h.1, h.2.symm⟩)
      still_step
      still_step
      still_call (Calls.mono (netCheckPlace _ _) fun _ _ h => ⟨h.1, h.2.symm⟩)
      refine wpStill_nil ?_
      change wpList _ _ _ _ _ w1.drew
      go_wp2_with fail
      refine (netFirst2 _ _ (placeE x) (placeE y) 32 _ (by exact heap_alloc_new _ _)).mono ?_
      rintro e w2 ⟨rfl, rfl⟩
      rw [show firstE [placeE x, placeE y] = 0 from HS.out]
      go_wp2
      go_ret
      exact ⟨ret_i HK.out.symm, (below_drew hb1).alloc (by show _ ≤ w1.heap.size; omega) _⟩
  · obtain ⟨hs, hk⟩ := sumE_bad hg
    have HS := Lib.hid hs
    have HK := Lib.hid hk
    clear hs hk hg
    go_enter Tryz.func23, Tryz.ntmps23
    go_wp2_with fail
    obtain ⟨w1, hw1, c0, c1, hb1, hz1⟩ := box2 w (.int .i64 x) (.int .i64 y) 26
    rw [← hw1]
    clear hw1
    refine wp_region_still_tail 6 (by kernel_rfl) (by kernel_rfl) ?_
    simp only [List.take_succ_cons, List.take_zero, List.drop_succ_cons, List.drop_zero]
    still_step
    still_step
    still_call (Calls.mono (netCheckPlace _ _) fun _ _ h => ⟨h.1, h.2.symm⟩)
    still_step
    still_step
    still_call (Calls.mono (netCheckPlace _ _) fun _ _ h => ⟨h.1, h.2.symm⟩)
    refine wpStill_nil ?_
    change wpList _ _ _ _ _ w1.drew
    go_wp2_with fail
    refine (netFirst2 _ _ (placeE x) (placeE y) 32 _ (by exact heap_alloc_new _ _)).mono ?_
    rintro e w2 ⟨rfl, rfl⟩
    rw [show firstE [placeE x, placeE y] = 3 from HS.out]
    go_wp2
    go_ret
    exact ⟨ret_i HK.out.symm, (below_drew hb1).alloc (by show _ ≤ w1.heap.size; omega) _⟩
end Go.Proofs.YtdeplhihcifmeaaGreatDoor

/- The contract of the program's CheckBar. -/
namespace Go.Proofs.YtdeplhihcifmeaaGreatDoor
open Go.RowKit

theorem keep3 {W w1 w2 : World} {g : Nat} {x y s : Value} (h : w1.cell? ⟨g, 0, none⟩ = some x ∧ w1.cell? ⟨g, 1, none⟩ = some y ∧ w1.cell? ⟨g, 2, none⟩ = some s ∧ Below g W w1 ∧ g < w1.heap.size) (hb : Below w1.heap.size w1 w2) :
    w2.cell? ⟨g, 0, none⟩ = some x ∧ w2.cell? ⟨g, 1, none⟩ = some y ∧ w2.cell? ⟨g, 2, none⟩ = some s ∧ Below g W w2 ∧ g < w2.heap.size := by
  obtain ⟨h0, h1, h2, h3, h4⟩ := h
  exact ⟨(hb.cell (p := ⟨g, 0, none⟩) h4).trans h0, (hb.cell (p := ⟨g, 1, none⟩) h4).trans h1, (hb.cell (p := ⟨g, 2, none⟩) h4).trans h2, h3.trans (hb.mono (by omega)), by have := hb.size; omega⟩

theorem knotX (u v : Value) (w : World) : (Instr.field 26 (.agg #[u, v]) 0).run Tryz.prog w = .ok u w := by kernel_rfl
theorem knotY (u v : Value) (w : World) : (Instr.field 26 (.agg #[u, v]) 1).run Tryz.prog w = .ok v w := by kernel_rfl

theorem barE_ok {x y s : Int} (hk : knotE x y = 0) (hs : s = 1 ∨ s = -1) : firstE [placeE (x + s), placeE (y + 1)] = barE x y s := by
  have hp : (x + y) % 2 = 0 := by
    unfold knotE at hk
    split at hk
    · omega
    · split at hk
      · omega
      · split at hk
        · rename_i h; simpa [evenB] using h
        · omega
  have he : evenB (x + s) (y + 1) = true := by simp only [evenB, decide_eq_true_eq]; omega
  simp only [barE, if_true, if_pos hs, knotE, he]
  have hk' := hk
  simp only [knotE] at hk'
  simp only [hk', ite_true]
  unfold placeE firstE firstE
  cases farB (x + s) <;> cases farB (y + 1) <;> simp [firstE]

set_option maxHeartbeats 4000000 in
set_option maxRecDepth 100000 in
theorem netCheckBar (x y s : Int) (w : World) :
    Calls Tryz.prog 22 #[.agg #[.int .i64 x, .int .i64 y, .int .i64 s]] w fun e w' => e = .returned (.int .i64 (barE x y s)) ∧ Below w.heap.size w w' := by
  by_cases hg : knotE x y = 0 ∧ (s = 1 ∨ s = -1)
  · obtain ⟨hk, hs⟩ := hg
    obtain ⟨h1, h2, h3, h4⟩ := knotE_zero hk
    have HF := Lib.hid (show firstE [knotE x y, sideE s] = 0 by simp [firstE, hk, sideE, hs])
    have HB := Lib.hid (barE_ok hk hs)
    have h5 : -1 ≤ s := by omega
    have h6 : s ≤ 1 := by omega
    clear hk hs
    have fx := knotX
    have fy := knotY
    go_enter Tryz.func22, Tryz.ntmps22
    go_wp2_with fail
    obtain ⟨w1, hw1, c0, c1, c2, hb1, hz1⟩ := box3 w (.int .i64 x) (.int .i64 y) (.int .i64 s) 24
    rw [← hw1]
    clear hw1
    go_region_held3 (fun w' => w'.cell? ⟨w.heap.size, 0, none⟩ = some (.int .i64 x) ∧ w'.cell? ⟨w.heap.size, 1, none⟩ = some (.int .i64 y) ∧ w'.cell? ⟨w.heap.size, 2, none⟩ = some (.int .i64 s) ∧ Below w.heap.size w w' ∧ w.heap.size < w'.heap.size)
      (first | exact ⟨c0, c1, c2, below_drew hb1, hz1⟩ | exact keep3 (by assumption) (by assumption) | exact keep3 (by assumption) ((Below.refl _ _).alloc (Nat.le_refl _) _) | assumption | (refine ⟨?_, ?_, ?_, ?_, ?_⟩ <;> first | assumption | (simp at *; omega)) | exact keep3 (by assumption) (below_drew (Below.refl _ _)) | go_keep)
      (first
        | (go_at_call 86; refine (netLower _ _ _ _).mono ?_; rintro e w' ⟨rfl, hb⟩)
        | (go_at_call 23; refine (netCheckKnot _ _ _).mono ?_; rintro e w' ⟨rfl, hb⟩)
        | (go_at_call 87; refine (netCheckSide _ _).mono ?_; rintro e w' ⟨rfl, rfl⟩)
        | (go_at_call 84; refine (netFirst2 _ _ (knotE x y) (sideE s) 32 _ (by exact heap_alloc_new _ _)).mono ?_; rintro e w' ⟨rfl, rfl⟩))
    rw [HF.out]
    go_wp2_with fail
    go_region_held3 (fun w' => w'.cell? ⟨w.heap.size, 0, none⟩ = some (.int .i64 x) ∧ w'.cell? ⟨w.heap.size, 1, none⟩ = some (.int .i64 y) ∧ w'.cell? ⟨w.heap.size, 2, none⟩ = some (.int .i64 s) ∧ Below w.heap.size w w' ∧ w.heap.size < w'.heap.size)
      (first | exact ⟨c0, c1, c2, below_drew hb1, hz1⟩ | exact keep3 (by assumption) (by assumption) | exact keep3 (by assumption) ((Below.refl _ _).alloc (Nat.le_refl _) _) | assumption | (refine ⟨?_, ?_, ?_, ?_, ?_⟩ <;> first | assumption | (simp at *; omega)) | exact keep3 (by assumption) (below_drew (Below.refl _ _)) | go_keep)
      (first
        | (go_at_call 89; refine (netUpper _ _ _ _ h1 h2 h3 h4 h5 h6).mono ?_; rintro e w' ⟨rfl, hb⟩)
        | (go_at_call 88; refine (netCheckPlace _ _).mono ?_; rintro e w' ⟨rfl, rfl⟩)
        | (go_at_call 84; refine (netFirst2 _ _ (placeE (x + s)) (placeE (y + 1)) 32 _ (by exact heap_alloc_new _ _)).mono ?_; rintro e w' ⟨rfl, rfl⟩))
    all_goals
      rw [HB.out]
      go_wp2
      go_ret
      exact ⟨rfl, by first | (simp_all; done) | assumption⟩
  · have hf : ¬ firstE [knotE x y, sideE s] = 0 := by
      simp only [firstE, sideE]
      split
      · rename_i h
        simp [h] at hg
        simp [hg]
      · assumption
    have hf1 : (firstE [knotE x y, sideE s] != 0) = true := by rw [bne_iff_ne]; exact hf
    have HB := Lib.hid (show firstE [knotE x y, sideE s] = barE x y s by
      simp only [firstE, sideE, barE]
      split
      · rename_i h
        simp [h] at hg
        simp [hg]
      · rfl)
    clear hg hf
    go_enter Tryz.func22, Tryz.ntmps22
    go_wp2_with fail
    obtain ⟨w1, hw1, c0, c1, c2, hb1, hz1⟩ := box3 w (.int .i64 x) (.int .i64 y) (.int .i64 s) 24
    rw [← hw1]
    clear hw1
    go_region_held3 (fun w' => w'.cell? ⟨w.heap.size, 0, none⟩ = some (.int .i64 x) ∧ w'.cell? ⟨w.heap.size, 1, none⟩ = some (.int .i64 y) ∧ w'.cell? ⟨w.heap.size, 2, none⟩ = some (.int .i64 s) ∧ Below w.heap.size w w' ∧ w.heap.size < w'.heap.size)
      (first | exact ⟨c0, c1, c2, below_drew hb1, hz1⟩ | exact keep3 (by assumption) (by assumption) | exact keep3 (by assumption) ((Below.refl _ _).alloc (Nat.le_refl _) _) | assumption | (refine ⟨?_, ?_, ?_, ?_, ?_⟩ <;> first | assumption | (simp at *; omega)) | exact keep3 (by assumption) (below_drew (Below.refl _ _)) | go_keep)
      (first
        | (go_at_call 86; refine (netLower _ _ _ _).mono ?_; rintro e w' ⟨rfl, hb⟩)
        | (go_at_call 23; refine (netCheckKnot _ _ _).mono ?_; rintro e w' ⟨rfl, hb⟩)
        | (go_at_call 87; refine (netCheckSide _ _).mono ?_; rintro e w' ⟨rfl, rfl⟩)
        | (go_at_call 84; refine (netFirst2 _ _ (knotE x y) (sideE s) 32 _ (by exact heap_alloc_new _ _)).mono ?_; rintro e w' ⟨rfl, rfl⟩))
    go_wp2
    go_ret
    exact ⟨ret_i HB.out, by first | (simp_all; done) | assumption⟩
end Go.Proofs.YtdeplhihcifmeaaGreatDoor

/- Contracts of the order of bars in the program: cmp.Compare, cmp.Or, compareBars, checkOrder. -/
namespace Go.Proofs.YtdeplhihcifmeaaGreatDoor
open Go.RowKit

def cmpE (a b : Int) : Int := if a < b then -1 else if b < a then 1 else 0

set_option maxHeartbeats 400000 in
theorem cmpIsNaN (a : Int) (w : World) :
    Calls Tryz.prog 166 #[.int .i64 a] w fun e w' => e = .returned (.bool false) ∧ w = w' := by
  go_enter Tryz.func166, Tryz.ntmps166
  go_wp2
  go_ret
  simp

set_option maxHeartbeats 400000 in
theorem cmpCompare (a b : Int) (w : World) :
    Calls Tryz.prog 139 #[.int .i64 a, .int .i64 b] w fun e w' => e = .returned (.int .i64 (cmpE a b)) ∧ w = w' := by
  by_cases h1 : a < b
  · have HC := Lib.hid (show cmpE a b = -1 by simp [cmpE, h1])
    go_enter Tryz.func139, Tryz.ntmps139
    go_wp2_with (go_at_call 166; refine (cmpIsNaN _ _).mono ?_; rintro e w' ⟨rfl, rfl⟩)
    go_ret
    exact ⟨ret_i HC.out.symm, rfl⟩
  · by_cases h2 : b < a
    · have HC := Lib.hid (show cmpE a b = 1 by simp [cmpE, h1, h2])
      go_enter Tryz.func139, Tryz.ntmps139
      go_wp2_with (go_at_call 166; refine (cmpIsNaN _ _).mono ?_; rintro e w' ⟨rfl, rfl⟩)
      go_ret
      exact ⟨ret_i HC.out.symm, rfl⟩
    · have HC := Lib.hid (show cmpE a b = 0 by simp [cmpE, h1, h2])
      go_enter Tryz.func139, Tryz.ntmps139
      go_wp2_with (go_at_call 166; refine (cmpIsNaN _ _).mono ?_; rintro e w' ⟨rfl, rfl⟩)
      go_ret
      exact ⟨ret_i HC.out.symm, rfl⟩

set_option maxHeartbeats 400000 in
theorem cmpOr (b c : Nat) (es : List Int) (w : World) (hn : es.length ≤ 100) (hc : ∀ i (h : i < es.length), w.cell? ⟨b, i, none⟩ = some (.int .i64 es[i])) :
    Calls Tryz.prog 138 #[.slice (some ⟨b, 0, none⟩) es.length c] w fun e w' => e = .returned (.int .i64 (firstE es)) ∧ w = w' := by
  have HC := Lib.hid hc
  have hn' : (es.length : Int) ≤ 100 := by omega
  clear hc
  go_enter Tryz.func138, Tryz.ntmps138
  go_wp2_with fail
  go_loop [5, 8] (fun _ i => ∃ k : Nat, k ≤ es.length ∧ i = .int .i64 k ∧ firstE es = firstE (es.drop k)) (fun _ i => es.length - (intOf i).toNat)
  case atStart => exact ⟨0, Nat.zero_le _, rfl, rfl⟩
  case round =>
    obtain ⟨k, hk, rfl, he⟩ := hrel
    have HE := Lib.hid he
    clear he
    by_cases hlt : k < es.length
    · have hcell := HC.out k hlt
      by_cases hz : es[k] = 0
      · have HF := Lib.hid (show firstE (es.drop k) = firstE (es.drop (k + 1)) by
          rw [List.drop_eq_getElem_cons hlt]
          simp only [firstE, hz, if_true])
        rw [hz] at hcell
        clear hz
        go_wp2
        go_round
        case rel => exact ⟨k + 1, by omega, by go_num, HE.out.trans HF.out⟩
        case measure => simp [intOf]; omega
      · have HF := Lib.hid (show firstE (es.drop k) = es[k] by
          rw [List.drop_eq_getElem_cons hlt]
          simp only [firstE, if_neg hz])
        have hz1 : (es[k] != 0) = true := by rw [bne_iff_ne]; exact hz
        clear hz
        go_wp2
        go_ret
        exact ⟨ret_i (HE.out.trans HF.out).symm, rfl⟩
    · obtain rfl : k = es.length := by omega
      have HF := Lib.hid (show firstE (es.drop es.length) = 0 by rw [List.drop_length]; rfl)
      go_wp2
      go_ret
      exact ⟨ret_i (HE.out.trans HF.out).symm, rfl⟩
theorem three_cells {w : World} {g : Nat} {a b c : Int} {t : TypeId} (h : w.heap[g]? = some (.cells #[.int .i64 a, .int .i64 b, .int .i64 c] t (0, 0))) : ∀ i (hi : i < [a, b, c].length), w.cell? ⟨g, i, none⟩ = some (.int .i64 [a, b, c][i]) := by
  intro i hi
  have hi' : i = 0 ∨ i = 1 ∨ i = 2 := by simp at hi; omega
  rcases hi' with rfl | rfl | rfl <;> simp [World.cell?, h]
theorem cmpOr3 (g c : Nat) (x y z : Int) (t : TypeId) (w : World) (h : w.heap[g]? = some (.cells #[.int .i64 x, .int .i64 y, .int .i64 z] t (0, 0))) :
    Calls Tryz.prog 138 #[.slice (some ⟨g, 0, none⟩) 3 c] w fun e w' => e = .returned (.int .i64 (firstE [x, y, z])) ∧ w = w' :=
  cmpOr g c [x, y, z] w (by simp) (three_cells h)
theorem cmpOr2 (g c : Nat) (x y : Int) (t : TypeId) (w : World) (h : w.heap[g]? = some (.cells #[.int .i64 x, .int .i64 y] t (0, 0))) :
    Calls Tryz.prog 138 #[.slice (some ⟨g, 0, none⟩) 2 c] w fun e w' => e = .returned (.int .i64 (firstE [x, y])) ∧ w = w' :=
  cmpOr g c [x, y] w (by simp) (two_cells h)

def cmpB (a b : Ck.Bar) : Int := firstE [cmpE a.y b.y, cmpE a.x b.x, cmpE a.s b.s]
set_option maxHeartbeats 1000000 in
set_option maxRecDepth 100000 in
/-- The world behind compareBars, outright. -/
theorem netCompareBars (x y s x' y' s' : Int) (w : World) :
    Calls Tryz.prog 131 #[.agg #[.int .i64 x, .int .i64 y, .int .i64 s], .agg #[.int .i64 x', .int .i64 y', .int .i64 s']] w fun e w' => e = .returned (.int .i64 (cmpB ⟨x, y, s⟩ ⟨x', y', s'⟩)) ∧
      w' = (((w.alloc (.cells #[.int .i64 x, .int .i64 y, .int .i64 s] 24)).alloc (.cells #[.int .i64 x', .int .i64 y', .int .i64 s'] 24)).alloc (.cells #[.int .i64 (cmpE y y'), .int .i64 (cmpE x x'), .int .i64 (cmpE s s')] 3)).drew := by
  obtain ⟨w1, hw1, c0, c1, c2, d0, d1, d2⟩ := box33 w (.int .i64 x) (.int .i64 y) (.int .i64 s) (.int .i64 x') (.int .i64 y') (.int .i64 s') 24 24
  rw [← hw1]
  have HW := Lib.hid hw1
  clear hw1
  go_enter Tryz.func131, Tryz.ntmps131
  go_wp2_with fail
  rw [← HW.out]
  refine wp_region_still_tail 15 (by kernel_rfl) (by kernel_rfl) ?_
  simp only [List.take_succ_cons, List.take_zero, List.drop_succ_cons, List.drop_zero]
  repeat (first | still_step | still_call (Calls.mono (cmpCompare _ _ _) fun _ _ h => ⟨h.1, h.2.symm⟩))
  refine wpStill_nil ?_
  change wpList _ _ _ _ _ w1.drew
  go_wp2_with fail
  refine (cmpOr3 _ _ (cmpE y y') (cmpE x x') (cmpE s s') 3 _ (by exact heap_alloc_new _ _)).mono ?_
  rintro e w2 ⟨rfl, rfl⟩
  go_wp2
  go_ret
  exact ⟨rfl, rfl⟩
theorem netCompareBars_below (x y s x' y' s' : Int) (w : World) :
    Calls Tryz.prog 131 #[.agg #[.int .i64 x, .int .i64 y, .int .i64 s], .agg #[.int .i64 x', .int .i64 y', .int .i64 s']] w fun e w' => e = .returned (.int .i64 (cmpB ⟨x, y, s⟩ ⟨x', y', s'⟩)) ∧ Below w.heap.size w w' :=
  (netCompareBars x y s x' y' s' w).mono fun _ _ ⟨he, hw⟩ => ⟨he, hw ▸ below_drew ((((Below.refl _ _).alloc (Nat.le_refl _) _).alloc (by simp) _).alloc (by simp; omega) _)⟩
end Go.Proofs.YtdeplhihcifmeaaGreatDoor

/- Contracts of checkOrder and CheckNet of the program. -/
namespace Go.Proofs.YtdeplhihcifmeaaGreatDoor
open Go.RowKit

theorem cmpB_less (p b : Ck.Bar) : decide (0 ≤ cmpB p b) = !lessB p.x p.y p.s b.x b.y b.s := by
  obtain ⟨x, y, s⟩ := p
  obtain ⟨x', y', s'⟩ := b
  rcases Int.lt_trichotomy y y' with h | rfl | h
  · have h2 : ¬ y = y' := by omega
    simp [cmpB, lessB, cmpE, firstE, h, h2]
  · rcases Int.lt_trichotomy x x' with h | rfl | h
    · have h2 : ¬ x = x' := by omega
      simp [cmpB, lessB, cmpE, firstE, h, h2]
    · rcases Int.lt_trichotomy s s' with h | rfl | h
      · simp [cmpB, lessB, cmpE, firstE, h]
      · simp [cmpB, lessB, cmpE, firstE]
      · have h3 : ¬ s < s' := by omega
        simp [cmpB, lessB, cmpE, firstE, h, h3]
    · have h2 : ¬ x = x' := by omega
      have h3 : ¬ x < x' := by omega
      simp [cmpB, lessB, cmpE, firstE, h, h2, h3]
  · have h2 : ¬ y = y' := by omega
    have h3 : ¬ y < y' := by omega
    simp [cmpB, lessB, cmpE, firstE, h, h2, h3]

def orderE (p b : Ck.Bar) : Int := if lessB p.x p.y p.s b.x b.y b.s then 0 else 11

set_option maxHeartbeats 400000 in
theorem netCheckOrder0 (A : Option Addr) (c : Nat) (x y s : Int) (w : World) :
    Calls Tryz.prog 85 #[.slice A 0 c, .agg #[.int .i64 x, .int .i64 y, .int .i64 s]] w fun e w' => e = .returned (.int .i64 0) ∧ Below w.heap.size w w' := by
  have hg1 : decide ((0 : Int) < 0) = false := rfl
  have hg2 : decide ((0 : Nat) < 0) = false := rfl
  go_enter Tryz.func85, Tryz.ntmps85
  go_wp2_with fail
  go_quiet (fail)
  go_wp2
  go_ret
  exact ⟨rfl, below_drewN ((Below.refl _ _).alloc (Nat.le_refl _) _) _⟩

set_option maxHeartbeats 1000000 in
set_option maxRecDepth 100000 in
theorem netCheckOrder1 (b off n c : Nat) (p : Ck.Bar) (x y s : Int) (w : World) (hb : b < w.heap.size) (hn : n < 100000)
    (d0 : w.cell? ⟨b, off + n * 3, none⟩ = some (.int .i64 p.x)) (d1 : w.cell? ⟨b, off + n * 3 + 1, none⟩ = some (.int .i64 p.y)) (d2 : w.cell? ⟨b, off + n * 3 + 2, none⟩ = some (.int .i64 p.s)) :
    Calls Tryz.prog 85 #[.slice (some ⟨b, off, none⟩) (n + 1) c, .agg #[.int .i64 x, .int .i64 y, .int .i64 s]] w fun e w' => e = .returned (.int .i64 (orderE p ⟨x, y, s⟩)) ∧ Below w.heap.size w w' := by
  have hw1 : IntKind.i64.wrap (n : Int) = (n : Int) := by rw [IntKind.wrap_i64]; omega
  have hw2 : n < n + 1 := by omega
  have hg1 : decide (0 < n + 1) = true := by simp
  have hg2 : decide ((0 : Int) < ((n + 1 : Nat) : Int)) = true := by simp
  have hw6 : (n : Int) < (n : Int) + 1 := by omega
  obtain ⟨w1, hw, c0, c1, c2, hb1, hz1⟩ := box3 w (.int .i64 x) (.int .i64 y) (.int .i64 s) 24
  have HW := Lib.hid hw
  replace d0 := (hb1.cell (p := ⟨b, _, none⟩) hb).trans d0
  replace d1 := (hb1.cell (p := ⟨b, _, none⟩) hb).trans d1
  replace d2 := (hb1.cell (p := ⟨b, _, none⟩) hb).trans d2
  clear hw
  have hcb := cmpB_less p ⟨x, y, s⟩
  have HO := Lib.hid (show orderE p ⟨x, y, s⟩ = _ from rfl)
  unfold orderE at HO
  cases hl : lessB p.x p.y p.s x y s
  all_goals
    have HL := Lib.hid hl
    rw [show lessB p.x p.y p.s (Ck.Bar.mk x y s).x (Ck.Bar.mk x y s).y (Ck.Bar.mk x y s).s = _ from hl] at hcb
    clear hl
    go_enter Tryz.func85, Tryz.ntmps85
    go_wp2_with fail
    rw [← HW.out]
    refine wp_region_still_tail 11 (by kernel_rfl) (by kernel_rfl) ?_
    simp only [List.take_succ_cons, List.take_zero, List.drop_succ_cons, List.drop_zero]
    repeat still_step
    refine wpStill_nil ?_
    change wpList _ _ _ _ _ w1.drew
    clear hw1 hw2 hw6
    go_wp2_with fail
    refine (netCompareBars_below _ _ _ _ _ _ _).mono ?_
    rintro e w2 ⟨rfl, hb2⟩
    go_wp2
    go_ret
    exact ⟨ret_i (by unfold orderE; rw [show lessB p.x p.y p.s (Ck.Bar.mk x y s).x (Ck.Bar.mk x y s).y (Ck.Bar.mk x y s).s = _ from HL.out]; rfl), (below_drew hb1).trans (hb2.mono (by show _ ≤ w1.heap.size; omega))⟩
end Go.Proofs.YtdeplhihcifmeaaGreatDoor

/- The contract of CheckNet of the program: it returns the error that the reference returns. -/
namespace Go.Proofs.YtdeplhihcifmeaaGreatDoor
open Go.RowKit

theorem keep6 {W w1 w2 : World} {g b o : Nat} {x y s p q r : Value} (h : w1.cell? ⟨g, 0, none⟩ = some x ∧ w1.cell? ⟨g, 1, none⟩ = some y ∧ w1.cell? ⟨g, 2, none⟩ = some s ∧
      w1.cell? ⟨b, o, none⟩ = some p ∧ w1.cell? ⟨b, o + 1, none⟩ = some q ∧ w1.cell? ⟨b, o + 2, none⟩ = some r ∧ Below g W w1 ∧ b < g ∧ g < w1.heap.size) (hb : Below w1.heap.size w1 w2) :
    w2.cell? ⟨g, 0, none⟩ = some x ∧ w2.cell? ⟨g, 1, none⟩ = some y ∧ w2.cell? ⟨g, 2, none⟩ = some s ∧
      w2.cell? ⟨b, o, none⟩ = some p ∧ w2.cell? ⟨b, o + 1, none⟩ = some q ∧ w2.cell? ⟨b, o + 2, none⟩ = some r ∧ Below g W w2 ∧ b < g ∧ g < w2.heap.size := by
  obtain ⟨h0, h1, h2, k0, k1, k2, h3, h5, h4⟩ := h
  exact ⟨(hb.cell (p := ⟨g, 0, none⟩) h4).trans h0, (hb.cell (p := ⟨g, 1, none⟩) h4).trans h1, (hb.cell (p := ⟨g, 2, none⟩) h4).trans h2,
    (hb.cell (p := ⟨b, _, none⟩) (by show b < _; omega)).trans k0, (hb.cell (p := ⟨b, _, none⟩) (by show b < _; omega)).trans k1, (hb.cell (p := ⟨b, _, none⟩) (by show b < _; omega)).trans k2, h3.trans (hb.mono (by omega)), h5, by have := hb.size; omega⟩

theorem belowOf3 {W w1 : World} {g : Nat} {x y s : Value} (h : w1.cell? ⟨g, 0, none⟩ = some x ∧ w1.cell? ⟨g, 1, none⟩ = some y ∧ w1.cell? ⟨g, 2, none⟩ = some s ∧ Below g W w1 ∧ g < w1.heap.size) : Below g W w1 := h.2.2.2.1
theorem belowOf6 {W w1 : World} {g b o : Nat} {x y s p q r : Value} (h : w1.cell? ⟨g, 0, none⟩ = some x ∧ w1.cell? ⟨g, 1, none⟩ = some y ∧ w1.cell? ⟨g, 2, none⟩ = some s ∧
      w1.cell? ⟨b, o, none⟩ = some p ∧ w1.cell? ⟨b, o + 1, none⟩ = some q ∧ w1.cell? ⟨b, o + 2, none⟩ = some r ∧ Below g W w1 ∧ b < g ∧ g < w1.heap.size) : Below g W w1 := h.2.2.2.2.2.2.1
theorem netCheckOrderS (b off n c : Nat) (p : Ck.Bar) (x y s : Int) {g : Nat} {W : World} {u v z : Value} (w : World) (hn : n < 100000)
    (h : w.cell? ⟨g, 0, none⟩ = some u ∧ w.cell? ⟨g, 1, none⟩ = some v ∧ w.cell? ⟨g, 2, none⟩ = some z ∧
      w.cell? ⟨b, off + n * 3, none⟩ = some (.int .i64 p.x) ∧ w.cell? ⟨b, off + n * 3 + 1, none⟩ = some (.int .i64 p.y) ∧ w.cell? ⟨b, off + n * 3 + 2, none⟩ = some (.int .i64 p.s) ∧ Below g W w ∧ b < g ∧ g < w.heap.size) :
    Calls Tryz.prog 85 #[.slice (some ⟨b, off, none⟩) (n + 1) c, .agg #[.int .i64 x, .int .i64 y, .int .i64 s]] w fun e w' => e = .returned (.int .i64 (orderE p ⟨x, y, s⟩)) ∧ Below w.heap.size w w' :=
  netCheckOrder1 b off n c p x y s w (by omega) hn h.2.2.2.1 h.2.2.2.2.1 h.2.2.2.2.2.1

theorem stepE_bad {e o : Int} (h : ¬ e = 0) : firstE [e, o] = e := by simp [firstE, h]

set_option maxHeartbeats 4000000 in
set_option maxRecDepth 100000 in
theorem netCheckNet (A : Option Addr) (c : Nat) (l : List Ck.Bar) (w : World) (hl : l.length ≤ 4096) (hcap : l.length ≤ c) (hcm : c ≤ maxLen) (h : RB w w.heap.size A l) :
    Calls Tryz.prog 20 #[.slice A l.length c] w fun e w' => e = .returned (.int .i64 (netE l)) ∧ Below w.heap.size w w' := by
  have HE := Lib.hid (show netE l = netFrom (prevAt l 0) (l.drop 0) by simp [netE, prevAt]; omega)
  have hl' : (l.length : Int) ≤ 4096 := by omega
  unfold maxLen at hcm
  go_enter Tryz.func20, Tryz.ntmps20
  go_wp2_with fail
  go_loopw [3, 4, 5, 11] (fun _ _ _ i wr => ∃ k : Nat, k ≤ l.length ∧ i = .int .i64 k ∧ netE l = netFrom (prevAt l k) (l.drop k) ∧ Below w.heap.size w wr) (fun _ _ _ i _ => l.length - (intOf i).toNat)
  case atStart => exact ⟨0, Nat.zero_le _, rfl, HE.out, Below.refl _ _⟩
  case round =>
    obtain ⟨k, hk, rfl, he, hb⟩ := hrel
    have HE2 := Lib.hid he
    clear he
    by_cases hlt : k < l.length
    · have h' := h.below hb
      obtain ⟨b, off, rfl, hB, hc⟩ := h' (by omega)
      have HC := Lib.hid hc
      obtain ⟨c0, c1, c2⟩ := hc k hlt
      have hz := hb.size
      have hz1 : b < wr.heap.size := by omega
      have hki : (k : Int) ≤ (c : Int) := by omega
      have hk0 : (0 : Int) ≤ (k : Int) := by omega
      clear hc h' h
      go_wp2_with fail
      obtain ⟨w1, hw1, e0, e1, e2, hb1, hz2⟩ := box3 wr (.int .i64 l[k].x) (.int .i64 l[k].y) (.int .i64 l[k].s) 24
      rw [← hw1]
      clear hw1 c0 c1 c2
      by_cases hk1 : k = 0
      · subst hk1
        by_cases hbad : barE l[0].x l[0].y l[0].s = 0
        · have HF := Lib.hid (netFrom_step0 hlt hbad)
          have HV := Lib.hid (show firstE [barE l[0].x l[0].y l[0].s, 0] = 0 by simp [firstE, hbad])
          clear hbad
          go_region_held3 (fun w' => w'.cell? ⟨wr.heap.size, 0, none⟩ = some (.int .i64 l[0].x) ∧ w'.cell? ⟨wr.heap.size, 1, none⟩ = some (.int .i64 l[0].y) ∧ w'.cell? ⟨wr.heap.size, 2, none⟩ = some (.int .i64 l[0].s) ∧ Below wr.heap.size wr w' ∧ wr.heap.size < w'.heap.size)
            (first | exact ⟨e0, e1, e2, below_drew hb1, hz2⟩ | exact keep3 (by assumption) (by assumption) | exact keep3 (by assumption) ((Below.refl _ _).alloc (Nat.le_refl _) _) | assumption | (refine ⟨?_, ?_, ?_, ?_, ?_⟩ <;> first | assumption | (simp at *; omega)) | go_keep)
            (first
              | (go_at_call 22; refine (netCheckBar _ _ _ _).mono ?_; rintro e w' ⟨rfl, hbq⟩)
              | (go_at_call 85; refine (netCheckOrder0 _ _ _ _ _ _).mono ?_; rintro e w' ⟨rfl, hbq⟩)
              | (go_at_call 84; refine (netFirst2 _ _ (barE l[0].x l[0].y l[0].s) 0 32 _ (by exact heap_alloc_new _ _)).mono ?_; rintro e w' ⟨rfl, rfl⟩))
          rw [HV.out]
          go_wp2
          go_roundw
          case rel => exact ⟨1, by omega, by go_num, HE2.out.trans HF.out, hb.trans (Below.mono (B := wr.heap.size) (belowOf3 (by assumption)) hz)⟩
          case measure => simp [intOf]; omega
        · have HF := Lib.hid (netFrom_bad hlt hbad)
          have HV := Lib.hid (stepE_bad (o := 0) hbad)
          have hbb : (barE l[0].x l[0].y l[0].s != 0) = true := by rw [bne_iff_ne]; exact hbad
          clear hbad
          go_region_held3 (fun w' => w'.cell? ⟨wr.heap.size, 0, none⟩ = some (.int .i64 l[0].x) ∧ w'.cell? ⟨wr.heap.size, 1, none⟩ = some (.int .i64 l[0].y) ∧ w'.cell? ⟨wr.heap.size, 2, none⟩ = some (.int .i64 l[0].s) ∧ Below wr.heap.size wr w' ∧ wr.heap.size < w'.heap.size)
            (first | exact ⟨e0, e1, e2, below_drew hb1, hz2⟩ | exact keep3 (by assumption) (by assumption) | exact keep3 (by assumption) ((Below.refl _ _).alloc (Nat.le_refl _) _) | assumption | (refine ⟨?_, ?_, ?_, ?_, ?_⟩ <;> first | assumption | (simp at *; omega)) | go_keep)
            (first
              | (go_at_call 22; refine (netCheckBar _ _ _ _).mono ?_; rintro e w' ⟨rfl, hbq⟩)
              | (go_at_call 85; refine (netCheckOrder0 _ _ _ _ _ _).mono ?_; rintro e w' ⟨rfl, hbq⟩)
              | (go_at_call 84; refine (netFirst2 _ _ (barE l[0].x l[0].y l[0].s) 0 32 _ (by exact heap_alloc_new _ _)).mono ?_; rintro e w' ⟨rfl, rfl⟩))
          rw [HV.out]
          go_wp2
          go_ret
          exact ⟨ret_i (HE2.out.trans HF.out).symm, hb.trans (Below.mono (B := wr.heap.size) (belowOf3 (by assumption)) hz)⟩
      · obtain ⟨j, rfl⟩ : ∃ j, k = j + 1 := ⟨k - 1, by omega⟩
        obtain ⟨d0, d1, d2⟩ := HC.out j (by omega)
        have hw2 : j < l.length := by omega
        have hji : (j : Int) + 1 ≤ (c : Int) := by omega
        have hj0 : (0 : Int) ≤ (j : Int) + 1 := by omega
        have hjn : ((j : Int) + 1).toNat = j + 1 := by omega
        replace d0 := (hb1.cell (p := ⟨b, _, none⟩) hz1).trans d0
        replace d1 := (hb1.cell (p := ⟨b, _, none⟩) hz1).trans d1
        replace d2 := (hb1.cell (p := ⟨b, _, none⟩) hz1).trans d2
        by_cases hbad : barE l[j + 1].x l[j + 1].y l[j + 1].s = 0
        · cases hl2 : lessB l[j].x l[j].y l[j].s l[j + 1].x l[j + 1].y l[j + 1].s
          · have HF := Lib.hid (netFrom_stop hlt hbad hl2)
            have HV := Lib.hid (show firstE [barE l[j + 1].x l[j + 1].y l[j + 1].s, orderE l[j] l[j + 1]] = 11 by simp [firstE, hbad, orderE, hl2])
            clear hbad hl2
            go_region_held3 (fun w' => w'.cell? ⟨wr.heap.size, 0, none⟩ = some (.int .i64 l[j + 1].x) ∧ w'.cell? ⟨wr.heap.size, 1, none⟩ = some (.int .i64 l[j + 1].y) ∧ w'.cell? ⟨wr.heap.size, 2, none⟩ = some (.int .i64 l[j + 1].s) ∧ w'.cell? ⟨b, off + j * 3, none⟩ = some (.int .i64 l[j].x) ∧ w'.cell? ⟨b, off + j * 3 + 1, none⟩ = some (.int .i64 l[j].y) ∧ w'.cell? ⟨b, off + j * 3 + 2, none⟩ = some (.int .i64 l[j].s) ∧ Below wr.heap.size wr w' ∧ b < wr.heap.size ∧ wr.heap.size < w'.heap.size)
              (first | exact ⟨e0, e1, e2, d0, d1, d2, below_drew hb1, hz1, hz2⟩ | exact keep6 (by assumption) (by assumption) | exact keep6 (by assumption) ((Below.refl _ _).alloc (Nat.le_refl _) _) | assumption | (refine ⟨?_, ?_, ?_, ?_, ?_, ?_, ?_, ?_, ?_⟩ <;> first | assumption | (simp at *; omega)) | go_keep)
              (first
                | (go_at_call 22; refine (netCheckBar _ _ _ _).mono ?_; rintro e w' ⟨rfl, hbq⟩)
                | (go_at_call 85; refine (netCheckOrderS _ _ _ _ l[j] _ _ _ _ (by omega) (by assumption)).mono ?_; rintro e w' ⟨rfl, hbq⟩)
                | (go_at_call 84; refine (netFirst2 _ _ (barE l[j + 1].x l[j + 1].y l[j + 1].s) (orderE l[j] l[j + 1]) 32 _ (by exact heap_alloc_new _ _)).mono ?_; rintro e w' ⟨rfl, rfl⟩))
            rw [HV.out]
            go_wp2
            go_ret
            exact ⟨ret_i (HE2.out.trans HF.out).symm, hb.trans (Below.mono (B := wr.heap.size) (belowOf6 (by assumption)) hz)⟩
          · have HF := Lib.hid (netFrom_step hlt hbad hl2)
            have HV := Lib.hid (show firstE [barE l[j + 1].x l[j + 1].y l[j + 1].s, orderE l[j] l[j + 1]] = 0 by simp [firstE, hbad, orderE, hl2])
            clear hbad hl2
            go_region_held3 (fun w' => w'.cell? ⟨wr.heap.size, 0, none⟩ = some (.int .i64 l[j + 1].x) ∧ w'.cell? ⟨wr.heap.size, 1, none⟩ = some (.int .i64 l[j + 1].y) ∧ w'.cell? ⟨wr.heap.size, 2, none⟩ = some (.int .i64 l[j + 1].s) ∧ w'.cell? ⟨b, off + j * 3, none⟩ = some (.int .i64 l[j].x) ∧ w'.cell? ⟨b, off + j * 3 + 1, none⟩ = some (.int .i64 l[j].y) ∧ w'.cell? ⟨b, off + j * 3 + 2, none⟩ = some (.int .i64 l[j].s) ∧ Below wr.heap.size wr w' ∧ b < wr.heap.size ∧ wr.heap.size < w'.heap.size)
              (first | exact ⟨e0, e1, e2, d0, d1, d2, below_drew hb1, hz1, hz2⟩ | exact keep6 (by assumption) (by assumption) | exact keep6 (by assumption) ((Below.refl _ _).alloc (Nat.le_refl _) _) | assumption | (refine ⟨?_, ?_, ?_, ?_, ?_, ?_, ?_, ?_, ?_⟩ <;> first | assumption | (simp at *; omega)) | go_keep)
              (first
                | (go_at_call 22; refine (netCheckBar _ _ _ _).mono ?_; rintro e w' ⟨rfl, hbq⟩)
                | (go_at_call 85; refine (netCheckOrderS _ _ _ _ l[j] _ _ _ _ (by omega) (by assumption)).mono ?_; rintro e w' ⟨rfl, hbq⟩)
                | (go_at_call 84; refine (netFirst2 _ _ (barE l[j + 1].x l[j + 1].y l[j + 1].s) (orderE l[j] l[j + 1]) 32 _ (by exact heap_alloc_new _ _)).mono ?_; rintro e w' ⟨rfl, rfl⟩))
            rw [HV.out]
            go_wp2
            go_roundw
            case rel => exact ⟨j + 1 + 1, by omega, by go_num, HE2.out.trans HF.out, hb.trans (Below.mono (B := wr.heap.size) (belowOf6 (by assumption)) hz)⟩
            case measure => simp [intOf]; omega
        · have HF := Lib.hid (netFrom_bad hlt hbad)
          have HV := Lib.hid (stepE_bad (o := orderE l[j] l[j + 1]) hbad)
          have hbb : (barE l[j + 1].x l[j + 1].y l[j + 1].s != 0) = true := by rw [bne_iff_ne]; exact hbad
          clear hbad
          go_region_held3 (fun w' => w'.cell? ⟨wr.heap.size, 0, none⟩ = some (.int .i64 l[j + 1].x) ∧ w'.cell? ⟨wr.heap.size, 1, none⟩ = some (.int .i64 l[j + 1].y) ∧ w'.cell? ⟨wr.heap.size, 2, none⟩ = some (.int .i64 l[j + 1].s) ∧ w'.cell? ⟨b, off + j * 3, none⟩ = some (.int .i64 l[j].x) ∧ w'.cell? ⟨b, off + j * 3 + 1, none⟩ = some (.int .i64 l[j].y) ∧ w'.cell? ⟨b, off + j * 3 + 2, none⟩ = some (.int .i64 l[j].s) ∧ Below wr.heap.size wr w' ∧ b < wr.heap.size ∧ wr.heap.size < w'.heap.size)
            (first | exact ⟨e0, e1, e2, d0, d1, d2, below_drew hb1, hz1, hz2⟩ | exact keep6 (by assumption) (by assumption) | exact keep6 (by assumption) ((Below.refl _ _).alloc (Nat.le_refl _) _) | assumption | (refine ⟨?_, ?_, ?_, ?_, ?_, ?_, ?_, ?_, ?_⟩ <;> first | assumption | (simp at *; omega)) | go_keep)
            (first
              | (go_at_call 22; refine (netCheckBar _ _ _ _).mono ?_; rintro e w' ⟨rfl, hbq⟩)
              | (go_at_call 85; refine (netCheckOrderS _ _ _ _ l[j] _ _ _ _ (by omega) (by assumption)).mono ?_; rintro e w' ⟨rfl, hbq⟩)
              | (go_at_call 84; refine (netFirst2 _ _ (barE l[j + 1].x l[j + 1].y l[j + 1].s) (orderE l[j] l[j + 1]) 32 _ (by exact heap_alloc_new _ _)).mono ?_; rintro e w' ⟨rfl, rfl⟩))
          rw [HV.out]
          go_wp2
          go_ret
          exact ⟨ret_i (HE2.out.trans HF.out).symm, hb.trans (Below.mono (B := wr.heap.size) (belowOf6 (by assumption)) hz)⟩
    · obtain rfl : k = l.length := by omega
      have HF := Lib.hid (netFrom_end l)
      go_wp2
      go_ret
      exact ⟨ret_i (HE2.out.trans HF.out).symm, hb⟩
end Go.Proofs.YtdeplhihcifmeaaGreatDoor

/- Contracts of slices.BinarySearchFunc over bars in their order, and of hasBar. -/
namespace Go.Proofs.YtdeplhihcifmeaaGreatDoor
open Go.RowKit

theorem cmpB_neg (p b : Ck.Bar) : decide (cmpB p b < 0) = lessB p.x p.y p.s b.x b.y b.s := by
  have h := cmpB_less p b
  cases hl : lessB p.x p.y p.s b.x b.y b.s
  · rw [hl] at h; simp at h ⊢; omega
  · rw [hl] at h; simp at h ⊢; omega
theorem lessB_iff (p b : Ck.Bar) : lessB p.x p.y p.s b.x b.y b.s = true ↔ Ck.Blt p b := by
  unfold lessB Ck.Blt
  split
  · split <;> simp <;> omega
  · simp; omega
theorem cmpE_zero (a b : Int) : cmpE a b = 0 ↔ a = b := by
  unfold cmpE
  split
  · omega
  · split <;> omega
theorem firstE_zero : ∀ es : List Int, firstE es = 0 ↔ ∀ e ∈ es, e = 0
  | [] => by simp [firstE]
  | e :: r => by
    unfold firstE
    split
    · rename_i h; simp [h, firstE_zero r]
    · rename_i h; simp [h]
theorem cmpB_zero (p b : Ck.Bar) : cmpB p b = 0 ↔ p = b := by
  rw [cmpB, firstE_zero]
  simp only [List.mem_cons, List.not_mem_nil, or_false, forall_eq_or_imp, forall_eq, cmpE_zero]
  constructor
  · rintro ⟨h1, h2, h3⟩; exact Ck.Bar.ext' h2 h1 h3
  · rintro rfl; exact ⟨rfl, rfl, rfl⟩
theorem cmpB_mono {l : List Ck.Bar} (hs : l.Pairwise Ck.Blt) {t : Ck.Bar} {i j : Nat} (hi : i < l.length) (hj : j < l.length) (hij : i ≤ j) (h : cmpB l[j] t < 0) : cmpB l[i] t < 0 := by
  rcases Nat.lt_or_ge i j with hlt | hge
  · have h1 := (List.pairwise_iff_getElem.1 hs) i j hi hj hlt
    have h2 : lessB l[j].x l[j].y l[j].s t.x t.y t.s = true := by rw [← cmpB_neg]; simpa using h
    have h3 := (lessB_iff _ _).2 (h1.trans ((lessB_iff _ _).1 h2))
    rw [← cmpB_neg] at h3
    simpa using h3
  · obtain rfl : i = j := by omega
    exact h
theorem found_mem {l : List Ck.Bar} {t : Ck.Bar} {p : Nat} (h1 : ∀ k (hk : k < l.length), k < p → cmpB l[k] t < 0) (h2 : ∀ k (hk : k < l.length), p ≤ k → 0 ≤ cmpB l[k] t) (hs : l.Pairwise Ck.Blt) (hp : p < l.length) : decide (t ∈ l) = decide (cmpB l[p] t = 0) := by
  rw [decide_eq_decide]
  constructor
  · intro hm
    obtain ⟨k, hk, rfl⟩ := List.getElem_of_mem hm
    have hk0 : cmpB l[k] l[k] = 0 := (cmpB_zero _ _).2 rfl
    rcases Nat.lt_trichotomy k p with hlt | rfl | hgt
    · have := h1 k hk hlt; omega
    · exact hk0
    · have h3 := (List.pairwise_iff_getElem.1 hs) p k hp hk hgt
      have h4 := (lessB_iff _ _).2 h3
      rw [← cmpB_neg] at h4
      have := h2 p hp (Nat.le_refl _)
      simp at h4
      omega
  · intro h
    rw [← (cmpB_zero _ _).1 h]
    exact List.getElem_mem hp
theorem end_mem {l : List Ck.Bar} {t : Ck.Bar} (h1 : ∀ k (hk : k < l.length), k < l.length → cmpB l[k] t < 0) : decide (t ∈ l) = false := by
  rw [decide_eq_false_iff_not]
  intro hm
  obtain ⟨k, hk, rfl⟩ := List.getElem_of_mem hm
  have := h1 k hk hk
  have hk0 : cmpB l[k] l[k] = 0 := (cmpB_zero _ _).2 rfl
  omega

def BSPost (t : Ck.Bar) (l : List Ck.Bar) (w : World) (e : Ending) (w' : World) : Prop := ∃ i : Nat, e = .returned (.tuple #[.int .i64 i, .bool (decide (t ∈ l))]) ∧ Below w.heap.size w w'
set_option maxHeartbeats 2000000 in
set_option maxRecDepth 100000 in
theorem binSearch (A : Option Addr) (c : Nat) (l : List Ck.Bar) (t : Ck.Bar) (w : World) (hl : l.length ≤ 4096) (hs : l.Pairwise Ck.Blt) (h : RB w w.heap.size A l) :
    Calls Tryz.prog 132 #[.slice A l.length c, .agg #[.int .i64 t.x, .int .i64 t.y, .int .i64 t.s], .func (.func 131) #[] #[]] w (BSPost t l w) := by
  have hl' : (l.length : Int) ≤ 4096 := by omega
  have HS := Lib.hid hs
  clear hs
  go_enter Tryz.func132, Tryz.ntmps132
  go_wp2_with fail
  go_loopw [9, 10, 11] (fun i j _ wr => ∃ p q : Nat, p ≤ q ∧ q ≤ l.length ∧ i = .int .i64 p ∧ j = .int .i64 q ∧ Hid (∀ k (hk : k < l.length), k < p → cmpB l[k] t < 0) ∧ Hid (∀ k (hk : k < l.length), q ≤ k → 0 ≤ cmpB l[k] t) ∧ wr.cell? ⟨w.heap.size, 0, none⟩ = some (.int .i64 t.x) ∧ wr.cell? ⟨w.heap.size, 1, none⟩ = some (.int .i64 t.y) ∧ wr.cell? ⟨w.heap.size, 2, none⟩ = some (.int .i64 t.s) ∧ w.heap.size < wr.heap.size ∧ Below w.heap.size w wr) (fun i j _ _ => (intOf j).toNat - (intOf i).toNat)
  case atStart =>
    obtain ⟨w1, hw1, e0, e1, e2, hb1, hz1⟩ := box3 w (.int .i64 t.x) (.int .i64 t.y) (.int .i64 t.s) 24
    rw [← hw1]
    exact ⟨0, l.length, Nat.zero_le _, Nat.le_refl _, rfl, rfl, fun k _ h => by omega, fun k hk h => by omega, e0, e1, e2, hz1, hb1⟩
  case round =>
    obtain ⟨p, q, hpq, hq, rfl, rfl, h1, h2, d0, d1, d2, hz, hb⟩ := hrel
    by_cases hlt : p < q
    · have h' := h.below hb
      obtain ⟨b, off, rfl, hB, hc⟩ := h' (by omega)
      have HC := Lib.hid hc
      clear hc h' h
      go_wp2_with fail
      obtain ⟨m, hm⟩ : ∃ m : Nat, ((p : Int) + (q : Int)) / 2 = m := ⟨(p + q) / 2, by omega⟩
      have hpm : p ≤ m := by omega
      have hmq : m < q := by omega
      rw [hm]
      clear hm
      have hml : m < l.length := by omega
      obtain ⟨c0, c1, c2⟩ := HC.out m hml
      have hw1 : IntKind.i64.wrap (m : Int) = (m : Int) := by rw [IntKind.wrap_i64]; omega
      have hm0 : 0 ≤ (m : Int) := by omega
      refine wp_region_still_tail 6 (by kernel_rfl) (by kernel_rfl) ?_
      simp only [List.take_succ_cons, List.take_zero, List.drop_succ_cons, List.drop_zero]
      repeat still_step
      refine wpStill_nil ?_
      change wpList _ _ _ _ _ wr.drew
      clear hw1 hm0
      go_wp2_with fail
      refine (netCompareBars_below _ _ _ _ _ _ _).mono ?_
      rintro e w2 ⟨rfl, hb2⟩
      have hbw : Below w.heap.size w w2 := (below_drew hb).trans (hb2.mono (by show w.heap.size ≤ wr.heap.size; omega))
      obtain ⟨f0, f1, f2, _, hz2⟩ := keep3 (W := w) ⟨d0, d1, d2, hb, hz⟩ (show Below wr.heap.size wr w2 from ⟨hb2.os, hb2.tape, hb2.output, hb2.size, hb2.block⟩)
      clear c0 c1 c2 d0 d1 d2
      by_cases hneg : cmpB l[m] t < 0
      · have hneg2 : decide (cmpB ⟨l[m].x, l[m].y, l[m].s⟩ ⟨t.x, t.y, t.s⟩ < 0) = true := by simpa using hneg
        have HN := Lib.hid hneg
        clear hneg
        go_wp2
        go_roundw
        case rel => exact ⟨m + 1, q, by omega, hq, by go_num, rfl, fun k hk hkm => cmpB_mono HS.out hk hml (by omega) HN.out, h2, f0, f1, f2, hz2, hbw⟩
        case measure => simp [intOf]; omega
      · have hneg2 : decide (cmpB ⟨l[m].x, l[m].y, l[m].s⟩ ⟨t.x, t.y, t.s⟩ < 0) = false := by simpa using hneg
        replace hneg : 0 ≤ cmpB l[m] t := by omega
        have HN := Lib.hid hneg
        clear hneg
        go_wp2
        go_roundw
        case rel => exact ⟨p, m, by omega, by omega, rfl, rfl, h1, fun k hk hkm => by
          rcases Int.lt_or_le (cmpB l[k] t) 0 with hc | hc
          · have := cmpB_mono HS.out hml hk hkm hc
            have := HN.out
            omega
          · exact hc, f0, f1, f2, hz2, hbw⟩
        case measure => simp [intOf]; omega
    · obtain rfl : p = q := by omega
      by_cases hp : p < l.length
      · have h' := h.below hb
        obtain ⟨b, off, rfl, hB, hc⟩ := h' (by omega)
        obtain ⟨c0, c1, c2⟩ := hc p hp
        have HF := Lib.hid (found_mem h1.out h2.out HS.out hp)
        clear hc h' h
        have hg1 : decide (p < l.length) = true := by simpa using hp
        have hw1 : IntKind.i64.wrap (p : Int) = (p : Int) := by rw [IntKind.wrap_i64]; omega
        have hm0 : 0 ≤ (p : Int) := by omega
        go_wp2_with fail
        go_region_held3 (fun w' => w'.cell? ⟨w.heap.size, 0, none⟩ = some (.int .i64 t.x) ∧ w'.cell? ⟨w.heap.size, 1, none⟩ = some (.int .i64 t.y) ∧ w'.cell? ⟨w.heap.size, 2, none⟩ = some (.int .i64 t.s) ∧
            w'.cell? ⟨b, off + p * 3, none⟩ = some (.int .i64 l[p].x) ∧ w'.cell? ⟨b, off + p * 3 + 1, none⟩ = some (.int .i64 l[p].y) ∧ w'.cell? ⟨b, off + p * 3 + 2, none⟩ = some (.int .i64 l[p].s) ∧ Below w.heap.size w w' ∧ b < w.heap.size ∧ w.heap.size < w'.heap.size)
          (first | exact ⟨d0, d1, d2, c0, c1, c2, below_drew hb, hB, hz⟩ | exact keep6 (by assumption) (by assumption) | assumption | go_keep)
          (first
            | (go_at_call 131; refine (netCompareBars_below _ _ _ _ _ _ _).mono ?_; rintro e w' ⟨rfl, hbq⟩))
        all_goals go_wp2
        all_goals go_ret2
        all_goals exact ⟨p, by rw [HF.out]; rfl, belowOf6 (by assumption)⟩
      · obtain rfl : p = l.length := by omega
        have HF := Lib.hid (end_mem h1.out)
        have hg1 : decide (l.length < l.length) = false := by simp
        go_wp2_with fail
        go_quiet (fail)
        go_wp2
        go_ret2
        exact ⟨l.length, by rw [HF.out]; rfl, below_drewN hb _⟩
end Go.Proofs.YtdeplhihcifmeaaGreatDoor

/- Contracts of hasBar, meshBars, hasMesh. -/
namespace Go.Proofs.YtdeplhihcifmeaaGreatDoor
open Go.RowKit

set_option maxHeartbeats 1000000 in
set_option maxRecDepth 100000 in
theorem netHasBar (A : Option Addr) (c : Nat) (l : List Ck.Bar) (x y s : Int) (w : World) (hl : l.length ≤ 4096) (hs : l.Pairwise Ck.Blt) (h : RB w w.heap.size A l) :
    Calls Tryz.prog 92 #[.slice A l.length c, .agg #[.int .i64 x, .int .i64 y, .int .i64 s]] w fun e w' => e = .returned (.bool (decide ((⟨x, y, s⟩ : Ck.Bar) ∈ l))) ∧ Below w.heap.size w w' := by
  have HS := Lib.hid hs
  clear hs
  have ex0 : ∀ (a b : Value) (w : World), (Instr.extract (.tuple #[a, b]) 0).run Tryz.prog w = .ok a w := fun _ _ _ => by kernel_rfl
  have ex1 : ∀ (a b : Value) (w : World), (Instr.extract (.tuple #[a, b]) 1).run Tryz.prog w = .ok b w := fun _ _ _ => by kernel_rfl
  go_enter Tryz.func92, Tryz.ntmps92
  go_wp2_with fail
  refine (binSearch A c l ⟨x, y, s⟩ _ hl HS.out ((h.below ((Below.refl _ _).alloc (Nat.le_refl _) _)).more (by simp))).mono ?_
  rintro e w1 ⟨i, rfl, hb1⟩
  generalize hr : decide ((⟨x, y, s⟩ : Ck.Bar) ∈ l) = r
  have HR := Lib.hid hr
  clear hr
  go_wp2
  go_ret
  exact ⟨by rw [HR.out]; rfl, ((Below.refl _ _).alloc (Nat.le_refl _) _).trans (hb1.mono (by simp))⟩

def meshBars4 (x y : Int) : List Ck.Bar := [⟨x, y - 1, -1⟩, ⟨x, y - 1, 1⟩, ⟨x - 1, y, 1⟩, ⟨x + 1, y, -1⟩]
set_option maxHeartbeats 1000000 in
set_option maxRecDepth 100000 in
theorem netMeshBars (x y : Int) (w : World) (hx1 : -100000 ≤ x) (hx2 : x ≤ 100000) (hy1 : -100001 ≤ y) (hy2 : y ≤ 100001) :
    Calls Tryz.prog 167 #[.agg #[.int .i64 x, .int .i64 y]] w fun e w' => e = .returned (.agg #[.int .i64 x, .int .i64 (y - 1), .int .i64 (-1), .int .i64 x, .int .i64 (y - 1), .int .i64 1, .int .i64 (x - 1), .int .i64 y, .int .i64 1, .int .i64 (x + 1), .int .i64 y, .int .i64 (-1)]) ∧ Below w.heap.size w w' := by
  go_enter Tryz.func167, Tryz.ntmps167
  go_wp2
  exact bodyPost_ret (v := .agg #[.int .i64 x, .int .i64 (y - 1), .int .i64 (-1), .int .i64 x, .int .i64 (y - 1), .int .i64 1, .int .i64 (x - 1), .int .i64 y, .int .i64 1, .int .i64 (x + 1), .int .i64 y, .int .i64 (-1)]) (by simp [results, Tryz.results167, go_sem]) rfl ⟨rfl, (((Below.refl _ _).alloc (Nat.le_refl _) _).alloc (by simp) _)⟩
end Go.Proofs.YtdeplhihcifmeaaGreatDoor
