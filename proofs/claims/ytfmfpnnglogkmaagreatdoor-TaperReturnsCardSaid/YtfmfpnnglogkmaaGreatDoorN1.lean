/- Helpers: N1. -/
import Derived.Test.YtfmfpnnglogkmaaGreatDoorRows
import Derived.Shelf.Strings.Repeat
import Derived.WalkKit
import Derived.WalkSpells
import Derived.WalkLawsBesides
import Derived.Lib.Hide
import Derived.IntWalk
import Derived.Deep.RegionWith
import Derived.Deep.QuietTactic
import Derived.Deep.DeepCutAuto
import Derived.BigQuiet
import Derived.StillTailTactics
import Derived.Deep.RegionHeld3
import Derived.Lib.OthersKept
import Derived.Lib.Strings
import Derived.MapKept
import Derived.Laws.StructEq
import Derived.ChangeMaps5
import Derived.WideKeyEntry
import Derived.Carry
import Derived.Laws.BitsAllLaws
/- strings.Repeat of the library laid at this program. -/
namespace Go.Proofs.YtfmfpnnglogkmaaGreatDoor
open Go.Shelf
def Tryz.rep_ren : Go.Shelf.Ren := ⟨fun | 105 => 112 | 212 => 121 | 99 => 122 | 165 => 123 | 166 => 78 | 170 => 124 | 169 => 81 | 263 => 134 | 264 => 135 | 206 => 136 | 240 => 107 | 241 => 137 | 276 => 118 | 277 => 144 | n => n, fun | 9 => 9 | 3 => 3 | 4 => 4 | 20 => 20 | 0 => 0 | 46 => 159 | 109 => 160 | 5 => 5 | 72 => 122 | 76 => 126 | 51 => 158 | 146 => 172 | 53 => 167 | 148 => 174 | 70 => 119 | 37 => 120 | 75 => 125 | 127 => 151 | 164 => 155 | 80 => 130 | n => n, fun | n => n⟩
theorem Tryz.rep : Go.Proofs.Lays.n105 Tryz.prog Tryz.rep_ren := {
  mixed := by kernel_rfl,
  f99 := Tryz.func122.trans (congrArg some (by kernel_rfl)),
  f105 := Tryz.func112.trans (congrArg some (by kernel_rfl)),
  f165 := Tryz.func123.trans (congrArg some (by kernel_rfl)),
  f166 := Tryz.func78.trans (congrArg some (by kernel_rfl)),
  f169 := Tryz.func81.trans (congrArg some (by kernel_rfl)),
  f170 := Tryz.func124.trans (congrArg some (by kernel_rfl)),
  f206 := Tryz.func136.trans (congrArg some (by kernel_rfl)),
  f212 := Tryz.func121.trans (congrArg some (by kernel_rfl)),
  f240 := Tryz.func107.trans (congrArg some (by kernel_rfl)),
  f241 := Tryz.func137.trans (congrArg some (by kernel_rfl)),
  f263 := Tryz.func134.trans (congrArg some (by kernel_rfl)),
  f264 := Tryz.func135.trans (congrArg some (by kernel_rfl)),
  f276 := Tryz.func118.trans (congrArg some (by kernel_rfl)),
  f277 := Tryz.func144.trans (congrArg some (by kernel_rfl)),
  t0 := Tryz.underlying0,
  a0 := Tryz.isAgg0,
  z0 := Tryz.sizeOf0,
  v0 := Tryz.zeroValue0,
  t3 := Tryz.underlying3,
  a3 := Tryz.isAgg3,
  z3 := Tryz.sizeOf3,
  v3 := Tryz.zeroValue3,
  t4 := Tryz.underlying4,
  a4 := Tryz.isAgg4,
  z4 := Tryz.sizeOf4,
  v4 := Tryz.zeroValue4,
  t5 := Tryz.underlying5,
  a5 := Tryz.isAgg5,
  z5 := Tryz.sizeOf5,
  v5 := Tryz.zeroValue5,
  t9 := Tryz.underlying9,
  a9 := Tryz.isAgg9,
  z9 := Tryz.sizeOf9,
  v9 := Tryz.zeroValue9,
  t20 := Tryz.underlying20,
  a20 := Tryz.isAgg20,
  z20 := Tryz.sizeOf20,
  v20 := Tryz.zeroValue20,
  t37 := Tryz.underlying120,
  a37 := Tryz.isAgg120,
  z37 := Tryz.sizeOf120,
  v37 := Tryz.zeroValue120,
  t46 := Tryz.underlying159,
  a46 := Tryz.isAgg159,
  z46 := Tryz.sizeOf159,
  v46 := Tryz.zeroValue159,
  t51 := Tryz.underlying158,
  a51 := Tryz.isAgg158,
  z51 := Tryz.sizeOf158,
  v51 := Tryz.zeroValue158,
  t53 := Tryz.underlying167,
  a53 := Tryz.isAgg167,
  z53 := Tryz.sizeOf167,
  v53 := Tryz.zeroValue167,
  t70 := Tryz.underlying119,
  a70 := Tryz.isAgg119,
  z70 := Tryz.sizeOf119,
  v70 := Tryz.zeroValue119,
  t72 := Tryz.underlying122,
  a72 := Tryz.isAgg122,
  z72 := Tryz.sizeOf122,
  v72 := Tryz.zeroValue122,
  t75 := Tryz.underlying125,
  a75 := Tryz.isAgg125,
  z75 := Tryz.sizeOf125,
  v75 := Tryz.zeroValue125,
  t76 := Tryz.underlying126,
  a76 := Tryz.isAgg126,
  z76 := Tryz.sizeOf126,
  v76 := Tryz.zeroValue126,
  t109 := Tryz.underlying160,
  a109 := Tryz.isAgg160,
  z109 := Tryz.sizeOf160,
  v109 := Tryz.zeroValue160,
  t127 := Tryz.underlying151,
  a127 := Tryz.isAgg151,
  z127 := Tryz.sizeOf151,
  v127 := Tryz.zeroValue151,
  t146 := Tryz.underlying172,
  a146 := Tryz.isAgg172,
  z146 := Tryz.sizeOf172,
  v146 := Tryz.zeroValue172,
  t148 := Tryz.underlying174,
  a148 := Tryz.isAgg174,
  z148 := Tryz.sizeOf174,
  v148 := Tryz.zeroValue174,
  t164 := Tryz.underlying155,
  a164 := Tryz.isAgg155,
  z164 := Tryz.sizeOf155,
  v164 := Tryz.zeroValue155 }
end Go.Proofs.YtfmfpnnglogkmaaGreatDoor

/- Plain mathematics of nets: bars, knots, meshes and connected parts of lists of bars; how their numbers add up for two lists far from one another. No program is spoken of here. -/
namespace Go.Proofs.YtfmfpnnglogkmaaGreatDoor.Ck

structure Knot where
  x : Int
  y : Int
deriving DecidableEq

structure Bar where
  x : Int
  y : Int
  s : Int
deriving DecidableEq

def Bar.lo (b : Bar) : Knot := ⟨b.x, b.y⟩
def Bar.hi (b : Bar) : Knot := ⟨b.x + b.s, b.y + 1⟩
def Blt (a b : Bar) : Prop := a.y < b.y ∨ a.y = b.y ∧ (a.x < b.x ∨ a.x = b.x ∧ a.s < b.s)
theorem Bar.ext' {a b : Bar} (h1 : a.x = b.x) (h2 : a.y = b.y) (h3 : a.s = b.s) : a = b := by
  cases a; cases b; cases h1; cases h2; cases h3; rfl
def inPlace (n : Int) : Prop := -100000 ≤ n ∧ n ≤ 100000
def okKnot (k : Knot) : Prop := inPlace k.x ∧ inPlace k.y ∧ (k.x + k.y) % 2 = 0
def okBar (b : Bar) : Prop := okKnot b.lo ∧ (b.s = -1 ∨ b.s = 1) ∧ inPlace b.hi.x ∧ inPlace b.hi.y
def Net (l : List Bar) : Prop := (∀ b ∈ l, okBar b) ∧ l.Pairwise Blt
def near (b : Bar) : Prop := -200 ≤ b.x ∧ b.x ≤ 200 ∧ -200 ≤ b.y ∧ b.y ≤ 200

theorem Blt.trans {a b c : Bar} (h : Blt a b) (k : Blt b c) : Blt a c := by unfold Blt at *; omega
theorem Blt.irrefl {a : Bar} (h : Blt a a) : False := by unfold Blt at h; omega
theorem Blt.tri (a b : Bar) : Blt a b ∨ a = b ∨ Blt b a := by
  obtain ⟨a1, a2, a3⟩ := a
  obtain ⟨b1, b2, b3⟩ := b
  simp only [Blt, Bar.mk.injEq]
  omega
theorem Net.nodup {l : List Bar} (h : Net l) : l.Nodup := h.2.imp (fun {a b} (k : Blt a b) e => by subst e; exact k.irrefl)

def ends (l : List Bar) : List Knot := l.flatMap fun b => [b.lo, b.hi]
theorem mem_ends {l : List Bar} {k : Knot} : k ∈ ends l ↔ ∃ b ∈ l, k = b.lo ∨ k = b.hi := by simp [ends]
theorem ends_append (a b : List Bar) : ends (a ++ b) = ends a ++ ends b := by simp [ends]

/-! ### lists without repetition -/
def nub : List Knot → List Knot
  | [] => []
  | k :: r => if k ∈ r then nub r else k :: nub r
theorem mem_nub {k : Knot} : ∀ {l : List Knot}, k ∈ nub l ↔ k ∈ l
  | [] => Iff.rfl
  | m :: r => by
    unfold nub
    split
    · rename_i h
      rw [mem_nub, List.mem_cons]
      exact ⟨Or.inr, fun h' => h'.elim (fun e => e ▸ h) id⟩
    · rw [List.mem_cons, List.mem_cons, mem_nub]
theorem nub_nodup : ∀ l : List Knot, (nub l).Nodup
  | [] => by simp [nub]
  | m :: r => by
    unfold nub
    split
    · exact nub_nodup r
    · rename_i h
      exact List.nodup_cons.2 ⟨fun h' => h (mem_nub.1 h'), nub_nodup r⟩
theorem same_length {a b : List Knot} (ha : a.Nodup) (hb : b.Nodup) (h : ∀ k, k ∈ a ↔ k ∈ b) : a.length = b.length :=
  ((List.perm_ext_iff_of_nodup ha hb).2 h).length_eq

def nK (l : List Bar) : Nat := (nub (ends l)).length
theorem nK_eq {l : List Bar} {ks : List Knot} (hn : ks.Nodup) (hm : ∀ k, k ∈ ks ↔ k ∈ ends l) : ks.length = nK l :=
  same_length hn (nub_nodup _) fun k => by rw [hm, mem_nub]
theorem nK_add {a b : List Bar} (h : ∀ k ∈ ends a, k ∉ ends b) : nK (a ++ b) = nK a + nK b := by
  rw [nK, nK, nK, ← List.length_append]
  refine same_length (nub_nodup _) ?_ fun k => ?_
  · exact List.nodup_append.2 ⟨nub_nodup _, nub_nodup _, fun x hx y hy e => h x (mem_nub.1 hx) (mem_nub.1 (e ▸ hy))⟩
  · rw [mem_nub, ends_append, List.mem_append, List.mem_append, mem_nub, mem_nub]
theorem knots_union {a b u : List Bar} {k l m : List Knot} (hk : k.Nodup) (hl : l.Nodup) (hm : m.Nodup) (mk : ∀ p, p ∈ k ↔ p ∈ ends a) (ml : ∀ p, p ∈ l ↔ p ∈ ends b) (mm : ∀ p, p ∈ m ↔ p ∈ ends u)
    (hu : ∀ x, x ∈ u ↔ x ∈ a ∨ x ∈ b) : m.length + k.countP (fun p => decide (p ∈ l)) = k.length + l.length := by
  have he : ∀ p, p ∈ ends u ↔ p ∈ ends a ∨ p ∈ ends b := by
    intro p
    simp only [mem_ends, hu]
    constructor
    · rintro ⟨x, hx | hx, h⟩
      · exact .inl ⟨x, hx, h⟩
      · exact .inr ⟨x, hx, h⟩
    · rintro (⟨x, hx, h⟩ | ⟨x, hx, h⟩)
      · exact ⟨x, .inl hx, h⟩
      · exact ⟨x, .inr hx, h⟩
  have h1 : m.length = (l ++ k.filter (fun p => !decide (p ∈ l))).length := by
    refine same_length hm (List.nodup_append.2 ⟨hl, hk.filter _, ?_⟩) fun p => ?_
    · intro x hx y hy e
      subst e
      have := (List.mem_filter.1 hy).2
      simp [hx] at this
    · rw [mm, he, List.mem_append, List.mem_filter]
      by_cases hp : p ∈ l
      · simp [hp, (ml p).1 hp]
      · have : p ∉ ends b := fun h => hp ((ml p).2 h)
        simp [hp, this, mk]
  rw [h1, List.length_append, ← List.countP_eq_length_filter]
  have h2 := List.length_eq_countP_add_countP (l := k) (fun p => decide (p ∈ l))
  have h3 : List.countP (fun p => !decide (p ∈ l)) k = List.countP (fun a => decide ¬(decide (a ∈ l)) = true) k := List.countP_congr fun x _ => by simp
  omega

/-! ### meshes -/
def isMesh (l : List Bar) (b : Bar) : Bool := decide (b.s = -1) && (decide ((⟨b.x, b.y, 1⟩ : Bar) ∈ l) && (decide ((⟨b.x - 1, b.y + 1, 1⟩ : Bar) ∈ l) && decide ((⟨b.x + 1, b.y + 1, -1⟩ : Bar) ∈ l)))
def nM (l : List Bar) : Nat := l.countP (isMesh l)
theorem nM_add {a b : List Bar} (ha : ∀ x ∈ a, x.y ≤ 200) (hb : ∀ x ∈ b, 800 ≤ x.y) : nM (a ++ b) = nM a + nM b := by
  have h1 : ∀ x : Bar, x.y ≤ 201 → (x ∈ a ++ b ↔ x ∈ a) := fun x hx => by
    rw [List.mem_append]
    exact ⟨fun h => h.elim id (fun h' => absurd (hb x h') (by omega)), .inl⟩
  have h2 : ∀ x : Bar, 201 ≤ x.y → (x ∈ a ++ b ↔ x ∈ b) := fun x hx => by
    rw [List.mem_append]
    exact ⟨fun h => h.elim (fun h' => absurd (ha x h') (by omega)) id, .inr⟩
  rw [nM, List.countP_append, nM, nM]
  congr 1
  · refine List.countP_congr fun x hx => ?_
    have := ha x hx
    unfold isMesh
    rw [decide_eq_decide.2 (h1 ⟨x.x, x.y, 1⟩ (by simp; omega)), decide_eq_decide.2 (h1 ⟨x.x - 1, x.y + 1, 1⟩ (by simp; omega)), decide_eq_decide.2 (h1 ⟨x.x + 1, x.y + 1, -1⟩ (by simp; omega))]
  · refine List.countP_congr fun x hx => ?_
    have := hb x hx
    unfold isMesh
    rw [decide_eq_decide.2 (h2 ⟨x.x, x.y, 1⟩ (by simp; omega)), decide_eq_decide.2 (h2 ⟨x.x - 1, x.y + 1, 1⟩ (by simp; omega)), decide_eq_decide.2 (h2 ⟨x.x + 1, x.y + 1, -1⟩ (by simp; omega))]

/-! ### parts -/
def Adj (b : Bar) (k m : Knot) : Prop := k = b.lo ∧ m = b.hi ∨ k = b.hi ∧ m = b.lo
inductive Conn (l : List Bar) : Knot → Knot → Prop
  | refl (k : Knot) : Conn l k k
  | step {k m n : Knot} (b : Bar) : b ∈ l → Adj b k m → Conn l m n → Conn l k n
theorem Conn.trans {l : List Bar} {k m n : Knot} (h : Conn l k m) (h' : Conn l m n) : Conn l k n := by
  induction h with
  | refl => exact h'
  | step b hb ha _ ih => exact .step b hb ha (ih h')
theorem Adj.symm {b : Bar} {k m : Knot} (h : Adj b k m) : Adj b m k := h.elim (fun h => .inr ⟨h.2, h.1⟩) (fun h => .inl ⟨h.2, h.1⟩)
theorem Conn.one {l : List Bar} {b : Bar} {k m : Knot} (hb : b ∈ l) (h : Adj b k m) : Conn l k m := .step b hb h (.refl m)
theorem Conn.symm {l : List Bar} {k m : Knot} (h : Conn l k m) : Conn l m k := by
  induction h with
  | refl => exact .refl _
  | step b hb ha _ ih => exact ih.trans (.one hb ha.symm)
theorem Conn.mono {l l' : List Bar} (hl : ∀ b ∈ l, b ∈ l') {k m : Knot} (h : Conn l k m) : Conn l' k m := by
  induction h with
  | refl => exact .refl _
  | step b hb ha _ ih => exact .step b (hl b hb) ha ih
theorem Adj.ends {l : List Bar} {b : Bar} {k m : Knot} (hb : b ∈ l) (h : Adj b k m) : k ∈ ends l ∧ m ∈ ends l := by
  rw [mem_ends, mem_ends]
  rcases h with ⟨h1, h2⟩ | ⟨h1, h2⟩
  · exact ⟨⟨b, hb, .inl h1⟩, ⟨b, hb, .inr h2⟩⟩
  · exact ⟨⟨b, hb, .inr h1⟩, ⟨b, hb, .inl h2⟩⟩

inductive CntIs (l : List Bar) : List Knot → List Bar → Nat → Prop
  | nil (seen : List Knot) : CntIs l seen [] 0
  | old {seen : List Knot} {b : Bar} {r : List Bar} {n : Nat} : (∃ s ∈ seen, Conn l s b.lo) → CntIs l (b.lo :: seen) r n → CntIs l seen (b :: r) n
  | fresh {seen : List Knot} {b : Bar} {r : List Bar} {n : Nat} : (¬ ∃ s ∈ seen, Conn l s b.lo) → CntIs l (b.lo :: seen) r n → CntIs l seen (b :: r) (n + 1)
def PartsIs (l : List Bar) (n : Nat) : Prop := CntIs l [] l n
theorem CntIs.det {l : List Bar} : ∀ {r : List Bar} {seen : List Knot} {n m : Nat}, CntIs l seen r n → CntIs l seen r m → n = m
  | [], _, _, _, .nil _, .nil _ => rfl
  | _ :: _, _, _, _, .old _ h, .old _ h' => h.det h'
  | _ :: _, _, _, _, .old e _, .fresh e' _ => absurd e e'
  | _ :: _, _, _, _, .fresh e _, .old e' _ => absurd e' e
  | _ :: _, _, _, _, .fresh _ h, .fresh _ h' => congrArg (· + 1) (h.det h')
theorem CntIs.total {l : List Bar} : ∀ (r : List Bar) (seen : List Knot), ∃ n, CntIs l seen r n
  | [], seen => ⟨0, .nil seen⟩
  | b :: r, seen => by
    obtain ⟨n, h⟩ := CntIs.total (l := l) r (b.lo :: seen)
    by_cases e : ∃ s ∈ seen, Conn l s b.lo
    · exact ⟨n, .old e h⟩
    · exact ⟨n + 1, .fresh e h⟩
theorem CntIs.mono {l l' : List Bar} : ∀ {r : List Bar} {seen seen' : List Knot} {n : Nat}, (∀ b ∈ r, ∀ t : List Knot, (∀ x ∈ t, ∃ c ∈ r, x = c.lo) → ((∃ s ∈ t ++ seen, Conn l s b.lo) ↔ ∃ s ∈ t ++ seen', Conn l' s b.lo)) → CntIs l seen r n → CntIs l' seen' r n
  | [], _, _, _, _, .nil _ => .nil _
  | b :: r, seen, seen', _, hc, .old e h =>
    .old ((hc b (by simp) [] (by simp)).1 e) (h.mono fun c hcr t ht => by
      have := hc c (by simp [hcr]) (t ++ [b.lo]) (by
        intro x hx
        rcases List.mem_append.1 hx with hx | hx
        · obtain ⟨d, hd, e⟩ := ht x hx; exact ⟨d, by simp [hd], e⟩
        · exact ⟨b, by simp, by simpa using hx⟩)
      simpa using this)
  | b :: r, seen, seen', _, hc, .fresh e h =>
    .fresh (fun e' => e ((hc b (by simp) [] (by simp)).2 e')) (h.mono fun c hcr t ht => by
      have := hc c (by simp [hcr]) (t ++ [b.lo]) (by
        intro x hx
        rcases List.mem_append.1 hx with hx | hx
        · obtain ⟨d, hd, e⟩ := ht x hx; exact ⟨d, by simp [hd], e⟩
        · exact ⟨b, by simp, by simpa using hx⟩)
      simpa using this)
theorem CntIs.append {l : List Bar} : ∀ {r r' : List Bar} {seen : List Knot} {n m : Nat}, CntIs l seen r n → CntIs l ((r.map Bar.lo).reverse ++ seen) r' m → CntIs l seen (r ++ r') (n + m)
  | [], _, _, _, _, .nil _, h' => by simpa using h'
  | b :: r, r', seen, _, m, .old e h, h' => .old e (h.append (by simpa using h'))
  | b :: r, r', seen, _, m, .fresh (n := n) e h, h' => by
    rw [show n + 1 + m = (n + m) + 1 from by omega]
    exact .fresh e (h.append (by simpa using h'))

theorem Conn.left {a b : List Bar} (hd : ∀ k ∈ ends a, k ∉ ends b) {k m : Knot} (h : Conn (a ++ b) k m) : k ∈ ends a → Conn a k m ∧ m ∈ ends a := by
  induction h with
  | refl => exact fun h => ⟨.refl _, h⟩
  | step c hc ha _ ih =>
    intro hk
    rcases List.mem_append.1 hc with hc | hc
    · obtain ⟨h1, h2⟩ := ih (ha.ends hc).2
      exact ⟨.step c hc ha h1, h2⟩
    · exact absurd (ha.ends hc).1 (hd _ hk)
theorem Conn.right {a b : List Bar} (hd : ∀ k ∈ ends a, k ∉ ends b) {k m : Knot} (h : Conn (a ++ b) k m) : k ∈ ends b → Conn b k m ∧ m ∈ ends b := by
  induction h with
  | refl => exact fun h => ⟨.refl _, h⟩
  | step c hc ha _ ih =>
    intro hk
    rcases List.mem_append.1 hc with hc | hc
    · exact absurd hk (hd _ (ha.ends hc).1)
    · obtain ⟨h1, h2⟩ := ih (ha.ends hc).2
      exact ⟨.step c hc ha h1, h2⟩
theorem lo_ends {l : List Bar} {b : Bar} (h : b ∈ l) : b.lo ∈ ends l := mem_ends.2 ⟨b, h, .inl rfl⟩

theorem PartsIs.add {a b : List Bar} {p q : Nat} (hd : ∀ k ∈ ends a, k ∉ ends b) (hp : PartsIs a p) (hq : PartsIs b q) : PartsIs (a ++ b) (p + q) := by
  have inl : ∀ {k m : Knot}, Conn a k m → Conn (a ++ b) k m := fun h => h.mono fun _ h => List.mem_append.2 (.inl h)
  have inr : ∀ {k m : Knot}, Conn b k m → Conn (a ++ b) k m := fun h => h.mono fun _ h => List.mem_append.2 (.inr h)
  refine CntIs.append (hp.mono (l' := a ++ b) (seen' := []) fun x _ t ht => ?_) (hq.mono fun x hx t ht => ?_)
  · constructor
    · rintro ⟨s, hs, h⟩; exact ⟨s, hs, inl h⟩
    · rintro ⟨s, hs, h⟩
      obtain ⟨c, hc, rfl⟩ := ht s (by simpa using hs)
      exact ⟨_, hs, (h.left hd (lo_ends hc)).1⟩
  · constructor
    · rintro ⟨s, hs, h⟩; exact ⟨s, by simp at hs ⊢; exact .inl hs, inr h⟩
    · rintro ⟨s, hs, h⟩
      rcases List.mem_append.1 hs with hs | hs
      · obtain ⟨c, hc, rfl⟩ := ht s hs
        exact ⟨_, by simp [hs], (h.right hd (lo_ends hc)).1⟩
      · have : s ∈ ends a := by
          simp at hs
          obtain ⟨c, hc, rfl⟩ := hs
          exact lo_ends hc
        exact absurd (lo_ends hx) (hd _ (h.left hd this).2)

/-! ### shifts -/
def Bar.shift (dx dy : Int) (b : Bar) : Bar := ⟨b.x + dx, b.y + dy, b.s⟩
def Knot.shift (dx dy : Int) (k : Knot) : Knot := ⟨k.x + dx, k.y + dy⟩
theorem shift_lo (dx dy : Int) (b : Bar) : (b.shift dx dy).lo = b.lo.shift dx dy := rfl
theorem shift_hi (dx dy : Int) (b : Bar) : (b.shift dx dy).hi = b.hi.shift dx dy := by simp [Bar.shift, Bar.hi, Knot.shift]; omega
theorem Knot.shift_inj {dx dy : Int} {k m : Knot} (h : k.shift dx dy = m.shift dx dy) : k = m := by
  obtain ⟨a, b⟩ := k
  obtain ⟨c, d⟩ := m
  simp only [Knot.shift, Knot.mk.injEq] at h ⊢
  omega
theorem Conn.shift {l : List Bar} {k m : Knot} (dx dy : Int) (h : Conn l k m) : Conn (l.map (Bar.shift dx dy)) (k.shift dx dy) (m.shift dx dy) := by
  induction h with
  | refl => exact .refl _
  | step b hb ha _ ih =>
    refine .step (b.shift dx dy) (List.mem_map_of_mem hb) ?_ ih
    rcases ha with ⟨rfl, rfl⟩ | ⟨rfl, rfl⟩
    · exact .inl ⟨(shift_lo ..).symm, (shift_hi ..).symm⟩
    · exact .inr ⟨(shift_hi ..).symm, (shift_lo ..).symm⟩
theorem Bar.shift_back (dx dy : Int) (b : Bar) : (b.shift dx dy).shift (-dx) (-dy) = b :=
  Bar.ext' (show b.x + dx + -dx = b.x by omega) (show b.y + dy + -dy = b.y by omega) rfl
theorem Knot.shift_back (dx dy : Int) (b : Knot) : (b.shift dx dy).shift (-dx) (-dy) = b := by
  obtain ⟨x, y⟩ := b
  simp only [Knot.shift, Knot.mk.injEq]
  omega
theorem Conn.unshift {l : List Bar} {k m : Knot} (dx dy : Int) (h : Conn (l.map (Bar.shift dx dy)) (k.shift dx dy) (m.shift dx dy)) : Conn l k m := by
  have := h.shift (-dx) (-dy)
  rw [List.map_map, Knot.shift_back, Knot.shift_back] at this
  have e : (Bar.shift (-dx) (-dy) ∘ Bar.shift dx dy) = id := funext fun b => Bar.shift_back dx dy b
  rwa [e, List.map_id] at this
theorem CntIs.shift {l : List Bar} (dx dy : Int) : ∀ {r : List Bar} {seen : List Knot} {n : Nat}, CntIs l seen r n → CntIs (l.map (Bar.shift dx dy)) (seen.map (Knot.shift dx dy)) (r.map (Bar.shift dx dy)) n
  | [], _, _, .nil _ => .nil _
  | b :: r, seen, _, .old e h => by
    obtain ⟨s, hs, hc⟩ := e
    exact .old ⟨_, List.mem_map_of_mem hs, hc.shift dx dy⟩ (h.shift dx dy)
  | b :: r, seen, _, .fresh e h => by
    refine .fresh (fun ⟨s, hs, hc⟩ => ?_) (h.shift dx dy)
    obtain ⟨t, ht, rfl⟩ := List.mem_map.1 hs
    exact e ⟨t, ht, hc.unshift dx dy⟩
theorem PartsIs.shift {l : List Bar} {n : Nat} (dx dy : Int) (h : PartsIs l n) : PartsIs (l.map (Bar.shift dx dy)) n := CntIs.shift dx dy h
theorem ends_shift (dx dy : Int) (l : List Bar) : ends (l.map (Bar.shift dx dy)) = (ends l).map (Knot.shift dx dy) := by
  simp only [ends, List.flatMap_map, List.map_flatMap]
  congr
  funext b
  simp [shift_lo, shift_hi]
theorem nub_map (dx dy : Int) : ∀ l : List Knot, nub (l.map (Knot.shift dx dy)) = (nub l).map (Knot.shift dx dy)
  | [] => rfl
  | k :: r => by
    have e : k.shift dx dy ∈ r.map (Knot.shift dx dy) ↔ k ∈ r := by
      constructor
      · intro h
        obtain ⟨m, hm, e⟩ := List.mem_map.1 h
        exact Knot.shift_inj e ▸ hm
      · exact fun h => List.mem_map_of_mem h
    rw [List.map_cons, nub, nub]
    by_cases h : k ∈ r
    · rw [if_pos (e.2 h), if_pos h, nub_map dx dy r]
    · rw [if_neg (fun h' => h (e.1 h')), if_neg h, List.map_cons, nub_map dx dy r]
theorem nK_shift (dx dy : Int) (l : List Bar) : nK (l.map (Bar.shift dx dy)) = nK l := by
  rw [nK, nK, ends_shift, nub_map, List.length_map]
theorem mem_shift {dx dy : Int} {l : List Bar} {b : Bar} : b ∈ l.map (Bar.shift dx dy) ↔ (⟨b.x - dx, b.y - dy, b.s⟩ : Bar) ∈ l := by
  rw [List.mem_map]
  constructor
  · rintro ⟨c, hc, rfl⟩
    have e : (⟨(c.shift dx dy).x - dx, (c.shift dx dy).y - dy, (c.shift dx dy).s⟩ : Bar) = c :=
      Bar.ext' (show c.x + dx - dx = c.x by omega) (show c.y + dy - dy = c.y by omega) rfl
    rw [e]; exact hc
  · intro h
    exact ⟨_, h, Bar.ext' (show b.x - dx + dx = b.x by omega) (show b.y - dy + dy = b.y by omega) rfl⟩
theorem nM_shift (dx dy : Int) (l : List Bar) : nM (l.map (Bar.shift dx dy)) = nM l := by
  rw [nM, nM, List.countP_map]
  refine List.countP_congr fun b _ => ?_
  have h : ∀ x y s : Int, ((⟨x, y, s⟩ : Bar) ∈ l.map (Bar.shift dx dy)) ↔ (⟨x - dx, y - dy, s⟩ : Bar) ∈ l := fun x y s => mem_shift
  simp only [Function.comp, isMesh, Bar.shift, h]
  rw [show b.x + dx - dx = b.x from by omega, show b.y + dy - dy = b.y from by omega, show b.x + dx - 1 - dx = b.x - 1 from by omega, show b.y + dy + 1 - dy = b.y + 1 from by omega, show b.x + dx + 1 - dx = b.x + 1 from by omega]
  exact Iff.rfl
end Go.Proofs.YtfmfpnnglogkmaaGreatDoor.Ck

/- Lists of bars in memory: what it means that a slice holds a list of bars, and that this is kept. -/
namespace Go.Proofs.YtfmfpnnglogkmaaGreatDoor
open Go.RowKit

theorem ret_i {a b : Int} (h : a = b) : Ending.returned (.int .i64 a) = .returned (.int .i64 b) := by rw [h]
theorem ret_b {a b : Bool} (h : a = b) : Ending.returned (.bool a) = .returned (.bool b) := by rw [h]

def bv (b : Ck.Bar) : Value := .agg #[.int .i64 b.x, .int .i64 b.y, .int .i64 b.s]
def kv (k : Ck.Knot) : Value := .agg #[.int .i64 k.x, .int .i64 k.y]
def bcells (b : Ck.Bar) : List Value := [.int .i64 b.x, .int .i64 b.y, .int .i64 b.s]
def kcells (k : Ck.Knot) : List Value := [.int .i64 k.x, .int .i64 k.y]

/-- The slice at A holds the bars l, below block B. -/
def RB (w : World) (B : Nat) (A : Option Addr) (l : List Ck.Bar) : Prop :=
  0 < l.length → ∃ b off, A = some ⟨b, off, none⟩ ∧ b < B ∧ ∀ i (h : i < l.length), w.cell? ⟨b, off + i * 3, none⟩ = some (.int .i64 l[i].x) ∧ w.cell? ⟨b, off + i * 3 + 1, none⟩ = some (.int .i64 l[i].y) ∧ w.cell? ⟨b, off + i * 3 + 2, none⟩ = some (.int .i64 l[i].s)
/-- The slice at A holds the knots l, below block B. -/
def RK (w : World) (B : Nat) (A : Option Addr) (l : List Ck.Knot) : Prop :=
  0 < l.length → ∃ b off, A = some ⟨b, off, none⟩ ∧ b < B ∧ ∀ i (h : i < l.length), w.cell? ⟨b, off + i * 2, none⟩ = some (.int .i64 l[i].x) ∧ w.cell? ⟨b, off + i * 2 + 1, none⟩ = some (.int .i64 l[i].y)

theorem RB.below {w w' : World} {B : Nat} {A : Option Addr} {l : List Ck.Bar} (h : RB w B A l) (hb : Below B w w') : RB w' B A l := fun hl => by
  obtain ⟨b, off, rfl, hB, hc⟩ := h hl
  exact ⟨b, off, rfl, hB, fun i hi => ⟨(hb.cell (p := ⟨b, _, none⟩) hB).trans (hc i hi).1, (hb.cell (p := ⟨b, _, none⟩) hB).trans (hc i hi).2.1, (hb.cell (p := ⟨b, _, none⟩) hB).trans (hc i hi).2.2⟩⟩
theorem RB.more {w : World} {B B' : Nat} {A : Option Addr} {l : List Ck.Bar} (h : RB w B A l) (hB : B ≤ B') : RB w B' A l := fun hl => by
  obtain ⟨b, off, h1, h2, hc⟩ := h hl
  exact ⟨b, off, h1, by omega, hc⟩
theorem RK.below {w w' : World} {B : Nat} {A : Option Addr} {l : List Ck.Knot} (h : RK w B A l) (hb : Below B w w') : RK w' B A l := fun hl => by
  obtain ⟨b, off, rfl, hB, hc⟩ := h hl
  exact ⟨b, off, rfl, hB, fun i hi => ⟨(hb.cell (p := ⟨b, _, none⟩) hB).trans (hc i hi).1, (hb.cell (p := ⟨b, _, none⟩) hB).trans (hc i hi).2⟩⟩
theorem RK.more {w : World} {B B' : Nat} {A : Option Addr} {l : List Ck.Knot} (h : RK w B A l) (hB : B ≤ B') : RK w B' A l := fun hl => by
  obtain ⟨b, off, h1, h2, hc⟩ := h hl
  exact ⟨b, off, h1, by omega, hc⟩
theorem below_drewN {B : Nat} {a w : World} (h : Below B a w) (n : Nat) : Below B a (w.drewN n) := ⟨h.os, h.tape, h.output, h.size, h.block⟩
theorem below_drew {B : Nat} {a w : World} (h : Below B a w) : Below B a w.drew := ⟨h.os, h.tape, h.output, h.size, h.block⟩
theorem bcell {W w1 : World} (hb : Below W.heap.size W w1) : (∀ b o, b < W.heap.size → w1.cell? ⟨b, o, none⟩ = W.cell? ⟨b, o, none⟩) ∧ (∀ b o, b < W.heap.size → w1.frozen? ⟨b, o, none⟩ = W.frozen? ⟨b, o, none⟩) :=
  ⟨fun b o h => hb.cell (p := ⟨b, o, none⟩) h, fun b o h => hb.frozen (p := ⟨b, o, none⟩) h⟩
theorem box2 (w : World) (a b : Value) (t : TypeId) : ∃ w1, w1 = w.alloc (.cells #[a, b] t) ∧ w1.cell? ⟨w.heap.size, 0, none⟩ = some a ∧ w1.cell? ⟨w.heap.size, 1, none⟩ = some b ∧ Below w.heap.size w w1 ∧ w.heap.size < w1.heap.size :=
  ⟨_, rfl, by rw [World.cell?_alloc_at _ _ _ _ rfl]; rfl, by rw [World.cell?_alloc_at _ _ _ _ rfl]; rfl, (Below.refl _ _).alloc (Nat.le_refl _) _, by simp⟩
theorem box3 (w : World) (a b c : Value) (t : TypeId) : ∃ w1, w1 = w.alloc (.cells #[a, b, c] t) ∧ w1.cell? ⟨w.heap.size, 0, none⟩ = some a ∧ w1.cell? ⟨w.heap.size, 1, none⟩ = some b ∧ w1.cell? ⟨w.heap.size, 2, none⟩ = some c ∧ Below w.heap.size w w1 ∧ w.heap.size < w1.heap.size :=
  ⟨_, rfl, by rw [World.cell?_alloc_at _ _ _ _ rfl]; rfl, by rw [World.cell?_alloc_at _ _ _ _ rfl]; rfl, by rw [World.cell?_alloc_at _ _ _ _ rfl]; rfl, (Below.refl _ _).alloc (Nat.le_refl _) _, by simp⟩
theorem box33 (w : World) (a b c a' b' c' : Value) (t t' : TypeId) : ∃ w1, w1 = (w.alloc (.cells #[a, b, c] t)).alloc (.cells #[a', b', c'] t') ∧ w1.cell? ⟨w.heap.size, 0, none⟩ = some a ∧ w1.cell? ⟨w.heap.size, 1, none⟩ = some b ∧ w1.cell? ⟨w.heap.size, 2, none⟩ = some c ∧
    w1.cell? ⟨w.heap.size + 1, 0, none⟩ = some a' ∧ w1.cell? ⟨w.heap.size + 1, 1, none⟩ = some b' ∧ w1.cell? ⟨w.heap.size + 1, 2, none⟩ = some c' := by
  obtain ⟨w0, rfl, h0, h1, h2, _, hz⟩ := box3 w a b c t
  have hs : (w.alloc (.cells #[a, b, c] t)).heap.size = w.heap.size + 1 := by simp
  obtain ⟨w1, rfl, k0, k1, k2, hb, _⟩ := box3 (w.alloc (.cells #[a, b, c] t)) a' b' c' t'
  rw [hs] at k0 k1 k2
  exact ⟨_, rfl, (hb.cell (p := ⟨_, _, none⟩) hz).trans h0, (hb.cell (p := ⟨_, _, none⟩) hz).trans h1, (hb.cell (p := ⟨_, _, none⟩) hz).trans h2, k0, k1, k2⟩
end Go.Proofs.YtfmfpnnglogkmaaGreatDoor

/- Contracts of the reference's small functions: ranges, knots, bars, the order of bars. Each for every argument that is an int of the language. -/
namespace Go.Proofs.YtfmfpnnglogkmaaGreatDoor
open Go.RowKit


def farB (n : Int) : Bool := decide (n < -100000 ∨ 100000 < n)
set_option maxHeartbeats 400000 in
theorem refFar (n : Int) (w : World) :
    Calls Tryz.prog 102 #[.int .i64 n] w fun e w' => e = .returned (.bool (farB n)) ∧ w = w' := by
  by_cases h1 : n < -100000
  all_goals
    have hf : farB n = (decide (n < -100000) || decide (100000 < n)) := by simp [farB]
    have HF := Lib.hid hf
    clear hf
    go_enter Tryz.func102, Tryz.ntmps102
    go_wp2
    go_ret
    rw [HF.out]
    simp <;> omega

def evenB (x y : Int) : Bool := decide ((x + y) % 2 = 0)
set_option maxHeartbeats 400000 in
theorem refEven (x y : Int) (w : World) (h1 : -100000 ≤ x) (h2 : x ≤ 100000) (h3 : -100000 ≤ y) (h4 : y ≤ 100000) :
    Calls Tryz.prog 103 #[.int .i64 x, .int .i64 y] w fun e w' => e = .returned (.bool (evenB x y)) ∧ w = w' := by
  have hf : evenB x y = decide ((x + y) % 2 = 0) := rfl
  have HF := Lib.hid hf
  clear hf
  go_enter Tryz.func103, Tryz.ntmps103
  go_wp2
  go_ret
  refine ⟨?_, rfl⟩
  rw [HF.out]
  have h : ((x + y).tmod 2 == 0) = decide ((x + y) % 2 = 0) := by
    rw [Bool.eq_iff_iff]
    simp only [beq_iff_eq, decide_eq_true_eq]
    rw [← Int.dvd_iff_tmod_eq_zero, ← Int.dvd_iff_emod_eq_zero]
  exact congrArg (fun b => Ending.returned (.bool b)) h

def knotE (x y : Int) : Int := if farB x then 3 else if farB y then 3 else if evenB x y then 0 else 14
theorem farB_no {n : Int} (h : farB n = false) : -100000 ≤ n ∧ n ≤ 100000 := by simpa [farB] using h

set_option maxHeartbeats 400000 in
theorem refCheckKnot (x y : Int) (w : World) :
    Calls Tryz.prog 64 #[.agg #[.int .i64 x, .int .i64 y]] w fun e w' => e = .returned (.int .i64 (knotE x y)) ∧ Below w.heap.size w w' := by
  cases hx : farB x
  · cases hy : farB y
    · obtain ⟨h1, h2⟩ := farB_no hx
      obtain ⟨h3, h4⟩ := farB_no hy
      cases he : evenB x y
      all_goals
        have HK := Lib.hid (show knotE x y = _ by simp only [knotE, hx, hy, he]; rfl)
        have HX := Lib.hid hx
        have HY := Lib.hid hy
        have HE := Lib.hid he
        clear hx hy he
        go_enter Tryz.func64, Tryz.ntmps64
        go_wp2_with fail
        refine (refFar x _).mono ?_
        rintro e w' ⟨rfl, rfl⟩
        rw [HX.out]
        go_wp2_with fail
        refine (refFar y _).mono ?_
        rintro e w' ⟨rfl, rfl⟩
        rw [HY.out]
        go_wp2_with fail
        refine (refEven x y _ h1 h2 h3 h4).mono ?_
        rintro e w' ⟨rfl, rfl⟩
        rw [HE.out]
        go_wp2
        go_ret
        exact ⟨ret_i HK.out.symm, (Below.refl _ _).alloc (Nat.le_refl _) _⟩
    · have HK := Lib.hid (show knotE x y = 3 by simp [knotE, hx, hy])
      have HX := Lib.hid hx
      have HY := Lib.hid hy
      clear hx hy
      go_enter Tryz.func64, Tryz.ntmps64
      go_wp2_with fail
      refine (refFar x _).mono ?_
      rintro e w' ⟨rfl, rfl⟩
      rw [HX.out]
      go_wp2_with fail
      refine (refFar y _).mono ?_
      rintro e w' ⟨rfl, rfl⟩
      rw [HY.out]
      go_wp2
      go_ret
      exact ⟨ret_i HK.out.symm, (Below.refl _ _).alloc (Nat.le_refl _) _⟩
  · have HK := Lib.hid (show knotE x y = 3 by simp [knotE, hx])
    have HX := Lib.hid hx
    clear hx
    go_enter Tryz.func64, Tryz.ntmps64
    go_wp2_with fail
    refine (refFar x _).mono ?_
    rintro e w' ⟨rfl, rfl⟩
    rw [HX.out]
    go_wp2
    go_ret
    exact ⟨ret_i HK.out.symm, (Below.refl _ _).alloc (Nat.le_refl _) _⟩
end Go.Proofs.YtfmfpnnglogkmaaGreatDoor

/- Contracts of the reference's functions on bars: the ends, the error of a bar, the order of bars. -/
namespace Go.Proofs.YtfmfpnnglogkmaaGreatDoor
open Go.RowKit

def barE (x y s : Int) : Int := if knotE x y = 0 then (if s = 1 ∨ s = -1 then knotE (x + s) (y + 1) else 13) else knotE x y
theorem knotE_zero {x y : Int} (h : knotE x y = 0) : -100000 ≤ x ∧ x ≤ 100000 ∧ -100000 ≤ y ∧ y ≤ 100000 := by
  unfold knotE at h
  split at h
  · omega
  · rename_i h1
    split at h
    · omega
    · rename_i h2
      have a := farB_no (by simpa using h1)
      have b := farB_no (by simpa using h2)
      omega

end Go.Proofs.YtfmfpnnglogkmaaGreatDoor

/- Contracts of the reference's order of bars and of its check of a net. -/
namespace Go.Proofs.YtfmfpnnglogkmaaGreatDoor
open Go.RowKit

def lessB (x y s x' y' s' : Int) : Bool := if y = y' then (if x = x' then decide (s < s') else decide (x < x')) else decide (y < y')

def netFrom : Option Ck.Bar → List Ck.Bar → Int
  | _, [] => 0
  | none, b :: r => if barE b.x b.y b.s = 0 then netFrom (some b) r else barE b.x b.y b.s
  | some p, b :: r => if barE b.x b.y b.s = 0 then (if lessB p.x p.y p.s b.x b.y b.s then netFrom (some b) r else 11) else barE b.x b.y b.s
def prevAt (l : List Ck.Bar) : Nat → Option Ck.Bar
  | 0 => none
  | k + 1 => l[k]?
def netE (l : List Ck.Bar) : Int := if 4096 < l.length then 5 else netFrom none l

theorem netFrom_bad {l : List Ck.Bar} {k : Nat} (hk : k < l.length) (h : ¬ barE l[k].x l[k].y l[k].s = 0) : netFrom (prevAt l k) (l.drop k) = barE l[k].x l[k].y l[k].s := by
  rw [List.drop_eq_getElem_cons hk]
  cases prevAt l k <;> simp [netFrom, h]
theorem netFrom_step0 {l : List Ck.Bar} (hk : 0 < l.length) (h : barE l[0].x l[0].y l[0].s = 0) : netFrom (prevAt l 0) (l.drop 0) = netFrom (prevAt l 1) (l.drop 1) := by
  rw [List.drop_eq_getElem_cons hk]
  simp [prevAt, netFrom, h, List.getElem?_eq_getElem hk]
theorem netFrom_step {l : List Ck.Bar} {k : Nat} (hk : k + 1 < l.length) (h : barE l[k+1].x l[k+1].y l[k+1].s = 0) (h2 : lessB l[k].x l[k].y l[k].s l[k+1].x l[k+1].y l[k+1].s = true) : netFrom (prevAt l (k + 1)) (l.drop (k + 1)) = netFrom (prevAt l (k + 1 + 1)) (l.drop (k + 1 + 1)) := by
  rw [List.drop_eq_getElem_cons hk]
  simp only [prevAt, List.getElem?_eq_getElem hk, List.getElem?_eq_getElem (Nat.lt_of_succ_lt hk), netFrom, h, h2, if_true]
theorem netFrom_stop {l : List Ck.Bar} {k : Nat} (hk : k + 1 < l.length) (h : barE l[k+1].x l[k+1].y l[k+1].s = 0) (h2 : lessB l[k].x l[k].y l[k].s l[k+1].x l[k+1].y l[k+1].s = false) : netFrom (prevAt l (k + 1)) (l.drop (k + 1)) = 11 := by
  rw [List.drop_eq_getElem_cons hk]
  simp only [prevAt, List.getElem?_eq_getElem (Nat.lt_of_succ_lt hk), netFrom, h, h2, if_true]
  rfl
theorem netFrom_end (l : List Ck.Bar) : netFrom (prevAt l l.length) (l.drop l.length) = 0 := by
  rw [List.drop_length]
  cases prevAt l l.length <;> rfl

end Go.Proofs.YtfmfpnnglogkmaaGreatDoor

/- Contracts of the program's small functions of netting: ranges, the first error, knots, sides, ends. -/
namespace Go.Proofs.YtfmfpnnglogkmaaGreatDoor
open Go.RowKit

set_option maxHeartbeats 400000 in
theorem netCheckRange (n lo hi : Int) (w : World) :
    Calls Tryz.prog 129 #[.int .i64 n, .int .i64 lo, .int .i64 hi] w fun e w' => e = .returned (.int .i64 (if n < lo ∨ hi < n then 3 else 0)) ∧ w = w' := by
  by_cases h1 : n < lo
  · go_enter Tryz.func129, Tryz.ntmps129
    go_wp2
    go_ret
    simp
  · by_cases h2 : hi < n
    all_goals
      go_enter Tryz.func129, Tryz.ntmps129
      go_wp2
      go_ret
      simp <;> omega

def placeE (n : Int) : Int := if farB n then 3 else 0
theorem placeE_eq (n : Int) : (if n < -100000 ∨ 100000 < n then 3 else 0) = placeE n := by simp [placeE, farB]
set_option maxHeartbeats 400000 in
theorem netCheckPlace (n : Int) (w : World) :
    Calls Tryz.prog 117 #[.int .i64 n] w fun e w' => e = .returned (.int .i64 (placeE n)) ∧ w = w' := by
  go_enter Tryz.func117, Tryz.ntmps117
  go_wp2_with fail
  refine (netCheckRange _ _ _ _).mono ?_
  rintro e w' ⟨rfl, rfl⟩
  rw [placeE_eq]
  go_wp2
  go_ret
  exact ⟨rfl, rfl⟩

def sideE (s : Int) : Int := if s = 1 ∨ s = -1 then 0 else 13
def firstE : List Int → Int
  | [] => 0
  | e :: r => if e = 0 then firstE r else e
set_option maxHeartbeats 400000 in
theorem netFirst (b c : Nat) (es : List Int) (w : World) (hn : es.length ≤ 100) (hc : ∀ i (h : i < es.length), w.cell? ⟨b, i, none⟩ = some (.int .i64 es[i])) :
    Calls Tryz.prog 116 #[.slice (some ⟨b, 0, none⟩) es.length c] w fun e w' => e = .returned (.int .i64 (firstE es)) ∧ w = w' := by
  have HC := Lib.hid hc
  have hn' : (es.length : Int) ≤ 100 := by omega
  clear hc
  go_enter Tryz.func116, Tryz.ntmps116
  go_wp2_with fail
  go_loop [4, 7] (fun _ i => ∃ k : Nat, k ≤ es.length ∧ i = .int .i64 k ∧ firstE es = firstE (es.drop k)) (fun _ i => es.length - (intOf i).toNat)
  case atStart => exact ⟨0, Nat.zero_le _, rfl, rfl⟩
  case round =>
    obtain ⟨k, hk, rfl, he⟩ := hrel
    have HE := Lib.hid he
    clear he
    by_cases hlt : k < es.length
    · have hcell := HC.out k hlt
      by_cases hz : es[k] = 0
      · have HF := Lib.hid (show firstE (es.drop k) = firstE (es.drop (k + 1)) by
          rw [List.drop_eq_getElem_cons hlt]
          simp only [firstE, hz, if_true])
        rw [hz] at hcell
        clear hz
        go_wp2
        go_round
        case rel => exact ⟨k + 1, by omega, by go_num, HE.out.trans HF.out⟩
        case measure => simp [intOf]; omega
      · have HF := Lib.hid (show firstE (es.drop k) = es[k] by
          rw [List.drop_eq_getElem_cons hlt]
          simp only [firstE, if_neg hz])
        have hz1 : (es[k] != 0) = true := by rw [bne_iff_ne]; exact hz
        clear hz
        go_wp2
        go_ret
        exact ⟨ret_i (HE.out.trans HF.out).symm, rfl⟩
    · obtain rfl : k = es.length := by omega
      have HF := Lib.hid (show firstE (es.drop es.length) = 0 by rw [List.drop_length]; rfl)
      go_wp2
      go_ret
      exact ⟨ret_i (HE.out.trans HF.out).symm, rfl⟩

end Go.Proofs.YtfmfpnnglogkmaaGreatDoor

/- Contracts of the program's CheckKnot and CheckBar. -/
namespace Go.Proofs.YtfmfpnnglogkmaaGreatDoor
open Go.RowKit

theorem tmod2 (n : Int) : (n.tmod 2 != 0) = !decide (n % 2 = 0) := by
  rw [Bool.eq_iff_iff]
  simp only [bne_iff_ne, ne_eq, Bool.not_eq_true', decide_eq_false_iff_not]
  rw [← Int.dvd_iff_tmod_eq_zero, ← Int.dvd_iff_emod_eq_zero]
theorem firstE_one {a : Int} (h : ¬ a = 0) (b : Int) : firstE [a, b] = a := by simp [firstE, h]
theorem firstE_two (b : Int) : firstE [0, b] = b := by unfold firstE firstE firstE; split <;> simp_all
theorem two_cells {w : World} {g : Nat} {a b : Int} {t : TypeId} (h : w.heap[g]? = some (.cells #[.int .i64 a, .int .i64 b] t (0, 0))) : ∀ i (hi : i < [a, b].length), w.cell? ⟨g, i, none⟩ = some (.int .i64 [a, b][i]) := by
  intro i hi
  have hi' : i = 0 ∨ i = 1 := by simp at hi; omega
  rcases hi' with rfl | rfl <;> simp [World.cell?, h]

theorem netFirst2 (g c : Nat) (a b : Int) (t : TypeId) (w : World) (h : w.heap[g]? = some (.cells #[.int .i64 a, .int .i64 b] t (0, 0))) :
    Calls Tryz.prog 116 #[.slice (some ⟨g, 0, none⟩) 2 c] w fun e w' => e = .returned (.int .i64 (firstE [a, b])) ∧ w = w' :=
  netFirst g c [a, b] w (by simp) (two_cells h)
def sumE (x y : Int) : Int := firstE [placeE x, placeE y]
theorem sumE_bad {x y : Int} (h : ¬ (farB x = false ∧ farB y = false)) : sumE x y = 3 ∧ knotE x y = 3 := by
  cases hx : farB x <;> cases hy : farB y <;> simp_all [sumE, knotE, placeE, firstE]
theorem sumE_ok {x y : Int} (hx : farB x = false) (hy : farB y = false) : sumE x y = 0 := by simp [sumE, placeE, firstE, hx, hy]

set_option maxHeartbeats 1000000 in
set_option maxRecDepth 100000 in
theorem netCheckKnot (x y : Int) (w : World) :
    Calls Tryz.prog 98 #[.agg #[.int .i64 x, .int .i64 y]] w fun e w' => e = .returned (.int .i64 (knotE x y)) ∧ Below w.heap.size w w' := by
  by_cases hg : farB x = false ∧ farB y = false
  · obtain ⟨hx, hy⟩ := hg
    obtain ⟨h1, h2⟩ := farB_no hx
    obtain ⟨h3, h4⟩ := farB_no hy
    have HS := Lib.hid (sumE_ok hx hy)
    cases he : evenB x y
    all_goals
      have ht := tmod2 (x + y)
      have he' : decide ((x + y) % 2 = 0) = _ := he
      rw [he'] at ht
      have HK := Lib.hid (show knotE x y = _ by simp only [knotE, hx, hy, he]; rfl)
      clear hx hy he he'
      go_enter Tryz.func98, Tryz.ntmps98
      go_wp2_with fail
      obtain ⟨w1, hw1, c0, c1, hb1, hz1⟩ := box2 w (.int .i64 x) (.int .i64 y) 43
      rw [← hw1]
      clear hw1
      refine wp_region_still_tail 6 (by kernel_rfl) (by kernel_rfl) ?_
      simp only [List.take_succ_cons, List.take_zero, List.drop_succ_cons, List.drop_zero]
      still_step
      still_step
      still_call (Calls.mono (netCheckPlace _ _) fun _ _ h => ⟨h.1, h.2.symm⟩)
      still_step
      still_step
      still_call (Calls.mono (netCheckPlace _ _) fun _ _ h => ⟨h.1, h.2.symm⟩)
      refine wpStill_nil ?_
      change wpList _ _ _ _ _ w1.drew
      go_wp2_with fail
      refine (netFirst2 _ _ (placeE x) (placeE y) 30 _ (by exact heap_alloc_new _ _)).mono ?_
      rintro e w2 ⟨rfl, rfl⟩
      rw [show firstE [placeE x, placeE y] = 0 from HS.out]
      go_wp2
      go_ret
      exact ⟨ret_i HK.out.symm, (below_drew hb1).alloc (by show _ ≤ w1.heap.size; omega) _⟩
  · obtain ⟨hs, hk⟩ := sumE_bad hg
    have HS := Lib.hid hs
    have HK := Lib.hid hk
    clear hs hk hg
    go_enter Tryz.func98, Tryz.ntmps98
    go_wp2_with fail
    obtain ⟨w1, hw1, c0, c1, hb1, hz1⟩ := box2 w (.int .i64 x) (.int .i64 y) 43
    rw [← hw1]
    clear hw1
    refine wp_region_still_tail 6 (by kernel_rfl) (by kernel_rfl) ?_
    simp only [List.take_succ_cons, List.take_zero, List.drop_succ_cons, List.drop_zero]
    still_step
    still_step
    still_call (Calls.mono (netCheckPlace _ _) fun _ _ h => ⟨h.1, h.2.symm⟩)
    still_step
    still_step
    still_call (Calls.mono (netCheckPlace _ _) fun _ _ h => ⟨h.1, h.2.symm⟩)
    refine wpStill_nil ?_
    change wpList _ _ _ _ _ w1.drew
    go_wp2_with fail
    refine (netFirst2 _ _ (placeE x) (placeE y) 30 _ (by exact heap_alloc_new _ _)).mono ?_
    rintro e w2 ⟨rfl, rfl⟩
    rw [show firstE [placeE x, placeE y] = 3 from HS.out]
    go_wp2
    go_ret
    exact ⟨ret_i HK.out.symm, (below_drew hb1).alloc (by show _ ≤ w1.heap.size; omega) _⟩
end Go.Proofs.YtfmfpnnglogkmaaGreatDoor

/- The errors of a sheet, and the program's first at three errors. -/
namespace Go.Proofs.YtfmfpnnglogkmaaGreatDoor
open Go.RowKit

theorem three_err {w : World} {g : Nat} {a b c : Int} {t : TypeId} (h : w.heap[g]? = some (.cells #[.int .i64 a, .int .i64 b, .int .i64 c] t (0, 0))) : ∀ i (hi : i < [a, b, c].length), w.cell? ⟨g, i, none⟩ = some (.int .i64 [a, b, c][i]) := by
  intro i hi
  have hi' : i = 0 ∨ i = 1 ∨ i = 2 := by simp at hi; omega
  rcases hi' with rfl | rfl | rfl <;> simp [World.cell?, h]
theorem netFirst3 (g d : Nat) (a b c : Int) (t : TypeId) (w : World) (h : w.heap[g]? = some (.cells #[.int .i64 a, .int .i64 b, .int .i64 c] t (0, 0))) :
    Calls Tryz.prog 116 #[.slice (some ⟨g, 0, none⟩) 3 d] w fun e w' => e = .returned (.int .i64 (firstE [a, b, c])) ∧ w = w' :=
  netFirst g d [a, b, c] w (by simp) (three_err h)
def sideR (n : Int) : Int := if n < 1 ∨ 256 < n then 3 else 0
def sheet1 (x y c r : Int) : Int := firstE [knotE x y, sideR c, sideR r]
def sheetE (x y c r : Int) : Int := if sheet1 x y c r = 0 then (if 4096 < 2 * c * r then 5 else if farB (x + 2 * c) || farB (y + r) then 3 else 0) else sheet1 x y c r
theorem sheet1_zero {x y c r : Int} (h : sheet1 x y c r = 0) : knotE x y = 0 ∧ 1 ≤ c ∧ c ≤ 256 ∧ 1 ≤ r ∧ r ≤ 256 := by
  unfold sheet1 firstE firstE firstE firstE at h
  split at h
  · rename_i h1
    split at h
    · rename_i h2
      split at h
      · rename_i h3
        unfold sideR at h2 h3
        split at h2
        · omega
        · split at h3 <;> omega
      · omega
    · omega
  · omega
theorem sheetE_zero {x y c r : Int} (h : sheetE x y c r = 0) : sheet1 x y c r = 0 ∧ 2 * c * r ≤ 4096 ∧ farB (x + 2 * c) = false ∧ farB (y + r) = false := by
  unfold sheetE at h
  split at h
  · rename_i h1
    split at h
    · omega
    · rename_i h2
      split at h
      · omega
      · rename_i h3
        simp at h3
        exact ⟨h1, by omega, h3.1, h3.2⟩
  · rename_i h1; exact absurd h h1
end Go.Proofs.YtfmfpnnglogkmaaGreatDoor

/- Plain mathematics: what a bar more makes of the knots, the parts and the meshes of a list of bars; no net has fewer than 0 holes. -/
namespace Go.Proofs.YtfmfpnnglogkmaaGreatDoor.Ck

/-! ### one bar more, and what is connected -/
theorem conn_add {l l' : List Bar} {b : Bar} (hm : ∀ x, x ∈ l' ↔ x = b ∨ x ∈ l) {k m : Knot} (h : Conn l' k m) : Conn l k m ∨ (Conn l k b.lo ∧ Conn l b.hi m) ∨ (Conn l k b.hi ∧ Conn l b.lo m) := by
  induction h with
  | refl => exact .inl (.refl _)
  | step x hx ha _ ih =>
    rcases (hm x).1 hx with rfl | hx
    · rcases ha with ⟨rfl, rfl⟩ | ⟨rfl, rfl⟩
      · rcases ih with h | ⟨_, h⟩ | ⟨_, h⟩
        · exact .inr (.inl ⟨.refl _, h⟩)
        · exact .inr (.inl ⟨.refl _, h⟩)
        · exact .inl h
      · rcases ih with h | ⟨_, h⟩ | ⟨_, h⟩
        · exact .inr (.inr ⟨.refl _, h⟩)
        · exact .inl h
        · exact .inr (.inr ⟨.refl _, h⟩)
    · have c := Conn.one hx ha
      rcases ih with h | ⟨h, h'⟩ | ⟨h, h'⟩
      · exact .inl (c.trans h)
      · exact .inr (.inl ⟨c.trans h, h'⟩)
      · exact .inr (.inr ⟨c.trans h, h'⟩)
theorem Conn.eq_of_out {l : List Bar} {k m : Knot} (h : Conn l k m) (hk : k ∉ ends l) : k = m := by
  cases h with
  | refl => rfl
  | step b hb ha _ => exact absurd (ha.ends hb).1 hk

/-- R has one knot of each part. -/
def Rep (l : List Bar) (R : List Knot) : Prop := (∀ r ∈ R, r ∈ ends l) ∧ R.Pairwise (fun a b => ¬ Conn l a b) ∧ ∀ k ∈ ends l, ∃ r ∈ R, Conn l r k
theorem Rep.nodup {l : List Bar} {R : List Knot} (h : Rep l R) : R.Nodup := h.2.1.imp fun {a b} (hn : ¬ Conn l a b) (e : a = b) => hn (by rw [e]; exact .refl _)
theorem Rep.one {l : List Bar} {R : List Knot} (h : Rep l R) {a b : Knot} (ha : a ∈ R) (hb : b ∈ R) (hc : Conn l a b) : a = b := by
  by_cases e : a = b
  · exact e
  · exact absurd hc (List.Pairwise.forall_of_forall_of_flip (R := fun a b => a ≠ b → ¬ Conn l a b) (fun x _ hne => absurd rfl hne) (h.2.1.imp fun {a b} (hn : ¬ Conn l a b) (_ : a ≠ b) => hn) (h.2.1.imp fun {a b} (hn : ¬ Conn l a b) (_ : b ≠ a) (hc : Conn l b a) => hn hc.symm) ha hb e)
theorem Rep.le {l : List Bar} {R R' : List Knot} (h : Rep l R) (h' : Rep l R') : R.length ≤ R'.length := by
  have each : ∀ r, ∃ r', r ∈ R → r' ∈ R' ∧ Conn l r' r := fun r => by
    by_cases hr : r ∈ R
    · obtain ⟨r', h1, h2⟩ := h'.2.2 r (h.1 r hr)
      exact ⟨r', fun _ => ⟨h1, h2⟩⟩
    · exact ⟨r, fun h => absurd h hr⟩
  obtain ⟨f, hf⟩ := Classical.axiomOfChoice each
  have hn : (R.map f).Nodup := by
    rw [List.Nodup, List.pairwise_map]
    refine List.Pairwise.imp_of_mem ?_ h.2.1
    intro a b ha hb hnc e
    exact hnc (((hf a ha).2.symm).trans (e ▸ (hf b hb).2))
  have := hn.length_le_of_subset (l₂ := R') (fun x hx => by
    obtain ⟨r, hr, rfl⟩ := List.mem_map.1 hx
    exact (hf r hr).1)
  rwa [List.length_map] at this
theorem Rep.length {l : List Bar} {R R' : List Knot} (h : Rep l R) (h' : Rep l R') : R.length = R'.length := Nat.le_antisymm (h.le h') (h'.le h)
theorem CntIs.reps {l : List Bar} : ∀ {r : List Bar} {seen : List Knot} {n : Nat}, CntIs l seen r n →
    ∃ R : List Knot, R.length = n ∧ (∀ x ∈ R, ∃ c ∈ r, x = c.lo) ∧ R.Pairwise (fun a b => ¬ Conn l a b) ∧ (∀ x ∈ R, ∀ s ∈ seen, ¬ Conn l s x) ∧ ∀ c ∈ r, (∃ s ∈ seen, Conn l s c.lo) ∨ ∃ x ∈ R, Conn l x c.lo
  | [], _, _, .nil _ => ⟨[], rfl, by simp, .nil, by simp, by simp⟩
  | b :: r, seen, _, .old e h => by
    obtain ⟨R, h1, h2, h3, h4, h5⟩ := h.reps
    refine ⟨R, h1, fun x hx => ?_, h3, fun x hx s hs => h4 x hx s (by simp [hs]), fun c hc => ?_⟩
    · obtain ⟨c, hc, e⟩ := h2 x hx
      exact ⟨c, by simp [hc], e⟩
    · rcases List.mem_cons.1 hc with rfl | hc
      · exact .inl e
      · rcases h5 c hc with ⟨s, hs, hsc⟩ | h
        · rcases List.mem_cons.1 hs with rfl | hs
          · obtain ⟨s0, hs0, h0⟩ := e
            exact .inl ⟨s0, hs0, h0.trans hsc⟩
          · exact .inl ⟨s, hs, hsc⟩
        · exact .inr h
  | b :: r, seen, _, .fresh e h => by
    obtain ⟨R, h1, h2, h3, h4, h5⟩ := h.reps
    refine ⟨b.lo :: R, by simp [h1], fun x hx => ?_, List.pairwise_cons.2 ⟨fun x hx => h4 x hx b.lo (by simp), h3⟩, fun x hx s hs => ?_, fun c hc => ?_⟩
    · rcases List.mem_cons.1 hx with rfl | hx
      · exact ⟨b, by simp, rfl⟩
      · obtain ⟨c, hc, e⟩ := h2 x hx
        exact ⟨c, by simp [hc], e⟩
    · rcases List.mem_cons.1 hx with rfl | hx
      · exact fun hc => e ⟨s, hs, hc⟩
      · exact h4 x hx s (by simp [hs])
    · rcases List.mem_cons.1 hc with rfl | hc
      · exact .inr ⟨_, by simp, .refl _⟩
      · rcases h5 c hc with ⟨s, hs, hsc⟩ | ⟨x, hx, h⟩
        · rcases List.mem_cons.1 hs with rfl | hs
          · exact .inr ⟨_, by simp, hsc⟩
          · exact .inl ⟨s, hs, hsc⟩
        · exact .inr ⟨x, by simp [hx], h⟩
theorem PartsIs.rep {l : List Bar} {p : Nat} (h : PartsIs l p) : ∃ R, Rep l R ∧ R.length = p := by
  obtain ⟨R, h1, h2, h3, _, h5⟩ := CntIs.reps h
  refine ⟨R, ⟨fun r hr => ?_, h3, fun k hk => ?_⟩, h1⟩
  · obtain ⟨c, hc, rfl⟩ := h2 r hr
    exact lo_ends hc
  · obtain ⟨c, hc, e⟩ := mem_ends.1 hk
    rcases h5 c hc with ⟨s, hs, _⟩ | ⟨x, hx, hxc⟩
    · simp at hs
    · rcases e with rfl | rfl
      · exact ⟨x, hx, hxc⟩
      · exact ⟨x, hx, hxc.trans (.one hc (.inl ⟨rfl, rfl⟩))⟩
theorem PartsIs.eq_rep {l : List Bar} {p : Nat} (h : PartsIs l p) {R : List Knot} (hR : Rep l R) : p = R.length := by
  obtain ⟨R', h1, h2⟩ := h.rep
  rw [← h2, h1.length hR]

/-! ### the parts of a list with one bar more -/
theorem ends_add {l l' : List Bar} {b : Bar} (hm : ∀ x, x ∈ l' ↔ x = b ∨ x ∈ l) (k : Knot) : k ∈ ends l' ↔ k = b.lo ∨ k = b.hi ∨ k ∈ ends l := by
  rw [mem_ends, mem_ends]
  constructor
  · rintro ⟨x, hx, h⟩
    rcases (hm x).1 hx with rfl | hx
    · rcases h with h | h
      · exact .inl h
      · exact .inr (.inl h)
    · exact .inr (.inr ⟨x, hx, h⟩)
  · rintro (h | h | ⟨x, hx, h⟩)
    · exact ⟨b, (hm b).2 (.inl rfl), .inl h⟩
    · exact ⟨b, (hm b).2 (.inl rfl), .inr h⟩
    · exact ⟨x, (hm x).2 (.inr hx), h⟩
theorem conn_more {l l' : List Bar} {b : Bar} (hm : ∀ x, x ∈ l' ↔ x = b ∨ x ∈ l) {k m : Knot} (h : Conn l k m) : Conn l' k m := h.mono fun x hx => (hm x).2 (.inr hx)
theorem conn_bar {l l' : List Bar} {b : Bar} (hm : ∀ x, x ∈ l' ↔ x = b ∨ x ∈ l) : Conn l' b.lo b.hi := .one ((hm b).2 (.inl rfl)) (.inl ⟨rfl, rfl⟩)
/-- Both ends were connected: the parts stay. -/
theorem rep_same {l l' : List Bar} {b : Bar} (hm : ∀ x, x ∈ l' ↔ x = b ∨ x ∈ l) (hlo : b.lo ∈ ends l) (hhi : b.hi ∈ ends l) (hc : Conn l b.lo b.hi) {R : List Knot} (h : Rep l R) : Rep l' R := by
  have back : ∀ {k m : Knot}, Conn l' k m → Conn l k m := fun hk => by
    rcases conn_add hm hk with h | ⟨h, h'⟩ | ⟨h, h'⟩
    · exact h
    · exact (h.trans hc).trans h'
    · exact (h.trans hc.symm).trans h'
  refine ⟨fun r hr => (ends_add hm r).2 (.inr (.inr (h.1 r hr))), h.2.1.imp fun hn hc' => hn (back hc'), fun k hk => ?_⟩
  have hk' : k ∈ ends l := by
    rcases (ends_add hm k).1 hk with rfl | rfl | h
    · exact hlo
    · exact hhi
    · exact h
  obtain ⟨r, hr, hrk⟩ := h.2.2 k hk'
  exact ⟨r, hr, conn_more hm hrk⟩
/-- Both ends were knots of different parts: these are one part now. -/
theorem rep_less {l l' : List Bar} {b : Bar} (hm : ∀ x, x ∈ l' ↔ x = b ∨ x ∈ l) (hlo : b.lo ∈ ends l) (hhi : b.hi ∈ ends l) (hc : ¬ Conn l b.lo b.hi) {R : List Knot} (h : Rep l R) : ∃ R', Rep l' R' ∧ R'.length + 1 = R.length := by
  obtain ⟨r1, h1, c1⟩ := h.2.2 _ hlo
  obtain ⟨r2, h2, c2⟩ := h.2.2 _ hhi
  have hne : r1 ≠ r2 := by
    rintro rfl
    exact hc (c1.symm.trans c2)
  have hnd := h.nodup
  have mem : ∀ x, x ∈ R.erase r2 ↔ x ≠ r2 ∧ x ∈ R := fun x => hnd.mem_erase_iff
  refine ⟨R.erase r2, ⟨fun r hr => (ends_add hm r).2 (.inr (.inr (h.1 r ((mem r).1 hr).2))), ?_, fun k hk => ?_⟩, ?_⟩
  · refine List.Pairwise.imp_of_mem ?_ (h.2.1.sublist (List.erase_sublist ..))
    intro a c ha hc' hn hac
    obtain ⟨ha1, ha2⟩ := (mem a).1 ha
    obtain ⟨hc1, hc2⟩ := (mem c).1 hc'
    rcases conn_add hm hac with h' | ⟨_, h'⟩ | ⟨h', _⟩
    · exact hn h'
    · exact hc1 (h.one h2 hc2 (c2.trans h')).symm
    · exact ha1 (h.one ha2 h2 (h'.trans c2.symm))
  · have go : ∀ k ∈ ends l, ∃ r ∈ R.erase r2, Conn l' r k := fun k hk => by
      obtain ⟨r, hr, hrk⟩ := h.2.2 k hk
      by_cases e : r = r2
      · subst e
        exact ⟨r1, (mem r1).2 ⟨hne, h1⟩, ((conn_more hm c1).trans (conn_bar hm)).trans ((conn_more hm c2.symm).trans (conn_more hm hrk))⟩
      · exact ⟨r, (mem r).2 ⟨e, hr⟩, conn_more hm hrk⟩
    rcases (ends_add hm k).1 hk with rfl | rfl | hk
    · exact go _ hlo
    · exact go _ hhi
    · exact go _ hk
  · rw [List.length_erase_of_mem h2]
    have : 0 < R.length := List.length_pos_of_mem h2
    omega
/-- One end was a knot, the other one was none: the parts stay. -/
theorem rep_hang {l l' : List Bar} {b : Bar} (hm : ∀ x, x ∈ l' ↔ x = b ∨ x ∈ l) (hx : b.lo ∈ ends l ∧ b.hi ∉ ends l ∨ b.lo ∉ ends l ∧ b.hi ∈ ends l) {R : List Knot} (h : Rep l R) : Rep l' R := by
  have back : ∀ {k m : Knot}, k ∈ ends l → m ∈ ends l → Conn l' k m → Conn l k m := fun hk hm' hc => by
    rcases conn_add hm hc with h' | ⟨h1, h2⟩ | ⟨h1, h2⟩
    · exact h'
    · rcases hx with ⟨_, hn⟩ | ⟨hn, _⟩
      · exact absurd (h2.eq_of_out hn ▸ hm') hn
      · exact absurd (h1.symm.eq_of_out hn ▸ hk) hn
    · rcases hx with ⟨_, hn⟩ | ⟨hn, _⟩
      · exact absurd (h1.symm.eq_of_out hn ▸ hk) hn
      · exact absurd (h2.eq_of_out hn ▸ hm') hn
  refine ⟨fun r hr => (ends_add hm r).2 (.inr (.inr (h.1 r hr))), List.Pairwise.imp_of_mem (fun {a c} ha hc hn hac => hn (back (h.1 a ha) (h.1 c hc) hac)) h.2.1, fun k hk => ?_⟩
  have go : ∀ k ∈ ends l, ∃ r ∈ R, Conn l' r k := fun k hk => by
    obtain ⟨r, hr, hrk⟩ := h.2.2 k hk
    exact ⟨r, hr, conn_more hm hrk⟩
  rcases (ends_add hm k).1 hk with rfl | rfl | hk
  · rcases hx with ⟨hl, _⟩ | ⟨_, hh⟩
    · exact go _ hl
    · obtain ⟨r, hr, hrk⟩ := go _ hh
      exact ⟨r, hr, hrk.trans (conn_bar hm).symm⟩
  · rcases hx with ⟨hl, _⟩ | ⟨_, hh⟩
    · obtain ⟨r, hr, hrk⟩ := go _ hl
      exact ⟨r, hr, hrk.trans (conn_bar hm)⟩
    · exact go _ hh
  · exact go _ hk
/-- No end was a knot: one part more. -/
theorem rep_more {l l' : List Bar} {b : Bar} (hm : ∀ x, x ∈ l' ↔ x = b ∨ x ∈ l) (hlo : b.lo ∉ ends l) (hhi : b.hi ∉ ends l) {R : List Knot} (h : Rep l R) : Rep l' (b.lo :: R) := by
  have back : ∀ {k m : Knot}, k ∈ ends l → m ∈ ends l → Conn l' k m → Conn l k m := fun hk hm' hc => by
    rcases conn_add hm hc with h' | ⟨h1, h2⟩ | ⟨h1, h2⟩
    · exact h'
    · exact absurd (h2.eq_of_out hhi ▸ hm') hhi
    · exact absurd (h2.eq_of_out hlo ▸ hm') hlo
  refine ⟨fun r hr => ?_, List.pairwise_cons.2 ⟨fun r hr hc => ?_, List.Pairwise.imp_of_mem (fun {a c} ha hc hn hac => hn (back (h.1 a ha) (h.1 c hc) hac)) h.2.1⟩, fun k hk => ?_⟩
  · rcases List.mem_cons.1 hr with rfl | hr
    · exact (ends_add hm _).2 (.inl rfl)
    · exact (ends_add hm r).2 (.inr (.inr (h.1 r hr)))
  · have hr' := h.1 r hr
    rcases conn_add hm hc with h' | ⟨_, h2⟩ | ⟨h1, _⟩
    · exact hlo (h'.eq_of_out hlo ▸ hr')
    · exact hhi (h2.eq_of_out hhi ▸ hr')
    · have e := h1.eq_of_out hlo
      have := congrArg Knot.y e
      simp only [Bar.lo, Bar.hi] at this
      omega
  · rcases (ends_add hm k).1 hk with rfl | rfl | hk
    · exact ⟨_, by simp, .refl _⟩
    · exact ⟨_, by simp, conn_bar hm⟩
    · obtain ⟨r, hr, hrk⟩ := h.2.2 k hk
      exact ⟨r, by simp [hr], conn_more hm hrk⟩

/-! ### the knots of a list with one bar more -/
theorem lo_ne_hi (b : Bar) : b.lo ≠ b.hi := fun e => by
  have := congrArg Knot.y e
  simp only [Bar.lo, Bar.hi] at this
  omega
theorem nK_cons {ks : List Knot} (h : ks.Nodup) {l : List Bar} (hm : ∀ k, k ∈ ks ↔ k ∈ ends l) : nK l = ks.length := (nK_eq h hm).symm
theorem nK_more {l l' : List Bar} {b : Bar} (hm : ∀ x, x ∈ l' ↔ x = b ∨ x ∈ l) : nK l' = nK l + (if b.lo ∈ ends l then 0 else 1) + (if b.hi ∈ ends l then 0 else 1) := by
  have hn := nub_nodup (ends l)
  have hne := lo_ne_hi b
  by_cases h1 : b.lo ∈ ends l <;> by_cases h2 : b.hi ∈ ends l
  · rw [if_pos h1, if_pos h2]
    exact nK_cons hn fun k => by
      rw [mem_nub, ends_add hm]
      constructor
      · exact fun h => .inr (.inr h)
      · rintro (rfl | rfl | h)
        · exact h1
        · exact h2
        · exact h
  · rw [if_pos h1, if_neg h2]
    refine (nK_cons (ks := b.hi :: nub (ends l)) (List.nodup_cons.2 ⟨fun h => h2 (mem_nub.1 h), hn⟩) fun k => ?_).trans (by simp [nK])
    rw [List.mem_cons, mem_nub, ends_add hm]
    constructor
    · rintro (h | h)
      · exact .inr (.inl h)
      · exact .inr (.inr h)
    · rintro (rfl | h | h)
      · exact .inr h1
      · exact .inl h
      · exact .inr h
  · rw [if_neg h1, if_pos h2]
    refine (nK_cons (ks := b.lo :: nub (ends l)) (List.nodup_cons.2 ⟨fun h => h1 (mem_nub.1 h), hn⟩) fun k => ?_).trans (by simp [nK])
    rw [List.mem_cons, mem_nub, ends_add hm]
    constructor
    · rintro (h | h)
      · exact .inl h
      · exact .inr (.inr h)
    · rintro (h | rfl | h)
      · exact .inl h
      · exact .inr h2
      · exact .inr h
  · rw [if_neg h1, if_neg h2]
    refine (nK_cons (ks := b.lo :: b.hi :: nub (ends l)) (List.nodup_cons.2 ⟨fun h => ?_, List.nodup_cons.2 ⟨fun h => h2 (mem_nub.1 h), hn⟩⟩) fun k => ?_).trans (by simp [nK])
    · rcases List.mem_cons.1 h with h | h
      · exact hne h
      · exact h1 (mem_nub.1 h)
    · rw [List.mem_cons, List.mem_cons, mem_nub, ends_add hm]

/-- Bars and parts, less the knots: a bar more between connected knots makes it one more, any other one leaves it. -/
theorem rank_more {l l' : List Bar} {b : Bar} (hm : ∀ x, x ∈ l' ↔ x = b ∨ x ∈ l) {p p' : Nat} (hp : PartsIs l p) (hp' : PartsIs l' p') :
    (b.lo ∈ ends l ∧ b.hi ∈ ends l ∧ Conn l b.lo b.hi ∧ p' = p ∧ nK l' = nK l) ∨ (¬ (b.lo ∈ ends l ∧ b.hi ∈ ends l ∧ Conn l b.lo b.hi) ∧ 1 + p' + nK l = p + nK l') := by
  obtain ⟨R, hR, rfl⟩ := hp.rep
  have hk := nK_more hm
  by_cases h1 : b.lo ∈ ends l <;> by_cases h2 : b.hi ∈ ends l
  · by_cases hc : Conn l b.lo b.hi
    · exact .inl ⟨h1, h2, hc, hp'.eq_rep (rep_same hm h1 h2 hc hR), by rw [hk, if_pos h1, if_pos h2, Nat.add_zero]⟩
    · obtain ⟨R', hR', hl⟩ := rep_less hm h1 h2 hc hR
      have := hp'.eq_rep hR'
      rw [if_pos h1, if_pos h2] at hk
      exact .inr ⟨fun h => hc h.2.2, by omega⟩
  · have := hp'.eq_rep (rep_hang hm (.inl ⟨h1, h2⟩) hR)
    rw [if_pos h1, if_neg h2] at hk
    exact .inr ⟨fun h => h2 h.2.1, by omega⟩
  · have := hp'.eq_rep (rep_hang hm (.inr ⟨h1, h2⟩) hR)
    rw [if_neg h1, if_pos h2] at hk
    exact .inr ⟨fun h => h1 h.1, by omega⟩
  · have := hp'.eq_rep (rep_more hm h1 h2 hR)
    rw [List.length_cons] at this
    rw [if_neg h1, if_neg h2] at hk
    exact .inr ⟨fun h => h1 h.1, by omega⟩

/-! ### no net has fewer than 0 holes -/
theorem countP_one {l : List Bar} (hn : l.Nodup) (P P' : Bar → Bool) (x0 : Bar) (h : ∀ x ∈ l, P' x = true → P x = true ∨ x = x0) : l.countP P' ≤ l.countP P + 1 := by
  induction l with
  | nil => simp
  | cons a r ih =>
    obtain ⟨h1, h2⟩ := List.nodup_cons.1 hn
    by_cases ha : a = x0
    · have : r.countP P' ≤ r.countP P := List.countP_mono_left fun x hx hp => by
        rcases h x (by simp [hx]) hp with h' | h'
        · exact h'
        · subst h'; exact absurd (ha ▸ hx) h1
      rw [List.countP_cons, List.countP_cons]
      split <;> split <;> omega
    · have := ih h2 fun x hx => h x (by simp [hx])
      have hh := h a (by simp)
      rw [List.countP_cons, List.countP_cons]
      by_cases hp : P' a = true
      · rcases hh hp with h' | h'
        · simp [hp, h']; omega
        · exact absurd h' ha
      · simp [hp]
        split <;> omega
theorem euler_snoc {l : List Bar} {b : Bar} (hN : Net (l ++ [b])) : nM (l ++ [b]) ≤ nM l ∨ (nM (l ++ [b]) ≤ nM l + 1 ∧ b.lo ∈ ends l ∧ b.hi ∈ ends l ∧ Conn l b.lo b.hi) := by
  have hlt : ∀ x ∈ l, Blt x b := fun x hx => (List.pairwise_append.1 hN.2).2.2 x hx b (by simp)
  have hnd : l.Nodup := (List.nodup_append.1 hN.nodup).1
  have hin : ∀ x, x ∈ l ++ [b] ↔ x ∈ l ∨ x = b := fun x => by simp
  have hb : isMesh (l ++ [b]) b = false := by
    have hno : (⟨b.x - 1, b.y + 1, 1⟩ : Bar) ∉ l ++ [b] := fun h => by
      rcases (hin _).1 h with h | h
      · have := hlt _ h
        unfold Blt at this
        simp only at this
        omega
      · have := congrArg Bar.y h
        simp only at this
        omega
    simp [isMesh, hno]
  have hcount : nM (l ++ [b]) = l.countP (isMesh (l ++ [b])) := by
    rw [nM, List.countP_append]
    simp [hb]
  have hlast : ∀ x ∈ l, isMesh (l ++ [b]) x = true → isMesh l x = true ∨ (b = ⟨x.x + 1, x.y + 1, -1⟩ ∧ x.s = -1 ∧ (⟨x.x, x.y, 1⟩ : Bar) ∈ l ∧ (⟨x.x - 1, x.y + 1, 1⟩ : Bar) ∈ l) := fun x hx hm => by
    simp only [isMesh, Bool.and_eq_true, decide_eq_true_eq] at hm ⊢
    obtain ⟨m1, m2, m3, m4⟩ := hm
    rcases (hin _).1 m4 with h4 | h4
    · have g4 := hlt _ h4
      have h2 : (⟨x.x, x.y, 1⟩ : Bar) ∈ l := by
        rcases (hin _).1 m2 with h | h
        · exact h
        · rw [← h] at g4; unfold Blt at g4; simp only at g4; omega
      have h3 : (⟨x.x - 1, x.y + 1, 1⟩ : Bar) ∈ l := by
        rcases (hin _).1 m3 with h | h
        · exact h
        · rw [← h] at g4; unfold Blt at g4; simp only at g4; omega
      exact .inl ⟨m1, h2, h3, h4⟩
    · have h2 : (⟨x.x, x.y, 1⟩ : Bar) ∈ l := by
        rcases (hin _).1 m2 with h | h
        · exact h
        · rw [← h] at h4
          have := congrArg Bar.y h4
          simp only at this
          omega
      have h3 : (⟨x.x - 1, x.y + 1, 1⟩ : Bar) ∈ l := by
        rcases (hin _).1 m3 with h | h
        · exact h
        · rw [← h] at h4
          have := congrArg Bar.x h4
          simp only at this
          omega
      exact .inr ⟨h4.symm, m1, h2, h3⟩
  by_cases hnew : ∃ x ∈ l, b = ⟨x.x + 1, x.y + 1, -1⟩ ∧ x.s = -1 ∧ (⟨x.x, x.y, 1⟩ : Bar) ∈ l ∧ (⟨x.x - 1, x.y + 1, 1⟩ : Bar) ∈ l
  · obtain ⟨x, hx, hbx, hs, h2, h3⟩ := hnew
    refine .inr ⟨?_, ?_⟩
    · rw [hcount, nM]
      refine countP_one hnd _ _ x fun z hz hm => ?_
      rcases hlast z hz hm with h | ⟨h, hzs, _, _⟩
      · exact .inl h
      · right
        rw [hbx] at h
        obtain ⟨e1, e2, _⟩ := (Bar.mk.injEq ..).mp h
        exact Bar.ext' (by omega) (by omega) (by omega)
    · have c1 : Conn l ⟨x.x + 1, x.y + 1⟩ ⟨x.x, x.y⟩ := .one h2 (.inr ⟨rfl, rfl⟩)
      have c2 : Conn l ⟨x.x, x.y⟩ ⟨x.x - 1, x.y + 1⟩ := .one hx (.inl ⟨rfl, by simp [Bar.hi, hs]; omega⟩)
      have c3 : Conn l ⟨x.x - 1, x.y + 1⟩ ⟨x.x, x.y + 2⟩ := .one h3 (.inl ⟨rfl, by simp [Bar.hi]; omega⟩)
      have e1 : b.lo = ⟨x.x + 1, x.y + 1⟩ := by rw [hbx]; rfl
      have e2 : b.hi = ⟨x.x, x.y + 2⟩ := by rw [hbx]; simp [Bar.hi]; omega
      rw [e1, e2]
      refine ⟨mem_ends.2 ⟨_, h2, .inr rfl⟩, mem_ends.2 ⟨_, h3, .inr (by simp [Bar.hi]; omega)⟩, (c1.trans c2).trans c3⟩
  · left
    rw [hcount, nM]
    refine List.countP_mono_left fun z hz hm => ?_
    rcases hlast z hz hm with h | h
    · exact h
    · exact absurd ⟨z, hz, h⟩ hnew
theorem euler : ∀ (n : Nat) {l : List Bar}, l.length = n → Net l → ∀ {p : Nat}, PartsIs l p → nM l + nK l ≤ l.length + p
  | 0, l, hl, _, _, _ => by
    have : l = [] := List.eq_nil_of_length_eq_zero hl
    subst this
    simp [nM, nK, ends, nub]
  | n + 1, l, hl, hN, p, hp => by
    have hne : l ≠ [] := fun e => by subst e; simp at hl
    obtain ⟨r, b, rfl⟩ : ∃ r b, l = r ++ [b] := ⟨l.dropLast, l.getLast hne, (List.dropLast_concat_getLast hne).symm⟩
    have hN' : Net r := ⟨fun x hx => hN.1 x (by simp [hx]), (List.pairwise_append.1 hN.2).1⟩
    obtain ⟨q, hq⟩ := CntIs.total (l := r) r []
    have ih := euler n (by simpa using hl) hN' hq
    have hm : ∀ x, x ∈ r ++ [b] ↔ x = b ∨ x ∈ r := fun x => by simp [or_comm]
    have hr := rank_more hm hq hp
    have hs := euler_snoc hN
    rw [List.length_append, List.length_singleton]
    rcases hr with ⟨_, _, _, e1, e2⟩ | ⟨hn, e⟩
    · rcases hs with h | ⟨h, _⟩ <;> omega
    · rcases hs with h | ⟨_, h1, h2, h3⟩
      · omega
      · exact absurd ⟨h1, h2, h3⟩ hn
end Go.Proofs.YtfmfpnnglogkmaaGreatDoor.Ck

/- Edges of tapers: plain mathematics of the bars that a word follows. -/
namespace Go.Proofs.YtfmfpnnglogkmaaGreatDoor
open Ck

def dxL (c : UInt8) : Int := if c = 84 then 2 else if c = 66 then 1 else 0
def dyL (c : UInt8) : Int := if c = 78 then 2 else if c = 66 then 1 else 0
def isL (c : UInt8) : Prop := c = 78 ∨ c = 66 ∨ c = 84
def stepK (σ : Int) (k : Knot) (c : UInt8) : Knot := ⟨k.x + σ * dxL c, k.y + dyL c⟩
def barsP (σ : Int) : Knot → List UInt8 → List Bar
  | _, [] => []
  | k, c :: r => if c = 66 then ⟨k.x, k.y, σ⟩ :: barsP σ (stepK σ k c) r else barsP σ (stepK σ k c) r
/-- Does the word begin with a bar? -/
def headB : List UInt8 → Bool
  | 66 :: _ => true
  | _ => false
/-- The runs of bars, counted at their ends. -/
def endsR : List UInt8 → Nat
  | [] => 0
  | c :: r => (if c = 66 then (if headB r = true then 0 else 1) else 0) + endsR r
def barsN (l : List UInt8) : Nat := l.countP fun c => decide (c = 66)

theorem dyL_nonneg (c : UInt8) : 0 ≤ dyL c := by unfold dyL; split <;> (try split) <;> omega
theorem step_y (σ : Int) (k : Knot) (c : UInt8) : (stepK σ k c).y = k.y + dyL c := rfl
theorem step_B (σ : Int) (k : Knot) : stepK σ k 66 = ⟨k.x + σ, k.y + 1⟩ := by simp [stepK, dxL, dyL]
theorem barsP_cons (σ : Int) (k : Knot) (c : UInt8) (r : List UInt8) : barsP σ k (c :: r) = if c = 66 then ⟨k.x, k.y, σ⟩ :: barsP σ (stepK σ k c) r else barsP σ (stepK σ k c) r := rfl
theorem barsP_ge {σ : Int} : ∀ {l : List UInt8} {k : Knot} {b : Bar}, b ∈ barsP σ k l → k.y ≤ b.y ∧ b.s = σ
  | [], _, _, h => by simp [barsP] at h
  | c :: r, k, b, h => by
    have hd := dyL_nonneg c
    rw [barsP_cons] at h
    split at h
    · rcases List.mem_cons.1 h with rfl | h
      · exact ⟨Int.le_refl _, rfl⟩
      · have := barsP_ge h
        rw [step_y] at this
        exact ⟨by omega, this.2⟩
    · have := barsP_ge h
      rw [step_y] at this
      exact ⟨by omega, this.2⟩
theorem barsP_pair {σ : Int} : ∀ (l : List UInt8) (k : Knot), (barsP σ k l).Pairwise fun a b => a.y < b.y
  | [], _ => by simp [barsP]
  | c :: r, k => by
    rw [barsP_cons]
    split
    · rename_i h
      subst h
      refine List.pairwise_cons.2 ⟨fun b hb => ?_, barsP_pair r _⟩
      have := (barsP_ge hb).1
      rw [step_B] at this
      simp only at this ⊢
      omega
    · exact barsP_pair r _
theorem barsP_length {σ : Int} : ∀ (l : List UInt8) (k : Knot), (barsP σ k l).length = barsN l
  | [], _ => rfl
  | c :: r, k => by
    rw [barsP_cons, barsN, List.countP_cons]
    split
    · rename_i h
      simp [h, barsP_length r, barsN]
    · rename_i h
      simp [h, barsP_length r, barsN]
/-- The height of a knot along the way: each letter adds 2. -/
theorem ends_far {σ : Int} (hσ : σ = 1 ∨ σ = -1) : ∀ {l : List UInt8} {k e : Knot}, (∀ c ∈ l, isL c) → e ∈ ends (barsP σ k l) → σ * k.x + k.y ≤ σ * e.x + e.y
  | [], _, _, _, h => by simp [barsP, ends] at h
  | c :: r, k, e, hl, h => by
    have hc := hl c (by simp)
    have hr : ∀ c ∈ r, isL c := fun c' h' => hl c' (by simp [h'])
    have hs : σ * (stepK σ k c).x + (stepK σ k c).y = σ * k.x + k.y + 2 := by
      rcases hc with rfl | rfl | rfl <;> rcases hσ with rfl | rfl <;> simp [stepK, dxL, dyL] <;> omega
    rw [barsP_cons] at h
    split at h
    · rename_i h66
      rw [mem_ends] at h
      obtain ⟨b, hb, he⟩ := h
      rcases List.mem_cons.1 hb with rfl | hb
      · rcases he with rfl | rfl
        · exact Int.le_refl _
        · rcases hσ with rfl | rfl <;> simp [Bar.hi] <;> omega
      · have := ends_far hσ hr (mem_ends.2 ⟨b, hb, he⟩)
        omega
    · have := ends_far hσ hr h
      omega
theorem start_end {σ : Int} (hσ : σ = 1 ∨ σ = -1) {l : List UInt8} {k : Knot} (hl : ∀ c ∈ l, isL c) : k ∈ ends (barsP σ k l) ↔ headB l = true := by
  match l with
  | [] => simp [barsP, ends, headB]
  | c :: r =>
    have hr : ∀ c ∈ r, isL c := fun c' h' => hl c' (by simp [h'])
    have hs : σ * (stepK σ k c).x + (stepK σ k c).y = σ * k.x + k.y + 2 := by
      rcases hl c (by simp) with rfl | rfl | rfl <;> rcases hσ with rfl | rfl <;> simp [stepK, dxL, dyL] <;> omega
    by_cases h66 : c = 66
    · subst h66
      refine ⟨fun _ => rfl, fun _ => mem_ends.2 ⟨⟨k.x, k.y, σ⟩, by rw [barsP_cons]; simp, .inl rfl⟩⟩
    · have hh : headB (c :: r) = false := by
        unfold headB
        split
        · rename_i h; cases h; exact absurd rfl h66
        · rfl
      rw [hh, barsP_cons, if_neg h66]
      refine ⟨fun h => ?_, fun h => by cases h⟩
      have := ends_far hσ hr h
      omega
/-- Knots and parts of an edge. -/
theorem barsP_parts {σ : Int} (hσ : σ = 1 ∨ σ = -1) : ∀ {l : List UInt8} {k : Knot}, (∀ c ∈ l, isL c) → PartsIs (barsP σ k l) (endsR l) ∧ nK (barsP σ k l) = barsN l + endsR l
  | [], k, _ => ⟨.nil _, by simp [barsP, nK, ends, nub, barsN, endsR]⟩
  | c :: r, k, hl => by
    have hr : ∀ c ∈ r, isL c := fun c' h' => hl c' (by simp [h'])
    obtain ⟨ih1, ih2⟩ := barsP_parts hσ (l := r) (k := stepK σ k c) hr
    by_cases h66 : c = 66
    · subst h66
      rw [barsP_cons, if_pos rfl]
      have hm : ∀ x, x ∈ (⟨k.x, k.y, σ⟩ :: barsP σ (stepK σ k 66) r : List Bar) ↔ x = (⟨k.x, k.y, σ⟩ : Bar) ∨ x ∈ barsP σ (stepK σ k 66) r := fun x => List.mem_cons
      obtain ⟨p', hp'⟩ := CntIs.total (l := ⟨k.x, k.y, σ⟩ :: barsP σ (stepK σ k 66) r) (⟨k.x, k.y, σ⟩ :: barsP σ (stepK σ k 66) r) []
      have hlo : (⟨k.x, k.y, σ⟩ : Bar).lo ∉ ends (barsP σ (stepK σ k 66) r) := fun h => by
        have := ends_far hσ hr h
        rw [step_B] at this
        rcases hσ with rfl | rfl <;> simp [Bar.lo] at this <;> omega
      have hhi : (⟨k.x, k.y, σ⟩ : Bar).hi ∈ ends (barsP σ (stepK σ k 66) r) ↔ headB r = true := by
        rw [← start_end hσ (k := stepK σ k 66) hr, step_B]
        exact Iff.rfl
      have hk := nK_more hm
      rw [if_neg hlo] at hk
      have he : endsR (66 :: r) = (if headB r = true then 0 else 1) + endsR r := by simp [endsR]
      have hn : barsN (66 :: r) = barsN r + 1 := by simp [barsN]
      rcases rank_more hm ih1 hp' with h | ⟨_, h⟩
      · exact absurd h.1 hlo
      · by_cases hb : headB r = true
        · rw [if_pos (hhi.2 hb)] at hk
          rw [if_pos hb] at he
          have : p' = endsR (66 :: r) := by omega
          subst this
          exact ⟨hp', by omega⟩
        · rw [if_neg (fun h' => hb (hhi.1 h'))] at hk
          rw [if_neg hb] at he
          have : p' = endsR (66 :: r) := by omega
          subst this
          exact ⟨hp', by omega⟩
    · have he : endsR (c :: r) = endsR r := by simp [endsR, h66]
      have hn : barsN (c :: r) = barsN r := by simp [barsN, h66]
      rw [barsP_cons, if_neg h66, he, hn]
      exact ⟨ih1, ih2⟩
theorem barsP_meshes {σ : Int} (l : List UInt8) (k : Knot) : nM (barsP σ k l) = 0 := by
  rw [nM, List.countP_eq_zero]
  intro b hb h
  simp only [isMesh, Bool.and_eq_true, decide_eq_true_eq] at h
  have h1 := (barsP_ge hb).2
  have h2 := (barsP_ge h.2.1).2
  simp only at h2
  omega
/-- The runs of bars, counted at their beginnings; the letter before them is known. -/
def startsR : UInt8 → List UInt8 → Nat
  | _, [] => 0
  | a, c :: r => (if c = 66 ∧ a ≠ 66 then 1 else 0) + startsR c r
theorem starts_ends : ∀ (l : List UInt8) (a : UInt8), startsR a l + (if a = 66 ∧ headB l = true then 1 else 0) = endsR l
  | [], a => by simp [startsR, endsR, headB]
  | c :: r, a => by
    have ih := starts_ends r c
    have hh : headB (c :: r) = decide (c = 66) := by
      by_cases h : c = 66
      · subst h; rfl
      · unfold headB
        split
        · rename_i h'; cases h'; exact absurd rfl h
        · simp [h]
    rw [startsR, endsR, hh]
    by_cases h1 : c = 66 <;> by_cases h2 : a = 66 <;> by_cases h3 : headB r = true <;> simp [h1, h2, h3] at ih ⊢ <;> omega
/-- Mirrored and shifted edges. -/
def mirB (b : Bar) : Bar := ⟨-b.x, b.y, -b.s⟩
theorem barsP_mirror (σ : Int) : ∀ (l : List UInt8) (k : Knot), barsP (-σ) ⟨-k.x, k.y⟩ l = (barsP σ k l).map mirB
  | [], _ => rfl
  | c :: r, k => by
    have hs : stepK (-σ) ⟨-k.x, k.y⟩ c = ⟨-(stepK σ k c).x, (stepK σ k c).y⟩ := by
      simp only [stepK, Int.neg_mul, Int.neg_add]
    rw [barsP_cons, barsP_cons, hs, barsP_mirror σ r]
    split <;> simp [mirB]
def shB (dx dy : Int) (b : Bar) : Bar := ⟨b.x + dx, b.y + dy, b.s⟩
theorem barsP_shift (σ dx dy : Int) : ∀ (l : List UInt8) (k : Knot), barsP σ ⟨k.x + dx, k.y + dy⟩ l = (barsP σ k l).map (shB dx dy)
  | [], _ => rfl
  | c :: r, k => by
    have hs : stepK σ ⟨k.x + dx, k.y + dy⟩ c = ⟨(stepK σ k c).x + dx, (stepK σ k c).y + dy⟩ := by
      simp only [stepK, Knot.mk.injEq]
      omega
    rw [barsP_cons, barsP_cons, hs, barsP_shift σ dx dy r]
    split <;> simp [shB]
theorem barsP_lt {σ : Int} (l : List UInt8) (k : Knot) : (barsP σ k l).Pairwise Blt := (barsP_pair l k).imp fun h => .inl h
/-- How far a word leads. -/
theorem barsP_near {σ : Int} (hσ : σ = 1 ∨ σ = -1) : ∀ {l : List UInt8} {k : Knot} {b : Bar}, b ∈ barsP σ k l → k.x - 2 * (l.length : Int) ≤ b.x ∧ b.x ≤ k.x + 2 * (l.length : Int) ∧ b.y ≤ k.y + 2 * (l.length : Int) ∧ (((k.x + k.y) % 2 = 0 → (∀ c ∈ l, isL c) → (b.x + b.y) % 2 = 0))
  | [], _, _, h => by simp [barsP] at h
  | c :: r, k, b, h => by
    have hd : 0 ≤ dxL c ∧ dxL c ≤ 2 ∧ 0 ≤ dyL c ∧ dyL c ≤ 2 ∧ (isL c → dxL c + dyL c = 2) := by
      refine ⟨?_, ?_, ?_, ?_, fun h => ?_⟩
      · unfold dxL; split <;> (try split) <;> omega
      · unfold dxL; split <;> (try split) <;> omega
      · unfold dyL; split <;> (try split) <;> omega
      · unfold dyL; split <;> (try split) <;> omega
      · rcases h with rfl | rfl | rfl <;> simp [dxL, dyL]
    have hx : (stepK σ k c).x = k.x + σ * dxL c := rfl
    have hrec : b ∈ barsP σ (stepK σ k c) r → k.x - 2 * ((c :: r).length : Int) ≤ b.x ∧ b.x ≤ k.x + 2 * ((c :: r).length : Int) ∧ b.y ≤ k.y + 2 * ((c :: r).length : Int) ∧ (((k.x + k.y) % 2 = 0 → (∀ c' ∈ c :: r, isL c') → (b.x + b.y) % 2 = 0)) := fun hb => by
      obtain ⟨h1, h2, h3, h4⟩ := barsP_near hσ hb
      rw [hx] at h1 h2
      rw [step_y] at h3
      simp only [List.length_cons]
      refine ⟨?_, ?_, ?_, fun he hl => h4 ?_ fun c' h' => hl c' (by simp [h'])⟩
      · rcases hσ with rfl | rfl <;> omega
      · rcases hσ with rfl | rfl <;> omega
      · omega
      · have := hd.2.2.2.2 (hl c (by simp))
        rw [hx, step_y]
        rcases hσ with rfl | rfl <;> omega
    rw [barsP_cons] at h
    split at h
    · rcases List.mem_cons.1 h with rfl | h
      · simp only [List.length_cons]
        exact ⟨by omega, by omega, by omega, fun he _ => he⟩
      · exact hrec h
    · exact hrec h
end Go.Proofs.YtfmfpnnglogkmaaGreatDoor

/- Contracts of the small functions of taper, and of the reference's. -/
namespace Go.Proofs.YtfmfpnnglogkmaaGreatDoor
open Go.RowKit

set_option maxHeartbeats 400000 in
theorem tpCheckRange (n lo hi : Int) (w : World) :
    Calls Tryz.prog 75 #[.int .i64 n, .int .i64 lo, .int .i64 hi] w fun e w' => e = .returned (.int .i64 (if n < lo ∨ hi < n then 3 else 0)) ∧ w = w' := by
  by_cases h1 : n < lo
  · go_enter Tryz.func75, Tryz.ntmps75
    go_wp2
    go_ret
    simp
  · by_cases h2 : hi < n
    all_goals
      go_enter Tryz.func75, Tryz.ntmps75
      go_wp2
      go_ret
      simp <;> omega

set_option maxHeartbeats 400000 in
theorem tpFirst (b c : Nat) (es : List Int) (w : World) (hn : es.length ≤ 100) (hc : ∀ i (h : i < es.length), w.cell? ⟨b, i, none⟩ = some (.int .i64 es[i])) :
    Calls Tryz.prog 74 #[.slice (some ⟨b, 0, none⟩) es.length c] w fun e w' => e = .returned (.int .i64 (firstE es)) ∧ w = w' := by
  have HC := Lib.hid hc
  have hn' : (es.length : Int) ≤ 100 := by omega
  clear hc
  go_enter Tryz.func74, Tryz.ntmps74
  go_wp2_with fail
  go_loop [4, 7] (fun _ i => ∃ k : Nat, k ≤ es.length ∧ i = .int .i64 k ∧ firstE es = firstE (es.drop k)) (fun _ i => es.length - (intOf i).toNat)
  case atStart => exact ⟨0, Nat.zero_le _, rfl, rfl⟩
  case round =>
    obtain ⟨k, hk, rfl, he⟩ := hrel
    have HE := Lib.hid he
    clear he
    by_cases hlt : k < es.length
    · have hcell := HC.out k hlt
      by_cases hz : es[k] = 0
      · have HF := Lib.hid (show firstE (es.drop k) = firstE (es.drop (k + 1)) by
          rw [List.drop_eq_getElem_cons hlt]
          simp only [firstE, hz, if_true])
        rw [hz] at hcell
        clear hz
        go_wp2
        go_round
        case rel => exact ⟨k + 1, by omega, by go_num, HE.out.trans HF.out⟩
        case measure => simp [intOf]; omega
      · have HF := Lib.hid (show firstE (es.drop k) = es[k] by
          rw [List.drop_eq_getElem_cons hlt]
          simp only [firstE, if_neg hz])
        have hz1 : (es[k] != 0) = true := by rw [bne_iff_ne]; exact hz
        clear hz
        go_wp2
        go_ret
        exact ⟨ret_i (HE.out.trans HF.out).symm, rfl⟩
    · obtain rfl : k = es.length := by omega
      have HF := Lib.hid (show firstE (es.drop es.length) = 0 by rw [List.drop_length]; rfl)
      go_wp2
      go_ret
      exact ⟨ret_i (HE.out.trans HF.out).symm, rfl⟩

theorem tpFirst2 (g d : Nat) (a b : Int) (t : TypeId) (w : World) (h : w.heap[g]? = some (.cells #[.int .i64 a, .int .i64 b] t (0, 0))) :
    Calls Tryz.prog 74 #[.slice (some ⟨g, 0, none⟩) 2 d] w fun e w' => e = .returned (.int .i64 (firstE [a, b])) ∧ w = w' :=
  tpFirst g d [a, b] w (by simp) (two_cells h)
theorem tpFirst3 (g d : Nat) (a b c : Int) (t : TypeId) (w : World) (h : w.heap[g]? = some (.cells #[.int .i64 a, .int .i64 b, .int .i64 c] t (0, 0))) :
    Calls Tryz.prog 74 #[.slice (some ⟨g, 0, none⟩) 3 d] w fun e w' => e = .returned (.int .i64 (firstE [a, b, c])) ∧ w = w' :=
  tpFirst g d [a, b, c] w (by simp) (three_err h)

/-! ### letters -/
def okC (c : UInt8) : Bool := c = 78 || c = 66 || c = 84
theorem okC_iff (c : UInt8) : okC c = true ↔ isL c := by simp [okC, isL, or_assoc]
set_option maxHeartbeats 400000 in
theorem tpIsLetter (c : UInt8) (w : World) (h : isL c) : Calls Tryz.prog 110 #[.int .i32 c.toNat] w fun e w' => e = .returned (.bool true) ∧ w = w' := by
  rcases h with rfl | rfl | rfl
  all_goals
    go_enter Tryz.func110, Tryz.ntmps110
    go_wp2
    go_ret
    exact ⟨rfl, rfl⟩
set_option maxHeartbeats 400000 in
theorem refIsLetter (c : UInt8) (w : World) : Calls Tryz.prog 67 #[.int .u8 c.toNat] w fun e w' => e = .returned (.bool (okC c)) ∧ w = w' := by
  by_cases h : isL c
  · have hk : okC c = true := (okC_iff c).2 h
    rw [hk]
    clear hk
    rcases h with rfl | rfl | rfl
    all_goals
      go_enter Tryz.func67, Tryz.ntmps67
      go_wp2
      go_ret
      exact ⟨rfl, rfl⟩
  · have hk : okC c = false := by rw [Bool.eq_false_iff]; exact fun h' => h ((okC_iff c).1 h')
    have n0 : ¬ (c.toNat : Int) = 78 := fun e => h (.inl (UInt8.toNat.inj (by show c.toNat = 78; omega)))
    have n1 : ¬ (c.toNat : Int) = 66 := fun e => h (.inr (.inl (UInt8.toNat.inj (by show c.toNat = 66; omega))))
    have n2 : ¬ (c.toNat : Int) = 84 := fun e => h (.inr (.inr (UInt8.toNat.inj (by show c.toNat = 84; omega))))
    rw [hk]
    clear h hk
    go_enter Tryz.func67, Tryz.ntmps67
    go_wp2
    go_ret
    simp [n0, n1, n2]
set_option maxHeartbeats 400000 in
theorem tpCheckLength (n : Int) (w : World) (h : n ≤ 64) : Calls Tryz.prog 70 #[.int .i64 n] w fun e w' => e = .returned (.int .i64 0) ∧ w = w' := by
  go_enter Tryz.func70, Tryz.ntmps70
  go_wp2
  go_ret
  exact ⟨rfl, rfl⟩
/-! ### further -/
set_option maxHeartbeats 1000000 in
theorem tpFurther (x y a b : Int) (o : Bool) (w : World) (hx1 : -200000 ≤ x) (hx2 : x ≤ 200000) (hy1 : -200000 ≤ y) (hy2 : y ≤ 200000) (ha1 : 0 ≤ a) (ha2 : a ≤ 2) (hb1 : 0 ≤ b) (hb2 : b ≤ 2) :
    Calls Tryz.prog 101 #[.agg #[.int .i64 x, .int .i64 y], .agg #[.int .i64 a, .int .i64 b], .bool o] w fun e w' => e = .returned (.agg #[.int .i64 (if o then x + a else x - a), .int .i64 (y + b)]) ∧ Below w.heap.size w w' := by
  cases o
  · go_enter Tryz.func101, Tryz.ntmps101
    go_wp2
    exact bodyPost_ret (v := .agg #[.int .i64 (x - a), .int .i64 (y + b)]) (by simp [results, Tryz.results101, go_sem]) rfl ⟨by simp, (((Below.refl _ _).alloc (Nat.le_refl _) _).alloc (by simp) _).alloc (by simp; omega) _⟩
  · go_enter Tryz.func101, Tryz.ntmps101
    go_wp2
    exact bodyPost_ret (v := .agg #[.int .i64 (x + a), .int .i64 (y + b)]) (by simp [results, Tryz.results101, go_sem]) rfl ⟨by simp, (((Below.refl _ _).alloc (Nat.le_refl _) _).alloc (by simp) _).alloc (by simp; omega) _⟩

/-! ### the reference's CheckWord -/
def wordE (l : List UInt8) : Int := if l = [] then 12 else if 64 < l.length then 26 else if l.all okC then 0 else 1
theorem byte_at (s : ByteArray) (k : Nat) (_ : k < s.size) (h' : k < s.data.toList.length) : s.data.toList[k] = s[k] := by
  rw [Array.getElem_toList]
  rfl
set_option maxHeartbeats 1000000 in
theorem refCheckWord (s : ByteArray) (w : World) (hs : s.size ≤ 1000) :
    Calls Tryz.prog 28 #[.string s] w fun e w' => e = .returned (.int .i64 (wordE s.data.toList)) ∧ w = w' := by
  go_enter Tryz.func28, Tryz.ntmps28
  go_wp2_with fail
  · rename_i h
    go_ret
    have h0 : s.data.toList = [] := by rw [← Lib.toList_data]; exact List.isEmpty_iff.1 h
    exact ⟨by rw [h0]; rfl, rfl⟩
  · rename_i h1 _ _ h2
    go_ret
    rw [Lib.toList_data] at h1
    have h0 : ¬ s.data.toList = [] := fun e => by rw [e] at h1; cases h1
    have h3 : 64 < s.data.toList.length := by rw [← Lib.size_eq]; omega
    exact ⟨ret_i (by rw [wordE, if_neg h0, if_pos h3]), rfl⟩
  · rename_i h1 h2 _ _
    rw [Lib.toList_data] at h1
    have h0 : ¬ s.data.toList = [] := fun e => by rw [e] at h1; cases h1
    have hsz : s.data.toList.length = s.size := (Lib.size_eq s).symm
    have HW := Lib.hid (show wordE s.data.toList = if s.data.toList.all okC then 0 else 1 by simp only [wordE, if_neg h0]; rw [if_neg (by omega)])
    have HZ := Lib.hid hsz
    clear h1 h2 h0 hsz
    go_loop [3] (fun i => ∃ k : Nat, k ≤ s.size ∧ i = .int .i64 k ∧ (s.data.toList.take k).all okC = true) (fun i => s.size - (intOf i).toNat)
    case atStart => exact ⟨0, Nat.zero_le _, rfl, by simp⟩
    case round =>
      obtain ⟨k, hk, rfl, hall⟩ := hrel
      by_cases hlt : k < s.size
      · have b0 : (0 : Int) ≤ (k : Int) := by omega
        have b1 : (k : Int) < (s.size : Int) := by omega
        have HA := Lib.hid hall
        clear hall
        go_wp2_with fail
        refine (refIsLetter (s[k]) _).mono ?_
        rintro e w2 ⟨rfl, rfl⟩
        have hkl : k < s.data.toList.length := by rw [HZ.out]; exact hlt
        have hel : s.data.toList[k] = s[k] := byte_at s k hlt hkl
        by_cases hok : okC (s[k]) = true
        · have HA2 := Lib.hid (show (s.data.toList.take (k + 1)).all okC = true by
            rw [List.take_succ_eq_append_getElem hkl, List.all_append, HA.out, hel]
            simp [hok])
          rw [hok]
          clear hok hel
          go_wp2
          go_round
          case rel => exact ⟨k + 1, by omega, by go_num, HA2.out⟩
          case measure => simp [intOf]; omega
        · have hf : okC (s[k]) = false := by simpa using hok
          have HE := Lib.hid (show wordE s.data.toList = 1 by
            rw [HW.out, if_neg]
            intro h
            rw [List.all_eq_true] at h
            have := h _ (List.getElem_mem hkl)
            rw [hel, hf] at this
            cases this)
          rw [hf]
          clear hok hel hf
          go_wp2
          go_ret
          exact ⟨ret_i HE.out.symm, rfl⟩
      · have HE := Lib.hid (show wordE s.data.toList = 0 by
          rw [HW.out, if_pos]
          rwa [List.take_of_length_le (by rw [HZ.out]; omega)] at hall)
        clear hall
        go_wp2
        go_ret
        exact ⟨ret_i HE.out.symm, rfl⟩
end Go.Proofs.YtfmfpnnglogkmaaGreatDoor

/- Words without an error: checkLetters and CheckWord of taper. -/
namespace Go.Proofs.YtfmfpnnglogkmaaGreatDoor
open Go.RowKit

theorem isL_small {c : UInt8} (h : isL c) : c.toNat < 128 := by rcases h with rfl | rfl | rfl <;> decide
set_option maxHeartbeats 1000000 in
set_option maxRecDepth 100000 in
theorem tpCheckLetters (s : ByteArray) (w : World) (hl : ∀ c ∈ s.data.toList, isL c) :
    Calls Tryz.prog 106 #[.string s] w fun e w' => e = .returned (.int .i64 0) ∧ Below w.heap.size w w' := by
  have hk0 : (w.iter s 0).heap[w.heap.size]? = some (.stringIter s 0) := by have := World.iter_heap w s 0; simpa using this
  have hb0 : Below w.heap.size w (w.iter s 0) := (Below.refl _ w).alloc (Nat.le_refl _) _
  have HL := Lib.hid hl
  clear hl
  go_enter Tryz.func106, Tryz.ntmps106
  go_wp2_with fail
  go_loopw [4] (fun _ wr => ∃ pos : Nat, pos ≤ s.size ∧ wr.heap[w.heap.size]? = some (.stringIter s pos) ∧ Below w.heap.size w wr) (fun _ wr => s.size - wr.iterPos w.heap.size)
  case atStart => exact ⟨0, Nat.zero_le _, hk0, hb0⟩
  case round =>
    obtain ⟨pos, hps, hk, hb⟩ := hrel
    clear hk0 hb0
    by_cases hp : pos < s.size
    · have hkl : pos < s.data.toList.length := by rw [← Lib.size_eq]; exact hp
      have hL : isL (s[pos]) := by rw [← byte_at s pos hp hkl]; exact HL.out _ (List.getElem_mem hkl)
      have hnext : ∀ ty, (Instr.next (.pointer (some ⟨w.heap.size, 0, none⟩)) true ty).run Tryz.prog wr = _ := fun ty => Lib.run_next_ascii_at wr w.heap.size s pos ty hk hp (isL_small hL)
      have hk1 := Lib.iterAt_heap wr w.heap.size s pos (pos + 1) hk
      have hb1 : Below w.heap.size w (wr.iterAt w.heap.size s (pos + 1)) := Lib.below_iterAt hb (Nat.le_refl _) s (pos + 1)
      have hmu : wr.iterPos w.heap.size = pos := by simp [World.iterPos, hk]
      generalize wr.iterAt w.heap.size s (pos + 1) = W1 at hnext hk1 hb1
      go_wp2_with fail
      refine (tpIsLetter (s[pos]) _ hL).mono ?_
      rintro e w2 ⟨rfl, rfl⟩
      go_wp2
      go_roundw
      case rel => exact ⟨pos + 1, by omega, hk1, hb1⟩
      case measure =>
        have hmu2 : W1.iterPos w.heap.size = pos + 1 := by simp [World.iterPos, hk1]
        rw [hmu, hmu2]
        omega
    · have hnext : ∀ ty, (Instr.next (.pointer (some ⟨w.heap.size, 0, none⟩)) true ty).run Tryz.prog wr = _ := fun ty => Lib.run_next_end_at wr w.heap.size s pos ty hk hp
      go_wp2
      go_ret
      exact ⟨rfl, hb⟩
/-- A word without an error. -/
def Word (s : ByteArray) : Prop := (∀ c ∈ s.data.toList, isL c) ∧ 1 ≤ s.size ∧ s.size ≤ 64
theorem wordE_zero {s : ByteArray} (h : wordE s.data.toList = 0) : Word s := by
  have hz := Lib.size_eq s
  unfold wordE at h
  split at h
  · cases h
  · rename_i h1
    split at h
    · cases h
    · rename_i h2
      split at h
      · rename_i h3
        rw [List.all_eq_true] at h3
        refine ⟨fun c hc => (okC_iff c).1 (h3 c hc), ?_, by omega⟩
        cases hl : s.data.toList with
        | nil => exact absurd hl h1
        | cons a r => rw [hz, hl]; simp
      · cases h
set_option maxHeartbeats 1000000 in
set_option maxRecDepth 100000 in
theorem tpCheckWord (s : ByteArray) (w : World) (h : Word s) :
    Calls Tryz.prog 72 #[.string s] w fun e w' => e = .returned (.int .i64 0) ∧ Below w.heap.size w w' := by
  obtain ⟨hl, h1, h2⟩ := h
  have hne : s.toList.isEmpty = false := by
    rw [Lib.toList_data]
    have := Lib.size_eq s
    cases hs : s.data.toList with
    | nil => rw [hs, List.length_nil] at this; omega
    | cons a r => rfl
  have hn64 : (s.size : Int) ≤ 64 := by omega
  go_enter Tryz.func72, Tryz.ntmps72
  go_wp2_with fail
  refine (tpCheckLength _ _ hn64).mono ?_
  rintro e w1 ⟨rfl, rfl⟩
  go_wp2_with fail
  refine (tpCheckLetters s _ hl).mono ?_
  rintro e w2 ⟨rfl, hb⟩
  go_wp2_with fail
  refine (tpFirst2 _ _ 0 0 30 _ (by exact heap_alloc_new _ _)).mono ?_
  rintro e w3 ⟨rfl, rfl⟩
  rw [show firstE [0, 0] = 0 from rfl]
  go_wp2
  go_ret
  exact ⟨rfl, hb.alloc hb.size _⟩
end Go.Proofs.YtfmfpnnglogkmaaGreatDoor

/- The contract of the program's CheckBar. -/
namespace Go.Proofs.YtfmfpnnglogkmaaGreatDoor
open Go.RowKit

theorem keep3 {W w1 w2 : World} {g : Nat} {x y s : Value} (h : w1.cell? ⟨g, 0, none⟩ = some x ∧ w1.cell? ⟨g, 1, none⟩ = some y ∧ w1.cell? ⟨g, 2, none⟩ = some s ∧ Below g W w1 ∧ g < w1.heap.size) (hb : Below w1.heap.size w1 w2) :
    w2.cell? ⟨g, 0, none⟩ = some x ∧ w2.cell? ⟨g, 1, none⟩ = some y ∧ w2.cell? ⟨g, 2, none⟩ = some s ∧ Below g W w2 ∧ g < w2.heap.size := by
  obtain ⟨h0, h1, h2, h3, h4⟩ := h
  exact ⟨(hb.cell (p := ⟨g, 0, none⟩) h4).trans h0, (hb.cell (p := ⟨g, 1, none⟩) h4).trans h1, (hb.cell (p := ⟨g, 2, none⟩) h4).trans h2, h3.trans (hb.mono (by omega)), by have := hb.size; omega⟩

theorem knotX (u v : Value) (w : World) : (Instr.field 43 (.agg #[u, v]) 0).run Tryz.prog w = .ok u w := by kernel_rfl
theorem knotY (u v : Value) (w : World) : (Instr.field 43 (.agg #[u, v]) 1).run Tryz.prog w = .ok v w := by kernel_rfl

theorem barE_ok {x y s : Int} (hk : knotE x y = 0) (hs : s = 1 ∨ s = -1) : firstE [placeE (x + s), placeE (y + 1)] = barE x y s := by
  have hp : (x + y) % 2 = 0 := by
    unfold knotE at hk
    split at hk
    · omega
    · split at hk
      · omega
      · split at hk
        · rename_i h; simpa [evenB] using h
        · omega
  have he : evenB (x + s) (y + 1) = true := by simp only [evenB, decide_eq_true_eq]; omega
  simp only [barE, if_true, if_pos hs, knotE, he]
  have hk' := hk
  simp only [knotE] at hk'
  simp only [hk', ite_true]
  unfold placeE firstE firstE
  cases farB (x + s) <;> cases farB (y + 1) <;> simp [firstE]

end Go.Proofs.YtfmfpnnglogkmaaGreatDoor

/- Contracts of the order of bars in the program: cmp.Compare, cmp.Or, compareBars, checkOrder. -/
namespace Go.Proofs.YtfmfpnnglogkmaaGreatDoor
open Go.RowKit

def cmpE (a b : Int) : Int := if a < b then -1 else if b < a then 1 else 0

set_option maxHeartbeats 400000 in
theorem cmpIsNaN (a : Int) (w : World) :
    Calls Tryz.prog 96 #[.int .i64 a] w fun e w' => e = .returned (.bool false) ∧ w = w' := by
  go_enter Tryz.func96, Tryz.ntmps96
  go_wp2
  go_ret
  simp

set_option maxHeartbeats 400000 in
theorem cmpCompare (a b : Int) (w : World) :
    Calls Tryz.prog 52 #[.int .i64 a, .int .i64 b] w fun e w' => e = .returned (.int .i64 (cmpE a b)) ∧ w = w' := by
  by_cases h1 : a < b
  · have HC := Lib.hid (show cmpE a b = -1 by simp [cmpE, h1])
    go_enter Tryz.func52, Tryz.ntmps52
    go_wp2_with (go_at_call 96; refine (cmpIsNaN _ _).mono ?_; rintro e w' ⟨rfl, rfl⟩)
    go_ret
    exact ⟨ret_i HC.out.symm, rfl⟩
  · by_cases h2 : b < a
    · have HC := Lib.hid (show cmpE a b = 1 by simp [cmpE, h1, h2])
      go_enter Tryz.func52, Tryz.ntmps52
      go_wp2_with (go_at_call 96; refine (cmpIsNaN _ _).mono ?_; rintro e w' ⟨rfl, rfl⟩)
      go_ret
      exact ⟨ret_i HC.out.symm, rfl⟩
    · have HC := Lib.hid (show cmpE a b = 0 by simp [cmpE, h1, h2])
      go_enter Tryz.func52, Tryz.ntmps52
      go_wp2_with (go_at_call 96; refine (cmpIsNaN _ _).mono ?_; rintro e w' ⟨rfl, rfl⟩)
      go_ret
      exact ⟨ret_i HC.out.symm, rfl⟩

set_option maxHeartbeats 400000 in
theorem cmpOr (b c : Nat) (es : List Int) (w : World) (hn : es.length ≤ 100) (hc : ∀ i (h : i < es.length), w.cell? ⟨b, i, none⟩ = some (.int .i64 es[i])) :
    Calls Tryz.prog 50 #[.slice (some ⟨b, 0, none⟩) es.length c] w fun e w' => e = .returned (.int .i64 (firstE es)) ∧ w = w' := by
  have HC := Lib.hid hc
  have hn' : (es.length : Int) ≤ 100 := by omega
  clear hc
  go_enter Tryz.func50, Tryz.ntmps50
  go_wp2_with fail
  go_loop [5, 8] (fun _ i => ∃ k : Nat, k ≤ es.length ∧ i = .int .i64 k ∧ firstE es = firstE (es.drop k)) (fun _ i => es.length - (intOf i).toNat)
  case atStart => exact ⟨0, Nat.zero_le _, rfl, rfl⟩
  case round =>
    obtain ⟨k, hk, rfl, he⟩ := hrel
    have HE := Lib.hid he
    clear he
    by_cases hlt : k < es.length
    · have hcell := HC.out k hlt
      by_cases hz : es[k] = 0
      · have HF := Lib.hid (show firstE (es.drop k) = firstE (es.drop (k + 1)) by
          rw [List.drop_eq_getElem_cons hlt]
          simp only [firstE, hz, if_true])
        rw [hz] at hcell
        clear hz
        go_wp2
        go_round
        case rel => exact ⟨k + 1, by omega, by go_num, HE.out.trans HF.out⟩
        case measure => simp [intOf]; omega
      · have HF := Lib.hid (show firstE (es.drop k) = es[k] by
          rw [List.drop_eq_getElem_cons hlt]
          simp only [firstE, if_neg hz])
        have hz1 : (es[k] != 0) = true := by rw [bne_iff_ne]; exact hz
        clear hz
        go_wp2
        go_ret
        exact ⟨ret_i (HE.out.trans HF.out).symm, rfl⟩
    · obtain rfl : k = es.length := by omega
      have HF := Lib.hid (show firstE (es.drop es.length) = 0 by rw [List.drop_length]; rfl)
      go_wp2
      go_ret
      exact ⟨ret_i (HE.out.trans HF.out).symm, rfl⟩
theorem three_cells {w : World} {g : Nat} {a b c : Int} {t : TypeId} (h : w.heap[g]? = some (.cells #[.int .i64 a, .int .i64 b, .int .i64 c] t (0, 0))) : ∀ i (hi : i < [a, b, c].length), w.cell? ⟨g, i, none⟩ = some (.int .i64 [a, b, c][i]) := by
  intro i hi
  have hi' : i = 0 ∨ i = 1 ∨ i = 2 := by simp at hi; omega
  rcases hi' with rfl | rfl | rfl <;> simp [World.cell?, h]
theorem cmpOr3 (g c : Nat) (x y z : Int) (t : TypeId) (w : World) (h : w.heap[g]? = some (.cells #[.int .i64 x, .int .i64 y, .int .i64 z] t (0, 0))) :
    Calls Tryz.prog 50 #[.slice (some ⟨g, 0, none⟩) 3 c] w fun e w' => e = .returned (.int .i64 (firstE [x, y, z])) ∧ w = w' :=
  cmpOr g c [x, y, z] w (by simp) (three_cells h)
theorem cmpOr2 (g c : Nat) (x y : Int) (t : TypeId) (w : World) (h : w.heap[g]? = some (.cells #[.int .i64 x, .int .i64 y] t (0, 0))) :
    Calls Tryz.prog 50 #[.slice (some ⟨g, 0, none⟩) 2 c] w fun e w' => e = .returned (.int .i64 (firstE [x, y])) ∧ w = w' :=
  cmpOr g c [x, y] w (by simp) (two_cells h)

def cmpB (a b : Ck.Bar) : Int := firstE [cmpE a.y b.y, cmpE a.x b.x, cmpE a.s b.s]
end Go.Proofs.YtfmfpnnglogkmaaGreatDoor

/- Contracts of checkOrder and CheckNet of the program. -/
namespace Go.Proofs.YtfmfpnnglogkmaaGreatDoor
open Go.RowKit

theorem cmpB_less (p b : Ck.Bar) : decide (0 ≤ cmpB p b) = !lessB p.x p.y p.s b.x b.y b.s := by
  obtain ⟨x, y, s⟩ := p
  obtain ⟨x', y', s'⟩ := b
  rcases Int.lt_trichotomy y y' with h | rfl | h
  · have h2 : ¬ y = y' := by omega
    simp [cmpB, lessB, cmpE, firstE, h, h2]
  · rcases Int.lt_trichotomy x x' with h | rfl | h
    · have h2 : ¬ x = x' := by omega
      simp [cmpB, lessB, cmpE, firstE, h, h2]
    · rcases Int.lt_trichotomy s s' with h | rfl | h
      · simp [cmpB, lessB, cmpE, firstE, h]
      · simp [cmpB, lessB, cmpE, firstE]
      · have h3 : ¬ s < s' := by omega
        simp [cmpB, lessB, cmpE, firstE, h, h3]
    · have h2 : ¬ x = x' := by omega
      have h3 : ¬ x < x' := by omega
      simp [cmpB, lessB, cmpE, firstE, h, h2, h3]
  · have h2 : ¬ y = y' := by omega
    have h3 : ¬ y < y' := by omega
    simp [cmpB, lessB, cmpE, firstE, h, h2, h3]

def orderE (p b : Ck.Bar) : Int := if lessB p.x p.y p.s b.x b.y b.s then 0 else 11

end Go.Proofs.YtfmfpnnglogkmaaGreatDoor

/- The contract of CheckNet of the program: it returns the error that the reference returns. -/
namespace Go.Proofs.YtfmfpnnglogkmaaGreatDoor
open Go.RowKit

theorem keep6 {W w1 w2 : World} {g b o : Nat} {x y s p q r : Value} (h : w1.cell? ⟨g, 0, none⟩ = some x ∧ w1.cell? ⟨g, 1, none⟩ = some y ∧ w1.cell? ⟨g, 2, none⟩ = some s ∧
      w1.cell? ⟨b, o, none⟩ = some p ∧ w1.cell? ⟨b, o + 1, none⟩ = some q ∧ w1.cell? ⟨b, o + 2, none⟩ = some r ∧ Below g W w1 ∧ b < g ∧ g < w1.heap.size) (hb : Below w1.heap.size w1 w2) :
    w2.cell? ⟨g, 0, none⟩ = some x ∧ w2.cell? ⟨g, 1, none⟩ = some y ∧ w2.cell? ⟨g, 2, none⟩ = some s ∧
      w2.cell? ⟨b, o, none⟩ = some p ∧ w2.cell? ⟨b, o + 1, none⟩ = some q ∧ w2.cell? ⟨b, o + 2, none⟩ = some r ∧ Below g W w2 ∧ b < g ∧ g < w2.heap.size := by
  obtain ⟨h0, h1, h2, k0, k1, k2, h3, h5, h4⟩ := h
  exact ⟨(hb.cell (p := ⟨g, 0, none⟩) h4).trans h0, (hb.cell (p := ⟨g, 1, none⟩) h4).trans h1, (hb.cell (p := ⟨g, 2, none⟩) h4).trans h2,
    (hb.cell (p := ⟨b, _, none⟩) (by show b < _; omega)).trans k0, (hb.cell (p := ⟨b, _, none⟩) (by show b < _; omega)).trans k1, (hb.cell (p := ⟨b, _, none⟩) (by show b < _; omega)).trans k2, h3.trans (hb.mono (by omega)), h5, by have := hb.size; omega⟩

theorem belowOf3 {W w1 : World} {g : Nat} {x y s : Value} (h : w1.cell? ⟨g, 0, none⟩ = some x ∧ w1.cell? ⟨g, 1, none⟩ = some y ∧ w1.cell? ⟨g, 2, none⟩ = some s ∧ Below g W w1 ∧ g < w1.heap.size) : Below g W w1 := h.2.2.2.1
theorem belowOf6 {W w1 : World} {g b o : Nat} {x y s p q r : Value} (h : w1.cell? ⟨g, 0, none⟩ = some x ∧ w1.cell? ⟨g, 1, none⟩ = some y ∧ w1.cell? ⟨g, 2, none⟩ = some s ∧
      w1.cell? ⟨b, o, none⟩ = some p ∧ w1.cell? ⟨b, o + 1, none⟩ = some q ∧ w1.cell? ⟨b, o + 2, none⟩ = some r ∧ Below g W w1 ∧ b < g ∧ g < w1.heap.size) : Below g W w1 := h.2.2.2.2.2.2.1
theorem stepE_bad {e o : Int} (h : ¬ e = 0) : firstE [e, o] = e := by simp [firstE, h]

end Go.Proofs.YtfmfpnnglogkmaaGreatDoor

/- A map from knots to ints that the call itself has made: what its block holds, and what its operations do. -/
namespace Go.Proofs.YtfmfpnnglogkmaaGreatDoor
open Go.RowKit Go.ChangeMaps Go.MapKept

def kvv (k : Ck.Knot) : Value := .agg #[.int .i64 k.x, .int .i64 k.y]
def mget : List (Ck.Knot × Int) → Ck.Knot → Int
  | [], _ => 0
  | p :: r, k => if k = p.1 then p.2 else mget r k
def mput : List (Ck.Knot × Int) → Ck.Knot → Int → List (Ck.Knot × Int)
  | [], k, v => [(k, v)]
  | p :: r, k, v => if k = p.1 then (k, v) :: r else p :: mput r k v
def fnd : List (Ck.Knot × Int) → Ck.Knot → Nat → Option (Nat × Value)
  | [], _, _ => none
  | p :: r, k, i => if k = p.1 then some (i, .int .i64 p.2) else fnd r k (i + 1)

theorem eqKnot (a b : Ck.Knot) (w : World) : (Op.equal 43 (kvv a) (kvv b)).run Tryz.prog w = .ok (decide (a = b)) w := by
  have u3 := Tryz.underlying3
  have a3 := Tryz.isAgg3
  have z3 := Tryz.sizeOf3
  have hS : Tryz.prog.underlying 43 = some (.struct (Tryz.prog.fieldsOf 43)) := by kernel_rfl
  have hp : Tryz.prog.stoodInHeld 43 = false := by kernel_rfl
  obtain ⟨x, y⟩ := a
  obtain ⟨x', y'⟩ := b
  simp only [kvv, Op.equal]
  rw [show Op.maxDepth = 9999 + 1 from rfl, run_equalIn_struct w 9999 43 _ _ hS hp]
  simp only [Program.fieldsOf, Tryz.underlying43]
  go_simp
  by_cases h1 : x = x' <;> by_cases h2 : y = y' <;> simp [h1, h2]

/-- The entries es hold the pairs m. -/
def Ents (es : Array MapEntry) (m : List (Ck.Knot × Int)) : Prop := es.toList.map (fun e => (e.key, e.val)) = m.map fun p => (kvv p.1, Value.int .i64 p.2)
theorem run_findAsking (k : Ck.Knot) (w : World) : ∀ (l : List MapEntry) (m : List (Ck.Knot × Int)) (i : Nat), l.map (fun e => (e.key, e.val)) = m.map (fun p => (kvv p.1, Value.int .i64 p.2)) →
    (Instr.findAsking 43 (kvv k) l i).run Tryz.prog w = .ok (fnd m k i) w
  | [], [], _, _ => rfl
  | [], _ :: _, _, h => by simp at h
  | _ :: _, [], _, h => by simp at h
  | e :: l, p :: m, i, h => by
    simp only [List.map_cons, List.cons.injEq, Prod.mk.injEq] at h
    obtain ⟨⟨h1, h2⟩, h3⟩ := h
    simp only [Instr.findAsking, Sem.run_bind, h1, eqKnot, Result.andThen, fnd, h2]
    by_cases hk : k = p.1
    · simp [hk]
    · simp [hk, run_findAsking k w l m (i + 1) h3]
theorem run_findKey (k : Ck.Knot) (w : World) (es : Array MapEntry) (m : List (Ck.Knot × Int)) (h : Ents es m) : (Instr.findKey 43 (kvv k) es.toList).run Tryz.prog w = .ok (fnd m k 0) w := by
  have hu := Tryz.underlying43
  unfold Ents at h
  simp only [Instr.findKey, Sem.run_bind, run_underlying hu, Result.andThen]
  cases hl : es.toList with
  | nil =>
    rw [hl] at h
    cases m with
    | nil => rfl
    | cons _ _ => simp at h
  | cons e l =>
    rw [hl] at h
    have hn : ∀ fs, Instr.findNow (.struct fs) (kvv k) (e :: l) 0 = none := fun fs => by
      unfold Instr.findNow Instr.sameNow
      rfl
    simp only [hn]
    exact run_findAsking k w (e :: l) m 0 h
theorem run_checkKnot (b : Bool) (k : Ck.Knot) (w : World) : (Instr.checkKey b 10000 43 (kvv k)).run Tryz.prog w = .ok () w := by
  obtain ⟨x, y⟩ := k
  cases b <;> kernel_rfl

theorem fnd_spec (k : Ck.Knot) : ∀ (m : List (Ck.Knot × Int)) (i : Nat), (fnd m k i = none ∧ k ∉ m.map (·.1) ∧ mget m k = 0 ∧ ∀ v, mput m k v = m ++ [(k, v)]) ∨
    ∃ j, fnd m k i = some (i + j, .int .i64 (mget m k)) ∧ m[j]? = some (k, mget m k) ∧ ∀ v, mput m k v = m.set j (k, v)
  | [], i => .inl ⟨rfl, by simp, rfl, fun _ => rfl⟩
  | p :: m, i => by
    by_cases hk : k = p.1
    · refine .inr ⟨0, by simp [fnd, mget, hk], by simp [mget, hk], fun v => by simp [mput, hk]⟩
    · rcases fnd_spec k m (i + 1) with ⟨h1, h2, h3, h4⟩ | ⟨j, h1, h2, h3⟩
      · refine .inl ⟨by simp [fnd, hk, h1], by simp only [List.map_cons, List.mem_cons, not_or]; exact ⟨hk, h2⟩, by simp [mget, hk, h3], fun v => by simp [mput, hk, h4]⟩
      · refine .inr ⟨j + 1, by simp [fnd, hk, h1, mget]; omega, by simp [h2, mget, hk], fun v => by simp [mput, hk, h3]⟩

/-- Block b of w is a map that holds the pairs m, each key once. -/
def MIs (w : World) (b : Nat) (m : List (Ck.Knot × Int)) : Prop :=
  ∃ es clock, w.heap[b]? = some (.map es clock) ∧ Ents es m ∧ (m.map (·.1)).Nodup ∧ (es.toList.map (·.born)).Nodup ∧ ∀ e ∈ es.toList, e.born < clock
theorem MIs.made (w : World) : MIs (w.alloc (.map #[] 0)) w.heap.size [] := ⟨#[], 0, heap_alloc_new _ _, rfl, by simp, by simp, by simp⟩
theorem MIs.of_block {w w' : World} {b : Nat} {m : List (Ck.Knot × Int)} (h : MIs w b m) (hb : w'.heap[b]? = w.heap[b]?) : MIs w' b m := by
  obtain ⟨es, clock, h1, h2⟩ := h
  exact ⟨es, clock, hb.trans h1, h2⟩
theorem MIs.below {w w' : World} {b B : Nat} {m : List (Ck.Knot × Int)} (h : MIs w b m) (hb : Below B w w') (hB : b < B) : MIs w' b m := h.of_block (hb.block b hB)
theorem MIs.drew {w : World} {b : Nat} {m : List (Ck.Knot × Int)} (h : MIs w b m) : MIs w.drew b m := h
theorem MIs.lt {w : World} {b : Nat} {m : List (Ck.Knot × Int)} (h : MIs w b m) : b < w.heap.size := by
  obtain ⟨_, _, h1, _⟩ := h
  exact (Array.getElem?_eq_some_iff.1 h1).1

theorem stays (k : Ck.Knot) (w : World) (old : Value) (h : old = kvv k) : (Instr.keyThatStays old (kvv k)).run Tryz.prog w = .ok (kvv k) w := by
  have hs : Instr.sameBits 10000 (kvv k) (kvv k) = true := by
    rw [show (10000 : Nat) = 9998 + 1 + 1 from rfl]
    simp [Instr.sameBits, kvv]
  subst h
  simp [Instr.keyThatStays, hs]
theorem Ents.key {es : Array MapEntry} {m : List (Ck.Knot × Int)} (h : Ents es m) {j : Nat} {p : Ck.Knot × Int} (hj : m[j]? = some p) : ∃ e, es.toList[j]? = some e ∧ e.key = kvv p.1 ∧ e.val = .int .i64 p.2 := by
  have h' := congrArg (fun l => l[j]?) h
  simp only [List.getElem?_map, hj, Option.map_some] at h'
  cases he : es.toList[j]? with
  | none => rw [he] at h'; simp at h'
  | some e =>
    rw [he] at h'
    simp at h'
    exact ⟨e, rfl, h'.1, h'.2⟩
theorem Ents.set {es es' : Array MapEntry} {m : List (Ck.Knot × Int)} (h : Ents es m) {j : Nat} {p : Ck.Knot × Int} {e : MapEntry} (he : es'.toList = es.toList.set j e) (hk : e.key = kvv p.1) (hv : e.val = .int .i64 p.2) : Ents es' (m.set j p) := by
  unfold Ents at h ⊢
  rw [he, List.map_set, List.map_set, h, hk, hv]
theorem modify_set (es : Array MapEntry) (j : Nat) (e : MapEntry) (f : MapEntry → MapEntry) (h : es.toList[j]? = some e) : (es.modify j f).toList = es.toList.set j (f e) := by
  rw [Array.toList_modify]
  have hj : j < es.toList.length := (List.getElem?_eq_some_iff.1 h).1
  apply List.ext_getElem?
  intro i
  rw [List.getElem?_modify, List.getElem?_set]
  by_cases hi : j = i
  · subst hi
    simp only [if_true, h]
    rw [if_pos hj]
    rfl
  · simp [hi]

end Go.Proofs.YtfmfpnnglogkmaaGreatDoor

/- m[k]++ on such a map: the entry, and the store into it. -/
namespace Go.Proofs.YtfmfpnnglogkmaaGreatDoor
open Go.RowKit Go.ChangeMaps Go.MapKept

theorem map_fst_set {m : List (Ck.Knot × Int)} {j : Nat} {k : Ck.Knot} {u : Int} (h : m[j]? = some (k, u)) (v : Int) : (m.set j (k, v)).map (·.1) = m.map (·.1) := by
  rw [List.map_set]
  apply List.ext_getElem?
  intro i
  rw [List.getElem?_set]
  split
  · rename_i hi
    subst hi
    simp [h]
    exact (List.getElem?_eq_some_iff.1 h).1
  · rfl
theorem map_born_set {l : List MapEntry} {j : Nat} {e e' : MapEntry} (h : l[j]? = some e) (hb : e'.born = e.born) : (l.set j e').map (·.born) = l.map (·.born) := by
  rw [List.map_set]
  apply List.ext_getElem?
  intro i
  rw [List.getElem?_set]
  split
  · rename_i hi
    subst hi
    simp [h, hb]
    exact (List.getElem?_eq_some_iff.1 h).1
  · rfl
theorem mem_set_born {l : List MapEntry} {j c : Nat} {e e' : MapEntry} (h : l[j]? = some e) (hb : e'.born = e.born) (h5 : ∀ x ∈ l, x.born < c) : ∀ x ∈ l.set j e', x.born < c := by
  intro x hx
  rcases List.mem_or_eq_of_mem_set hx with hx | rfl
  · exact h5 x hx
  · rw [hb]; exact h5 e (List.mem_of_getElem? h)

theorem mput_self_set {m : List (Ck.Knot × Int)} {j : Nat} {k : Ck.Knot} (h : m[j]? = some (k, mget m k)) : m.set j (k, mget m k) = m := by
  apply List.ext_getElem?
  intro i
  rw [List.getElem?_set]
  split
  · rename_i hi
    subst hi
    rw [if_pos (List.getElem?_eq_some_iff.1 h).1, h]
  · rfl

end Go.Proofs.YtfmfpnnglogkmaaGreatDoor

/- Contracts of endsOf and degrees. -/
namespace Go.Proofs.YtfmfpnnglogkmaaGreatDoor
open Go.RowKit

theorem box34 (w : World) (a b c d e f g : Value) (t t' : TypeId) : ∃ w1, w1 = (w.alloc (.cells #[a, b, c] t)).alloc (.cells #[d, e, f, g] t') ∧ w1.cell? ⟨w.heap.size, 0, none⟩ = some a ∧ w1.cell? ⟨w.heap.size, 1, none⟩ = some b ∧ w1.cell? ⟨w.heap.size, 2, none⟩ = some c ∧
    w1.heap[w.heap.size + 1]? = some (.cells #[d, e, f, g] t' (0, 0)) ∧ Below w.heap.size w w1 ∧ w.heap.size + 1 < w1.heap.size := by
  obtain ⟨w0, rfl, h0, h1, h2, hb0, hz⟩ := box3 w a b c t
  have hs : (w.alloc (.cells #[a, b, c] t)).heap.size = w.heap.size + 1 := by simp
  have hb : Below (w.alloc (.cells #[a, b, c] t)).heap.size (w.alloc (.cells #[a, b, c] t)) ((w.alloc (.cells #[a, b, c] t)).alloc (.cells #[d, e, f, g] t')) := (Below.refl _ _).alloc (Nat.le_refl _) _
  exact ⟨_, rfl, (hb.cell (p := ⟨_, _, none⟩) hz).trans h0, (hb.cell (p := ⟨_, _, none⟩) hz).trans h1, (hb.cell (p := ⟨_, _, none⟩) hz).trans h2, by rw [← hs]; exact heap_alloc_new _ _, hb0.trans (hb.mono (by omega)), by simp⟩
theorem four_cells {w : World} {g : Nat} {a b c d : Value} {t : TypeId} (h : w.heap[g]? = some (.cells #[a, b, c, d] t (0, 0))) : w.cell? ⟨g, 0, none⟩ = some a ∧ w.cell? ⟨g, 1, none⟩ = some b ∧ w.cell? ⟨g, 2, none⟩ = some c ∧ w.cell? ⟨g, 3, none⟩ = some d ∧ ∀ i, w.frozen? ⟨g, i, none⟩ = false := by
  refine ⟨?_, ?_, ?_, ?_, fun i => ?_⟩ <;> simp [World.cell?, World.frozen?, h]

theorem carry34 {w0 w1 : World} {g : Nat} {a b c d e f h : Value} {t : TypeId} (hb : Below w0.heap.size w0 w1) (hz : g + 1 < w0.heap.size) (c0 : w0.cell? ⟨g, 0, none⟩ = some a) (c1 : w0.cell? ⟨g, 1, none⟩ = some b) (c2 : w0.cell? ⟨g, 2, none⟩ = some c)
    (hr : w0.heap[g + 1]? = some (.cells #[d, e, f, h] t (0, 0))) :
    w1.cell? ⟨g, 0, none⟩ = some a ∧ w1.cell? ⟨g, 1, none⟩ = some b ∧ w1.cell? ⟨g, 2, none⟩ = some c ∧ w1.heap[g + 1]? = some (.cells #[d, e, f, h] t (0, 0)) ∧ g + 1 < w1.heap.size :=
  ⟨(hb.cell (p := ⟨g, _, none⟩) (by show g < _; omega)).trans c0, (hb.cell (p := ⟨g, _, none⟩) (by show g < _; omega)).trans c1, (hb.cell (p := ⟨g, _, none⟩) (by show g < _; omega)).trans c2, (hb.block _ hz).trans hr, Nat.lt_of_lt_of_le hz hb.size⟩

end Go.Proofs.YtfmfpnnglogkmaaGreatDoor

/- The contract of degrees: a new map from the knots of a net to how many bars end there. -/
namespace Go.Proofs.YtfmfpnnglogkmaaGreatDoor
open Go.RowKit

def incr (m : List (Ck.Knot × Int)) (k : Ck.Knot) : List (Ck.Knot × Int) := mput m k (mget m k + 1)
def degsL (ks : List Ck.Knot) : List (Ck.Knot × Int) := ks.foldl incr []
theorem mget_mput (m : List (Ck.Knot × Int)) (k k' : Ck.Knot) (v : Int) : mget (mput m k v) k' = if k' = k then v else mget m k' := by
  induction m with
  | nil => simp [mput, mget]
  | cons p r ih =>
    by_cases h : k = p.1
    · simp only [mput, if_pos h, mget]
      by_cases h2 : k' = k
      · simp [h2]
      · simp [h2, h ▸ h2]
    · simp only [mput, if_neg h, mget, ih]
      by_cases h2 : k' = p.1
      · have : ¬ k' = k := fun e => h (e ▸ h2)
        simp [h2]
        intro e
        exact absurd e.symm h
      · simp [h2]
theorem mget_bound (ks : List Ck.Knot) : ∀ (m : List (Ck.Knot × Int)) (c : Int), (∀ k, 0 ≤ mget m k ∧ mget m k ≤ c) → ∀ k, 0 ≤ mget (ks.foldl incr m) k ∧ mget (ks.foldl incr m) k ≤ c + ks.length := by
  induction ks with
  | nil => intro m c h k; simpa using h k
  | cons a r ih =>
    intro m c h k
    have := ih (incr m a) (c + 1) (fun k' => by
      rw [incr, mget_mput]
      have h1 := h k'
      have h2 := h a
      split <;> omega) k
    simp only [List.foldl_cons, List.length_cons] at this ⊢
    omega
theorem degs_bound (ks : List Ck.Knot) (k : Ck.Knot) : 0 ≤ mget (degsL ks) k ∧ mget (degsL ks) k ≤ ks.length := by
  have := mget_bound ks [] 0 (fun _ => by simp [mget]) k
  simpa [degsL] using this
theorem degsL_snoc (ks : List Ck.Knot) (k : Ck.Knot) : degsL (ks ++ [k]) = incr (degsL ks) k := by simp [degsL]

theorem extract1 (a b : Value) (w : World) : (Instr.extract (.tuple #[a, b]) 1).run Tryz.prog w = .ok b w := by kernel_rfl
theorem ends_take_succ {l : List Ck.Bar} {k : Nat} (h : k < l.length) : Ck.ends (l.take (k + 1)) = Ck.ends (l.take k) ++ [l[k].lo] ++ [l[k].hi] := by
  rw [List.take_succ_eq_append_getElem h, Ck.ends_append]
  simp [Ck.ends]
theorem ends_length (l : List Ck.Bar) : (Ck.ends l).length = 2 * l.length := by
  induction l with
  | nil => rfl
  | cons a r ih => simp [Ck.ends] at ih ⊢; omega

end Go.Proofs.YtfmfpnnglogkmaaGreatDoor

/- Plain mathematics of the numbering of connected knots: what holds at each step of a search with a stack. -/
namespace Go.Proofs.YtfmfpnnglogkmaaGreatDoor
open Ck

def nb (k : Knot) : List (Bar × Knot) := [(⟨k.x - 1, k.y - 1, 1⟩, ⟨k.x - 1, k.y - 1⟩), (⟨k.x + 1, k.y - 1, -1⟩, ⟨k.x + 1, k.y - 1⟩), (⟨k.x, k.y, -1⟩, ⟨k.x - 1, k.y + 1⟩), (⟨k.x, k.y, 1⟩, ⟨k.x + 1, k.y + 1⟩)]
theorem Knot.ext' {a b : Knot} (h1 : a.x = b.x) (h2 : a.y = b.y) : a = b := by
  cases a; cases b; cases h1; cases h2; rfl
theorem nb_adj {k : Knot} {p : Bar × Knot} (h : p ∈ nb k) : Adj p.1 k p.2 := by
  simp only [nb, List.mem_cons, List.not_mem_nil, or_false] at h
  rcases h with rfl | rfl | rfl | rfl
  · exact .inr ⟨Knot.ext' (by show k.x = k.x - 1 + 1; omega) (by show k.y = k.y - 1 + 1; omega), rfl⟩
  · exact .inr ⟨Knot.ext' (by show k.x = k.x + 1 + -1; omega) (by show k.y = k.y - 1 + 1; omega), rfl⟩
  · exact .inl ⟨rfl, Knot.ext' (by show k.x - 1 = k.x + -1; omega) rfl⟩
  · exact .inl ⟨rfl, rfl⟩
theorem adj_nb {b : Bar} {k m : Knot} (hs : b.s = -1 ∨ b.s = 1) (h : Adj b k m) : (b, m) ∈ nb k := by
  obtain ⟨x, y, s⟩ := b
  simp only at hs
  simp only [nb, List.mem_cons, List.not_mem_nil, or_false, Prod.mk.injEq]
  rcases h with ⟨rfl, rfl⟩ | ⟨rfl, rfl⟩
  · rcases hs with rfl | rfl
    · exact .inr (.inr (.inl ⟨rfl, Knot.ext' (by show x + -1 = x - 1; omega) rfl⟩))
    · exact .inr (.inr (.inr ⟨rfl, rfl⟩))
  · rcases hs with rfl | rfl
    · exact .inr (.inl ⟨Bar.ext' (by show x = x + -1 + 1; omega) (by show y = y + 1 - 1; omega) rfl, Knot.ext' (by show x = x + -1 + 1; omega) (by show y = y + 1 - 1; omega)⟩)
    · exact .inl ⟨Bar.ext' (by show x = x + 1 - 1; omega) (by show y = y + 1 - 1; omega) rfl, Knot.ext' (by show x = x + 1 - 1; omega) (by show y = y + 1 - 1; omega)⟩

/-- The numbered knots are closed under the bars. -/
def Closed (l : List Bar) (M : List (Knot × Int)) : Prop := ∀ b ∈ l, ∀ k m, Adj b k m → mget M k ≠ 0 → mget M m ≠ 0
theorem Closed.conn {l : List Bar} {M : List (Knot × Int)} (h : Closed l M) {k m : Knot} (hc : Conn l k m) : mget M k ≠ 0 → mget M m ≠ 0 := by
  induction hc with
  | refl => exact id
  | step b hb ha _ ih => exact fun hk => ih (h b hb _ _ ha hk)

/-- V: the knots that have been reached; S: those whose bars are still to be looked at; k0: the one whose first j bars have been looked at. -/
structure Fl (l : List Bar) (M0 : List (Knot × Int)) (src : Knot) (n : Int) (M : List (Knot × Int)) (V S : List Knot) (k0 : Option Knot) (j : Nat) : Prop where
  hM : ∀ k, mget M k = if k ∈ V then n else mget M0 k
  conn : ∀ k ∈ V, Conn l src k
  ends : ∀ k ∈ V, k ∈ ends l
  nd : V.Nodup
  nds : S.Nodup
  sub : ∀ k ∈ S, k ∈ V
  fr : src ∈ V
  cl : ∀ k ∈ V, k ∉ S → k0 ≠ some k → ∀ p ∈ nb k, p.1 ∈ l → p.2 ∈ V
  cur : ∀ k, k0 = some k → k ∈ V ∧ k ∉ S ∧ ∀ p ∈ (nb k).take j, p.1 ∈ l → p.2 ∈ V
theorem Fl.bound {l : List Bar} {M0 M : List (Knot × Int)} {src : Knot} {n : Int} {V S : List Knot} {k0 : Option Knot} {j : Nat} (h : Fl l M0 src n M V S k0 j) : V.length ≤ (Ck.ends l).length := h.nd.length_le_of_subset h.ends
theorem Fl.stack {l : List Bar} {M0 M : List (Knot × Int)} {src : Knot} {n : Int} {V S : List Knot} {k0 : Option Knot} {j : Nat} (h : Fl l M0 src n M V S k0 j) : S.length ≤ V.length := h.nds.length_le_of_subset h.sub

theorem Fl.start {l : List Bar} {M0 : List (Knot × Int)} {src : Knot} {n : Int} (hs : src ∈ Ck.ends l) : Fl l M0 src n (mput M0 src n) [src] [src] none 0 where
  hM k := by rw [mget_mput]; simp
  conn k hk := by rw [List.mem_singleton] at hk; subst hk; exact .refl _
  ends k hk := by rw [List.mem_singleton] at hk; subst hk; exact hs
  nd := by simp
  nds := by simp
  sub k hk := hk
  fr := by simp
  cl k hk hns := absurd hk hns
  cur k hk := by cases hk
theorem Fl.pop {l : List Bar} {M0 M : List (Knot × Int)} {src : Knot} {n : Int} {V S : List Knot} {k : Knot} (h : Fl l M0 src n M V (S ++ [k]) none 0) : Fl l M0 src n M V S (some k) 0 where
  hM := h.hM
  conn := h.conn
  ends := h.ends
  nd := h.nd
  nds := (List.nodup_append.1 h.nds).1
  sub m hm := h.sub m (by simp [hm])
  fr := h.fr
  cl m hm hns hne := h.cl m hm (fun hh => by
    rcases List.mem_append.1 hh with hh | hh
    · exact hns hh
    · rw [List.mem_singleton] at hh; subst hh; exact hne rfl) (by simp)
  cur m hm := by
    cases hm
    refine ⟨h.sub k (by simp), fun hk => ?_, by simp⟩
    exact (List.nodup_append.1 h.nds).2.2 k hk k (by simp) rfl
theorem Fl.done {l : List Bar} {M0 M : List (Knot × Int)} {src : Knot} {n : Int} {V S : List Knot} {k : Knot} (h : Fl l M0 src n M V S (some k) 4) : Fl l M0 src n M V S none 0 where
  hM := h.hM
  conn := h.conn
  ends := h.ends
  nd := h.nd
  nds := h.nds
  sub := h.sub
  fr := h.fr
  cl m hm hns _ p hp hl := by
    by_cases e : m = k
    · subst e; exact (h.cur m rfl).2.2 p (by simpa [nb] using hp) hl
    · exact h.cl m hm hns (fun e' => e (by cases e'; rfl)) p hp hl
  cur m hm := by cases hm
theorem take_succ_mem {α : Type} {l : List α} {j : Nat} {p q : α} (hp : l[j]? = some p) (h : q ∈ l.take (j + 1)) : q ∈ l.take j ∨ q = p := by
  rw [List.take_add_one, hp] at h
  simpa using h
/-- The bar leads to a knot that is new: it gets the number, and comes onto the stack. -/
theorem Fl.push {l : List Bar} {M0 M : List (Knot × Int)} {src : Knot} {n : Int} {V S : List Knot} {k : Knot} {j : Nat} {p : Bar × Knot} (h : Fl l M0 src n M V S (some k) j) (hn : n ≠ 0) (hp : (nb k)[j]? = some p) (hz : mget M p.2 = 0) (hl : p.1 ∈ l) :
    Fl l M0 src n (mput M p.2 n) (p.2 :: V) (S ++ [p.2]) (some k) (j + 1) := by
  have hnew : p.2 ∉ V := fun hv => hn (by rw [← hz, h.hM, if_pos hv])
  have hadj := nb_adj (List.mem_of_getElem? hp)
  obtain ⟨hkV, hkS, hkc⟩ := h.cur k rfl
  exact {
    hM := fun m => by
      rw [mget_mput, h.hM]
      by_cases e : m = p.2
      · simp [e]
      · simp [e]
    conn := fun m hm => by
      rcases List.mem_cons.1 hm with rfl | hm
      · exact (h.conn k hkV).trans (.one hl hadj)
      · exact h.conn m hm
    ends := fun m hm => by
      rcases List.mem_cons.1 hm with rfl | hm
      · exact (hadj.ends hl).2
      · exact h.ends m hm
    nd := List.nodup_cons.2 ⟨hnew, h.nd⟩
    nds := List.nodup_append.2 ⟨h.nds, by simp, fun a ha b hb e => by
      rw [List.mem_singleton] at hb
      subst hb
      subst e
      exact hnew (h.sub _ ha)⟩
    sub := fun m hm => by
      rcases List.mem_append.1 hm with hm | hm
      · exact List.mem_cons.2 (.inr (h.sub m hm))
      · rw [List.mem_singleton] at hm; subst hm; simp
    fr := List.mem_cons.2 (.inr h.fr)
    cl := fun m hm hns hne q hq hql => by
      rcases List.mem_cons.1 hm with rfl | hm
      · exact absurd (List.mem_append.2 (.inr (by simp))) hns
      · exact List.mem_cons.2 (.inr (h.cl m hm (fun hh => hns (List.mem_append.2 (.inl hh))) hne q hq hql))
    cur := fun m hm => by
      cases hm
      refine ⟨List.mem_cons.2 (.inr hkV), fun hh => ?_, fun q hq hql => ?_⟩
      · rcases List.mem_append.1 hh with hh | hh
        · exact hkS hh
        · rw [List.mem_singleton] at hh; exact hnew (hh ▸ hkV)
      · rcases take_succ_mem hp hq with hq | rfl
        · exact List.mem_cons.2 (.inr (hkc q hq hql))
        · simp }
/-- The bar isn't in the net, or leads to a knot that has a number. -/
theorem Fl.skip {l : List Bar} {M0 M : List (Knot × Int)} {src : Knot} {n : Int} {V S : List Knot} {k : Knot} {j : Nat} {p : Bar × Knot} (h : Fl l M0 src n M V S (some k) j) (hc : Closed l M0) (h0 : mget M0 src = 0) (hp : (nb k)[j]? = some p) (hz : ¬ (mget M p.2 = 0 ∧ p.1 ∈ l)) :
    Fl l M0 src n M V S (some k) (j + 1) := by
  have hadj := nb_adj (List.mem_of_getElem? hp)
  obtain ⟨hkV, hkS, hkc⟩ := h.cur k rfl
  exact { h with
    cur := fun m hm => by
      cases hm
      refine ⟨hkV, hkS, fun q hq hql => ?_⟩
      rcases take_succ_mem hp hq with hq | rfl
      · exact hkc q hq hql
      · by_cases hv : q.2 ∈ V
        · exact hv
        · exfalso
          have h1 : mget M q.2 ≠ 0 := fun e => hz ⟨e, hql⟩
          rw [h.hM, if_neg hv] at h1
          exact hc.conn (((h.conn k hkV).trans (.one hql hadj)).symm) h1 h0 }
/-- What the map holds at the end. -/
theorem Fl.result {l : List Bar} {M0 M : List (Knot × Int)} {src : Knot} {n : Int} {V : List Knot} (h : Fl l M0 src n M V [] none 0) (hok : ∀ b ∈ l, b.s = -1 ∨ b.s = 1) :
    (∀ k, Conn l src k → mget M k = n) ∧ ∀ k, ¬ Conn l src k → mget M k = mget M0 k := by
  have hall : ∀ k m, Conn l k m → k ∈ V → m ∈ V := by
    intro k m hc
    induction hc with
    | refl => exact id
    | step b hb ha _ ih => exact fun hk => ih (h.cl _ hk (by simp) (by simp) _ (adj_nb (hok b hb) ha) hb)
  exact ⟨fun k hk => by rw [h.hM, if_pos (hall _ _ hk h.fr)], fun k hk => by rw [h.hM, if_neg (fun hv => hk (h.conn k hv))]⟩
end Go.Proofs.YtfmfpnnglogkmaaGreatDoor

/- Contracts of slices.BinarySearchFunc over bars in their order, and of hasBar. -/
namespace Go.Proofs.YtfmfpnnglogkmaaGreatDoor
open Go.RowKit

theorem cmpB_neg (p b : Ck.Bar) : decide (cmpB p b < 0) = lessB p.x p.y p.s b.x b.y b.s := by
  have h := cmpB_less p b
  cases hl : lessB p.x p.y p.s b.x b.y b.s
  · rw [hl] at h; simp at h ⊢; omega
  · rw [hl] at h; simp at h ⊢; omega
theorem lessB_iff (p b : Ck.Bar) : lessB p.x p.y p.s b.x b.y b.s = true ↔ Ck.Blt p b := by
  unfold lessB Ck.Blt
  split
  · split <;> simp <;> omega
  · simp; omega
theorem cmpE_zero (a b : Int) : cmpE a b = 0 ↔ a = b := by
  unfold cmpE
  split
  · omega
  · split <;> omega
theorem firstE_zero : ∀ es : List Int, firstE es = 0 ↔ ∀ e ∈ es, e = 0
  | [] => by simp [firstE]
  | e :: r => by
    unfold firstE
    split
    · rename_i h; simp [h, firstE_zero r]
    · rename_i h; simp [h]
theorem cmpB_zero (p b : Ck.Bar) : cmpB p b = 0 ↔ p = b := by
  rw [cmpB, firstE_zero]
  simp only [List.mem_cons, List.not_mem_nil, or_false, forall_eq_or_imp, forall_eq, cmpE_zero]
  constructor
  · rintro ⟨h1, h2, h3⟩; exact Ck.Bar.ext' h2 h1 h3
  · rintro rfl; exact ⟨rfl, rfl, rfl⟩
theorem cmpB_mono {l : List Ck.Bar} (hs : l.Pairwise Ck.Blt) {t : Ck.Bar} {i j : Nat} (hi : i < l.length) (hj : j < l.length) (hij : i ≤ j) (h : cmpB l[j] t < 0) : cmpB l[i] t < 0 := by
  rcases Nat.lt_or_ge i j with hlt | hge
  · have h1 := (List.pairwise_iff_getElem.1 hs) i j hi hj hlt
    have h2 : lessB l[j].x l[j].y l[j].s t.x t.y t.s = true := by rw [← cmpB_neg]; simpa using h
    have h3 := (lessB_iff _ _).2 (h1.trans ((lessB_iff _ _).1 h2))
    rw [← cmpB_neg] at h3
    simpa using h3
  · obtain rfl : i = j := by omega
    exact h
theorem found_mem {l : List Ck.Bar} {t : Ck.Bar} {p : Nat} (h1 : ∀ k (hk : k < l.length), k < p → cmpB l[k] t < 0) (h2 : ∀ k (hk : k < l.length), p ≤ k → 0 ≤ cmpB l[k] t) (hs : l.Pairwise Ck.Blt) (hp : p < l.length) : decide (t ∈ l) = decide (cmpB l[p] t = 0) := by
  rw [decide_eq_decide]
  constructor
  · intro hm
    obtain ⟨k, hk, rfl⟩ := List.getElem_of_mem hm
    have hk0 : cmpB l[k] l[k] = 0 := (cmpB_zero _ _).2 rfl
    rcases Nat.lt_trichotomy k p with hlt | rfl | hgt
    · have := h1 k hk hlt; omega
    · exact hk0
    · have h3 := (List.pairwise_iff_getElem.1 hs) p k hp hk hgt
      have h4 := (lessB_iff _ _).2 h3
      rw [← cmpB_neg] at h4
      have := h2 p hp (Nat.le_refl _)
      simp at h4
      omega
  · intro h
    rw [← (cmpB_zero _ _).1 h]
    exact List.getElem_mem hp
theorem end_mem {l : List Ck.Bar} {t : Ck.Bar} (h1 : ∀ k (hk : k < l.length), k < l.length → cmpB l[k] t < 0) : decide (t ∈ l) = false := by
  rw [decide_eq_false_iff_not]
  intro hm
  obtain ⟨k, hk, rfl⟩ := List.getElem_of_mem hm
  have := h1 k hk hk
  have hk0 : cmpB l[k] l[k] = 0 := (cmpB_zero _ _).2 rfl
  omega

def BSPost (t : Ck.Bar) (l : List Ck.Bar) (w : World) (e : Ending) (w' : World) : Prop := ∃ i : Nat, e = .returned (.tuple #[.int .i64 i, .bool (decide (t ∈ l))]) ∧ Below w.heap.size w w'
end Go.Proofs.YtfmfpnnglogkmaaGreatDoor

/- Contracts of hasBar, meshBars, hasMesh. -/
namespace Go.Proofs.YtfmfpnnglogkmaaGreatDoor
open Go.RowKit

def meshBars4 (x y : Int) : List Ck.Bar := [⟨x, y - 1, -1⟩, ⟨x, y - 1, 1⟩, ⟨x - 1, y, 1⟩, ⟨x + 1, y, -1⟩]
end Go.Proofs.YtfmfpnnglogkmaaGreatDoor

/- The contract of hasMesh. -/
namespace Go.Proofs.YtfmfpnnglogkmaaGreatDoor
open Go.RowKit

def allIn (l : List Ck.Bar) (bs : List Ck.Bar) : Bool := bs.all fun b => decide (b ∈ l)
theorem allIn_no {l bs : List Ck.Bar} {b : Ck.Bar} (hb : b ∈ bs) (h : decide (b ∈ l) = false) : allIn l bs = false := by
  rw [allIn, List.all_eq_false]
  exact ⟨b, hb, by simpa using h⟩

end Go.Proofs.YtfmfpnnglogkmaaGreatDoor

/- The contract of meshesOf. -/
namespace Go.Proofs.YtfmfpnnglogkmaaGreatDoor
open Go.RowKit

def isM (l : List Ck.Bar) (b : Ck.Bar) : Bool := decide (b.s = -1) && allIn l (meshBars4 b.x (b.y + 1))
def meshL (l : List Ck.Bar) (r : List Ck.Bar) : List Ck.Bar := r.filter (isM l)
def meshCells (ms : List Ck.Bar) : List Value := ms.flatMap fun b => [.int .i64 b.x, .int .i64 (b.y + 1)]
theorem meshL_no {l : List Ck.Bar} {k : Nat} (hk : k < l.length) (h : isM l l[k] = false) : meshL l (l.take (k + 1)) = meshL l (l.take k) := by
  rw [List.take_succ_eq_append_getElem hk, meshL, List.filter_append, meshL]
  simp [h]
theorem meshL_yes {l : List Ck.Bar} {k : Nat} (hk : k < l.length) (h : isM l l[k] = true) : meshL l (l.take (k + 1)) = meshL l (l.take k) ++ [l[k]] := by
  rw [List.take_succ_eq_append_getElem hk, meshL, List.filter_append, meshL]
  simp [h]
theorem meshL_le (l : List Ck.Bar) (k : Nat) : (meshL l (l.take k)).length ≤ l.length := by
  have h1 := List.length_filter_le (isM l) (l.take k)
  have h2 := List.length_take_le' k l
  unfold meshL
  omega

theorem ownsRow_below {w w' : World} {base : Nat} {e : TypeId} {size n : Nat} {v : Value} {xs : List Value} (h : w.ownsRow base e size v n xs) (hb : Below w.heap.size w w') : w'.ownsRow base e size v n xs :=
  h.kept (row := none) ⟨hb.os, hb.tape, hb.output, hb.size, fun i hi _ => hb.block i hi⟩ (by cases v.ownBlock <;> simp)

theorem ownsRow_base {w : World} {base : Nat} {e : TypeId} {size n : Nat} {v : Value} {xs : List Value} (h : w.ownsRow base e size v n xs) : ∀ g, v.ownBlock = some g → base ≤ g := by
  intro g hg
  rcases h.2 with ⟨rfl, _⟩ | ⟨g', cap, cur, rfl, hb, _⟩
  · cases hg
  · cases hg; exact hb
theorem two_new (w : World) (a b : Value) (t : TypeId) : ∀ (j : Nat) (u : Value), [a, b][j]? = some u → (w.alloc (.cells #[a, b] t)).cell? ((⟨w.heap.size, 0, none⟩ : Addr).add j) = some u := by
  intro j u h
  match j, h with
  | 0, h => cases h; exact (box2 w a b t).choose_spec.1 ▸ (box2 w a b t).choose_spec.2.1
  | 1, h => cases h; exact (box2 w a b t).choose_spec.1 ▸ (box2 w a b t).choose_spec.2.2.1
theorem meshCells_snoc (ms : List Ck.Bar) (b : Ck.Bar) : meshCells (ms ++ [b]) = meshCells ms ++ [.int .i64 b.x, .int .i64 (b.y + 1)] := by simp [meshCells]

end Go.Proofs.YtfmfpnnglogkmaaGreatDoor

/- Contracts of barsAround and otherEnd. -/
namespace Go.Proofs.YtfmfpnnglogkmaaGreatDoor
open Go.RowKit

theorem box322 (w : World) (a b c d e f g : Value) (t t' t'' : TypeId) : ∃ w1, w1 = ((w.alloc (.cells #[a, b, c] t)).alloc (.cells #[d, e] t')).alloc (.cells #[f, g] t'') ∧ w1.cell? ⟨w.heap.size, 0, none⟩ = some a ∧ w1.cell? ⟨w.heap.size, 1, none⟩ = some b ∧ w1.cell? ⟨w.heap.size, 2, none⟩ = some c ∧
    w1.cell? ⟨w.heap.size + 1, 0, none⟩ = some d ∧ w1.cell? ⟨w.heap.size + 1, 1, none⟩ = some e ∧ w1.heap[w.heap.size + 2]? = some (.cells #[f, g] t'' (0, 0)) ∧ Below w.heap.size w w1 ∧ w.heap.size + 2 < w1.heap.size := by
  obtain ⟨w0, rfl, h0, h1, h2, hb0, hz⟩ := box3 w a b c t
  have hs : (w.alloc (.cells #[a, b, c] t)).heap.size = w.heap.size + 1 := by simp
  obtain ⟨w1, rfl, k0, k1, hb1, hz1⟩ := box2 (w.alloc (.cells #[a, b, c] t)) d e t'
  have hs1 : ((w.alloc (.cells #[a, b, c] t)).alloc (.cells #[d, e] t')).heap.size = w.heap.size + 2 := by simp
  rw [hs] at k0 k1
  have hb : Below (w.heap.size + 2) ((w.alloc (.cells #[a, b, c] t)).alloc (.cells #[d, e] t')) (((w.alloc (.cells #[a, b, c] t)).alloc (.cells #[d, e] t')).alloc (.cells #[f, g] t'')) := (Below.refl _ _).alloc (by simp) _
  refine ⟨_, rfl, ?_, ?_, ?_, (hb.cell (p := ⟨_, _, none⟩) (by simp)).trans k0, (hb.cell (p := ⟨_, _, none⟩) (by simp)).trans k1, by rw [← hs1]; exact heap_alloc_new _ _, (hb0.trans (hb1.mono (by omega))).trans (hb.mono (by omega)), by simp⟩
  · exact ((hb.cell (p := ⟨_, _, none⟩) (by show w.heap.size < _; omega)).trans (hb1.cell (p := ⟨_, _, none⟩) (by show w.heap.size < _; omega))).trans h0
  · exact ((hb.cell (p := ⟨_, _, none⟩) (by show w.heap.size < _; omega)).trans (hb1.cell (p := ⟨_, _, none⟩) (by show w.heap.size < _; omega))).trans h1
  · exact ((hb.cell (p := ⟨_, _, none⟩) (by show w.heap.size < _; omega)).trans (hb1.cell (p := ⟨_, _, none⟩) (by show w.heap.size < _; omega))).trans h2
end Go.Proofs.YtfmfpnnglogkmaaGreatDoor
