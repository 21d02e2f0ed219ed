/- Helpers: DKpP1. -/
import Derived.Test.YtdeplhihcifmeaaGreatDoorD7
import Derived.Deep.RegionHeld3
import Derived.ProofKit
import Derived.Deep.Slices
import Derived.Deep.Fields
/- Insertion into a strictly ascending list, and lists that are told by their members: plain mathematics of bars and knots. -/
namespace Go.Proofs.YtdeplhihcifmeaaGreatDoor
open Ck Go.RowKit Go.Sort

section
variable {α : Type} (lt : α → α → Bool) [DecidableEq α]
/-- An element put where it belongs, unless it is there. -/
def insG (out : List α) (x : α) : List α := if (out.dropWhile (lt · x)).head? = some x then out else out.takeWhile (lt · x) ++ x :: out.dropWhile (lt · x)
omit [DecidableEq α] in
theorem dropWhile_first {p : α → Bool} {l : List α} {y : α} {r : List α} (h : l.dropWhile p = y :: r) : p y = false := by
  induction l with
  | nil => simp at h
  | cons a l ih =>
    rw [List.dropWhile_cons] at h
    split at h
    · exact ih h
    · rename_i hp
      cases h
      simpa using hp
theorem insG_mem (out : List α) (x y : α) : y ∈ insG lt out x ↔ y ∈ out ∨ y = x := by
  unfold insG
  split
  · rename_i h
    have hx : x ∈ out := by
      have h2 : x ∈ out.dropWhile (lt · x) := by
        cases hd : out.dropWhile (lt · x) with
        | nil => rw [hd] at h; simp at h
        | cons a r => rw [hd] at h; simp at h; subst h; simp
      exact (List.dropWhile_sublist _).subset h2
    exact ⟨fun h => .inl h, fun h => h.elim id fun e => by rw [e]; exact hx⟩
  · rw [List.mem_append, List.mem_cons]
    have e : y ∈ out ↔ y ∈ out.takeWhile (lt · x) ∨ y ∈ out.dropWhile (lt · x) := by
      rw [← List.mem_append, List.takeWhile_append_dropWhile]
    rw [e]
    constructor
    · rintro (h | h | h)
      · exact .inl (.inl h)
      · exact .inr h
      · exact .inl (.inr h)
    · rintro ((h | h) | h)
      · exact .inl h
      · exact .inr (.inr h)
      · exact .inr (.inl h)
theorem insG_sorted (tr : ∀ a b c, lt a b = true → lt b c = true → lt a c = true) (tri : ∀ a b, lt a b = true ∨ a = b ∨ lt b a = true) {out : List α} (h : out.Pairwise fun a b => lt a b = true) (x : α) : (insG lt out x).Pairwise fun a b => lt a b = true := by
  unfold insG
  split
  · exact h
  · rename_i hne
    have h0 : (out.takeWhile (lt · x) ++ out.dropWhile (lt · x)).Pairwise fun a b => lt a b = true := by rw [List.takeWhile_append_dropWhile]; exact h
    obtain ⟨h1, h2, h3⟩ := List.pairwise_append.1 h0
    have ht : ∀ a ∈ out.takeWhile (lt · x), lt a x = true := fun a ha => List.all_eq_true.1 List.all_takeWhile a ha
    have hd : ∀ b ∈ out.dropWhile (lt · x), lt x b = true := by
      cases hdd : out.dropWhile (lt · x) with
      | nil => intro b hb; simp at hb
      | cons y r =>
        have hy := dropWhile_first hdd
        rw [hdd] at hne h2
        simp only [List.head?_cons, Option.some.injEq] at hne
        have hxy : lt x y = true := by
          rcases tri x y with h | h | h
          · exact h
          · exact absurd h.symm hne
          · rw [hy] at h; cases h
        intro b hb
        rcases List.mem_cons.1 hb with rfl | hb
        · exact hxy
        · exact tr x y b hxy ((List.pairwise_cons.1 h2).1 b hb)
    refine List.pairwise_append.2 ⟨h1, List.pairwise_cons.2 ⟨hd, h2⟩, fun a ha b hb => ?_⟩
    rcases List.mem_cons.1 hb with rfl | hb
    · exact ht a ha
    · exact h3 a ha b hb
/-- All elements put where they belong. -/
def insL (l out : List α) : List α := l.foldl (insG lt) out
theorem insL_mem (y : α) : ∀ (l out : List α), y ∈ insL lt l out ↔ y ∈ out ∨ y ∈ l
  | [], _ => by simp [insL]
  | a :: r, out => by
    have e : insL lt (a :: r) out = insL lt r (insG lt out a) := rfl
    rw [e, insL_mem y r, insG_mem, List.mem_cons, or_assoc]
theorem insL_sorted (tr : ∀ a b c, lt a b = true → lt b c = true → lt a c = true) (tri : ∀ a b, lt a b = true ∨ a = b ∨ lt b a = true) : ∀ (l out : List α), (out.Pairwise fun a b => lt a b = true) → (insL lt l out).Pairwise fun a b => lt a b = true
  | [], _, h => h
  | a :: r, out, h => insL_sorted tr tri r _ (insG_sorted lt tr tri h a)
theorem insG_length (out : List α) (x : α) : (insG lt out x).length ≤ out.length + 1 := by
  unfold insG
  split
  · omega
  · rw [List.length_append, List.length_cons]
    have h := congrArg List.length (List.takeWhile_append_dropWhile (p := (lt · x)) (l := out))
    rw [List.length_append] at h
    omega
theorem insL_length : ∀ (l out : List α), (insL lt l out).length ≤ out.length + l.length
  | [], _ => by simp [insL]
  | a :: r, out => by
    have e : insL lt (a :: r) out = insL lt r (insG lt out a) := rfl
    have h1 := insL_length r (insG lt out a)
    have h2 := insG_length lt out a
    rw [e, List.length_cons]
    omega
omit [DecidableEq α] in
/-- Two strictly ascending lists with the same members are equal. -/
theorem told (tr : ∀ a b c, lt a b = true → lt b c = true → lt a c = true) (irr : ∀ a, lt a a = false) : ∀ {a b : List α}, (a.Pairwise fun x y => lt x y = true) → (b.Pairwise fun x y => lt x y = true) → (∀ x, x ∈ a ↔ x ∈ b) → a = b
  | [], [], _, _, _ => rfl
  | [], y :: s, _, _, h => absurd ((h y).2 (by simp)) (by simp)
  | x :: r, [], _, _, h => absurd ((h x).1 (by simp)) (by simp)
  | x :: r, y :: s, ha, hb, h => by
    obtain ⟨a1, a2⟩ := List.pairwise_cons.1 ha
    obtain ⟨b1, b2⟩ := List.pairwise_cons.1 hb
    have e : x = y := by
      rcases List.mem_cons.1 ((h x).1 (by simp)) with e | hx
      · exact e
      · rcases List.mem_cons.1 ((h y).2 (by simp)) with e | hy
        · exact e.symm
        · have := tr _ _ _ (a1 y hy) (b1 x hx)
          rw [irr] at this
          cases this
    subst e
    rw [told tr irr a2 b2 fun z => ?_]
    constructor
    · intro hz
      rcases List.mem_cons.1 ((h z).1 (by simp [hz])) with e | hz'
      · subst e
        have := a1 z hz
        rw [irr] at this
        cases this
      · exact hz'
    · intro hz
      rcases List.mem_cons.1 ((h z).2 (by simp [hz])) with e | hz'
      · subst e
        have := b1 z hz
        rw [irr] at this
        cases this
      · exact hz'
end
def ltB (a b : Bar) : Bool := decide (Blt a b)
def ltK (a b : Knot) : Bool := decide (Klt a b)
theorem ltB_tr (a b c : Bar) (h1 : ltB a b = true) (h2 : ltB b c = true) : ltB a c = true := by
  simp only [ltB, decide_eq_true_eq] at *
  exact h1.trans h2
theorem ltB_tri (a b : Bar) : ltB a b = true ∨ a = b ∨ ltB b a = true := by
  simp only [ltB, decide_eq_true_eq]
  exact Blt.tri a b
theorem ltB_irr (a : Bar) : ltB a a = false := by
  simp only [ltB, decide_eq_false_iff_not]
  exact fun h => h.irrefl
theorem ltK_tr (a b c : Knot) (h1 : ltK a b = true) (h2 : ltK b c = true) : ltK a c = true := by
  simp only [ltK, decide_eq_true_eq] at *
  unfold Klt at *
  omega
theorem ltK_tri (a b : Knot) : ltK a b = true ∨ a = b ∨ ltK b a = true := by
  simp only [ltK, decide_eq_true_eq]
  exact Klt.tri a b
theorem ltK_irr (a : Knot) : ltK a a = false := by
  simp only [ltK, decide_eq_false_iff_not]
  unfold Klt
  omega
theorem ltB_pw {l : List Bar} : (l.Pairwise fun a b => ltB a b = true) ↔ l.Pairwise Blt := by simp [ltB]
/-- The reference's Sorted of bars. -/
def srtL (l : List Bar) : List Bar := insL ltB l []
theorem srtL_pw (l : List Bar) : (srtL l).Pairwise Blt := ltB_pw.1 (insL_sorted ltB ltB_tr ltB_tri l [] List.Pairwise.nil)
theorem srtL_mem (l : List Bar) (b : Bar) : b ∈ srtL l ↔ b ∈ l := by rw [srtL, insL_mem]; simp
theorem srtL_length (l : List Bar) : (srtL l).length ≤ l.length := by
  have := insL_length ltB l []
  simpa [srtL] using this
end Go.Proofs.YtdeplhihcifmeaaGreatDoor

/- The parts of a net, in the order of their first bars: plain mathematics. -/
namespace Go.Proofs.YtdeplhihcifmeaaGreatDoor
open Ck Go.RowKit

def hdlt (g h : List Bar) : Bool := match g.head?, h.head? with
  | some a, some b => decide (Blt a b)
  | _, _ => false
/-- These are the parts of the net, in the order of their first bars. -/
structure PartsAre (l : List Bar) (G : List (List Bar)) : Prop where
  ne : ∀ g ∈ G, g ≠ []
  pw : ∀ g ∈ G, g.Pairwise Blt
  sub : ∀ g ∈ G, ∀ b ∈ g, b ∈ l
  cls : ∀ g ∈ G, ∀ b ∈ g, ∀ c ∈ l, (c ∈ g ↔ Conn l b.lo c.lo)
  all : ∀ b ∈ l, ∃ g ∈ G, b ∈ g
  ord : G.Pairwise fun g h => hdlt g h = true
theorem hdlt_tr (a b c : List Bar) (h1 : hdlt a b = true) (h2 : hdlt b c = true) : hdlt a c = true := by
  unfold hdlt at *
  cases ha : a.head? <;> cases hb : b.head? <;> cases hc : c.head? <;> simp_all
  exact Blt.trans h1 h2
theorem hdlt_irr (a : List Bar) : hdlt a a = false := by
  unfold hdlt
  cases ha : a.head? with
  | none => rfl
  | some x =>
    simp only [decide_eq_false_iff_not]
    exact fun h => h.irrefl
theorem PartsAre.mem_of {l : List Bar} {G G' : List (List Bar)} (h : PartsAre l G) (h' : PartsAre l G') {g : List Bar} (hg : g ∈ G) : g ∈ G' := by
  obtain ⟨b, hb⟩ := List.exists_mem_of_ne_nil g (h.ne g hg)
  have hbl := h.sub g hg b hb
  obtain ⟨g', hg', hb'⟩ := h'.all b hbl
  have : g = g' := told ltB ltB_tr ltB_irr (ltB_pw.2 (h.pw g hg)) (ltB_pw.2 (h'.pw g' hg')) fun c => by
    constructor
    · intro hc
      have hcl := h.sub g hg c hc
      exact (h'.cls g' hg' b hb' c hcl).2 ((h.cls g hg b hb c hcl).1 hc)
    · intro hc
      have hcl := h'.sub g' hg' c hc
      exact (h.cls g hg b hb c hcl).2 ((h'.cls g' hg' b hb' c hcl).1 hc)
  rw [this]
  exact hg'
theorem PartsAre.unique {l : List Bar} {G G' : List (List Bar)} (h : PartsAre l G) (h' : PartsAre l G') : G = G' :=
  told hdlt hdlt_tr hdlt_irr h.ord h'.ord fun _ => ⟨h.mem_of h', h'.mem_of h⟩
theorem head_of {g : List Bar} {f : Bar} (hs : g.Pairwise Blt) (hf : f ∈ g) (hl : ∀ c ∈ g, ¬ Blt c f) : g.head? = some f := by
  cases g with
  | nil => cases hf
  | cons a r =>
    rcases List.mem_cons.1 hf with h | h
    · rw [h]; rfl
    · exact absurd ((List.pairwise_cons.1 hs).1 f h) (hl a (List.mem_cons_self ..))
theorem before_take {l : List Bar} (hs : l.Pairwise Blt) {i : Nat} (hi : i < l.length) {c : Bar} (hc : c ∈ l) (h : Blt c l[i]) : c ∈ l.take i := by
  obtain ⟨j, hj, rfl⟩ := List.getElem_of_mem hc
  rcases Nat.lt_trichotomy j i with h1 | h1 | h1
  · exact List.mem_take_iff_getElem.2 ⟨j, by omega, rfl⟩
  · subst h1
    exact absurd h fun h => h.irrefl
  · exact absurd (h.trans (List.pairwise_iff_getElem.1 hs i j hi hj h1)) fun h => h.irrefl
/-- The numbers of the search, with the first bars of the parts. -/
structure PtX (l : List Bar) (i : Nat) (F : List Bar) (M : List (Knot × Int)) : Prop where
  pt : Pt l i F.length M
  up : ∀ f ∈ F, f ∈ l.take i
  at' : ∀ q (h : q < F.length) (k : Knot), mget M k = ((q + 1 : Nat) : Int) ↔ Conn l F[q].lo k
  least : ∀ f ∈ F, ∀ c ∈ l, Conn l f.lo c.lo → ¬ Blt c f
  pw : F.Pairwise Blt
theorem PtX.start (l : List Bar) : PtX l 0 [] [] where
  pt := Pt.start l
  up := by simp
  at' q h := by simp at h
  least := by simp
  pw := List.Pairwise.nil
theorem PtX.old {l : List Bar} {i : Nat} {F : List Bar} {M : List (Knot × Int)} (h : PtX l i F M) (hi : i < l.length) (hz : ¬ mget M l[i].lo = 0) : PtX l (i + 1) F M where
  pt := h.pt.old hi hz
  up f hf := (mem_take_succ hi).2 (.inl (h.up f hf))
  at' := h.at'
  least := h.least
  pw := h.pw
theorem PtX.fresh {l : List Bar} {i : Nat} {F : List Bar} {M M' : List (Knot × Int)} (h : PtX l i F M) (hs : l.Pairwise Blt) (hi : i < l.length) (hz : mget M l[i].lo = 0)
    (h1 : ∀ k, Conn l l[i].lo k → mget M' k = ((F.length + 1 : Nat) : Int)) (h2 : ∀ k, ¬ Conn l l[i].lo k → mget M' k = mget M k) : PtX l (i + 1) (F ++ [l[i]]) M' where
  pt := by
    rw [List.length_append]
    exact h.pt.fresh hi hz h1 h2
  up f hf := by
    rcases List.mem_append.1 hf with hf | hf
    · exact (mem_take_succ hi).2 (.inl (h.up f hf))
    · exact (mem_take_succ hi).2 (.inr (by simpa using hf))
  at' q hq k := by
    rw [List.length_append] at hq
    by_cases hqF : q < F.length
    · rw [List.getElem_append_left hqF]
      by_cases hc : Conn l l[i].lo k
      · rw [h1 k hc]
        constructor
        · intro e; omega
        · intro hc2
          have h3 := (h.at' q hqF l[i].lo).2 (hc2.trans hc.symm)
          omega
      · rw [h2 k hc]
        exact h.at' q hqF k
    · have e : q = F.length := by simp at hq; omega
      subst e
      rw [List.getElem_append_right (by omega)]
      simp only [Nat.sub_self, List.getElem_cons_zero]
      by_cases hc : Conn l l[i].lo k
      · exact ⟨fun _ => hc, fun _ => h1 k hc⟩
      · rw [h2 k hc]
        exact ⟨fun e => by have := h.pt.hi k; omega, fun h => absurd h hc⟩
  least f hf c hc hcc hb := by
    rcases List.mem_append.1 hf with hf | hf
    · exact h.least f hf c hc hcc hb
    · obtain rfl : f = l[i] := by simpa using hf
      have h3 := before_take hs hi hc hb
      exact (h.pt.num _).2 ⟨c, h3, hcc.symm⟩ hz
  pw := by
    refine List.pairwise_append.2 ⟨h.pw, by simp, fun a ha b hb => ?_⟩
    obtain rfl : b = l[i] := by simpa using hb
    obtain ⟨j, hj, rfl⟩ := List.mem_take_iff_getElem.1 (h.up a ha)
    exact List.pairwise_iff_getElem.1 hs j i (by omega) hi (by omega)
def partN (M : List (Knot × Int)) (l : List Bar) (q : Nat) : List Bar := l.filter fun b => decide (mget M b.lo = ((q + 1 : Nat) : Int))
def partsN (M : List (Knot × Int)) (l : List Bar) (n : Nat) : List (List Bar) := (List.range n).map (partN M l)
theorem partsN_length (M : List (Knot × Int)) (l : List Bar) (n : Nat) : (partsN M l n).length = n := by simp [partsN]
theorem PtX.parts {l : List Bar} {F : List Bar} {M : List (Knot × Int)} (hs : l.Pairwise Blt) (h : PtX l l.length F M) : PartsAre l (partsN M l F.length) := by
  have hF : ∀ q (hq : q < F.length), F[q] ∈ partN M l q := fun q hq => by
    refine List.mem_filter.2 ⟨?_, by simpa using (h.at' q hq F[q].lo).2 (.refl _)⟩
    have := h.up _ (List.getElem_mem hq)
    rwa [List.take_length] at this
  have hh : ∀ q (hq : q < F.length), (partN M l q).head? = some F[q] := fun q hq => head_of (hs.filter _) (hF q hq) fun c hc => by
    obtain ⟨hc1, hc2⟩ := List.mem_filter.1 hc
    exact h.least _ (List.getElem_mem hq) c hc1 ((h.at' q hq c.lo).1 (by simpa using hc2))
  have hm : ∀ g ∈ partsN M l F.length, ∃ q, ∃ _ : q < F.length, g = partN M l q := fun g hg => by
    obtain ⟨q, hq, rfl⟩ := List.mem_map.1 hg
    exact ⟨q, List.mem_range.1 hq, rfl⟩
  refine ⟨fun g hg => ?_, fun g hg => ?_, fun g hg b hb => ?_, fun g hg b hb c hc => ?_, fun b hb => ?_, ?_⟩
  · obtain ⟨q, hq, rfl⟩ := hm g hg
    exact List.ne_nil_of_mem (hF q hq)
  · obtain ⟨q, hq, rfl⟩ := hm g hg
    exact hs.filter _
  · obtain ⟨q, hq, rfl⟩ := hm g hg
    exact (List.mem_filter.1 hb).1
  · obtain ⟨q, hq, rfl⟩ := hm g hg
    have hb2 := (h.at' q hq b.lo).1 (by simpa using (List.mem_filter.1 hb).2)
    unfold partN
    rw [List.mem_filter]
    simp only [decide_eq_true_eq]
    rw [h.at' q hq c.lo]
    exact ⟨fun h => hb2.symm.trans h.2, fun h => ⟨hc, hb2.trans h⟩⟩
  · obtain ⟨h1, h2⟩ := h.pt.pos hb
    refine ⟨partN M l (mget M b.lo - 1).toNat, List.mem_map.2 ⟨_, List.mem_range.2 (by omega), rfl⟩, List.mem_filter.2 ⟨hb, ?_⟩⟩
    simp only [decide_eq_true_eq]
    omega
  · unfold partsN
    rw [List.pairwise_map]
    refine List.pairwise_iff_getElem.2 fun i j hi hj hij => ?_
    simp only [List.length_range] at hi hj
    simp only [List.getElem_range]
    unfold hdlt
    rw [hh i hi, hh j hj]
    simp only [decide_eq_true_eq]
    exact List.pairwise_iff_getElem.1 h.pw i j hi hj hij

/-! ### the reference's way -/
def Tch (x y : Bar) : Prop := x.lo = y.lo ∨ x.lo = y.hi ∨ x.hi = y.lo ∨ x.hi = y.hi
instance (x y : Bar) : Decidable (Tch x y) := by unfold Tch; infer_instance
theorem bar_conn {l : List Bar} {b : Bar} (hb : b ∈ l) : Conn l b.lo b.hi := .one hb (.inl ⟨rfl, rfl⟩)
theorem tch_conn {l : List Bar} {x y : Bar} (hx : x ∈ l) (hy : y ∈ l) (h : Tch x y) : Conn l x.lo y.lo := by
  have h1 := bar_conn hx
  have h2 := (bar_conn hy).symm
  rcases h with h | h | h | h
  · rw [h]; exact .refl _
  · rw [h]; exact h2
  · rw [h] at h1; exact h1
  · rw [h] at h1; exact h1.trans h2
/-- The list of bars that are reached, of which the first i are done, and the next one against the first k bars of the net. -/
structure Rchs (l : List Bar) (b : Bar) (P : List Bar) (i k : Nat) : Prop where
  nd : P.Nodup
  sub : ∀ x ∈ P, x ∈ l
  con : ∀ x ∈ P, Conn l b.lo x.lo
  beg : b ∈ P
  old : ∀ j (h : j < P.length), j < i → ∀ y ∈ l, Tch P[j] y → y ∈ P
  now : ∀ h : i < P.length, ∀ y ∈ l.take k, Tch P[i] y → y ∈ P
theorem Rchs.start {l : List Bar} {b : Bar} (hb : b ∈ l) : Rchs l b [b] 0 0 where
  nd := by simp
  sub x hx := by obtain rfl : x = b := by simpa using hx
                 exact hb
  con x hx := by obtain rfl : x = b := by simpa using hx
                 exact .refl _
  beg := by simp
  old j h h0 := by omega
  now h y hy := by simp at hy
theorem Rchs.le {l : List Bar} {b : Bar} {P : List Bar} {i k : Nat} (h : Rchs l b P i k) : P.length ≤ l.length := h.nd.length_le_of_subset h.sub
theorem Rchs.next {l : List Bar} {b : Bar} {P : List Bar} {i : Nat} (h : Rchs l b P i l.length) (hi : i < P.length) : Rchs l b P (i + 1) 0 where
  nd := h.nd
  sub := h.sub
  con := h.con
  beg := h.beg
  old j hj hji y hy ht := by
    rcases Nat.lt_or_ge j i with h1 | h1
    · exact h.old j hj h1 y hy ht
    · obtain rfl : j = i := by omega
      exact h.now hj y (by rwa [List.take_length]) ht
  now h y hy := by simp at hy
theorem Rchs.skip {l : List Bar} {b : Bar} {P : List Bar} {i k : Nat} (h : Rchs l b P i k) (hi : i < P.length) (hk : k < l.length) (hn : Tch P[i] l[k] → l[k] ∈ P) : Rchs l b P i (k + 1) where
  nd := h.nd
  sub := h.sub
  con := h.con
  beg := h.beg
  old := h.old
  now hi' y hy ht := by
    rcases (mem_take_succ hk).1 hy with h1 | h1
    · exact h.now hi y h1 ht
    · subst h1
      exact hn ht
theorem Rchs.add {l : List Bar} {b : Bar} {P : List Bar} {i k : Nat} (h : Rchs l b P i k) (hi : i < P.length) (hk : k < l.length) (ht : Tch P[i] l[k]) (hn : l[k] ∉ P) : Rchs l b (P ++ [l[k]]) i (k + 1) where
  nd := List.nodup_append.2 ⟨h.nd, by simp, fun x hx y hy e => by
    obtain rfl : y = l[k] := by simpa using hy
    subst e
    exact hn hx⟩
  sub x hx := by
    rcases List.mem_append.1 hx with h1 | h1
    · exact h.sub x h1
    · obtain rfl : x = l[k] := by simpa using h1
      exact List.getElem_mem hk
  con x hx := by
    rcases List.mem_append.1 hx with h1 | h1
    · exact h.con x h1
    · obtain rfl : x = l[k] := by simpa using h1
      exact (h.con _ (List.getElem_mem hi)).trans (tch_conn (h.sub _ (List.getElem_mem hi)) (List.getElem_mem hk) ht)
  beg := List.mem_append_left _ h.beg
  old j hj hji y hy ht := by
    have hjP : j < P.length := by omega
    rw [List.getElem_append_left hjP] at ht
    exact List.mem_append_left _ (h.old j hjP hji y hy ht)
  now hi' y hy ht := by
    rw [List.getElem_append_left hi] at ht
    rcases (mem_take_succ hk).1 hy with h1 | h1
    · exact List.mem_append_left _ (h.now hi y h1 ht)
    · subst h1
      simp
theorem Rchs.done {l : List Bar} {b : Bar} {P : List Bar} {i : Nat} (h : Rchs l b P i 0) (hi : P.length ≤ i) (y : Bar) : y ∈ srtL P ↔ y ∈ l ∧ Conn l b.lo y.lo := by
  rw [srtL_mem]
  refine ⟨fun hy => ⟨h.sub y hy, h.con y hy⟩, fun ⟨hy, hc⟩ => ?_⟩
  have hcl : ∀ x ∈ P, ∀ z ∈ l, Tch x z → z ∈ P := fun x hx z hz ht => by
    obtain ⟨j, hj, rfl⟩ := List.getElem_of_mem hx
    exact h.old j hj (by omega) z hz ht
  have key : ∀ {k m : Knot}, Conn l k m → (∃ x ∈ P, k = x.lo ∨ k = x.hi) → ∃ x ∈ P, m = x.lo ∨ m = x.hi := by
    intro k m hkm
    induction hkm with
    | refl k => exact id
    | step c hc ha _ ih =>
      rintro ⟨x, hx, hk⟩
      have hcP : c ∈ P := hcl x hx c hc (by
        unfold Tch
        rcases ha with ⟨h1, h2⟩ | ⟨h1, h2⟩ <;> rcases hk with hk | hk <;> simp_all)
      exact ih ⟨c, hcP, by rcases ha with ⟨h1, h2⟩ | ⟨h1, h2⟩ <;> simp_all⟩
  obtain ⟨x, hx, hk⟩ := key hc ⟨b, h.beg, .inl rfl⟩
  refine hcl x hx y hy ?_
  unfold Tch
  rcases hk with hk | hk
  · exact .inl hk.symm
  · exact .inr (.inr (.inl hk.symm))
/-- The parts of the first i bars. -/
structure PartsTo (l : List Bar) (i : Nat) (G : List (List Bar)) : Prop where
  ne : ∀ g ∈ G, g ≠ []
  pw : ∀ g ∈ G, g.Pairwise Blt
  sub : ∀ g ∈ G, ∀ b ∈ g, b ∈ l
  cls : ∀ g ∈ G, ∀ b ∈ g, ∀ c ∈ l, (c ∈ g ↔ Conn l b.lo c.lo)
  all : ∀ b ∈ l.take i, ∃ g ∈ G, b ∈ g
  hd : ∀ g ∈ G, ∃ a, g.head? = some a ∧ a ∈ l.take i
  ord : G.Pairwise fun g h => hdlt g h = true
  le : G.length ≤ i
theorem PartsTo.start (l : List Bar) : PartsTo l 0 [] where
  ne := by simp
  pw := by simp
  sub := by simp
  cls := by simp
  all := by simp
  hd := by simp
  ord := List.Pairwise.nil
  le := Nat.le_refl _
theorem PartsTo.old {l : List Bar} {i : Nat} {G : List (List Bar)} (h : PartsTo l i G) (hi : i < l.length) (hf : ∃ g ∈ G, l[i] ∈ g) : PartsTo l (i + 1) G where
  ne := h.ne
  pw := h.pw
  sub := h.sub
  cls := h.cls
  all b hb := by
    rcases (mem_take_succ hi).1 hb with h1 | h1
    · exact h.all b h1
    · subst h1
      exact hf
  hd g hg := by
    obtain ⟨a, h1, h2⟩ := h.hd g hg
    exact ⟨a, h1, (mem_take_succ hi).2 (.inl h2)⟩
  ord := h.ord
  le := Nat.le_succ_of_le h.le
theorem PartsTo.fresh {l : List Bar} (hs : l.Pairwise Blt) {i : Nat} {G : List (List Bar)} (h : PartsTo l i G) (hi : i < l.length) (hf : ¬ ∃ g ∈ G, l[i] ∈ g) {g : List Bar} (gs : g.Pairwise Blt) (gm : ∀ y, y ∈ g ↔ y ∈ l ∧ Conn l l[i].lo y.lo) : PartsTo l (i + 1) (G ++ [g]) := by
  have hig : l[i] ∈ g := (gm _).2 ⟨List.getElem_mem hi, .refl _⟩
  have hh : g.head? = some l[i] := head_of gs hig fun c hc hb => by
    obtain ⟨hcl, hcc⟩ := (gm c).1 hc
    obtain ⟨g', hg', hcg⟩ := h.all c (before_take hs hi hcl hb)
    exact hf ⟨g', hg', (h.cls g' hg' c hcg _ (List.getElem_mem hi)).2 hcc.symm⟩
  refine ⟨fun x hx => ?_, fun x hx => ?_, fun x hx b hb => ?_, fun x hx b hb c hc => ?_, fun b hb => ?_, fun x hx => ?_, ?_, ?_⟩
  · rcases List.mem_append.1 hx with h1 | h1
    · exact h.ne x h1
    · obtain rfl : x = g := by simpa using h1
      exact List.ne_nil_of_mem hig
  · rcases List.mem_append.1 hx with h1 | h1
    · exact h.pw x h1
    · obtain rfl : x = g := by simpa using h1
      exact gs
  · rcases List.mem_append.1 hx with h1 | h1
    · exact h.sub x h1 b hb
    · obtain rfl : x = g := by simpa using h1
      exact ((gm b).1 hb).1
  · rcases List.mem_append.1 hx with h1 | h1
    · exact h.cls x h1 b hb c hc
    · obtain rfl : x = g := by simpa using h1
      have hb2 := ((gm b).1 hb).2
      rw [gm]
      exact ⟨fun h => hb2.symm.trans h.2, fun h => ⟨hc, hb2.trans h⟩⟩
  · rcases (mem_take_succ hi).1 hb with h1 | h1
    · obtain ⟨x, hx, hbx⟩ := h.all b h1
      exact ⟨x, List.mem_append_left _ hx, hbx⟩
    · subst h1
      exact ⟨g, by simp, hig⟩
  · rcases List.mem_append.1 hx with h1 | h1
    · obtain ⟨a, ha, ha2⟩ := h.hd x h1
      exact ⟨a, ha, (mem_take_succ hi).2 (.inl ha2)⟩
    · obtain rfl : x = g := by simpa using h1
      exact ⟨_, hh, (mem_take_succ hi).2 (.inr rfl)⟩
  · refine List.pairwise_append.2 ⟨h.ord, by simp, fun x hx y hy => ?_⟩
    obtain rfl : y = g := by simpa using hy
    obtain ⟨a, ha, ha2⟩ := h.hd x hx
    unfold hdlt
    rw [ha, hh]
    simp only [decide_eq_true_eq]
    obtain ⟨j, hj, rfl⟩ := List.mem_take_iff_getElem.1 ha2
    exact List.pairwise_iff_getElem.1 hs j i (by omega) hi (by omega)
  · rw [List.length_append]
    have := h.le
    simp
    omega
theorem PartsTo.done {l : List Bar} {G : List (List Bar)} (h : PartsTo l l.length G) : PartsAre l G where
  ne := h.ne
  pw := h.pw
  sub := h.sub
  cls := h.cls
  all b hb := h.all b (by rwa [List.take_length])
  ord := h.ord
end Go.Proofs.YtdeplhihcifmeaaGreatDoor

/- What the laws of netting's lists begin with: short lists, copies, the checks at every length. -/
namespace Go.Proofs.YtdeplhihcifmeaaGreatDoor
open Go.RowKit Ck

set_option maxHeartbeats 400000 in
theorem refShortYes (A : Option Addr) (c n : Nat) (k : Int) (w : World) (_ : n ≤ maxLen) (h : (n : Int) ≤ k) :
    Calls Tryz.prog 16 #[.slice A n c, .int .i64 k] w fun e w' => e = .returned (.bool true) ∧ w = w' := by
  go_enter Tryz.func16, Tryz.ntmps16
  go_wp2
  go_ret
  exact ⟨rfl, rfl⟩
set_option maxHeartbeats 400000 in
theorem refShortLong (A : Option Addr) (c n : Nat) (k : Int) (w : World) (_ : n ≤ maxLen) (h : ¬ (n : Int) ≤ k) (h1 : 4096 < (n : Int)) (h2 : (n : Int) ≤ 4098) :
    Calls Tryz.prog 16 #[.slice A n c, .int .i64 k] w fun e w' => e = .returned (.bool true) ∧ w = w' := by
  go_enter Tryz.func16, Tryz.ntmps16
  go_wp2
  go_ret
  exact ⟨by simp, rfl⟩
set_option maxHeartbeats 400000 in
theorem refShortNo1 (A : Option Addr) (c n : Nat) (k : Int) (w : World) (_ : n ≤ maxLen) (h : ¬ (n : Int) ≤ k) (h1 : ¬ 4096 < (n : Int)) :
    Calls Tryz.prog 16 #[.slice A n c, .int .i64 k] w fun e w' => e = .returned (.bool false) ∧ w = w' := by
  go_enter Tryz.func16, Tryz.ntmps16
  go_wp2
  go_ret
  exact ⟨rfl, rfl⟩
set_option maxHeartbeats 400000 in
theorem refShortNo2 (A : Option Addr) (c n : Nat) (k : Int) (w : World) (_ : n ≤ maxLen) (h : ¬ (n : Int) ≤ k) (h1 : 4096 < (n : Int)) (h2 : ¬ (n : Int) ≤ 4098) :
    Calls Tryz.prog 16 #[.slice A n c, .int .i64 k] w fun e w' => e = .returned (.bool false) ∧ w = w' := by
  go_enter Tryz.func16, Tryz.ntmps16
  go_wp2
  go_ret
  exact ⟨by simp, rfl⟩
set_option maxHeartbeats 2000000 in
set_option maxRecDepth 100000 in
theorem lwCopied1 (A : Option Addr) (c : Nat) (l : List Ck.Bar) (w : World) (hl : l.length ≤ 4098) (hne : 0 < l.length) (h : RB w w.heap.size A l) :
    Calls Tryz.prog 21 #[.slice A l.length c] w (CopyPost l w) := by
  obtain ⟨ib, hib, hb0, hb01, hb02⟩ := info_parts Tryz.info24
  obtain ⟨b, off, rfl, hB, _⟩ := h hne
  have HR := Lib.hid h
  clear h
  go_enter Tryz.func21, Tryz.ntmps21
  go_wp2_with (at_builtin; refine wpList_append_own _ rfl _ _ 22 rfl w.heap.size 24 ib (.agg #[.int .i64 0, .int .i64 0, .int .i64 0]) 3 24 Tryz.underlying22 hib hb0 hb01 hb02 rfl (by decide) _ _ _ rfl (by exact empty_row _ _ (Nat.le_refl _) _ _) ⟨b, off, none⟩ l.length c (bcellsL l) rfl (bcellsL_length l) ?c1 (bcellsL_one l) ?c3 ?c4 ?c5 ?_)
  case c1 => exact (HR.out.below ((Below.refl _ _).alloc (Nat.le_refl _) _)).news hne
  case c3 => unfold maxLen; omega
  case c4 => omega
  case c5 => simp
  intro v' w4 hown4 hgrow4 _
  have HO := Lib.hid hown4
  have hq := ((Below.refl w.heap.size w).alloc (Nat.le_refl _) (.cells #[] 24)).grown hgrow4 (by simp) (ownsRow_base (empty_row w w.heap.size (Nat.le_refl _) 24 3))
  clear hown4 hgrow4
  go_wp2
  go_ret
  exact ⟨_, rfl, by simpa using HO.out, hq⟩
set_option maxHeartbeats 2000000 in
set_option maxRecDepth 100000 in
theorem lwCopied0 (A : Option Addr) (c : Nat) (w : World) (hA : A = none → c = 0) :
    Calls Tryz.prog 21 #[.slice A 0 c] w (CopyPost [] w) := by
  obtain ⟨ib, hib, hb0, hb01, hb02⟩ := info_parts Tryz.info24
  rcases A with _ | ad
  · obtain rfl := hA rfl
    go_enter Tryz.func21, Tryz.ntmps21
    go_wp2_with (at_builtin; refine wpList_append_own_none rfl _ _ 22 rfl w.heap.size 24 ib 3 Tryz.underlying22 hib _ _ _ rfl (by exact empty_row _ _ (Nat.le_refl _) _ _) rfl ?_)
    go_ret
    exact ⟨_, rfl, empty_row _ _ (Nat.le_refl _) _ _, (Below.refl _ _).alloc (Nat.le_refl _) _⟩
  · clear hA
    go_enter Tryz.func21, Tryz.ntmps21
    go_wp2_with (at_builtin; refine wpList_append_own _ rfl _ _ 22 rfl w.heap.size 24 ib (.agg #[.int .i64 0, .int .i64 0, .int .i64 0]) 3 24 Tryz.underlying22 hib hb0 hb01 hb02 rfl (by decide) _ _ _ rfl (by exact empty_row _ _ (Nat.le_refl _) _ _) ad 0 c [] rfl rfl ?c1 ?c2 ?c3 ?c4 ?c5 ?_)
    case c1 => intro j u h; simp at h
    case c2 => intro u h; simp at h
    case c3 => unfold maxLen; omega
    case c4 => omega
    case c5 => simp
    intro v' w4 hown4 hgrow4 _
    have HO := Lib.hid hown4
    have hq := ((Below.refl w.heap.size w).alloc (Nat.le_refl _) (.cells #[] 24)).grown hgrow4 (by simp) (ownsRow_base (empty_row w w.heap.size (Nat.le_refl _) 24 3))
    clear hown4 hgrow4
    go_wp2
    go_ret
    exact ⟨v', rfl, HO.out, hq⟩
/-- copied: a slice with the same bars that is the call's own. -/
theorem lwCopied (A : Option Addr) (c : Nat) (l : List Ck.Bar) (w : World) (hl : l.length ≤ 4098) (h : OKS w A c l) :
    Calls Tryz.prog 21 #[.slice A l.length c] w (SlicePost l w) := by
  have key : Calls Tryz.prog 21 #[.slice A l.length c] w (CopyPost l w) := by
    match l, hl, h with
    | [], _, h => exact lwCopied0 A c w h.2.2.1
    | a :: r, hl, h => exact lwCopied1 A c (a :: r) w hl (by simp) h.2.2.2
  refine key.mono ?_
  rintro e w1 ⟨v, rfl, hown, hb⟩
  obtain ⟨a, c', rfl, ho⟩ := own_oks hown
  exact ⟨a, c', rfl, ho, hb⟩
theorem netE_long {l : List Ck.Bar} (h : 4096 < l.length) : netE l = 5 := by rw [netE, if_pos h]
set_option maxHeartbeats 400000 in
theorem netCheckNetL (A : Option Addr) (c n : Nat) (w : World) (hm : n ≤ maxLen) (h : 4096 < n) :
    Calls Tryz.prog 20 #[.slice A n c] w fun e w' => e = .returned (.int .i64 5) ∧ w = w' := by
  unfold maxLen at hm
  have h1 : (4096 : Int) < (n : Int) := by omega
  go_enter Tryz.func20, Tryz.ntmps20
  go_wp2
  go_ret
  exact ⟨rfl, rfl⟩
set_option maxHeartbeats 400000 in
theorem refCheckNetL (A : Option Addr) (c n : Nat) (w : World) (hm : n ≤ maxLen) (h : 4096 < n) :
    Calls Tryz.prog 17 #[.slice A n c] w fun e w' => e = .returned (.int .i64 5) ∧ w = w' := by
  unfold maxLen at hm
  have h1 : (4096 : Int) < (n : Int) := by omega
  go_enter Tryz.func17, Tryz.ntmps17
  go_wp2
  go_ret
  exact ⟨rfl, rfl⟩
theorem netCheckNetA (A : Option Addr) (c : Nat) (l : List Ck.Bar) (w : World) (h : OKS w A c l) :
    Calls Tryz.prog 20 #[.slice A l.length c] w fun e w' => e = .returned (.int .i64 (netE l)) ∧ Below w.heap.size w w' := by
  by_cases hl : l.length ≤ 4096
  · exact netCheckNet A c l w hl h.1 h.2.1 h.2.2.2
  · rw [netE_long (by omega)]
    exact (netCheckNetL A c l.length w (Nat.le_trans h.1 h.2.1) (by omega)).mono fun e w' ⟨h1, h2⟩ => ⟨h1, h2 ▸ Below.refl _ _⟩
theorem refCheckNetA (A : Option Addr) (c : Nat) (l : List Ck.Bar) (w : World) (h : OKS w A c l) :
    Calls Tryz.prog 17 #[.slice A l.length c] w fun e w' => e = .returned (.int .i64 (netE l)) ∧ Below w.heap.size w w' := by
  by_cases hl : l.length ≤ 4096
  · exact refCheckNet A c l w hl h.2.2.2
  · rw [netE_long (by omega)]
    exact (refCheckNetL A c l.length w (Nat.le_trans h.1 h.2.1) (by omega)).mono fun e w' ⟨h1, h2⟩ => ⟨h1, h2 ▸ Below.refl _ _⟩
end Go.Proofs.YtdeplhihcifmeaaGreatDoor

/- Equality of bars, and the reference's Has. -/
namespace Go.Proofs.YtdeplhihcifmeaaGreatDoor
open Go.RowKit Ck

theorem eqBar' (a b : Ck.Bar) (r : Bool) (hr : decide (a = b) = r) (w : World) :
    (Op.equalIn 10000 24 (.agg #[.int .i64 a.x, .int .i64 a.y, .int .i64 a.s]) (.agg #[.int .i64 b.x, .int .i64 b.y, .int .i64 b.s])).run Tryz.prog w = .ok r w := by
  have u3 := Tryz.underlying3
  have a3 := Tryz.isAgg3
  have z3 := Tryz.sizeOf3
  have hS : Tryz.prog.underlying 24 = some (.struct (Tryz.prog.fieldsOf 24)) := by kernel_rfl
  have hp : Tryz.prog.stoodInHeld 24 = false := by kernel_rfl
  subst hr
  have he : (a = b) = (a.x = b.x ∧ a.y = b.y ∧ a.s = b.s) := propext ⟨fun h => by subst h; exact ⟨rfl, rfl, rfl⟩, fun ⟨h1, h2, h3⟩ => Bar.ext' h1 h2 h3⟩
  rw [show (10000 : Nat) = 9999 + 1 from rfl, run_equalIn_struct w 9999 24 _ _ hS hp]
  simp only [Program.fieldsOf, Tryz.underlying24, he]
  go_simp
  by_cases h1 : a.x = b.x <;> by_cases h2 : a.y = b.y <;> by_cases h3 : a.s = b.s <;> simp [h1, h2, h3]
theorem guardBar : Tryz.prog.eqGuardType Tryz.prog.depth 24 = false := by kernel_rfl
set_option maxHeartbeats 2000000 in
set_option maxRecDepth 100000 in
theorem refHasBar (A : Option Addr) (c : Nat) (l : List Ck.Bar) (k : Ck.Bar) (w : World) (hl : l.length ≤ 10000) (h : RB w w.heap.size A l) :
    Calls Tryz.prog 31 #[.slice A l.length c, .agg #[.int .i64 k.x, .int .i64 k.y, .int .i64 k.s]] w fun e w' => e = .returned (.bool (decide (k ∈ l))) ∧ Below w.heap.size w w' := by
  have HR := Lib.hid h
  have hl' : (l.length : Int) ≤ 10000 := by omega
  have hgd := guardBar
  clear h
  go_enter Tryz.func31, Tryz.ntmps31
  go_wp2_with fail
  go_loopw [5] (fun i wi => ∃ j : Nat, j ≤ l.length ∧ i = .int .i64 j ∧ Hid (∀ q (hq : q < l.length), q < j → l[q] ≠ k) ∧ wi.cell? ⟨w.heap.size, 0, none⟩ = some (.int .i64 k.x) ∧ wi.cell? ⟨w.heap.size, 1, none⟩ = some (.int .i64 k.y) ∧ wi.cell? ⟨w.heap.size, 2, none⟩ = some (.int .i64 k.s) ∧ Below w.heap.size w wi) (fun i _ => l.length - (intOf i).toNat)
  case atStart =>
    obtain ⟨w1, hw1, e0, e1, e2, hb1, hz1⟩ := box3 w (.int .i64 k.x) (.int .i64 k.y) (.int .i64 k.s) 24
    rw [← hw1]
    exact ⟨0, Nat.zero_le _, rfl, fun q _ h => by omega, e0, e1, e2, hb1⟩
  case round =>
    obtain ⟨j, hj, rfl, hno, e0, e1, e2, hb⟩ := hrel
    by_cases hlt : j < l.length
    · obtain ⟨b, off, rfl, hB, hc⟩ := HR.out.below hb (by omega)
      obtain ⟨c0, c1, c2⟩ := hc j hlt
      have hi0 : (0 : Int) ≤ (j : Int) := by omega
      have hi1 : (j : Int) < (l.length : Int) := by omega
      have hw1 : IntKind.i64.wrap (j : Int) = (j : Int) := by rw [IntKind.wrap_i64]; omega
      clear hc
      by_cases he : l[j] = k
      · have hq := eqBar' l[j] k true (by simpa using he)
        have HF := Lib.hid (show decide (k ∈ l) = true by rw [decide_eq_true_eq, ← he]; exact List.getElem_mem hlt)
        clear he
        go_wp2_with fail
        go_quiet (fail)
        go_wp2
        go_ret
        exact ⟨ret_b HF.out.symm, below_drewN hb _⟩
      · have hq := eqBar' l[j] k false (by simpa using he)
        have HE := Lib.hid he
        clear he
        go_wp2_with fail
        go_quiet (fail)
        go_wp2
        go_roundw
        case rel => exact ⟨j + 1, by omega, by go_num, fun q hq2 hqj => by
          rcases Nat.lt_or_ge q j with h1 | h1
          · exact hno.out q hq2 h1
          · obtain rfl : q = j := by omega
            exact HE.out, e0, e1, e2, below_drewN hb _⟩
        case measure => simp [intOf]; omega
    · obtain rfl : j = l.length := by omega
      have HF := Lib.hid (show decide (k ∈ l) = false by
        rw [decide_eq_false_iff_not]
        intro hm
        obtain ⟨q, hq, e⟩ := List.getElem_of_mem hm
        exact hno.out q hq hq e)
      go_wp2
      go_ret
      exact ⟨ret_b HF.out.symm, hb⟩
end Go.Proofs.YtdeplhihcifmeaaGreatDoor

/- The reference's Sheet. -/
namespace Go.Proofs.YtdeplhihcifmeaaGreatDoor
open Go.RowKit Go.Shelf Ck

def ShRow (B : Nat) (v : Value) (l : List Bar) (W : World) : Prop := W.ownsRow B 24 3 v l.length (bcellsL l)
end Go.Proofs.YtdeplhihcifmeaaGreatDoor

/- Ends and Has of the program with errors, Around with an error; the reference's Ends. -/
namespace Go.Proofs.YtdeplhihcifmeaaGreatDoor
open Go.RowKit Go.Shelf Ck

set_option maxHeartbeats 1000000 in
set_option maxRecDepth 100000 in
theorem refEnds (x y s : Int) (w : World) (hx1 : -100000 ≤ x) (hx2 : x ≤ 100000) (hy1 : -100000 ≤ y) (hy2 : y ≤ 100000) (hs1 : -1 ≤ s) (hs2 : s ≤ 1) :
    Calls Tryz.prog 27 #[.agg #[.int .i64 x, .int .i64 y, .int .i64 s]] w fun e w' => e = .returned (.agg #[.int .i64 x, .int .i64 y, .int .i64 (x + s), .int .i64 (y + 1)]) ∧ Below w.heap.size w w' := by
  obtain ⟨w0, hw0, c0, c1, c2, hr, hb0, hz0⟩ := box34 w (.int .i64 x) (.int .i64 y) (.int .i64 s) (.int .i64 0) (.int .i64 0) (.int .i64 0) (.int .i64 0) 24 37
  obtain ⟨r0, r1, r2, r3, rf⟩ := four_cells hr
  have hz00 : w.heap.size < w0.heap.size := by omega
  have HW := Lib.hid hw0
  have HR := Lib.hid hr
  clear hw0 hr
  go_enter Tryz.func27, Tryz.ntmps27
  go_wp2_with fail
  rw [← HW.out]
  go_region_with (first
    | (go_at_call 80; refine (refLower _ _ _ _).mono ?_; rintro e w1 ⟨rfl, hb1⟩; obtain ⟨d0, d1, d2, hr1, hz1⟩ := carry34 hb1 hz0 c0 c1 c2 HR.out; have HR1 := Lib.hid hr1; obtain ⟨s0, s1, s2, s3, sf⟩ := four_cells hr1; clear hr1)
    | (go_at_call 81; refine (refUpper _ _ _ _ hx1 hx2 hy1 hy2 hs1 hs2).mono ?_; rintro e w2 ⟨rfl, hb2⟩; obtain ⟨e0, e1, e2, hr2, hz2⟩ := carry34 hb2 hz1 d0 d1 d2 HR1.out; have HR2 := Lib.hid hr2; obtain ⟨t0, t1, t2, t3, tf⟩ := four_cells hr2; clear hr2))
  all_goals go_wp2
  all_goals
    exact bodyPost_ret (v := .agg #[.int .i64 x, .int .i64 y, .int .i64 (x + s), .int .i64 (y + 1)]) (by simp [results, Tryz.results27, go_sem, t0, t1, t2, t3]) rfl
      ⟨rfl, ((((((below_drew hb0).trans (hb1.mono (by show w.heap.size ≤ w0.heap.size; omega))).trans (hb2.mono (by omega))).setCell (by simp) _).setCell (by simp) _).setCell (by simp) _).setCell (by simp) _⟩
end Go.Proofs.YtdeplhihcifmeaaGreatDoor

/- The law of NettingBars at each of its ways. -/
namespace Go.Proofs.YtdeplhihcifmeaaGreatDoor
open Go.RowKit Go.Shelf Ck

theorem hbT {a w w' : World} (h : Below a.heap.size a w) (hb : Below w.heap.size w w') : Below a.heap.size a w' := h.trans (hb.mono h.size)
end Go.Proofs.YtdeplhihcifmeaaGreatDoor

/- The law of NettingBars. -/
namespace Go.Proofs.YtdeplhihcifmeaaGreatDoor
open Go.RowKit Go.Shelf Ck

theorem refShortOk (A : Option Addr) (c n : Nat) (k : Int) (w : World) (hm : n ≤ maxLen) (h : (n : Int) ≤ k ∨ (4096 < (n : Int) ∧ (n : Int) ≤ 4098)) :
    Calls Tryz.prog 16 #[.slice A n c, .int .i64 k] w fun e w' => e = .returned (.bool true) ∧ w = w' := by
  by_cases h1 : (n : Int) ≤ k
  · exact refShortYes A c n k w hm h1
  · rcases h with h | ⟨h2, h3⟩
    · exact absurd h h1
    · exact refShortLong A c n k w hm h1 h2 h3
theorem refShortNo (A : Option Addr) (c n : Nat) (k : Int) (w : World) (hm : n ≤ maxLen) (h : ¬ ((n : Int) ≤ k ∨ (4096 < (n : Int) ∧ (n : Int) ≤ 4098))) :
    Calls Tryz.prog 16 #[.slice A n c, .int .i64 k] w fun e w' => e = .returned (.bool false) ∧ w = w' := by
  by_cases h1 : (4096 : Int) < (n : Int)
  · exact refShortNo2 A c n k w hm (by omega) h1 (by omega)
  · exact refShortNo1 A c n k w hm (by omega) h1
end Go.Proofs.YtdeplhihcifmeaaGreatDoor

/- The contract of the reference's Sorted, at a list that ascends already. -/
namespace Go.Proofs.YtdeplhihcifmeaaGreatDoor
open Go.RowKit

def OwnPost (l : List Ck.Bar) (w : World) (e : Ending) (w' : World) : Prop :=
  ∃ v, e = .returned v ∧ w'.ownsRow w.heap.size 24 3 v l.length (bcellsL l) ∧ Below w.heap.size w w'

theorem keepQ {W w1 w2 : World} {b o : Nat} {x y s : Value} (h : w1.cell? ⟨b, o, none⟩ = some x ∧ w1.cell? ⟨b, o + 1, none⟩ = some y ∧ w1.cell? ⟨b, o + 2, none⟩ = some s ∧ Below W.heap.size W w1 ∧ b < W.heap.size) (hb : Below W.heap.size w1 w2) :
    w2.cell? ⟨b, o, none⟩ = some x ∧ w2.cell? ⟨b, o + 1, none⟩ = some y ∧ w2.cell? ⟨b, o + 2, none⟩ = some s ∧ Below W.heap.size W w2 ∧ b < W.heap.size := by
  obtain ⟨h0, h1, h2, h3, h4⟩ := h
  exact ⟨(hb.cell (p := ⟨b, _, none⟩) h4).trans h0, (hb.cell (p := ⟨b, _, none⟩) h4).trans h1, (hb.cell (p := ⟨b, _, none⟩) h4).trans h2, h3.trans hb, h4⟩
theorem belQ {W w1 : World} {b o : Nat} {x y s : Value} (h : w1.cell? ⟨b, o, none⟩ = some x ∧ w1.cell? ⟨b, o + 1, none⟩ = some y ∧ w1.cell? ⟨b, o + 2, none⟩ = some s ∧ Below W.heap.size W w1 ∧ b < W.heap.size) : Below W.heap.size W w1 := h.2.2.2.1
theorem new2 (w : World) (o : Obj) (a b c : Value) (t : TypeId) : ((w.alloc o).alloc (.cells #[a, b, c] t)).heap[w.heap.size + 1]? = some (.cells #[a, b, c] t (0, 0)) := by
  have := heap_alloc_new (w.alloc o) (.cells #[a, b, c] t)
  rwa [World.size_alloc] at this
theorem new1 (w : World) (o : Obj) (a b c : Value) (t : TypeId) : ((w.alloc (.cells #[a, b, c] t)).alloc o).heap[w.heap.size]? = some (.cells #[a, b, c] t (0, 0)) :=
  (Below.heap_alloc _ _ _ (by simp)).trans (heap_alloc_new _ _)
theorem empty_row2 (w : World) (o : Obj) (base : Nat) (hb : base ≤ w.heap.size) (t : TypeId) (size : Nat) : ((w.alloc o).alloc (.cells #[] t)).ownsRow base t size (.slice (some ⟨w.heap.size + 1, 0, none⟩) 0 0) 0 [] := by
  have := empty_row (w.alloc o) base (by simp; omega) t size
  rwa [World.size_alloc] at this
theorem srt_row0 {w6 : World} {base B g cap : Nat} {l : List Ck.Bar} (hlt : 0 < l.length) (hB : B ≤ base) (h : w6.ownsRow base 24 3 (.slice (some ⟨g, 0, none⟩) (0 + 1) cap) (0 + 1) ([] ++ [.int .i64 l[0].x, .int .i64 l[0].y, .int .i64 l[0].s])) :
    Hid (w6.ownsRow B 24 3 (.slice (some ⟨g, 0, none⟩) 1 cap) 1 (bcellsL (l.take 1))) := by
  rw [List.take_succ_eq_append_getElem hlt, bcellsL, List.flatMap_append]
  exact ownsRow_mono h hB
theorem grewQ {B : Nat} {w1 w2 : World} {base : Nat} {e : TypeId} {size n : Nat} {v : Value} {xs : List Value} (h : w1.ownsRow base e size v n xs) (hB : B ≤ base) (hz : B ≤ w1.heap.size) (hg : w1.grownBy w2 v.ownBlock) : Below B w1 w2 :=
  (Below.refl _ _).grown hg hz (fun k e => Nat.le_trans hB (ownsRow_base h k e))

end Go.Proofs.YtdeplhihcifmeaaGreatDoor

/- An append of whatever many elements (none, too) at a step of a region that draws its order. -/
namespace Go.Proofs.YtdeplhihcifmeaaGreatDoor
open Go.RowKit

section
variable {P : Program} {w : World} {o : Oper} {a : Act} {K : Act → World → Prop} {Q : Exit → Act → World → Prop}
theorem wp_append_gen (s x : Operand) (t : TypeId) (ho : o.op = .call { callee := .builtin .append, args := #[s, x], argTypes := #[t, t] })
    (base : Nat) (e : TypeId) (i : TypeInfo) (z : Value) (size bytes : Nat) (ht : P.underlying t = some (.slice e)) (hi : P.info? e = some i) (hz : i.zero = some z)
    (hsize : i.size = size) (hby : i.bytes = bytes) (hzs : z.cells.size = size) (hsz : 0 < size)
    (v : Value) (n : Nat) (xs : List Value) (hs : a.eval s = v) (hown : w.ownsRow base e size v n xs)
    (A : Option Addr) (m c : Nat) (news : List Value) (hx : a.eval x = .slice A m c) (hl : news.length = m * size) (hA : A = none → m = 0 ∧ c = 0) (hnews : ∀ ad, A = some ad → ∀ j u, news[j]? = some u → w.cell? (ad.add j) = some u) (h1 : ∀ u ∈ news, u.oneCell' = true)
    (h63 : n + m ≤ maxLen) (hbytes : (n + m) * bytes ≤ 140737488355328) (hbase : base ≤ w.heap.size)
    (h : ∀ v' w', w'.ownsRow base e size v' (n + m) (xs ++ news) → w.grownBy w' v.ownBlock → K (a.put o.dst v') w') :
    Oper.wp P o a w K Q := by
  rcases A with _ | ad
  · obtain ⟨rfl, rfl⟩ := hA rfl
    have hn : news = [] := List.eq_nil_of_length_eq_zero (by rw [hl, Nat.zero_mul])
    subst hn
    have hr := run_append_owned_none (P := P) (w := w) base t o.type e i size ht hi v n xs hown
    unfold Oper.wp execOp
    simp only [ho, resolve, invoke, builtin, Sem.run_bind, Sem.run_pure, Result.andThen_ok, List.map_toArray, List.map_cons, List.map_nil, hs, hx, hr]
    exact h v w (by simpa using hown) (World.grownBy.refl _ _)
  · obtain ⟨v', w', hr, h2, h3, _, _⟩ := run_append_own_at (P := P) w base t o.type e i z size bytes ht hi hz hsize hby hzs hsz v n xs hown ad m c news hl (hnews ad rfl) h1 h63 hbytes hbase
    unfold Oper.wp execOp
    simp only [ho, resolve, invoke, builtin, Sem.run_bind, Sem.run_pure, Result.andThen_ok, List.map_toArray, List.map_cons, List.map_nil, hs, hx, hr]
    exact h v' w' h2 h3
end
/-- The steps of a drawn region: lists' elements, a slot that is put. One theorem, so that no argument of a simp is left unused. -/
theorem layG : (∀ (α : Type) (a : List α) (i : Nat) (h : i < a.toArray.size), a.toArray[i] = a[i]'(by simpa using h)) ∧ (∀ (α : Type) (a : α) (l : List α) (i : Nat) (h : i + 1 < (a :: l).length), (a :: l)[i + 1] = l[i]'(by simpa using h)) ∧ (∀ (α : Type) (a : α) (l : List α) (h : 0 < (a :: l).length), (a :: l)[0] = a) :=
  ⟨fun _ _ _ _ => by simp, fun _ _ _ _ _ => rfl, fun _ _ _ _ => rfl⟩
theorem layA : ((∀ (α : Type) (a : List α) (i : Nat) (h : i < a.toArray.size), a.toArray[i] = a[i]'(by simpa using h)) ∧ (∀ (α : Type) (a : α) (l : List α) (i : Nat) (h : i + 1 < (a :: l).length), (a :: l)[i + 1] = l[i]'(by simpa using h)) ∧ (∀ (α : Type) (a : α) (l : List α) (h : 0 < (a :: l).length), (a :: l)[0] = a)) ∧ (∀ (a : Act) (i : Nat) (v : Value), a.put (some i) v = { a with tmps := a.tmps.setIfInBounds i v }) ∧ (∀ (l : List Value) (i : Nat) (v : Value), l.toArray.setIfInBounds i v = (l.set i v).toArray) ∧ (∀ (x : Value) (l : List Value) (v : Value), (x :: l).set 0 v = v :: l) ∧ (∀ (x : Value) (l : List Value) (i : Nat) (v : Value), (x :: l).set (i + 1) v = x :: l.set i v) :=
  ⟨layG, fun _ _ _ => rfl, fun _ _ _ => by simp, fun _ _ _ => rfl, fun _ _ _ _ => rfl⟩
end Go.Proofs.YtdeplhihcifmeaaGreatDoor

/- The contract of the reference's Sorted, at any list. -/
namespace Go.Proofs.YtdeplhihcifmeaaGreatDoor
open Go.RowKit Go.Sort

theorem take_of {p : Ck.Bar → Bool} : ∀ {l : List Ck.Bar} {j : Nat}, j ≤ l.length → (∀ q (h : q < l.length), q < j → p l[q] = true) → (∀ h : j < l.length, p l[j] = false) → l.takeWhile p = l.take j ∧ l.dropWhile p = l.drop j
  | [], 0, _, _, _ => ⟨rfl, rfl⟩
  | a :: r, 0, _, _, h => by
    have h0 : p a = false := h (by simp)
    rw [List.takeWhile_cons, List.dropWhile_cons, h0]
    exact ⟨rfl, rfl⟩
  | a :: r, j + 1, hj, h1, h2 => by
    have h0 : p a = true := h1 0 (by simp) (by omega)
    have ih := take_of (p := p) (l := r) (j := j) (by simpa using hj) (fun q hq hqj => by have h3 := h1 (q + 1) (by simpa using hq) (by omega); rwa [List.getElem_cons_succ] at h3) (fun h => by have h3 := h2 (by simpa using h); rwa [List.getElem_cons_succ] at h3)
    rw [List.takeWhile_cons, List.dropWhile_cons, h0, List.take_succ_cons, List.drop_succ_cons]
    exact ⟨by simp [ih.1], by simpa using ih.2⟩
theorem srtL_snoc (l : List Ck.Bar) (k : Nat) (h : k < l.length) : srtL (l.take (k + 1)) = insG ltB (srtL (l.take k)) l[k] := by
  rw [List.take_succ_eq_append_getElem h, srtL, insL, List.foldl_append]
  rfl
theorem srtL_one (l : List Ck.Bar) (h : 0 < l.length) : srtL (l.take 1) = l.take 1 := by
  match l, h with
  | a :: r, _ => simp [srtL, insL, insG]
theorem srtL_pos (l : List Ck.Bar) (k : Nat) (hk : 0 < k) (h : k ≤ l.length) : 0 < (srtL (l.take k)).length := by
  have h0 : l[0]'(by omega) ∈ srtL (l.take k) := (srtL_mem _ _).2 (List.mem_take_iff_getElem.2 ⟨0, by omega, rfl⟩)
  exact List.length_pos_of_mem h0
theorem ltB_less (a b : Ck.Bar) (r : Bool) (h : lessB a.x a.y a.s b.x b.y b.s = r) : ltB a b = r := by
  have := lessB_iff a b
  cases r
  · simp only [ltB, decide_eq_false_iff_not]
    intro hb
    rw [this.2 hb] at h
    cases h
  · simp only [ltB, decide_eq_true_eq]
    exact this.1 h
theorem ins_same {O : List Ck.Bar} {j : Nat} {x : Ck.Bar} (hj : j < O.length) (h1 : ∀ q (h : q < O.length), q < j → lessB O[q].x O[q].y O[q].s x.x x.y x.s = true) (h2 : lessB O[j].x O[j].y O[j].s x.x x.y x.s = false) (he : O[j] = x) : insG ltB O x = O := by
  obtain ⟨-, hd⟩ := take_of (p := (ltB · x)) (l := O) (j := j) (by omega) (fun q hq hqj => ltB_less _ _ _ (h1 q hq hqj)) (fun h => ltB_less _ _ _ h2)
  unfold insG
  rw [hd, if_pos]
  rw [List.drop_eq_getElem_cons hj, List.head?_cons, he]
theorem ins_new {O : List Ck.Bar} {j : Nat} {x : Ck.Bar} (hj : j ≤ O.length) (h1 : ∀ q (h : q < O.length), q < j → lessB O[q].x O[q].y O[q].s x.x x.y x.s = true) (h2 : ∀ h : j < O.length, lessB O[j].x O[j].y O[j].s x.x x.y x.s = false) (he : ∀ h : j < O.length, O[j] ≠ x) : insG ltB O x = O.take j ++ x :: O.drop j := by
  obtain ⟨ht, hd⟩ := take_of (p := (ltB · x)) (l := O) (j := j) hj (fun q hq hqj => ltB_less _ _ _ (h1 q hq hqj)) (fun h => ltB_less _ _ _ (h2 h))
  unfold insG
  rw [hd, ht, if_neg]
  intro h
  by_cases hlt : j < O.length
  · rw [List.drop_eq_getElem_cons hlt, List.head?_cons, Option.some.injEq] at h
    exact he hlt h
  · rw [List.drop_of_length_le (by omega)] at h
    cases h
theorem bcellsL_app (a b : List Ck.Bar) : bcellsL (a ++ b) = bcellsL a ++ bcellsL b := by simp [bcellsL]
theorem news_drop {w : World} {B g cap j : Nat} {O : List Ck.Bar} (h : RB w B (some ⟨g, 0, none⟩) O) (hO : 0 < O.length) (hj : j ≤ O.length) (hc : O.length ≤ cap) : ∀ ad, (if cap = j then some (⟨g, 0, none⟩ : Addr) else some ⟨g, j * 3, none⟩) = some ad → ∀ (t : Nat) (u : Value), (bcellsL (O.drop j))[t]? = some u → w.cell? (ad.add t) = some u := by
  intro ad had t u hu
  by_cases hcj : cap = j
  · rw [List.drop_of_length_le (by omega)] at hu
    simp [bcellsL] at hu
  · rw [if_neg hcj] at had
    cases had
    have h1 := h.news hO (j * 3 + t) u (by
      have e : bcellsL O = bcellsL (O.take j) ++ bcellsL (O.drop j) := by rw [← bcellsL_app, List.take_append_drop]
      rw [e, List.getElem?_append_right (by rw [bcellsL_length, List.length_take]; omega), bcellsL_length, List.length_take]
      rw [Nat.min_eq_left hj, Nat.add_sub_cancel_left]
      exact hu)
    have e : (⟨g, j * 3, none⟩ : Addr).add t = (⟨g, 0, none⟩ : Addr).add (j * 3 + t) := by
      simp only [Addr.add]
      by_cases h0 : t = 0
      · subst h0
        by_cases h3 : j = 0
        · subst h3
          rfl
        · rw [if_pos rfl, if_neg (by omega)]
          simp
      · rw [if_neg h0, if_neg (by omega)]
        simp
    rw [e]
    exact h1
theorem news_take {w : World} {B g j : Nat} {O : List Ck.Bar} (h : RB w B (some ⟨g, 0, none⟩) O) (hO : 0 < O.length) : ∀ ad, some (⟨g, 0, none⟩ : Addr) = some ad → ∀ (t : Nat) (u : Value), (bcellsL (O.take j))[t]? = some u → w.cell? (ad.add t) = some u := by
  intro ad had t u hu
  cases had
  refine h.news hO t u ?_
  have e : bcellsL O = bcellsL (O.take j) ++ bcellsL (O.drop j) := by rw [← bcellsL_app, List.take_append_drop]
  have ht : t < (bcellsL (O.take j)).length := (List.getElem?_eq_some_iff.1 hu).1
  rw [e, List.getElem?_append_left ht]
  exact hu
theorem ins_row {w6 : World} {base B j n : Nat} {v : Value} {O : List Ck.Bar} {x : Ck.Bar} (hB : B ≤ base) (hj : j ≤ O.length) (hn : n = O.length)
    (h : w6.ownsRow base 24 3 v (0 + j + 1 + (n - j)) ([] ++ bcellsL (O.take j) ++ [.int .i64 x.x, .int .i64 x.y, .int .i64 x.s] ++ bcellsL (O.drop j))) : Hid (ShRow B v (O.take j ++ x :: O.drop j) w6) := by
  subst hn
  have e : (O.take j ++ x :: O.drop j).length = 0 + j + 1 + (O.length - j) := by
    rw [List.length_append, List.length_take, List.length_cons, List.length_drop]
    omega
  unfold ShRow
  rw [e]
  have e2 : bcellsL (O.take j ++ x :: O.drop j) = [] ++ bcellsL (O.take j) ++ [.int .i64 x.x, .int .i64 x.y, .int .i64 x.s] ++ bcellsL (O.drop j) := by simp [bcellsL]
  rw [e2]
  exact ownsRow_mono h hB
set_option maxHeartbeats 4000000 in
set_option maxRecDepth 100000 in
theorem refSorted (A : Option Addr) (c : Nat) (l : List Ck.Bar) (w : World) (hl : l.length ≤ 4096) (h : RB w w.heap.size A l) :
    Calls Tryz.prog 74 #[.slice A l.length c] w (OwnPost (srtL l) w) := by
  obtain ⟨ib, hib, hb0, hb01, hb02⟩ := info_parts Tryz.info24
  have HIB := Lib.hid hib
  have HB0 := Lib.hid hb0
  have HB1 := Lib.hid hb01
  have HB2 := Lib.hid hb02
  have HR := Lib.hid h
  have hl' : (l.length : Int) ≤ 4096 := by omega
  clear hib hb0 hb01 hb02 h
  go_enter Tryz.func74, Tryz.ntmps74
  go_wp2_with fail
  go_loopw [3, 4, 5] (fun v i _ wr => ∃ k : Nat, k ≤ l.length ∧ i = .int .i64 k ∧ Hid (ShRow w.heap.size v (srtL (l.take k)) wr) ∧ Hid (k = 0 → v = .slice none 0 0) ∧ Below w.heap.size w wr) (fun _ i _ _ => l.length - (intOf i).toNat)
  case atStart => exact ⟨0, Nat.zero_le _, rfl, ⟨rfl, .inl ⟨rfl, rfl⟩⟩, fun _ => rfl, Below.refl _ _⟩
  case round =>
    obtain ⟨k, hk, rfl, hown, hnil, hb⟩ := hrel
    have hbz := hb.size
    by_cases hlt : k < l.length
    · have HRw := Lib.hid (HR.out.below hb)
      obtain ⟨b, off, rfl, hB, hc⟩ := HRw.out (by omega)
      obtain ⟨d0, d1, d2⟩ := hc k hlt
      have HC := Lib.hid hc
      have hki : (k : Int) < (l.length : Int) := by omega
      have hk0 : (0 : Int) ≤ (k : Int) := by omega
      have hbw : b < wr.heap.size := by omega
      clear hc
      by_cases hz : k = 0
      · subst hz
        have HV := Lib.hid (hnil.out rfl)
        rw [HV.out]
        generalize wr = wo at *
        go_wp2_with fail
        go_loopw [5] (fun at' wi => at' = .int .i64 0 ∧ Below wo.heap.size wo wi) (fun _ _ => 0)
        case atStart => exact ⟨rfl, Below.refl _ _⟩
        case round =>
          obtain ⟨rfl, hbi⟩ := hrel
          go_wp2_with fail
          go_quiet (fail)
          have hb8 := below_drewN hbi nq
          generalize World.drewN wr nq = W8 at *
          clear nq
          go_wp2_with fail
          go_quiet (fail)
          have hb9 := below_drewN hb8 nq
          generalize World.drewN W8 nq = W9 at *
          go_wp2_with fail
          have hs9 := hb9.size
          have e0 := (hb9.cell (p := ⟨b, off + 0 * 3, none⟩) hbw).trans d0
          have e1 := (hb9.cell (p := ⟨b, off + 0 * 3 + 1, none⟩) hbw).trans d1
          have e2 := (hb9.cell (p := ⟨b, off + 0 * 3 + 2, none⟩) hbw).trans d2
          rw [Nat.zero_mul, Nat.add_zero] at e0 e1 e2
          clear d0 d1 d2
          go_region_held3 (fun w' => w'.cell? ⟨b, off, none⟩ = some (.int .i64 l[0].x) ∧ w'.cell? ⟨b, off + 1, none⟩ = some (.int .i64 l[0].y) ∧ w'.cell? ⟨b, off + 2, none⟩ = some (.int .i64 l[0].s) ∧ Below wo.heap.size wo w' ∧ b < wo.heap.size)
              (first
                | exact ⟨e0, e1, e2, below_drew hb9, hbw⟩
                | assumption
                | exact keepQ (by assumption) ((Below.refl _ _).alloc (belQ (by assumption)).size _)
                | exact keepQ (by assumption) (by assumption))
              (first
                | (refine step_append_none rfl (.tmp 44) (.tmp 47) 22 rfl wo.heap.size 24 ib 3 Tryz.underlying22 HIB.out (.slice (some ⟨W9.heap.size, 0, none⟩) 0 0) 0 [] ?_ (by first | exact empty_row _ _ (by first | omega | (simp; omega)) _ _ | exact (empty_row _ _ (by first | omega | (simp; omega)) _ _).alloc _) ?_ ?_; (· rfl); (· rfl))
                | (refine step_append_none rfl (.tmp 44) (.tmp 47) 22 rfl wo.heap.size 24 ib 3 Tryz.underlying22 HIB.out (.slice (some ⟨W9.heap.size + 1, 0, none⟩) 0 0) 0 [] ?_ (by exact empty_row2 _ _ _ (by first | omega | (simp; omega)) _ _) ?_ ?_; (· rfl); (· rfl))
                | (refine step_append_lies _ rfl (.tmp 48) (.tmp 53) 22 rfl wo.heap.size 24 ib (.agg #[.int .i64 0, .int .i64 0, .int .i64 0]) 3 24 Tryz.underlying22 HIB.out HB0.out HB1.out HB2.out rfl (by decide) (.slice (some ⟨W9.heap.size, 0, none⟩) 0 0) 0 [] ?_ (by first | exact empty_row _ _ (by first | omega | (simp; omega)) _ _ | exact (empty_row _ _ (by first | omega | (simp; omega)) _ _).alloc _) ⟨W9.heap.size + 1, 0, none⟩ 1 1 [.int .i64 l[0].x, .int .i64 l[0].y, .int .i64 l[0].s] ?_ rfl (by exact World.news_of_block (new2 _ _ _ _ _ _)) (by intro u hu; simp at hu; rcases hu with rfl | rfl | rfl <;> rfl) (by decide) (by unfold maxLen; omega) (by omega) (by first | omega | (simp; omega)) _ rfl ?_; (· (simp [Act.eval]; done)); (· (simp [Act.eval]; done)); intro g2 cap2 w6 hown6 hgrow6 hat6 hlt6; have hQ6 := grewQ (B := wo.heap.size) (base := wo.heap.size) (e := 24) (size := 3) (n := 0) (xs := []) (by first | exact empty_row _ _ (by first | omega | (simp; omega)) _ _ | exact (empty_row _ _ (by first | omega | (simp; omega)) _ _).alloc _) (Nat.le_refl _) (by first | omega | (simp; omega)) hgrow6)
                | (refine step_append_lies _ rfl (.tmp 48) (.tmp 53) 22 rfl wo.heap.size 24 ib (.agg #[.int .i64 0, .int .i64 0, .int .i64 0]) 3 24 Tryz.underlying22 HIB.out HB0.out HB1.out HB2.out rfl (by decide) (.slice (some ⟨W9.heap.size + 1, 0, none⟩) 0 0) 0 [] ?_ (by exact empty_row2 _ _ _ (by first | omega | (simp; omega)) _ _) ⟨W9.heap.size, 0, none⟩ 1 1 [.int .i64 l[0].x, .int .i64 l[0].y, .int .i64 l[0].s] ?_ rfl (by exact World.news_of_block (new1 _ _ _ _ _ _)) (by intro u hu; simp at hu; rcases hu with rfl | rfl | rfl <;> rfl) (by decide) (by unfold maxLen; omega) (by omega) (by first | omega | (simp; omega)) _ rfl ?_; (· (simp [Act.eval]; done)); (· (simp [Act.eval]; done)); intro g2 cap2 w6 hown6 hgrow6 hat6 hlt6; have hQ6 := grewQ (B := wo.heap.size) (base := wo.heap.size) (e := 24) (size := 3) (n := 0) (xs := []) (by exact empty_row2 _ _ _ (by first | omega | (simp; omega)) _ _) (Nat.le_refl _) (by first | omega | (simp; omega)) hgrow6)
                | (refine step_append_none rfl (.tmp 54) (.tmp 57) 22 rfl wo.heap.size 24 ib 3 Tryz.underlying22 HIB.out (.slice (some ⟨g2, 0, none⟩) (0 + 1) cap2) (0 + 1) ([] ++ [.int .i64 l[0].x, .int .i64 l[0].y, .int .i64 l[0].s]) ?_ hown6 ?_ ?_; (· (first | rfl | (simp [Act.eval, Act.put]; done))); (· rfl))
                | fail)
          all_goals
            have hrow6 := srt_row0 hlt hbz hown6
            have hbel6 := hb.trans ((belQ (by assumption)).mono hbz)
            clear hown6 hgrow6 hat6
            go_wp2
            go_roundw
            case rel => exact ⟨1, by omega, by go_num, Lib.hid (by have := hrow6.out; unfold ShRow; rw [srtL_one l (by omega), show (l.take 1).length = 1 by rw [List.length_take]; omega]; simpa using this), fun h => by omega, hbel6⟩
            case measure => simp [intOf]; omega
      · have hOpos := srtL_pos l k (by omega) (by omega)
        have hOle : (srtL (l.take k)).length ≤ k := by
          have h1 := srtL_length (l.take k)
          have h2 : (l.take k).length ≤ k := by rw [List.length_take]; omega
          omega
        have HSN := Lib.hid (srtL_snoc l k hlt)
        generalize hO : srtL (l.take k) = O at *
        generalize hx : l[k] = x at *
        have hOc := hown.out
        unfold ShRow at hOc
        obtain ⟨n, hn⟩ : ∃ n, O.length = n := ⟨_, rfl⟩
        have HN := Lib.hid hn
        have hOn := hOpos
        rw [hn] at hOc hOle hOpos
        obtain ⟨g, cap, rfl, hg, hkc, hcm, hgz⟩ := own_form hOc (by omega)
        have HO := Lib.hid (RB.of_own (l := O) (n := n) (by rw [hn]; exact hOc))
        have hown0 := Lib.hid hOc
        have hncI : (n : Int) ≤ (cap : Int) := by omega
        clear hOc hown hn hO hx hnil
        generalize wr = wo at *
        have XC := Lib.hid (show ∀ W : World, Below wo.heap.size wo W → W.cell? ⟨b, off + k * 3, none⟩ = some (.int .i64 x.x) ∧ W.cell? ⟨b, off + k * 3 + 1, none⟩ = some (.int .i64 x.y) ∧ W.cell? ⟨b, off + k * 3 + 2, none⟩ = some (.int .i64 x.s) from fun W hW => ⟨(hW.cell (p := ⟨b, off + k * 3, none⟩) hbw).trans d0, (hW.cell (p := ⟨b, off + k * 3 + 1, none⟩) hbw).trans d1, (hW.cell (p := ⟨b, off + k * 3 + 2, none⟩) hbw).trans d2⟩)
        go_wp2_with fail
        go_loopw [5] (fun at' wi => ∃ j : Nat, j ≤ n ∧ at' = .int .i64 j ∧ Hid (∀ q (h : q < O.length), q < j → lessB O[q].x O[q].y O[q].s x.x x.y x.s = true) ∧ Below wo.heap.size wo wi) (fun at' _ => n - (intOf at').toNat)
        case atStart => exact ⟨0, Nat.zero_le _, rfl, Lib.hid (fun q _ h => by omega), Below.refl _ _⟩
        case round =>
          obtain ⟨j, hj, rfl, hall, hbi⟩ := hrel
          replace d0 := (hbi.cell (p := ⟨b, off + k * 3, none⟩) hbw).trans d0
          replace d1 := (hbi.cell (p := ⟨b, off + k * 3 + 1, none⟩) hbw).trans d1
          replace d2 := (hbi.cell (p := ⟨b, off + k * 3 + 2, none⟩) hbw).trans d2
          by_cases hjn : j < n
          · have hjO : j < O.length := by rw [HN.out]; exact hjn
            obtain ⟨_, _, hcell⟩ : ∃ b' off', _ := HO.out.below hbi hOn
            obtain ⟨hA', _, hcell⟩ := hcell
            cases hA'
            obtain ⟨f0, f1, f2⟩ := hcell j hjO
            simp only [Nat.zero_add] at f0 f1 f2
            have hy : O[j] = O[j] := rfl
            revert hy
            generalize hyy : O[j] = y at f0 f1 f2
            intro _
            have HY := Lib.hid hyy
            have hg1 : decide (j < n) = true := by simpa using hjn
            have hg2 : decide ((j : Int) < (n : Int)) = true := by simpa using hjn
            have hp0 : (0 : Int) ≤ (j : Int) := by omega
            have hpi : (j : Int) < (n : Int) := by omega
            have hpin : (j : Int) ≤ (n : Int) := by omega
            have hpic : (j : Int) ≤ (cap : Int) := by omega
            have hjcN : j ≤ cap := by omega
            have hjnN : j ≤ n := by omega
            clear hcell hyy
            cases hl : lessB y.x y.y y.s x.x x.y x.s
            · have HL := Lib.hid hl
              clear hl
              go_wp2_with fail
              have hw1 : IntKind.i64.wrap (j : Int) = (j : Int) := by rw [IntKind.wrap_i64]; omega
              have hw2 : IntKind.i64.wrap (k : Int) = (k : Int) := by rw [IntKind.wrap_i64]; omega
              refine wp_region_still_tail 13 (by kernel_rfl) (by kernel_rfl) ?_
              simp only [List.take_succ_cons, List.take_zero, List.drop_succ_cons, List.drop_zero]
              repeat still_step
              refine wpStill_nil ?_
              change wpList _ _ _ _ _ wr.drew
              clear hw1 hw2
              go_wp2_with fail
              refine (refLess _ _ _ _ _ _ _).mono ?_
              rintro e w2 ⟨rfl, hb3⟩
              rw [HL.out]
              have hbi2 := (below_drew hbi).trans (hb3.mono hbi.size)
              have hb3' : Below wr.heap.size wr w2 := (below_drew (Below.refl _ _)).trans hb3
              have hgzr : g < wr.heap.size := Nat.lt_of_lt_of_le hgz hbi.size
              have hbwr : b < wr.heap.size := Nat.lt_of_lt_of_le hbw hbi.size
              replace d0 := (hb3'.cell (p := ⟨b, off + k * 3, none⟩) hbwr).trans d0
              replace d1 := (hb3'.cell (p := ⟨b, off + k * 3 + 1, none⟩) hbwr).trans d1
              replace d2 := (hb3'.cell (p := ⟨b, off + k * 3 + 2, none⟩) hbwr).trans d2
              replace f0 := (hb3'.cell (p := ⟨g, j * 3, none⟩) hgzr).trans f0
              replace f1 := (hb3'.cell (p := ⟨g, j * 3 + 1, none⟩) hgzr).trans f1
              replace f2 := (hb3'.cell (p := ⟨g, j * 3 + 2, none⟩) hgzr).trans f2
              have hqn : ((j : Int) == (n : Int)) = false := by rw [beq_eq_false_iff_ne]; omega
              have hqn2 : (j == n) = false := by rw [beq_eq_false_iff_ne]; omega
              have hqn3 : decide (j = n) = false := decide_eq_false (by omega)
              have hgd := guardBar
              by_cases he : y = x
              · have hq := eqBar' y x true (by simpa using he)
                have HE := Lib.hid (ins_same hjO hall.out (by rw [HY.out]; exact HL.out) (by rw [HY.out]; exact he))
                clear he hbi hb3
                go_wp2_with fail
                go_quiet (fail)
                go_wp2
                go_roundw
                case rel => exact ⟨k + 1, by omega, by go_num, Lib.hid (by rw [HSN.out, HE.out]; exact ownsRow_mono (ownsRow_below (by rw [HN.out]; exact hown0.out) (below_drewN hbi2 nq)) (Nat.le_refl _)), fun h => by omega, hb.trans ((below_drewN hbi2 nq).mono hbz)⟩
                case measure => simp [intOf]; omega
              · have hq := eqBar' y x false (by simpa using he)
                have HIN := Lib.hid (ins_new (by omega) hall.out (fun _ => by rw [HY.out]; exact HL.out) (fun _ => by rw [HY.out]; exact he))
                clear he hbi hb3
                go_wp2_with fail
                go_quiet (fail)
                have hb9 := below_drewN hbi2 nq
                generalize World.drewN w2 nq = W9 at *
                obtain ⟨e0, e1, e2⟩ := XC.out _ hb9
                have hs9 := hb9.size
                go_wp2_with fail
                clear hg1 hg2 d0 d1 d2 f0 f1 f2 hqn hqn2 hqn3 hq hgd
                refine wp_region_held_drew (S := (fun w' => w'.cell? ⟨b, off + k * 3, none⟩ = some (.int .i64 x.x) ∧ w'.cell? ⟨b, off + k * 3 + 1, none⟩ = some (.int .i64 x.y) ∧ w'.cell? ⟨b, off + k * 3 + 2, none⟩ = some (.int .i64 x.s) ∧ Below wo.heap.size wo w' ∧ b < wo.heap.size)) (by kernel_rfl) ?_ (fun hHeld => ?_)
                · exact ⟨e0, e1, e2, below_drew hb9, hbw⟩
                refine wpAnyH_take (i := 1) (oi := _) (v := ?vp1_1) rfl (by kernel_rfl) (by kernel_rfl) (by kernel_rfl) (fun _ _ _ h => h) (Or.inl ⟨by rfl, ?hyp1_1⟩) (by assumption) ?restp1_1
                case hyp1_1 => (intro w hSw; (try dsimp only at hSw); go_simp; first | done | rfl)
                try simp only [List.getElem_toArray, List.getElem_cons_succ, List.getElem_cons_zero, Act.put, List.setIfInBounds_toArray, List.set_cons_zero, List.set_cons_succ]
                refine wpAnyH_take (i := 2) (oi := _) (v := ?vp2_2) rfl (by kernel_rfl) (by kernel_rfl) (by kernel_rfl) (fun _ _ _ h => h) (Or.inl ⟨by rfl, ?hyp2_2⟩) (by assumption) ?restp2_2
                case hyp2_2 => (intro w hSw; (try dsimp only at hSw); go_simp; first | done | rfl)
                try simp only [List.getElem_toArray, List.getElem_cons_succ, List.getElem_cons_zero, Act.put, List.setIfInBounds_toArray, List.set_cons_zero, List.set_cons_succ]
                refine wpAnyH_take (i := 3) (oi := _) (v := ?vp3_3) rfl (by kernel_rfl) (by kernel_rfl) (by kernel_rfl) (fun _ _ _ h => h) (Or.inl ⟨by rfl, ?hyp3_3⟩) (by assumption) ?restp3_3
                case hyp3_3 => (intro w hSw; (try dsimp only at hSw); go_simp; first | done | rfl)
                try simp only [List.getElem_toArray, List.getElem_cons_succ, List.getElem_cons_zero, Act.put, List.setIfInBounds_toArray, List.set_cons_zero, List.set_cons_succ]
                refine wpAnyH_take (i := 5) (oi := _) (v := ?vp5_4) rfl (by kernel_rfl) (by kernel_rfl) (by kernel_rfl) (fun _ _ _ h => h) (Or.inl ⟨by rfl, ?hyp5_4⟩) (by assumption) ?restp5_4
                case hyp5_4 => (intro w hSw; (try dsimp only at hSw); go_simp; first | done | rfl)
                try simp only [List.getElem_toArray, List.getElem_cons_succ, List.getElem_cons_zero, Act.put, List.setIfInBounds_toArray, List.set_cons_zero, List.set_cons_succ]
                refine wpAnyH_take (i := 6) (oi := _) (v := ?vp6_5) rfl (by kernel_rfl) (by kernel_rfl) (by kernel_rfl) (fun _ _ _ h => h) (Or.inl ⟨by rfl, ?hyp6_5⟩) (by assumption) ?restp6_5
                case hyp6_5 => (intro w hSw; (try dsimp only at hSw); go_simp; first | done | rfl)
                try simp only [List.getElem_toArray, List.getElem_cons_succ, List.getElem_cons_zero, Act.put, List.setIfInBounds_toArray, List.set_cons_zero, List.set_cons_succ]
                refine wpAnyH_take (i := 7) (oi := _) (v := ?vp7_6) rfl (by kernel_rfl) (by kernel_rfl) (by kernel_rfl) (fun _ _ _ h => h) (Or.inl ⟨by rfl, ?hyp7_6⟩) (by assumption) ?restp7_6
                case hyp7_6 => (intro w hSw; (try dsimp only at hSw); go_simp; first | done | rfl)
                try simp only [List.getElem_toArray, List.getElem_cons_succ, List.getElem_cons_zero, Act.put, List.setIfInBounds_toArray, List.set_cons_zero, List.set_cons_succ]
                refine wpAnyH_take (i := 8) (oi := _) (v := ?vp8_7) rfl (by kernel_rfl) (by kernel_rfl) (by kernel_rfl) (fun _ _ _ h => h) (Or.inl ⟨by rfl, ?hyp8_7⟩) (by assumption) ?restp8_7
                case hyp8_7 => (intro w hSw; (try dsimp only at hSw); go_simp; first | done | rfl)
                try simp only [List.getElem_toArray, List.getElem_cons_succ, List.getElem_cons_zero, Act.put, List.setIfInBounds_toArray, List.set_cons_zero, List.set_cons_succ]
                refine wpAnyH_take (i := 11) (oi := _) (v := ?vp11_8) rfl (by kernel_rfl) (by kernel_rfl) (by kernel_rfl) (fun _ _ _ h => h) (Or.inl ⟨by rfl, ?hyp11_8⟩) (by assumption) ?restp11_8
                case hyp11_8 => (intro w hSw; (try dsimp only at hSw); go_simp; first | done | rfl)
                try simp only [List.getElem_toArray, List.getElem_cons_succ, List.getElem_cons_zero, Act.put, List.setIfInBounds_toArray, List.set_cons_zero, List.set_cons_succ]
                refine wpAnyH_take (i := 12) (oi := _) (v := ?vp12_9) rfl (by kernel_rfl) (by kernel_rfl) (by kernel_rfl) (fun _ _ _ h => h) (Or.inl ⟨by rfl, ?hyp12_9⟩) (by assumption) ?restp12_9
                case hyp12_9 => (intro w hSw; (try dsimp only at hSw); go_simp; first | done | rfl)
                try simp only [List.getElem_toArray, List.getElem_cons_succ, List.getElem_cons_zero, Act.put, List.setIfInBounds_toArray, List.set_cons_zero, List.set_cons_succ]
                refine wpAnyH_take (i := 13) (oi := _) (v := ?vp13_10) rfl (by kernel_rfl) (by kernel_rfl) (by kernel_rfl) (fun _ _ _ h => h) (Or.inl ⟨by rfl, ?hyp13_10⟩) (by assumption) ?restp13_10
                case hyp13_10 => (intro w hSw; (try dsimp only at hSw); go_simp; first | done | rfl)
                try simp only [List.getElem_toArray, List.getElem_cons_succ, List.getElem_cons_zero, Act.put, List.setIfInBounds_toArray, List.set_cons_zero, List.set_cons_succ]
                refine wpAnyH_ready (rs := [0, 9]) (by kernel_rfl) (by simp) ?_
                refine (AllReadyH.cons (o := _) rfl (fun K hK => ?rp0_11) (AllReadyH.cons (o := _) rfl (fun K hK => ?rp9_11) AllReadyH.nil))
                case rp0_11 =>
                  simp only [List.getElem_toArray, List.getElem_cons_succ, List.getElem_cons_zero]
                  go_simp
                  have hbz9 := (belQ hHeld).size
                  obtain ⟨Wa, hWa⟩ : ∃ Wa, W9.drew.alloc (.cells #[] 24) = Wa := ⟨_, rfl⟩
                  have hE := Lib.hid (show Wa.ownsRow wo.heap.size 24 3 (.slice (some ⟨W9.heap.size, 0, none⟩) 0 0) 0 [] by rw [← hWa]; exact empty_row W9.drew _ hbz9 _ _)
                  have HZA := Lib.hid (show Wa.heap.size = W9.heap.size + 1 by rw [← hWa]; simp)
                  have hal : Below wo.heap.size W9.drew Wa := by rw [← hWa]; exact (Below.refl _ _).alloc hbz9 _
                  rw [show (W9.alloc (.cells #[] 24)).drew = Wa from hWa]
                  refine hK.out _ _ (keepQ hHeld hal) (fun hHeld => ?_)
                  clear hWa hal hbz9
                  clear hK K
                  try simp only [List.getElem_toArray, List.getElem_cons_succ, List.getElem_cons_zero, Act.put, List.setIfInBounds_toArray, List.set_cons_zero, List.set_cons_succ]
                  refine wpAnyH_ready (rs := [4, 9]) (by kernel_rfl) (by simp) ?_
                  refine (AllReadyH.cons (o := _) rfl (fun K hK => ?rp4_12) (AllReadyH.cons (o := _) rfl (fun K hK => ?rp9_12) AllReadyH.nil))
                  case rp4_12 =>
                    simp only [List.getElem_toArray, List.getElem_cons_succ, List.getElem_cons_zero]
                    rw [if_pos (by rfl)]
                    have hbz9 := (belQ hHeld).size
                    refine wp_append_gen (.tmp 44) (.tmp 47) 22 rfl wo.heap.size 24 ib (.agg #[.int .i64 0, .int .i64 0, .int .i64 0]) 3 24 Tryz.underlying22 HIB.out HB0.out HB1.out HB2.out rfl (by decide) (.slice (some ⟨W9.heap.size, 0, none⟩) 0 0) 0 [] ?_ hE.out (some ⟨g, 0, none⟩) j cap (bcellsL (O.take j)) ?_ (by rw [bcellsL_length, List.length_take, HN.out]; omega) (by intro h; cases h) (by exact news_take (HO.out.below (belQ hHeld)) hOn) (bcellsL_one _) (by unfold maxLen; omega) (by omega) hbz9 ?_
                    · rfl
                    · rfl
                    intro v5 w5 hown hgrow
                    have hown5 := Lib.hid hown
                    have hQ := grewQ hE.out (Nat.le_refl _) hbz9 hgrow
                    refine hK.out _ _ (keepQ hHeld hQ) (fun hHeld => ?_)
                    clear hown hgrow hQ hbz9
                    clear hK K
                    try simp only [List.getElem_toArray, List.getElem_cons_succ, List.getElem_cons_zero, Act.put, List.setIfInBounds_toArray, List.set_cons_zero, List.set_cons_succ]
                    refine wpAnyH_ready (rs := [9]) (by kernel_rfl) (by simp) ?_
                    refine (AllReadyH.cons (o := _) rfl (fun K hK => ?rp9_13) AllReadyH.nil)
                    case rp9_13 =>
                      simp only [List.getElem_toArray, List.getElem_cons_succ, List.getElem_cons_zero]
                      go_simp
                      have hbz9 := (belQ hHeld).size
                      obtain ⟨Wb, hWb⟩ : ∃ Wb, w5.alloc (.cells #[.int .i64 x.x, .int .i64 x.y, .int .i64 x.s] 24) = Wb := ⟨_, rfl⟩
                      have hLt := Lib.hid (show Wb.heap[w5.heap.size]? = some (.cells #[.int .i64 x.x, .int .i64 x.y, .int .i64 x.s] 24 (0, 0)) by rw [← hWb]; exact heap_alloc_new _ _)
                      have HZB := Lib.hid (show Wb.heap.size = w5.heap.size + 1 by rw [← hWb]; simp)
                      have hal : Below wo.heap.size w5 Wb := by rw [← hWb]; exact (Below.refl _ _).alloc hbz9 _
                      have hown5b := Lib.hid (show Wb.ownsRow wo.heap.size 24 3 v5 (0 + j) ([] ++ bcellsL (O.take j)) by rw [← hWb]; exact hown5.out.alloc _)
                      rw [hWb]
                      refine hK.out _ _ (keepQ hHeld hal) (fun hHeld => ?_)
                      clear hWb hal hbz9
                      clear hK K
                      try simp only [List.getElem_toArray, List.getElem_cons_succ, List.getElem_cons_zero, Act.put, List.setIfInBounds_toArray, List.set_cons_zero, List.set_cons_succ]
                      refine wpAnyH_ready (rs := [10]) (by kernel_rfl) (by simp) ?_
                      refine (AllReadyH.cons (o := _) rfl (fun K hK => ?rp10_14) AllReadyH.nil)
                      case rp10_14 =>
                        simp only [List.getElem_toArray, List.getElem_cons_succ, List.getElem_cons_zero]
                        rw [if_pos (by rfl)]
                        have hbz9 := (belQ hHeld).size
                        refine wp_append_gen (.tmp 48) (.tmp 53) 22 rfl wo.heap.size 24 ib (.agg #[.int .i64 0, .int .i64 0, .int .i64 0]) 3 24 Tryz.underlying22 HIB.out HB0.out HB1.out HB2.out rfl (by decide) v5 (0 + j) ([] ++ bcellsL (O.take j)) ?_ hown5b.out (some ⟨w5.heap.size, 0, none⟩) 1 1 [.int .i64 x.x, .int .i64 x.y, .int .i64 x.s] ?_ rfl (by intro h; cases h) (by intro ad had; cases had; exact World.news_of_block hLt.out) (by intro u hu; simp at hu; rcases hu with rfl | rfl | rfl <;> rfl) (by unfold maxLen; omega) (by omega) hbz9 ?_
                        · first | rfl | (simp [Act.eval]; done)
                        · first | rfl | (simp [Act.eval]; done)
                        intro v6 w6 hown hgrow
                        have hown6 := Lib.hid hown
                        have hQ := grewQ hown5b.out (Nat.le_refl _) hbz9 hgrow
                        refine hK.out _ _ (keepQ hHeld hQ) (fun hHeld => ?_)
                        clear hown hgrow hQ hbz9
                        clear hK K
                        try simp only [List.getElem_toArray, List.getElem_cons_succ, List.getElem_cons_zero, Act.put, List.setIfInBounds_toArray, List.set_cons_zero, List.set_cons_succ]
                        refine wpAnyH_ready (rs := [14]) (by kernel_rfl) (by simp) ?_
                        refine (AllReadyH.cons (o := _) rfl (fun K hK => ?rp14_15) AllReadyH.nil)
                        case rp14_15 =>
                          simp only [List.getElem_toArray, List.getElem_cons_succ, List.getElem_cons_zero]
                          rw [if_pos (by rfl)]
                          have hbz9 := (belQ hHeld).size
                          refine wp_append_gen (.tmp 54) (.tmp 57) 22 rfl wo.heap.size 24 ib (.agg #[.int .i64 0, .int .i64 0, .int .i64 0]) 3 24 Tryz.underlying22 HIB.out HB0.out HB1.out HB2.out rfl (by decide) v6 (0 + j + 1) ([] ++ bcellsL (O.take j) ++ [.int .i64 x.x, .int .i64 x.y, .int .i64 x.s]) ?_ hown6.out (if cap = j then some ⟨g, 0, none⟩ else some ⟨g, j * 3, none⟩) (n - j) (cap - j) (bcellsL (O.drop j)) ?_ (by rw [bcellsL_length, List.length_drop, HN.out]) (by intro h; split at h <;> cases h) (by exact news_drop (HO.out.below (belQ hHeld)) hOn (by rw [HN.out]; omega) (by rw [HN.out]; omega)) (bcellsL_one _) (by unfold maxLen; omega) (by omega) hbz9 ?_
                          · first | rfl | (simp [Act.eval, Act.put]; done)
                          · first | rfl | (simp [Act.eval, Act.put]; done)
                          intro v7 w7 hown hgrow
                          have hown7 := Lib.hid hown
                          have hQ := grewQ hown6.out (Nat.le_refl _) hbz9 hgrow
                          refine hK.out _ _ (keepQ hHeld hQ) (fun hHeld => ?_)
                          clear hown hgrow hQ hbz9
                          clear hK K
                          try simp only [List.getElem_toArray, List.getElem_cons_succ, List.getElem_cons_zero, Act.put, List.setIfInBounds_toArray, List.set_cons_zero, List.set_cons_succ]
                          refine wpAnyH_take (i := 15) (oi := _) (v := ?vp15_16) rfl (by kernel_rfl) (by kernel_rfl) (by kernel_rfl) (fun _ _ _ h => h) (Or.inl ⟨by rfl, ?hyp15_16⟩) (by assumption) ?restp15_16
                          case hyp15_16 => (intro w hSw; (try dsimp only at hSw); go_simp; first | done | rfl)
                          try simp only [List.getElem_toArray, List.getElem_cons_succ, List.getElem_cons_zero, Act.put, List.setIfInBounds_toArray, List.set_cons_zero, List.set_cons_succ]
                          refine wpAnyH_done (by kernel_rfl) ?_ _
                          have hrow7 := ins_row (B := w.heap.size) hbz (by rw [HN.out]; omega) HN.out.symm hown7.out
                          have hbel7 := hb.trans ((belQ hHeld).mono hbz)
                          clear hown5 hown6 hown7
                          go_wp2
                          go_roundw
                          case rel => exact ⟨k + 1, by omega, by go_num, Lib.hid (by rw [HSN.out, HIN.out]; exact hrow7.out), fun h => by omega, hbel7⟩
                          case measure => simp [intOf]; omega
                  case rp9_12 =>
                    simp only [List.getElem_toArray, List.getElem_cons_succ, List.getElem_cons_zero]
                    go_simp
                    have hbz9 := (belQ hHeld).size
                    obtain ⟨Wb, hWb⟩ : ∃ Wb, Wa.alloc (.cells #[.int .i64 x.x, .int .i64 x.y, .int .i64 x.s] 24) = Wb := ⟨_, rfl⟩
                    have hLt := Lib.hid (show Wb.heap[Wa.heap.size]? = some (.cells #[.int .i64 x.x, .int .i64 x.y, .int .i64 x.s] 24 (0, 0)) by rw [← hWb]; exact heap_alloc_new _ _)
                    have HZB := Lib.hid (show Wb.heap.size = Wa.heap.size + 1 by rw [← hWb]; simp)
                    have hal : Below wo.heap.size Wa Wb := by rw [← hWb]; exact (Below.refl _ _).alloc hbz9 _
                    have hE2 := Lib.hid (show Wb.ownsRow wo.heap.size 24 3 (.slice (some ⟨W9.heap.size, 0, none⟩) 0 0) 0 [] by rw [← hWb]; exact hE.out.alloc _)
                    rw [hWb]
                    refine hK.out _ _ (keepQ hHeld hal) (fun hHeld => ?_)
                    clear hWb hal hbz9
                    clear hK K
                    try simp only [List.getElem_toArray, List.getElem_cons_succ, List.getElem_cons_zero, Act.put, List.setIfInBounds_toArray, List.set_cons_zero, List.set_cons_succ]
                    refine wpAnyH_ready (rs := [4]) (by kernel_rfl) (by simp) ?_
                    refine (AllReadyH.cons (o := _) rfl (fun K hK => ?rp4_17) AllReadyH.nil)
                    case rp4_17 =>
                      simp only [List.getElem_toArray, List.getElem_cons_succ, List.getElem_cons_zero]
                      rw [if_pos (by rfl)]
                      have hbz9 := (belQ hHeld).size
                      refine wp_append_gen (.tmp 44) (.tmp 47) 22 rfl wo.heap.size 24 ib (.agg #[.int .i64 0, .int .i64 0, .int .i64 0]) 3 24 Tryz.underlying22 HIB.out HB0.out HB1.out HB2.out rfl (by decide) (.slice (some ⟨W9.heap.size, 0, none⟩) 0 0) 0 [] ?_ hE2.out (some ⟨g, 0, none⟩) j cap (bcellsL (O.take j)) ?_ (by rw [bcellsL_length, List.length_take, HN.out]; omega) (by intro h; cases h) (by exact news_take (HO.out.below (belQ hHeld)) hOn) (bcellsL_one _) (by unfold maxLen; omega) (by omega) hbz9 ?_
                      · rfl
                      · rfl
                      intro v5 w5 hown hgrow
                      have hown5 := Lib.hid hown
                      have hQ := grewQ hE2.out (Nat.le_refl _) hbz9 hgrow
                      have hLt5 := Lib.hid (show w5.heap[Wa.heap.size]? = some (.cells #[.int .i64 x.x, .int .i64 x.y, .int .i64 x.s] 24 (0, 0)) from (hgrow.block _ (Array.getElem?_eq_some_iff.1 hLt.out).1 (by have z1 := HZA.out; have z2 := HZB.out; simp [Value.ownBlock]; omega)).trans hLt.out)
                      refine hK.out _ _ (keepQ hHeld hQ) (fun hHeld => ?_)
                      clear hown hgrow hQ hbz9
                      clear hK K
                      try simp only [List.getElem_toArray, List.getElem_cons_succ, List.getElem_cons_zero, Act.put, List.setIfInBounds_toArray, List.set_cons_zero, List.set_cons_succ]
                      refine wpAnyH_ready (rs := [10]) (by kernel_rfl) (by simp) ?_
                      refine (AllReadyH.cons (o := _) rfl (fun K hK => ?rp10_18) AllReadyH.nil)
                      case rp10_18 =>
                        simp only [List.getElem_toArray, List.getElem_cons_succ, List.getElem_cons_zero]
                        rw [if_pos (by rfl)]
                        have hbz9 := (belQ hHeld).size
                        refine wp_append_gen (.tmp 48) (.tmp 53) 22 rfl wo.heap.size 24 ib (.agg #[.int .i64 0, .int .i64 0, .int .i64 0]) 3 24 Tryz.underlying22 HIB.out HB0.out HB1.out HB2.out rfl (by decide) v5 (0 + j) ([] ++ bcellsL (O.take j)) ?_ hown5.out (some ⟨Wa.heap.size, 0, none⟩) 1 1 [.int .i64 x.x, .int .i64 x.y, .int .i64 x.s] ?_ rfl (by intro h; cases h) (by intro ad had; cases had; exact World.news_of_block hLt5.out) (by intro u hu; simp at hu; rcases hu with rfl | rfl | rfl <;> rfl) (by unfold maxLen; omega) (by omega) hbz9 ?_
                        · first | rfl | (simp [Act.eval]; done)
                        · first | rfl | (simp [Act.eval]; done)
                        intro v6 w6 hown hgrow
                        have hown6 := Lib.hid hown
                        have hQ := grewQ hown5.out (Nat.le_refl _) hbz9 hgrow
                        refine hK.out _ _ (keepQ hHeld hQ) (fun hHeld => ?_)
                        clear hown hgrow hQ hbz9
                        clear hK K
                        try simp only [List.getElem_toArray, List.getElem_cons_succ, List.getElem_cons_zero, Act.put, List.setIfInBounds_toArray, List.set_cons_zero, List.set_cons_succ]
                        refine wpAnyH_ready (rs := [14]) (by kernel_rfl) (by simp) ?_
                        refine (AllReadyH.cons (o := _) rfl (fun K hK => ?rp14_19) AllReadyH.nil)
                        case rp14_19 =>
                          simp only [List.getElem_toArray, List.getElem_cons_succ, List.getElem_cons_zero]
                          rw [if_pos (by rfl)]
                          have hbz9 := (belQ hHeld).size
                          refine wp_append_gen (.tmp 54) (.tmp 57) 22 rfl wo.heap.size 24 ib (.agg #[.int .i64 0, .int .i64 0, .int .i64 0]) 3 24 Tryz.underlying22 HIB.out HB0.out HB1.out HB2.out rfl (by decide) v6 (0 + j + 1) ([] ++ bcellsL (O.take j) ++ [.int .i64 x.x, .int .i64 x.y, .int .i64 x.s]) ?_ hown6.out (if cap = j then some ⟨g, 0, none⟩ else some ⟨g, j * 3, none⟩) (n - j) (cap - j) (bcellsL (O.drop j)) ?_ (by rw [bcellsL_length, List.length_drop, HN.out]) (by intro h; split at h <;> cases h) (by exact news_drop (HO.out.below (belQ hHeld)) hOn (by rw [HN.out]; omega) (by rw [HN.out]; omega)) (bcellsL_one _) (by unfold maxLen; omega) (by omega) hbz9 ?_
                          · first | rfl | (simp [Act.eval, Act.put]; done)
                          · first | rfl | (simp [Act.eval, Act.put]; done)
                          intro v7 w7 hown hgrow
                          have hown7 := Lib.hid hown
                          have hQ := grewQ hown6.out (Nat.le_refl _) hbz9 hgrow
                          refine hK.out _ _ (keepQ hHeld hQ) (fun hHeld => ?_)
                          clear hown hgrow hQ hbz9
                          clear hK K
                          try simp only [List.getElem_toArray, List.getElem_cons_succ, List.getElem_cons_zero, Act.put, List.setIfInBounds_toArray, List.set_cons_zero, List.set_cons_succ]
                          refine wpAnyH_take (i := 15) (oi := _) (v := ?vp15_20) rfl (by kernel_rfl) (by kernel_rfl) (by kernel_rfl) (fun _ _ _ h => h) (Or.inl ⟨by rfl, ?hyp15_20⟩) (by assumption) ?restp15_20
                          case hyp15_20 => (intro w hSw; (try dsimp only at hSw); go_simp; first | done | rfl)
                          try simp only [List.getElem_toArray, List.getElem_cons_succ, List.getElem_cons_zero, Act.put, List.setIfInBounds_toArray, List.set_cons_zero, List.set_cons_succ]
                          refine wpAnyH_done (by kernel_rfl) ?_ _
                          have hrow7 := ins_row (B := w.heap.size) hbz (by rw [HN.out]; omega) HN.out.symm hown7.out
                          have hbel7 := hb.trans ((belQ hHeld).mono hbz)
                          clear hown5 hown6 hown7
                          go_wp2
                          go_roundw
                          case rel => exact ⟨k + 1, by omega, by go_num, Lib.hid (by rw [HSN.out, HIN.out]; exact hrow7.out), fun h => by omega, hbel7⟩
                          case measure => simp [intOf]; omega
                case rp9_11 =>
                  simp only [List.getElem_toArray, List.getElem_cons_succ, List.getElem_cons_zero]
                  go_simp
                  have hbz9 := (belQ hHeld).size
                  obtain ⟨Wb, hWb⟩ : ∃ Wb, W9.drew.alloc (.cells #[.int .i64 x.x, .int .i64 x.y, .int .i64 x.s] 24) = Wb := ⟨_, rfl⟩
                  have hLt := Lib.hid (show Wb.heap[W9.heap.size]? = some (.cells #[.int .i64 x.x, .int .i64 x.y, .int .i64 x.s] 24 (0, 0)) by rw [← hWb]; exact heap_alloc_new _ _)
                  have HZB := Lib.hid (show Wb.heap.size = W9.heap.size + 1 by rw [← hWb]; simp)
                  have hal : Below wo.heap.size W9.drew Wb := by rw [← hWb]; exact (Below.refl _ _).alloc hbz9 _
                  rw [show (W9.alloc (.cells #[.int .i64 x.x, .int .i64 x.y, .int .i64 x.s] 24)).drew = Wb from hWb]
                  refine hK.out _ _ (keepQ hHeld hal) (fun hHeld => ?_)
                  clear hWb hal hbz9
                  clear hK K
                  try simp only [List.getElem_toArray, List.getElem_cons_succ, List.getElem_cons_zero, Act.put, List.setIfInBounds_toArray, List.set_cons_zero, List.set_cons_succ]
                  refine wpAnyH_ready (rs := [0]) (by kernel_rfl) (by simp) ?_
                  refine (AllReadyH.cons (o := _) rfl (fun K hK => ?rp0_21) AllReadyH.nil)
                  case rp0_21 =>
                    simp only [List.getElem_toArray, List.getElem_cons_succ, List.getElem_cons_zero]
                    go_simp
                    have hbz9 := (belQ hHeld).size
                    obtain ⟨Wa, hWa⟩ : ∃ Wa, Wb.alloc (.cells #[] 24) = Wa := ⟨_, rfl⟩
                    have hE := Lib.hid (show Wa.ownsRow wo.heap.size 24 3 (.slice (some ⟨Wb.heap.size, 0, none⟩) 0 0) 0 [] by rw [← hWa]; exact empty_row Wb _ hbz9 _ _)
                    have HZA := Lib.hid (show Wa.heap.size = Wb.heap.size + 1 by rw [← hWa]; simp)
                    have hal : Below wo.heap.size Wb Wa := by rw [← hWa]; exact (Below.refl _ _).alloc hbz9 _
                    have hLt2 := Lib.hid (show Wa.heap[W9.heap.size]? = some (.cells #[.int .i64 x.x, .int .i64 x.y, .int .i64 x.s] 24 (0, 0)) by rw [← hWa]; exact (Below.heap_alloc _ _ _ (Array.getElem?_eq_some_iff.1 hLt.out).1).trans hLt.out)
                    rw [hWa]
                    refine hK.out _ _ (keepQ hHeld hal) (fun hHeld => ?_)
                    clear hWa hal hbz9
                    clear hK K
                    try simp only [List.getElem_toArray, List.getElem_cons_succ, List.getElem_cons_zero, Act.put, List.setIfInBounds_toArray, List.set_cons_zero, List.set_cons_succ]
                    refine wpAnyH_ready (rs := [4]) (by kernel_rfl) (by simp) ?_
                    refine (AllReadyH.cons (o := _) rfl (fun K hK => ?rp4_22) AllReadyH.nil)
                    case rp4_22 =>
                      simp only [List.getElem_toArray, List.getElem_cons_succ, List.getElem_cons_zero]
                      rw [if_pos (by rfl)]
                      have hbz9 := (belQ hHeld).size
                      refine wp_append_gen (.tmp 44) (.tmp 47) 22 rfl wo.heap.size 24 ib (.agg #[.int .i64 0, .int .i64 0, .int .i64 0]) 3 24 Tryz.underlying22 HIB.out HB0.out HB1.out HB2.out rfl (by decide) (.slice (some ⟨Wb.heap.size, 0, none⟩) 0 0) 0 [] ?_ hE.out (some ⟨g, 0, none⟩) j cap (bcellsL (O.take j)) ?_ (by rw [bcellsL_length, List.length_take, HN.out]; omega) (by intro h; cases h) (by exact news_take (HO.out.below (belQ hHeld)) hOn) (bcellsL_one _) (by unfold maxLen; omega) (by omega) hbz9 ?_
                      · rfl
                      · rfl
                      intro v5 w5 hown hgrow
                      have hown5 := Lib.hid hown
                      have hQ := grewQ hE.out (Nat.le_refl _) hbz9 hgrow
                      have hLt5 := Lib.hid (show w5.heap[W9.heap.size]? = some (.cells #[.int .i64 x.x, .int .i64 x.y, .int .i64 x.s] 24 (0, 0)) from (hgrow.block _ (Array.getElem?_eq_some_iff.1 hLt2.out).1 (by have z1 := HZA.out; have z2 := HZB.out; simp [Value.ownBlock]; omega)).trans hLt2.out)
                      refine hK.out _ _ (keepQ hHeld hQ) (fun hHeld => ?_)
                      clear hown hgrow hQ hbz9
                      clear hK K
                      try simp only [List.getElem_toArray, List.getElem_cons_succ, List.getElem_cons_zero, Act.put, List.setIfInBounds_toArray, List.set_cons_zero, List.set_cons_succ]
                      refine wpAnyH_ready (rs := [10]) (by kernel_rfl) (by simp) ?_
                      refine (AllReadyH.cons (o := _) rfl (fun K hK => ?rp10_23) AllReadyH.nil)
                      case rp10_23 =>
                        simp only [List.getElem_toArray, List.getElem_cons_succ, List.getElem_cons_zero]
                        rw [if_pos (by rfl)]
                        have hbz9 := (belQ hHeld).size
                        refine wp_append_gen (.tmp 48) (.tmp 53) 22 rfl wo.heap.size 24 ib (.agg #[.int .i64 0, .int .i64 0, .int .i64 0]) 3 24 Tryz.underlying22 HIB.out HB0.out HB1.out HB2.out rfl (by decide) v5 (0 + j) ([] ++ bcellsL (O.take j)) ?_ hown5.out (some ⟨W9.heap.size, 0, none⟩) 1 1 [.int .i64 x.x, .int .i64 x.y, .int .i64 x.s] ?_ rfl (by intro h; cases h) (by intro ad had; cases had; exact World.news_of_block hLt5.out) (by intro u hu; simp at hu; rcases hu with rfl | rfl | rfl <;> rfl) (by unfold maxLen; omega) (by omega) hbz9 ?_
                        · first | rfl | (simp [Act.eval]; done)
                        · first | rfl | (simp [Act.eval]; done)
                        intro v6 w6 hown hgrow
                        have hown6 := Lib.hid hown
                        have hQ := grewQ hown5.out (Nat.le_refl _) hbz9 hgrow
                        refine hK.out _ _ (keepQ hHeld hQ) (fun hHeld => ?_)
                        clear hown hgrow hQ hbz9
                        clear hK K
                        try simp only [List.getElem_toArray, List.getElem_cons_succ, List.getElem_cons_zero, Act.put, List.setIfInBounds_toArray, List.set_cons_zero, List.set_cons_succ]
                        refine wpAnyH_ready (rs := [14]) (by kernel_rfl) (by simp) ?_
                        refine (AllReadyH.cons (o := _) rfl (fun K hK => ?rp14_24) AllReadyH.nil)
                        case rp14_24 =>
                          simp only [List.getElem_toArray, List.getElem_cons_succ, List.getElem_cons_zero]
                          rw [if_pos (by rfl)]
                          have hbz9 := (belQ hHeld).size
                          refine wp_append_gen (.tmp 54) (.tmp 57) 22 rfl wo.heap.size 24 ib (.agg #[.int .i64 0, .int .i64 0, .int .i64 0]) 3 24 Tryz.underlying22 HIB.out HB0.out HB1.out HB2.out rfl (by decide) v6 (0 + j + 1) ([] ++ bcellsL (O.take j) ++ [.int .i64 x.x, .int .i64 x.y, .int .i64 x.s]) ?_ hown6.out (if cap = j then some ⟨g, 0, none⟩ else some ⟨g, j * 3, none⟩) (n - j) (cap - j) (bcellsL (O.drop j)) ?_ (by rw [bcellsL_length, List.length_drop, HN.out]) (by intro h; split at h <;> cases h) (by exact news_drop (HO.out.below (belQ hHeld)) hOn (by rw [HN.out]; omega) (by rw [HN.out]; omega)) (bcellsL_one _) (by unfold maxLen; omega) (by omega) hbz9 ?_
                          · first | rfl | (simp [Act.eval, Act.put]; done)
                          · first | rfl | (simp [Act.eval, Act.put]; done)
                          intro v7 w7 hown hgrow
                          have hown7 := Lib.hid hown
                          have hQ := grewQ hown6.out (Nat.le_refl _) hbz9 hgrow
                          refine hK.out _ _ (keepQ hHeld hQ) (fun hHeld => ?_)
                          clear hown hgrow hQ hbz9
                          clear hK K
                          try simp only [List.getElem_toArray, List.getElem_cons_succ, List.getElem_cons_zero, Act.put, List.setIfInBounds_toArray, List.set_cons_zero, List.set_cons_succ]
                          refine wpAnyH_take (i := 15) (oi := _) (v := ?vp15_25) rfl (by kernel_rfl) (by kernel_rfl) (by kernel_rfl) (fun _ _ _ h => h) (Or.inl ⟨by rfl, ?hyp15_25⟩) (by assumption) ?restp15_25
                          case hyp15_25 => (intro w hSw; (try dsimp only at hSw); go_simp; first | done | rfl)
                          try simp only [List.getElem_toArray, List.getElem_cons_succ, List.getElem_cons_zero, Act.put, List.setIfInBounds_toArray, List.set_cons_zero, List.set_cons_succ]
                          refine wpAnyH_done (by kernel_rfl) ?_ _
                          have hrow7 := ins_row (B := w.heap.size) hbz (by rw [HN.out]; omega) HN.out.symm hown7.out
                          have hbel7 := hb.trans ((belQ hHeld).mono hbz)
                          clear hown5 hown6 hown7
                          go_wp2
                          go_roundw
                          case rel => exact ⟨k + 1, by omega, by go_num, Lib.hid (by rw [HSN.out, HIN.out]; exact hrow7.out), fun h => by omega, hbel7⟩
                          case measure => simp [intOf]; omega
            · have HL := Lib.hid hl
              clear hl
              go_wp2_with fail
              have hw1 : IntKind.i64.wrap (j : Int) = (j : Int) := by rw [IntKind.wrap_i64]; omega
              have hw2 : IntKind.i64.wrap (k : Int) = (k : Int) := by rw [IntKind.wrap_i64]; omega
              refine wp_region_still_tail 13 (by kernel_rfl) (by kernel_rfl) ?_
              simp only [List.take_succ_cons, List.take_zero, List.drop_succ_cons, List.drop_zero]
              repeat still_step
              refine wpStill_nil ?_
              change wpList _ _ _ _ _ wr.drew
              clear hw1 hw2
              go_wp2_with fail
              refine (refLess _ _ _ _ _ _ _).mono ?_
              rintro e w2 ⟨rfl, hb3⟩
              rw [HL.out]
              go_wp2
              go_roundw
              case rel => exact ⟨j + 1, by omega, by go_num, Lib.hid (fun q hq hqj => by
                rcases Nat.lt_or_ge q j with h1 | h1
                · exact hall.out q hq h1
                · obtain rfl : q = j := by omega
                  rw [HY.out]; exact HL.out), (below_drew hbi).trans (hb3.mono hbi.size)⟩
              case measure => simp [intOf]; omega
          · obtain rfl : j = n := by omega
            have hg1 : decide (j < j) = false := by simp
            have hg2 : decide ((j : Int) < (j : Int)) = false := by simp
            have HIN := Lib.hid (ins_new (O := O) (x := x) (by rw [HN.out]; omega) hall.out (fun h => by rw [HN.out] at h; omega) (fun h => by rw [HN.out] at h; omega))
            go_wp2_with fail
            go_quiet (fail)
            have hb8 := below_drewN hbi nq
            generalize World.drewN wr nq = W8 at *
            clear nq
            go_wp2_with fail
            go_quiet (fail)
            have hb9 := below_drewN hb8 nq
            generalize World.drewN W8 nq = W9 at *
            obtain ⟨e0, e1, e2⟩ := XC.out _ hb9
            have hs9 := hb9.size
            go_wp2_with fail
            clear hg1 hg2 d0 d1 d2
            refine wp_region_held_drew (S := (fun w' => w'.cell? ⟨b, off + k * 3, none⟩ = some (.int .i64 x.x) ∧ w'.cell? ⟨b, off + k * 3 + 1, none⟩ = some (.int .i64 x.y) ∧ w'.cell? ⟨b, off + k * 3 + 2, none⟩ = some (.int .i64 x.s) ∧ Below wo.heap.size wo w' ∧ b < wo.heap.size)) (by kernel_rfl) ?_ (fun hHeld => ?_)
            · exact ⟨e0, e1, e2, below_drew hb9, hbw⟩
            refine wpAnyH_take (i := 1) (oi := _) (v := ?vq1_1) rfl (by kernel_rfl) (by kernel_rfl) (by kernel_rfl) (fun _ _ _ h => h) (Or.inl ⟨by rfl, ?hyq1_1⟩) (by assumption) ?restq1_1
            case hyq1_1 => (intro w hSw; (try dsimp only at hSw); go_simp; first | done | rfl)
            try simp only [List.getElem_toArray, List.getElem_cons_succ, List.getElem_cons_zero, Act.put, List.setIfInBounds_toArray, List.set_cons_zero, List.set_cons_succ]
            refine wpAnyH_take (i := 2) (oi := _) (v := ?vq2_2) rfl (by kernel_rfl) (by kernel_rfl) (by kernel_rfl) (fun _ _ _ h => h) (Or.inl ⟨by rfl, ?hyq2_2⟩) (by assumption) ?restq2_2
            case hyq2_2 => (intro w hSw; (try dsimp only at hSw); go_simp; first | done | rfl)
            try simp only [List.getElem_toArray, List.getElem_cons_succ, List.getElem_cons_zero, Act.put, List.setIfInBounds_toArray, List.set_cons_zero, List.set_cons_succ]
            refine wpAnyH_take (i := 3) (oi := _) (v := ?vq3_3) rfl (by kernel_rfl) (by kernel_rfl) (by kernel_rfl) (fun _ _ _ h => h) (Or.inl ⟨by rfl, ?hyq3_3⟩) (by assumption) ?restq3_3
            case hyq3_3 => (intro w hSw; (try dsimp only at hSw); go_simp; first | done | rfl)
            try simp only [List.getElem_toArray, List.getElem_cons_succ, List.getElem_cons_zero, Act.put, List.setIfInBounds_toArray, List.set_cons_zero, List.set_cons_succ]
            refine wpAnyH_take (i := 5) (oi := _) (v := ?vq5_4) rfl (by kernel_rfl) (by kernel_rfl) (by kernel_rfl) (fun _ _ _ h => h) (Or.inl ⟨by rfl, ?hyq5_4⟩) (by assumption) ?restq5_4
            case hyq5_4 => (intro w hSw; (try dsimp only at hSw); go_simp; first | done | rfl)
            try simp only [List.getElem_toArray, List.getElem_cons_succ, List.getElem_cons_zero, Act.put, List.setIfInBounds_toArray, List.set_cons_zero, List.set_cons_succ]
            refine wpAnyH_take (i := 6) (oi := _) (v := ?vq6_5) rfl (by kernel_rfl) (by kernel_rfl) (by kernel_rfl) (fun _ _ _ h => h) (Or.inl ⟨by rfl, ?hyq6_5⟩) (by assumption) ?restq6_5
            case hyq6_5 => (intro w hSw; (try dsimp only at hSw); go_simp; first | done | rfl)
            try simp only [List.getElem_toArray, List.getElem_cons_succ, List.getElem_cons_zero, Act.put, List.setIfInBounds_toArray, List.set_cons_zero, List.set_cons_succ]
            refine wpAnyH_take (i := 7) (oi := _) (v := ?vq7_6) rfl (by kernel_rfl) (by kernel_rfl) (by kernel_rfl) (fun _ _ _ h => h) (Or.inl ⟨by rfl, ?hyq7_6⟩) (by assumption) ?restq7_6
            case hyq7_6 => (intro w hSw; (try dsimp only at hSw); go_simp; first | done | rfl)
            try simp only [List.getElem_toArray, List.getElem_cons_succ, List.getElem_cons_zero, Act.put, List.setIfInBounds_toArray, List.set_cons_zero, List.set_cons_succ]
            refine wpAnyH_take (i := 8) (oi := _) (v := ?vq8_7) rfl (by kernel_rfl) (by kernel_rfl) (by kernel_rfl) (fun _ _ _ h => h) (Or.inl ⟨by rfl, ?hyq8_7⟩) (by assumption) ?restq8_7
            case hyq8_7 => (intro w hSw; (try dsimp only at hSw); go_simp; first | done | rfl)
            try simp only [List.getElem_toArray, List.getElem_cons_succ, List.getElem_cons_zero, Act.put, List.setIfInBounds_toArray, List.set_cons_zero, List.set_cons_succ]
            refine wpAnyH_take (i := 11) (oi := _) (v := ?vq11_8) rfl (by kernel_rfl) (by kernel_rfl) (by kernel_rfl) (fun _ _ _ h => h) (Or.inl ⟨by rfl, ?hyq11_8⟩) (by assumption) ?restq11_8
            case hyq11_8 => (intro w hSw; (try dsimp only at hSw); go_simp; first | done | rfl)
            try simp only [List.getElem_toArray, List.getElem_cons_succ, List.getElem_cons_zero, Act.put, List.setIfInBounds_toArray, List.set_cons_zero, List.set_cons_succ]
            refine wpAnyH_take (i := 12) (oi := _) (v := ?vq12_9) rfl (by kernel_rfl) (by kernel_rfl) (by kernel_rfl) (fun _ _ _ h => h) (Or.inl ⟨by rfl, ?hyq12_9⟩) (by assumption) ?restq12_9
            case hyq12_9 => (intro w hSw; (try dsimp only at hSw); go_simp; first | done | rfl)
            try simp only [List.getElem_toArray, List.getElem_cons_succ, List.getElem_cons_zero, Act.put, List.setIfInBounds_toArray, List.set_cons_zero, List.set_cons_succ]
            refine wpAnyH_take (i := 13) (oi := _) (v := ?vq13_10) rfl (by kernel_rfl) (by kernel_rfl) (by kernel_rfl) (fun _ _ _ h => h) (Or.inl ⟨by rfl, ?hyq13_10⟩) (by assumption) ?restq13_10
            case hyq13_10 => (intro w hSw; (try dsimp only at hSw); go_simp; first | done | rfl)
            try simp only [List.getElem_toArray, List.getElem_cons_succ, List.getElem_cons_zero, Act.put, List.setIfInBounds_toArray, List.set_cons_zero, List.set_cons_succ]
            refine wpAnyH_ready (rs := [0, 9]) (by kernel_rfl) (by simp) ?_
            refine (AllReadyH.cons (o := _) rfl (fun K hK => ?rq0_11) (AllReadyH.cons (o := _) rfl (fun K hK => ?rq9_11) AllReadyH.nil))
            case rq0_11 =>
              simp only [List.getElem_toArray, List.getElem_cons_succ, List.getElem_cons_zero]
              go_simp
              have hbz9 := (belQ hHeld).size
              obtain ⟨Wa, hWa⟩ : ∃ Wa, W9.drew.alloc (.cells #[] 24) = Wa := ⟨_, rfl⟩
              have hE := Lib.hid (show Wa.ownsRow wo.heap.size 24 3 (.slice (some ⟨W9.heap.size, 0, none⟩) 0 0) 0 [] by rw [← hWa]; exact empty_row W9.drew _ hbz9 _ _)
              have HZA := Lib.hid (show Wa.heap.size = W9.heap.size + 1 by rw [← hWa]; simp)
              have hal : Below wo.heap.size W9.drew Wa := by rw [← hWa]; exact (Below.refl _ _).alloc hbz9 _
              rw [show (W9.alloc (.cells #[] 24)).drew = Wa from hWa]
              refine hK.out _ _ (keepQ hHeld hal) (fun hHeld => ?_)
              clear hWa hal hbz9
              clear hK K
              try simp only [List.getElem_toArray, List.getElem_cons_succ, List.getElem_cons_zero, Act.put, List.setIfInBounds_toArray, List.set_cons_zero, List.set_cons_succ]
              refine wpAnyH_ready (rs := [4, 9]) (by kernel_rfl) (by simp) ?_
              refine (AllReadyH.cons (o := _) rfl (fun K hK => ?rq4_12) (AllReadyH.cons (o := _) rfl (fun K hK => ?rq9_12) AllReadyH.nil))
              case rq4_12 =>
                simp only [List.getElem_toArray, List.getElem_cons_succ, List.getElem_cons_zero]
                rw [if_pos (by rfl)]
                have hbz9 := (belQ hHeld).size
                refine wp_append_gen (.tmp 44) (.tmp 47) 22 rfl wo.heap.size 24 ib (.agg #[.int .i64 0, .int .i64 0, .int .i64 0]) 3 24 Tryz.underlying22 HIB.out HB0.out HB1.out HB2.out rfl (by decide) (.slice (some ⟨W9.heap.size, 0, none⟩) 0 0) 0 [] ?_ hE.out (some ⟨g, 0, none⟩) j cap (bcellsL (O.take j)) ?_ (by rw [bcellsL_length, List.length_take, HN.out]; omega) (by intro h; cases h) (by exact news_take (HO.out.below (belQ hHeld)) hOn) (bcellsL_one _) (by unfold maxLen; omega) (by omega) hbz9 ?_
                · rfl
                · rfl
                intro v5 w5 hown hgrow
                have hown5 := Lib.hid hown
                have hQ := grewQ hE.out (Nat.le_refl _) hbz9 hgrow
                refine hK.out _ _ (keepQ hHeld hQ) (fun hHeld => ?_)
                clear hown hgrow hQ hbz9
                clear hK K
                try simp only [List.getElem_toArray, List.getElem_cons_succ, List.getElem_cons_zero, Act.put, List.setIfInBounds_toArray, List.set_cons_zero, List.set_cons_succ]
                refine wpAnyH_ready (rs := [9]) (by kernel_rfl) (by simp) ?_
                refine (AllReadyH.cons (o := _) rfl (fun K hK => ?rq9_13) AllReadyH.nil)
                case rq9_13 =>
                  simp only [List.getElem_toArray, List.getElem_cons_succ, List.getElem_cons_zero]
                  go_simp
                  have hbz9 := (belQ hHeld).size
                  obtain ⟨Wb, hWb⟩ : ∃ Wb, w5.alloc (.cells #[.int .i64 x.x, .int .i64 x.y, .int .i64 x.s] 24) = Wb := ⟨_, rfl⟩
                  have hLt := Lib.hid (show Wb.heap[w5.heap.size]? = some (.cells #[.int .i64 x.x, .int .i64 x.y, .int .i64 x.s] 24 (0, 0)) by rw [← hWb]; exact heap_alloc_new _ _)
                  have HZB := Lib.hid (show Wb.heap.size = w5.heap.size + 1 by rw [← hWb]; simp)
                  have hal : Below wo.heap.size w5 Wb := by rw [← hWb]; exact (Below.refl _ _).alloc hbz9 _
                  have hown5b := Lib.hid (show Wb.ownsRow wo.heap.size 24 3 v5 (0 + j) ([] ++ bcellsL (O.take j)) by rw [← hWb]; exact hown5.out.alloc _)
                  rw [hWb]
                  refine hK.out _ _ (keepQ hHeld hal) (fun hHeld => ?_)
                  clear hWb hal hbz9
                  clear hK K
                  try simp only [List.getElem_toArray, List.getElem_cons_succ, List.getElem_cons_zero, Act.put, List.setIfInBounds_toArray, List.set_cons_zero, List.set_cons_succ]
                  refine wpAnyH_ready (rs := [10]) (by kernel_rfl) (by simp) ?_
                  refine (AllReadyH.cons (o := _) rfl (fun K hK => ?rq10_14) AllReadyH.nil)
                  case rq10_14 =>
                    simp only [List.getElem_toArray, List.getElem_cons_succ, List.getElem_cons_zero]
                    rw [if_pos (by rfl)]
                    have hbz9 := (belQ hHeld).size
                    refine wp_append_gen (.tmp 48) (.tmp 53) 22 rfl wo.heap.size 24 ib (.agg #[.int .i64 0, .int .i64 0, .int .i64 0]) 3 24 Tryz.underlying22 HIB.out HB0.out HB1.out HB2.out rfl (by decide) v5 (0 + j) ([] ++ bcellsL (O.take j)) ?_ hown5b.out (some ⟨w5.heap.size, 0, none⟩) 1 1 [.int .i64 x.x, .int .i64 x.y, .int .i64 x.s] ?_ rfl (by intro h; cases h) (by intro ad had; cases had; exact World.news_of_block hLt.out) (by intro u hu; simp at hu; rcases hu with rfl | rfl | rfl <;> rfl) (by unfold maxLen; omega) (by omega) hbz9 ?_
                    · first | rfl | (simp [Act.eval]; done)
                    · first | rfl | (simp [Act.eval]; done)
                    intro v6 w6 hown hgrow
                    have hown6 := Lib.hid hown
                    have hQ := grewQ hown5b.out (Nat.le_refl _) hbz9 hgrow
                    refine hK.out _ _ (keepQ hHeld hQ) (fun hHeld => ?_)
                    clear hown hgrow hQ hbz9
                    clear hK K
                    try simp only [List.getElem_toArray, List.getElem_cons_succ, List.getElem_cons_zero, Act.put, List.setIfInBounds_toArray, List.set_cons_zero, List.set_cons_succ]
                    refine wpAnyH_ready (rs := [14]) (by kernel_rfl) (by simp) ?_
                    refine (AllReadyH.cons (o := _) rfl (fun K hK => ?rq14_15) AllReadyH.nil)
                    case rq14_15 =>
                      simp only [List.getElem_toArray, List.getElem_cons_succ, List.getElem_cons_zero]
                      rw [if_pos (by rfl)]
                      have hbz9 := (belQ hHeld).size
                      refine wp_append_gen (.tmp 54) (.tmp 57) 22 rfl wo.heap.size 24 ib (.agg #[.int .i64 0, .int .i64 0, .int .i64 0]) 3 24 Tryz.underlying22 HIB.out HB0.out HB1.out HB2.out rfl (by decide) v6 (0 + j + 1) ([] ++ bcellsL (O.take j) ++ [.int .i64 x.x, .int .i64 x.y, .int .i64 x.s]) ?_ hown6.out (if cap = j then some ⟨g, 0, none⟩ else some ⟨g, j * 3, none⟩) (j - j) (cap - j) (bcellsL (O.drop j)) ?_ (by rw [bcellsL_length, List.length_drop, HN.out]) (by intro h; split at h <;> cases h) (by exact news_drop (HO.out.below (belQ hHeld)) hOn (by rw [HN.out]; omega) (by rw [HN.out]; omega)) (bcellsL_one _) (by unfold maxLen; omega) (by omega) hbz9 ?_
                      · first | rfl | (simp [Act.eval, Act.put]; done)
                      · first | rfl | (simp [Act.eval, Act.put]; done)
                      intro v7 w7 hown hgrow
                      have hown7 := Lib.hid hown
                      have hQ := grewQ hown6.out (Nat.le_refl _) hbz9 hgrow
                      refine hK.out _ _ (keepQ hHeld hQ) (fun hHeld => ?_)
                      clear hown hgrow hQ hbz9
                      clear hK K
                      try simp only [List.getElem_toArray, List.getElem_cons_succ, List.getElem_cons_zero, Act.put, List.setIfInBounds_toArray, List.set_cons_zero, List.set_cons_succ]
                      refine wpAnyH_take (i := 15) (oi := _) (v := ?vq15_16) rfl (by kernel_rfl) (by kernel_rfl) (by kernel_rfl) (fun _ _ _ h => h) (Or.inl ⟨by rfl, ?hyq15_16⟩) (by assumption) ?restq15_16
                      case hyq15_16 => (intro w hSw; (try dsimp only at hSw); go_simp; first | done | rfl)
                      try simp only [List.getElem_toArray, List.getElem_cons_succ, List.getElem_cons_zero, Act.put, List.setIfInBounds_toArray, List.set_cons_zero, List.set_cons_succ]
                      refine wpAnyH_done (by kernel_rfl) ?_ _
                      have hrow7 := ins_row (B := w.heap.size) hbz (by rw [HN.out]; omega) HN.out.symm hown7.out
                      have hbel7 := hb.trans ((belQ hHeld).mono hbz)
                      clear hown5 hown6 hown7
                      go_wp2
                      go_roundw
                      case rel => exact ⟨k + 1, by omega, by go_num, Lib.hid (by rw [HSN.out, HIN.out]; exact hrow7.out), fun h => by omega, hbel7⟩
                      case measure => simp [intOf]; omega
              case rq9_12 =>
                simp only [List.getElem_toArray, List.getElem_cons_succ, List.getElem_cons_zero]
                go_simp
                have hbz9 := (belQ hHeld).size
                obtain ⟨Wb, hWb⟩ : ∃ Wb, Wa.alloc (.cells #[.int .i64 x.x, .int .i64 x.y, .int .i64 x.s] 24) = Wb := ⟨_, rfl⟩
                have hLt := Lib.hid (show Wb.heap[Wa.heap.size]? = some (.cells #[.int .i64 x.x, .int .i64 x.y, .int .i64 x.s] 24 (0, 0)) by rw [← hWb]; exact heap_alloc_new _ _)
                have HZB := Lib.hid (show Wb.heap.size = Wa.heap.size + 1 by rw [← hWb]; simp)
                have hal : Below wo.heap.size Wa Wb := by rw [← hWb]; exact (Below.refl _ _).alloc hbz9 _
                have hE2 := Lib.hid (show Wb.ownsRow wo.heap.size 24 3 (.slice (some ⟨W9.heap.size, 0, none⟩) 0 0) 0 [] by rw [← hWb]; exact hE.out.alloc _)
                rw [hWb]
                refine hK.out _ _ (keepQ hHeld hal) (fun hHeld => ?_)
                clear hWb hal hbz9
                clear hK K
                try simp only [List.getElem_toArray, List.getElem_cons_succ, List.getElem_cons_zero, Act.put, List.setIfInBounds_toArray, List.set_cons_zero, List.set_cons_succ]
                refine wpAnyH_ready (rs := [4]) (by kernel_rfl) (by simp) ?_
                refine (AllReadyH.cons (o := _) rfl (fun K hK => ?rq4_17) AllReadyH.nil)
                case rq4_17 =>
                  simp only [List.getElem_toArray, List.getElem_cons_succ, List.getElem_cons_zero]
                  rw [if_pos (by rfl)]
                  have hbz9 := (belQ hHeld).size
                  refine wp_append_gen (.tmp 44) (.tmp 47) 22 rfl wo.heap.size 24 ib (.agg #[.int .i64 0, .int .i64 0, .int .i64 0]) 3 24 Tryz.underlying22 HIB.out HB0.out HB1.out HB2.out rfl (by decide) (.slice (some ⟨W9.heap.size, 0, none⟩) 0 0) 0 [] ?_ hE2.out (some ⟨g, 0, none⟩) j cap (bcellsL (O.take j)) ?_ (by rw [bcellsL_length, List.length_take, HN.out]; omega) (by intro h; cases h) (by exact news_take (HO.out.below (belQ hHeld)) hOn) (bcellsL_one _) (by unfold maxLen; omega) (by omega) hbz9 ?_
                  · rfl
                  · rfl
                  intro v5 w5 hown hgrow
                  have hown5 := Lib.hid hown
                  have hQ := grewQ hE2.out (Nat.le_refl _) hbz9 hgrow
                  have hLt5 := Lib.hid (show w5.heap[Wa.heap.size]? = some (.cells #[.int .i64 x.x, .int .i64 x.y, .int .i64 x.s] 24 (0, 0)) from (hgrow.block _ (Array.getElem?_eq_some_iff.1 hLt.out).1 (by have z1 := HZA.out; have z2 := HZB.out; simp [Value.ownBlock]; omega)).trans hLt.out)
                  refine hK.out _ _ (keepQ hHeld hQ) (fun hHeld => ?_)
                  clear hown hgrow hQ hbz9
                  clear hK K
                  try simp only [List.getElem_toArray, List.getElem_cons_succ, List.getElem_cons_zero, Act.put, List.setIfInBounds_toArray, List.set_cons_zero, List.set_cons_succ]
                  refine wpAnyH_ready (rs := [10]) (by kernel_rfl) (by simp) ?_
                  refine (AllReadyH.cons (o := _) rfl (fun K hK => ?rq10_18) AllReadyH.nil)
                  case rq10_18 =>
                    simp only [List.getElem_toArray, List.getElem_cons_succ, List.getElem_cons_zero]
                    rw [if_pos (by rfl)]
                    have hbz9 := (belQ hHeld).size
                    refine wp_append_gen (.tmp 48) (.tmp 53) 22 rfl wo.heap.size 24 ib (.agg #[.int .i64 0, .int .i64 0, .int .i64 0]) 3 24 Tryz.underlying22 HIB.out HB0.out HB1.out HB2.out rfl (by decide) v5 (0 + j) ([] ++ bcellsL (O.take j)) ?_ hown5.out (some ⟨Wa.heap.size, 0, none⟩) 1 1 [.int .i64 x.x, .int .i64 x.y, .int .i64 x.s] ?_ rfl (by intro h; cases h) (by intro ad had; cases had; exact World.news_of_block hLt5.out) (by intro u hu; simp at hu; rcases hu with rfl | rfl | rfl <;> rfl) (by unfold maxLen; omega) (by omega) hbz9 ?_
                    · first | rfl | (simp [Act.eval]; done)
                    · first | rfl | (simp [Act.eval]; done)
                    intro v6 w6 hown hgrow
                    have hown6 := Lib.hid hown
                    have hQ := grewQ hown5.out (Nat.le_refl _) hbz9 hgrow
                    refine hK.out _ _ (keepQ hHeld hQ) (fun hHeld => ?_)
                    clear hown hgrow hQ hbz9
                    clear hK K
                    try simp only [List.getElem_toArray, List.getElem_cons_succ, List.getElem_cons_zero, Act.put, List.setIfInBounds_toArray, List.set_cons_zero, List.set_cons_succ]
                    refine wpAnyH_ready (rs := [14]) (by kernel_rfl) (by simp) ?_
                    refine (AllReadyH.cons (o := _) rfl (fun K hK => ?rq14_19) AllReadyH.nil)
                    case rq14_19 =>
                      simp only [List.getElem_toArray, List.getElem_cons_succ, List.getElem_cons_zero]
                      rw [if_pos (by rfl)]
                      have hbz9 := (belQ hHeld).size
                      refine wp_append_gen (.tmp 54) (.tmp 57) 22 rfl wo.heap.size 24 ib (.agg #[.int .i64 0, .int .i64 0, .int .i64 0]) 3 24 Tryz.underlying22 HIB.out HB0.out HB1.out HB2.out rfl (by decide) v6 (0 + j + 1) ([] ++ bcellsL (O.take j) ++ [.int .i64 x.x, .int .i64 x.y, .int .i64 x.s]) ?_ hown6.out (if cap = j then some ⟨g, 0, none⟩ else some ⟨g, j * 3, none⟩) (j - j) (cap - j) (bcellsL (O.drop j)) ?_ (by rw [bcellsL_length, List.length_drop, HN.out]) (by intro h; split at h <;> cases h) (by exact news_drop (HO.out.below (belQ hHeld)) hOn (by rw [HN.out]; omega) (by rw [HN.out]; omega)) (bcellsL_one _) (by unfold maxLen; omega) (by omega) hbz9 ?_
                      · first | rfl | (simp [Act.eval, Act.put]; done)
                      · first | rfl | (simp [Act.eval, Act.put]; done)
                      intro v7 w7 hown hgrow
                      have hown7 := Lib.hid hown
                      have hQ := grewQ hown6.out (Nat.le_refl _) hbz9 hgrow
                      refine hK.out _ _ (keepQ hHeld hQ) (fun hHeld => ?_)
                      clear hown hgrow hQ hbz9
                      clear hK K
                      try simp only [List.getElem_toArray, List.getElem_cons_succ, List.getElem_cons_zero, Act.put, List.setIfInBounds_toArray, List.set_cons_zero, List.set_cons_succ]
                      refine wpAnyH_take (i := 15) (oi := _) (v := ?vq15_20) rfl (by kernel_rfl) (by kernel_rfl) (by kernel_rfl) (fun _ _ _ h => h) (Or.inl ⟨by rfl, ?hyq15_20⟩) (by assumption) ?restq15_20
                      case hyq15_20 => (intro w hSw; (try dsimp only at hSw); go_simp; first | done | rfl)
                      try simp only [List.getElem_toArray, List.getElem_cons_succ, List.getElem_cons_zero, Act.put, List.setIfInBounds_toArray, List.set_cons_zero, List.set_cons_succ]
                      refine wpAnyH_done (by kernel_rfl) ?_ _
                      have hrow7 := ins_row (B := w.heap.size) hbz (by rw [HN.out]; omega) HN.out.symm hown7.out
                      have hbel7 := hb.trans ((belQ hHeld).mono hbz)
                      clear hown5 hown6 hown7
                      go_wp2
                      go_roundw
                      case rel => exact ⟨k + 1, by omega, by go_num, Lib.hid (by rw [HSN.out, HIN.out]; exact hrow7.out), fun h => by omega, hbel7⟩
                      case measure => simp [intOf]; omega
            case rq9_11 =>
              simp only [List.getElem_toArray, List.getElem_cons_succ, List.getElem_cons_zero]
              go_simp
              have hbz9 := (belQ hHeld).size
              obtain ⟨Wb, hWb⟩ : ∃ Wb, W9.drew.alloc (.cells #[.int .i64 x.x, .int .i64 x.y, .int .i64 x.s] 24) = Wb := ⟨_, rfl⟩
              have hLt := Lib.hid (show Wb.heap[W9.heap.size]? = some (.cells #[.int .i64 x.x, .int .i64 x.y, .int .i64 x.s] 24 (0, 0)) by rw [← hWb]; exact heap_alloc_new _ _)
              have HZB := Lib.hid (show Wb.heap.size = W9.heap.size + 1 by rw [← hWb]; simp)
              have hal : Below wo.heap.size W9.drew Wb := by rw [← hWb]; exact (Below.refl _ _).alloc hbz9 _
              rw [show (W9.alloc (.cells #[.int .i64 x.x, .int .i64 x.y, .int .i64 x.s] 24)).drew = Wb from hWb]
              refine hK.out _ _ (keepQ hHeld hal) (fun hHeld => ?_)
              clear hWb hal hbz9
              clear hK K
              try simp only [List.getElem_toArray, List.getElem_cons_succ, List.getElem_cons_zero, Act.put, List.setIfInBounds_toArray, List.set_cons_zero, List.set_cons_succ]
              refine wpAnyH_ready (rs := [0]) (by kernel_rfl) (by simp) ?_
              refine (AllReadyH.cons (o := _) rfl (fun K hK => ?rq0_21) AllReadyH.nil)
              case rq0_21 =>
                simp only [List.getElem_toArray, List.getElem_cons_succ, List.getElem_cons_zero]
                go_simp
                have hbz9 := (belQ hHeld).size
                obtain ⟨Wa, hWa⟩ : ∃ Wa, Wb.alloc (.cells #[] 24) = Wa := ⟨_, rfl⟩
                have hE := Lib.hid (show Wa.ownsRow wo.heap.size 24 3 (.slice (some ⟨Wb.heap.size, 0, none⟩) 0 0) 0 [] by rw [← hWa]; exact empty_row Wb _ hbz9 _ _)
                have HZA := Lib.hid (show Wa.heap.size = Wb.heap.size + 1 by rw [← hWa]; simp)
                have hal : Below wo.heap.size Wb Wa := by rw [← hWa]; exact (Below.refl _ _).alloc hbz9 _
                have hLt2 := Lib.hid (show Wa.heap[W9.heap.size]? = some (.cells #[.int .i64 x.x, .int .i64 x.y, .int .i64 x.s] 24 (0, 0)) by rw [← hWa]; exact (Below.heap_alloc _ _ _ (Array.getElem?_eq_some_iff.1 hLt.out).1).trans hLt.out)
                rw [hWa]
                refine hK.out _ _ (keepQ hHeld hal) (fun hHeld => ?_)
                clear hWa hal hbz9
                clear hK K
                try simp only [List.getElem_toArray, List.getElem_cons_succ, List.getElem_cons_zero, Act.put, List.setIfInBounds_toArray, List.set_cons_zero, List.set_cons_succ]
                refine wpAnyH_ready (rs := [4]) (by kernel_rfl) (by simp) ?_
                refine (AllReadyH.cons (o := _) rfl (fun K hK => ?rq4_22) AllReadyH.nil)
                case rq4_22 =>
                  simp only [List.getElem_toArray, List.getElem_cons_succ, List.getElem_cons_zero]
                  rw [if_pos (by rfl)]
                  have hbz9 := (belQ hHeld).size
                  refine wp_append_gen (.tmp 44) (.tmp 47) 22 rfl wo.heap.size 24 ib (.agg #[.int .i64 0, .int .i64 0, .int .i64 0]) 3 24 Tryz.underlying22 HIB.out HB0.out HB1.out HB2.out rfl (by decide) (.slice (some ⟨Wb.heap.size, 0, none⟩) 0 0) 0 [] ?_ hE.out (some ⟨g, 0, none⟩) j cap (bcellsL (O.take j)) ?_ (by rw [bcellsL_length, List.length_take, HN.out]; omega) (by intro h; cases h) (by exact news_take (HO.out.below (belQ hHeld)) hOn) (bcellsL_one _) (by unfold maxLen; omega) (by omega) hbz9 ?_
                  · rfl
                  · rfl
                  intro v5 w5 hown hgrow
                  have hown5 := Lib.hid hown
                  have hQ := grewQ hE.out (Nat.le_refl _) hbz9 hgrow
                  have hLt5 := Lib.hid (show w5.heap[W9.heap.size]? = some (.cells #[.int .i64 x.x, .int .i64 x.y, .int .i64 x.s] 24 (0, 0)) from (hgrow.block _ (Array.getElem?_eq_some_iff.1 hLt2.out).1 (by have z1 := HZA.out; have z2 := HZB.out; simp [Value.ownBlock]; omega)).trans hLt2.out)
                  refine hK.out _ _ (keepQ hHeld hQ) (fun hHeld => ?_)
                  clear hown hgrow hQ hbz9
                  clear hK K
                  try simp only [List.getElem_toArray, List.getElem_cons_succ, List.getElem_cons_zero, Act.put, List.setIfInBounds_toArray, List.set_cons_zero, List.set_cons_succ]
                  refine wpAnyH_ready (rs := [10]) (by kernel_rfl) (by simp) ?_
                  refine (AllReadyH.cons (o := _) rfl (fun K hK => ?rq10_23) AllReadyH.nil)
                  case rq10_23 =>
                    simp only [List.getElem_toArray, List.getElem_cons_succ, List.getElem_cons_zero]
                    rw [if_pos (by rfl)]
                    have hbz9 := (belQ hHeld).size
                    refine wp_append_gen (.tmp 48) (.tmp 53) 22 rfl wo.heap.size 24 ib (.agg #[.int .i64 0, .int .i64 0, .int .i64 0]) 3 24 Tryz.underlying22 HIB.out HB0.out HB1.out HB2.out rfl (by decide) v5 (0 + j) ([] ++ bcellsL (O.take j)) ?_ hown5.out (some ⟨W9.heap.size, 0, none⟩) 1 1 [.int .i64 x.x, .int .i64 x.y, .int .i64 x.s] ?_ rfl (by intro h; cases h) (by intro ad had; cases had; exact World.news_of_block hLt5.out) (by intro u hu; simp at hu; rcases hu with rfl | rfl | rfl <;> rfl) (by unfold maxLen; omega) (by omega) hbz9 ?_
                    · first | rfl | (simp [Act.eval]; done)
                    · first | rfl | (simp [Act.eval]; done)
                    intro v6 w6 hown hgrow
                    have hown6 := Lib.hid hown
                    have hQ := grewQ hown5.out (Nat.le_refl _) hbz9 hgrow
                    refine hK.out _ _ (keepQ hHeld hQ) (fun hHeld => ?_)
                    clear hown hgrow hQ hbz9
                    clear hK K
                    try simp only [List.getElem_toArray, List.getElem_cons_succ, List.getElem_cons_zero, Act.put, List.setIfInBounds_toArray, List.set_cons_zero, List.set_cons_succ]
                    refine wpAnyH_ready (rs := [14]) (by kernel_rfl) (by simp) ?_
                    refine (AllReadyH.cons (o := _) rfl (fun K hK => ?rq14_24) AllReadyH.nil)
                    case rq14_24 =>
                      simp only [List.getElem_toArray, List.getElem_cons_succ, List.getElem_cons_zero]
                      rw [if_pos (by rfl)]
                      have hbz9 := (belQ hHeld).size
                      refine wp_append_gen (.tmp 54) (.tmp 57) 22 rfl wo.heap.size 24 ib (.agg #[.int .i64 0, .int .i64 0, .int .i64 0]) 3 24 Tryz.underlying22 HIB.out HB0.out HB1.out HB2.out rfl (by decide) v6 (0 + j + 1) ([] ++ bcellsL (O.take j) ++ [.int .i64 x.x, .int .i64 x.y, .int .i64 x.s]) ?_ hown6.out (if cap = j then some ⟨g, 0, none⟩ else some ⟨g, j * 3, none⟩) (j - j) (cap - j) (bcellsL (O.drop j)) ?_ (by rw [bcellsL_length, List.length_drop, HN.out]) (by intro h; split at h <;> cases h) (by exact news_drop (HO.out.below (belQ hHeld)) hOn (by rw [HN.out]; omega) (by rw [HN.out]; omega)) (bcellsL_one _) (by unfold maxLen; omega) (by omega) hbz9 ?_
                      · first | rfl | (simp [Act.eval, Act.put]; done)
                      · first | rfl | (simp [Act.eval, Act.put]; done)
                      intro v7 w7 hown hgrow
                      have hown7 := Lib.hid hown
                      have hQ := grewQ hown6.out (Nat.le_refl _) hbz9 hgrow
                      refine hK.out _ _ (keepQ hHeld hQ) (fun hHeld => ?_)
                      clear hown hgrow hQ hbz9
                      clear hK K
                      try simp only [List.getElem_toArray, List.getElem_cons_succ, List.getElem_cons_zero, Act.put, List.setIfInBounds_toArray, List.set_cons_zero, List.set_cons_succ]
                      refine wpAnyH_take (i := 15) (oi := _) (v := ?vq15_25) rfl (by kernel_rfl) (by kernel_rfl) (by kernel_rfl) (fun _ _ _ h => h) (Or.inl ⟨by rfl, ?hyq15_25⟩) (by assumption) ?restq15_25
                      case hyq15_25 => (intro w hSw; (try dsimp only at hSw); go_simp; first | done | rfl)
                      try simp only [List.getElem_toArray, List.getElem_cons_succ, List.getElem_cons_zero, Act.put, List.setIfInBounds_toArray, List.set_cons_zero, List.set_cons_succ]
                      refine wpAnyH_done (by kernel_rfl) ?_ _
                      have hrow7 := ins_row (B := w.heap.size) hbz (by rw [HN.out]; omega) HN.out.symm hown7.out
                      have hbel7 := hb.trans ((belQ hHeld).mono hbz)
                      clear hown5 hown6 hown7
                      go_wp2
                      go_roundw
                      case rel => exact ⟨k + 1, by omega, by go_num, Lib.hid (by rw [HSN.out, HIN.out]; exact hrow7.out), fun h => by omega, hbel7⟩
                      case measure => simp [intOf]; omega
    · obtain rfl : k = l.length := by omega
      have hrow := hown.out
      unfold ShRow at hrow
      rw [List.take_length] at hrow
      have HO := Lib.hid hrow
      clear hrow
      go_wp2
      go_ret
      exact ⟨_, rfl, HO.out, hb⟩
end Go.Proofs.YtdeplhihcifmeaaGreatDoor

/- The reference's Mirror, Between and Turned. -/
namespace Go.Proofs.YtdeplhihcifmeaaGreatDoor
open Go.RowKit Go.Shelf Ck

theorem two_at {w : World} {g : Nat} {a b : Value} {t : TypeId} (h : w.heap[g]? = some (.cells #[a, b] t (0, 0))) : w.cell? ⟨g, 0, none⟩ = some a ∧ w.cell? ⟨g, 1, none⟩ = some b ∧ ∀ i, w.frozen? ⟨g, i, none⟩ = false := by
  refine ⟨?_, ?_, fun i => ?_⟩ <;> simp [World.cell?, World.frozen?, h]
end Go.Proofs.YtdeplhihcifmeaaGreatDoor
