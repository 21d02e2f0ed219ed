/- Helpers: DKuP1. -/
import Derived.Test.YtdeplhihcifmeaaGreatDoorD7
import Derived.Deep.RegionHeld3
import Derived.ProofKit
import Derived.Deep.Slices
import Derived.Deep.Fields
/- Insertion into a strictly ascending list, and lists that are told by their members: plain mathematics of bars and knots. -/
namespace Go.Proofs.YtdeplhihcifmeaaGreatDoor
open Ck Go.RowKit Go.Sort

section
variable {α : Type} (lt : α → α → Bool) [DecidableEq α]
/-- An element put where it belongs, unless it is there. -/
def insG (out : List α) (x : α) : List α := if (out.dropWhile (lt · x)).head? = some x then out else out.takeWhile (lt · x) ++ x :: out.dropWhile (lt · x)
omit [DecidableEq α] in
theorem dropWhile_first {p : α → Bool} {l : List α} {y : α} {r : List α} (h : l.dropWhile p = y :: r) : p y = false := by
  induction l with
  | nil => simp at h
  | cons a l ih =>
    rw [List.dropWhile_cons] at h
    split at h
    · exact ih h
    · rename_i hp
      cases h
      simpa using hp
theorem insG_mem (out : List α) (x y : α) : y ∈ insG lt out x ↔ y ∈ out ∨ y = x := by
  unfold insG
  split
  · rename_i h
    have hx : x ∈ out := by
      have h2 : x ∈ out.dropWhile (lt · x) := by
        cases hd : out.dropWhile (lt · x) with
        | nil => rw [hd] at h; simp at h
        | cons a r => rw [hd] at h; simp at h; subst h; simp
      exact (List.dropWhile_sublist _).subset h2
    exact ⟨fun h => .inl h, fun h => h.elim id fun e => by rw [e]; exact hx⟩
  · rw [List.mem_append, List.mem_cons]
    have e : y ∈ out ↔ y ∈ out.takeWhile (lt · x) ∨ y ∈ out.dropWhile (lt · x) := by
      rw [← List.mem_append, List.takeWhile_append_dropWhile]
    rw [e]
    constructor
    · rintro (h | h | h)
      · exact .inl (.inl h)
      · exact .inr h
      · exact .inl (.inr h)
    · rintro ((h | h) | h)
      · exact .inl h
      · exact .inr (.inr h)
      · exact .inr (.inl h)
theorem insG_sorted (tr : ∀ a b c, lt a b = true → lt b c = true → lt a c = true) (tri : ∀ a b, lt a b = true ∨ a = b ∨ lt b a = true) {out : List α} (h : out.Pairwise fun a b => lt a b = true) (x : α) : (insG lt out x).Pairwise fun a b => lt a b = true := by
  unfold insG
  split
  · exact h
  · rename_i hne
    have h0 : (out.takeWhile (lt · x) ++ out.dropWhile (lt · x)).Pairwise fun a b => lt a b = true := by rw [List.takeWhile_append_dropWhile]; exact h
    obtain ⟨h1, h2, h3⟩ := List.pairwise_append.1 h0
    have ht : ∀ a ∈ out.takeWhile (lt · x), lt a x = true := fun a ha => List.all_eq_true.1 List.all_takeWhile a ha
    have hd : ∀ b ∈ out.dropWhile (lt · x), lt x b = true := by
      cases hdd : out.dropWhile (lt · x) with
      | nil => intro b hb; simp at hb
      | cons y r =>
        have hy := dropWhile_first hdd
        rw [hdd] at hne h2
        simp only [List.head?_cons, Option.some.injEq] at hne
        have hxy : lt x y = true := by
          rcases tri x y with h | h | h
          · exact h
          · exact absurd h.symm hne
          · rw [hy] at h; cases h
        intro b hb
        rcases List.mem_cons.1 hb with rfl | hb
        · exact hxy
        · exact tr x y b hxy ((List.pairwise_cons.1 h2).1 b hb)
    refine List.pairwise_append.2 ⟨h1, List.pairwise_cons.2 ⟨hd, h2⟩, fun a ha b hb => ?_⟩
    rcases List.mem_cons.1 hb with rfl | hb
    · exact ht a ha
    · exact h3 a ha b hb
/-- All elements put where they belong. -/
def insL (l out : List α) : List α := l.foldl (insG lt) out
theorem insL_mem (y : α) : ∀ (l out : List α), y ∈ insL lt l out ↔ y ∈ out ∨ y ∈ l
  | [], _ => by simp [insL]
  | a :: r, out => by
    have e : insL lt (a :: r) out = insL lt r (insG lt out a) := rfl
    rw [e, insL_mem y r, insG_mem, List.mem_cons, or_assoc]
theorem insL_sorted (tr : ∀ a b c, lt a b = true → lt b c = true → lt a c = true) (tri : ∀ a b, lt a b = true ∨ a = b ∨ lt b a = true) : ∀ (l out : List α), (out.Pairwise fun a b => lt a b = true) → (insL lt l out).Pairwise fun a b => lt a b = true
  | [], _, h => h
  | a :: r, out, h => insL_sorted tr tri r _ (insG_sorted lt tr tri h a)
omit [DecidableEq α] in
/-- Two strictly ascending lists with the same members are equal. -/
theorem told (tr : ∀ a b c, lt a b = true → lt b c = true → lt a c = true) (irr : ∀ a, lt a a = false) : ∀ {a b : List α}, (a.Pairwise fun x y => lt x y = true) → (b.Pairwise fun x y => lt x y = true) → (∀ x, x ∈ a ↔ x ∈ b) → a = b
  | [], [], _, _, _ => rfl
  | [], y :: s, _, _, h => absurd ((h y).2 (by simp)) (by simp)
  | x :: r, [], _, _, h => absurd ((h x).1 (by simp)) (by simp)
  | x :: r, y :: s, ha, hb, h => by
    obtain ⟨a1, a2⟩ := List.pairwise_cons.1 ha
    obtain ⟨b1, b2⟩ := List.pairwise_cons.1 hb
    have e : x = y := by
      rcases List.mem_cons.1 ((h x).1 (by simp)) with e | hx
      · exact e
      · rcases List.mem_cons.1 ((h y).2 (by simp)) with e | hy
        · exact e.symm
        · have := tr _ _ _ (a1 y hy) (b1 x hx)
          rw [irr] at this
          cases this
    subst e
    rw [told tr irr a2 b2 fun z => ?_]
    constructor
    · intro hz
      rcases List.mem_cons.1 ((h z).1 (by simp [hz])) with e | hz'
      · subst e
        have := a1 z hz
        rw [irr] at this
        cases this
      · exact hz'
    · intro hz
      rcases List.mem_cons.1 ((h z).2 (by simp [hz])) with e | hz'
      · subst e
        have := b1 z hz
        rw [irr] at this
        cases this
      · exact hz'
end
def ltB (a b : Bar) : Bool := decide (Blt a b)
def ltK (a b : Knot) : Bool := decide (Klt a b)
theorem ltB_tr (a b c : Bar) (h1 : ltB a b = true) (h2 : ltB b c = true) : ltB a c = true := by
  simp only [ltB, decide_eq_true_eq] at *
  exact h1.trans h2
theorem ltB_tri (a b : Bar) : ltB a b = true ∨ a = b ∨ ltB b a = true := by
  simp only [ltB, decide_eq_true_eq]
  exact Blt.tri a b
theorem ltB_irr (a : Bar) : ltB a a = false := by
  simp only [ltB, decide_eq_false_iff_not]
  exact fun h => h.irrefl
theorem ltK_tr (a b c : Knot) (h1 : ltK a b = true) (h2 : ltK b c = true) : ltK a c = true := by
  simp only [ltK, decide_eq_true_eq] at *
  unfold Klt at *
  omega
theorem ltK_tri (a b : Knot) : ltK a b = true ∨ a = b ∨ ltK b a = true := by
  simp only [ltK, decide_eq_true_eq]
  exact Klt.tri a b
theorem ltK_irr (a : Knot) : ltK a a = false := by
  simp only [ltK, decide_eq_false_iff_not]
  unfold Klt
  omega
theorem ltB_pw {l : List Bar} : (l.Pairwise fun a b => ltB a b = true) ↔ l.Pairwise Blt := by simp [ltB]
/-- The reference's Sorted of bars. -/
def srtL (l : List Bar) : List Bar := insL ltB l []
theorem srtL_pw (l : List Bar) : (srtL l).Pairwise Blt := ltB_pw.1 (insL_sorted ltB ltB_tr ltB_tri l [] List.Pairwise.nil)
theorem srtL_mem (l : List Bar) (b : Bar) : b ∈ srtL l ↔ b ∈ l := by rw [srtL, insL_mem]; simp
theorem srtL_eq {l m : List Bar} (hm : m.Pairwise Blt) (h : ∀ b, b ∈ l ↔ b ∈ m) : srtL l = m :=
  told ltB ltB_tr ltB_irr (ltB_pw.2 (srtL_pw l)) (ltB_pw.2 hm) fun b => (srtL_mem l b).trans (h b)
end Go.Proofs.YtdeplhihcifmeaaGreatDoor

/- The parts of a net, in the order of their first bars: plain mathematics. -/
namespace Go.Proofs.YtdeplhihcifmeaaGreatDoor
open Ck Go.RowKit

def hdlt (g h : List Bar) : Bool := match g.head?, h.head? with
  | some a, some b => decide (Blt a b)
  | _, _ => false
/-- These are the parts of the net, in the order of their first bars. -/
structure PartsAre (l : List Bar) (G : List (List Bar)) : Prop where
  ne : ∀ g ∈ G, g ≠ []
  pw : ∀ g ∈ G, g.Pairwise Blt
  sub : ∀ g ∈ G, ∀ b ∈ g, b ∈ l
  cls : ∀ g ∈ G, ∀ b ∈ g, ∀ c ∈ l, (c ∈ g ↔ Conn l b.lo c.lo)
  all : ∀ b ∈ l, ∃ g ∈ G, b ∈ g
  ord : G.Pairwise fun g h => hdlt g h = true
theorem hdlt_tr (a b c : List Bar) (h1 : hdlt a b = true) (h2 : hdlt b c = true) : hdlt a c = true := by
  unfold hdlt at *
  cases ha : a.head? <;> cases hb : b.head? <;> cases hc : c.head? <;> simp_all
  exact Blt.trans h1 h2
theorem hdlt_irr (a : List Bar) : hdlt a a = false := by
  unfold hdlt
  cases ha : a.head? with
  | none => rfl
  | some x =>
    simp only [decide_eq_false_iff_not]
    exact fun h => h.irrefl
theorem PartsAre.mem_of {l : List Bar} {G G' : List (List Bar)} (h : PartsAre l G) (h' : PartsAre l G') {g : List Bar} (hg : g ∈ G) : g ∈ G' := by
  obtain ⟨b, hb⟩ := List.exists_mem_of_ne_nil g (h.ne g hg)
  have hbl := h.sub g hg b hb
  obtain ⟨g', hg', hb'⟩ := h'.all b hbl
  have : g = g' := told ltB ltB_tr ltB_irr (ltB_pw.2 (h.pw g hg)) (ltB_pw.2 (h'.pw g' hg')) fun c => by
    constructor
    · intro hc
      have hcl := h.sub g hg c hc
      exact (h'.cls g' hg' b hb' c hcl).2 ((h.cls g hg b hb c hcl).1 hc)
    · intro hc
      have hcl := h'.sub g' hg' c hc
      exact (h.cls g hg b hb c hcl).2 ((h'.cls g' hg' b hb' c hcl).1 hc)
  rw [this]
  exact hg'
theorem PartsAre.unique {l : List Bar} {G G' : List (List Bar)} (h : PartsAre l G) (h' : PartsAre l G') : G = G' :=
  told hdlt hdlt_tr hdlt_irr h.ord h'.ord fun _ => ⟨h.mem_of h', h'.mem_of h⟩
theorem head_of {g : List Bar} {f : Bar} (hs : g.Pairwise Blt) (hf : f ∈ g) (hl : ∀ c ∈ g, ¬ Blt c f) : g.head? = some f := by
  cases g with
  | nil => cases hf
  | cons a r =>
    rcases List.mem_cons.1 hf with h | h
    · rw [h]; rfl
    · exact absurd ((List.pairwise_cons.1 hs).1 f h) (hl a (List.mem_cons_self ..))
theorem before_take {l : List Bar} (hs : l.Pairwise Blt) {i : Nat} (hi : i < l.length) {c : Bar} (hc : c ∈ l) (h : Blt c l[i]) : c ∈ l.take i := by
  obtain ⟨j, hj, rfl⟩ := List.getElem_of_mem hc
  rcases Nat.lt_trichotomy j i with h1 | h1 | h1
  · exact List.mem_take_iff_getElem.2 ⟨j, by omega, rfl⟩
  · subst h1
    exact absurd h fun h => h.irrefl
  · exact absurd (h.trans (List.pairwise_iff_getElem.1 hs i j hi hj h1)) fun h => h.irrefl
/-- The numbers of the search, with the first bars of the parts. -/
structure PtX (l : List Bar) (i : Nat) (F : List Bar) (M : List (Knot × Int)) : Prop where
  pt : Pt l i F.length M
  up : ∀ f ∈ F, f ∈ l.take i
  at' : ∀ q (h : q < F.length) (k : Knot), mget M k = ((q + 1 : Nat) : Int) ↔ Conn l F[q].lo k
  least : ∀ f ∈ F, ∀ c ∈ l, Conn l f.lo c.lo → ¬ Blt c f
  pw : F.Pairwise Blt
theorem PtX.start (l : List Bar) : PtX l 0 [] [] where
  pt := Pt.start l
  up := by simp
  at' q h := by simp at h
  least := by simp
  pw := List.Pairwise.nil
theorem PtX.old {l : List Bar} {i : Nat} {F : List Bar} {M : List (Knot × Int)} (h : PtX l i F M) (hi : i < l.length) (hz : ¬ mget M l[i].lo = 0) : PtX l (i + 1) F M where
  pt := h.pt.old hi hz
  up f hf := (mem_take_succ hi).2 (.inl (h.up f hf))
  at' := h.at'
  least := h.least
  pw := h.pw
theorem PtX.fresh {l : List Bar} {i : Nat} {F : List Bar} {M M' : List (Knot × Int)} (h : PtX l i F M) (hs : l.Pairwise Blt) (hi : i < l.length) (hz : mget M l[i].lo = 0)
    (h1 : ∀ k, Conn l l[i].lo k → mget M' k = ((F.length + 1 : Nat) : Int)) (h2 : ∀ k, ¬ Conn l l[i].lo k → mget M' k = mget M k) : PtX l (i + 1) (F ++ [l[i]]) M' where
  pt := by
    rw [List.length_append]
    exact h.pt.fresh hi hz h1 h2
  up f hf := by
    rcases List.mem_append.1 hf with hf | hf
    · exact (mem_take_succ hi).2 (.inl (h.up f hf))
    · exact (mem_take_succ hi).2 (.inr (by simpa using hf))
  at' q hq k := by
    rw [List.length_append] at hq
    by_cases hqF : q < F.length
    · rw [List.getElem_append_left hqF]
      by_cases hc : Conn l l[i].lo k
      · rw [h1 k hc]
        constructor
        · intro e; omega
        · intro hc2
          have h3 := (h.at' q hqF l[i].lo).2 (hc2.trans hc.symm)
          omega
      · rw [h2 k hc]
        exact h.at' q hqF k
    · have e : q = F.length := by simp at hq; omega
      subst e
      rw [List.getElem_append_right (by omega)]
      simp only [Nat.sub_self, List.getElem_cons_zero]
      by_cases hc : Conn l l[i].lo k
      · exact ⟨fun _ => hc, fun _ => h1 k hc⟩
      · rw [h2 k hc]
        exact ⟨fun e => by have := h.pt.hi k; omega, fun h => absurd h hc⟩
  least f hf c hc hcc hb := by
    rcases List.mem_append.1 hf with hf | hf
    · exact h.least f hf c hc hcc hb
    · obtain rfl : f = l[i] := by simpa using hf
      have h3 := before_take hs hi hc hb
      exact (h.pt.num _).2 ⟨c, h3, hcc.symm⟩ hz
  pw := by
    refine List.pairwise_append.2 ⟨h.pw, by simp, fun a ha b hb => ?_⟩
    obtain rfl : b = l[i] := by simpa using hb
    obtain ⟨j, hj, rfl⟩ := List.mem_take_iff_getElem.1 (h.up a ha)
    exact List.pairwise_iff_getElem.1 hs j i (by omega) hi (by omega)
def partN (M : List (Knot × Int)) (l : List Bar) (q : Nat) : List Bar := l.filter fun b => decide (mget M b.lo = ((q + 1 : Nat) : Int))
def partsN (M : List (Knot × Int)) (l : List Bar) (n : Nat) : List (List Bar) := (List.range n).map (partN M l)
theorem PtX.parts {l : List Bar} {F : List Bar} {M : List (Knot × Int)} (hs : l.Pairwise Blt) (h : PtX l l.length F M) : PartsAre l (partsN M l F.length) := by
  have hF : ∀ q (hq : q < F.length), F[q] ∈ partN M l q := fun q hq => by
    refine List.mem_filter.2 ⟨?_, by simpa using (h.at' q hq F[q].lo).2 (.refl _)⟩
    have := h.up _ (List.getElem_mem hq)
    rwa [List.take_length] at this
  have hh : ∀ q (hq : q < F.length), (partN M l q).head? = some F[q] := fun q hq => head_of (hs.filter _) (hF q hq) fun c hc => by
    obtain ⟨hc1, hc2⟩ := List.mem_filter.1 hc
    exact h.least _ (List.getElem_mem hq) c hc1 ((h.at' q hq c.lo).1 (by simpa using hc2))
  have hm : ∀ g ∈ partsN M l F.length, ∃ q, ∃ _ : q < F.length, g = partN M l q := fun g hg => by
    obtain ⟨q, hq, rfl⟩ := List.mem_map.1 hg
    exact ⟨q, List.mem_range.1 hq, rfl⟩
  refine ⟨fun g hg => ?_, fun g hg => ?_, fun g hg b hb => ?_, fun g hg b hb c hc => ?_, fun b hb => ?_, ?_⟩
  · obtain ⟨q, hq, rfl⟩ := hm g hg
    exact List.ne_nil_of_mem (hF q hq)
  · obtain ⟨q, hq, rfl⟩ := hm g hg
    exact hs.filter _
  · obtain ⟨q, hq, rfl⟩ := hm g hg
    exact (List.mem_filter.1 hb).1
  · obtain ⟨q, hq, rfl⟩ := hm g hg
    have hb2 := (h.at' q hq b.lo).1 (by simpa using (List.mem_filter.1 hb).2)
    unfold partN
    rw [List.mem_filter]
    simp only [decide_eq_true_eq]
    rw [h.at' q hq c.lo]
    exact ⟨fun h => hb2.symm.trans h.2, fun h => ⟨hc, hb2.trans h⟩⟩
  · obtain ⟨h1, h2⟩ := h.pt.pos hb
    refine ⟨partN M l (mget M b.lo - 1).toNat, List.mem_map.2 ⟨_, List.mem_range.2 (by omega), rfl⟩, List.mem_filter.2 ⟨hb, ?_⟩⟩
    simp only [decide_eq_true_eq]
    omega
  · unfold partsN
    rw [List.pairwise_map]
    refine List.pairwise_iff_getElem.2 fun i j hi hj hij => ?_
    simp only [List.length_range] at hi hj
    simp only [List.getElem_range]
    unfold hdlt
    rw [hh i hi, hh j hj]
    simp only [decide_eq_true_eq]
    exact List.pairwise_iff_getElem.1 h.pw i j hi hj hij

/-! ### the reference's way -/
def Tch (x y : Bar) : Prop := x.lo = y.lo ∨ x.lo = y.hi ∨ x.hi = y.lo ∨ x.hi = y.hi
instance (x y : Bar) : Decidable (Tch x y) := by unfold Tch; infer_instance
theorem bar_conn {l : List Bar} {b : Bar} (hb : b ∈ l) : Conn l b.lo b.hi := .one hb (.inl ⟨rfl, rfl⟩)
/-- The list of bars that are reached, of which the first i are done, and the next one against the first k bars of the net. -/
structure Rchs (l : List Bar) (b : Bar) (P : List Bar) (i k : Nat) : Prop where
  nd : P.Nodup
  sub : ∀ x ∈ P, x ∈ l
  con : ∀ x ∈ P, Conn l b.lo x.lo
  beg : b ∈ P
  old : ∀ j (h : j < P.length), j < i → ∀ y ∈ l, Tch P[j] y → y ∈ P
  now : ∀ h : i < P.length, ∀ y ∈ l.take k, Tch P[i] y → y ∈ P
theorem Rchs.start {l : List Bar} {b : Bar} (hb : b ∈ l) : Rchs l b [b] 0 0 where
  nd := by simp
  sub x hx := by obtain rfl : x = b := by simpa using hx
                 exact hb
  con x hx := by obtain rfl : x = b := by simpa using hx
                 exact .refl _
  beg := by simp
  old j h h0 := by omega
  now h y hy := by simp at hy
theorem Rchs.le {l : List Bar} {b : Bar} {P : List Bar} {i k : Nat} (h : Rchs l b P i k) : P.length ≤ l.length := h.nd.length_le_of_subset h.sub
theorem Rchs.next {l : List Bar} {b : Bar} {P : List Bar} {i : Nat} (h : Rchs l b P i l.length) (hi : i < P.length) : Rchs l b P (i + 1) 0 where
  nd := h.nd
  sub := h.sub
  con := h.con
  beg := h.beg
  old j hj hji y hy ht := by
    rcases Nat.lt_or_ge j i with h1 | h1
    · exact h.old j hj h1 y hy ht
    · obtain rfl : j = i := by omega
      exact h.now hj y (by rwa [List.take_length]) ht
  now h y hy := by simp at hy
theorem Rchs.skip {l : List Bar} {b : Bar} {P : List Bar} {i k : Nat} (h : Rchs l b P i k) (hi : i < P.length) (hk : k < l.length) (hn : Tch P[i] l[k] → l[k] ∈ P) : Rchs l b P i (k + 1) where
  nd := h.nd
  sub := h.sub
  con := h.con
  beg := h.beg
  old := h.old
  now hi' y hy ht := by
    rcases (mem_take_succ hk).1 hy with h1 | h1
    · exact h.now hi y h1 ht
    · subst h1
      exact hn ht
theorem Rchs.done {l : List Bar} {b : Bar} {P : List Bar} {i : Nat} (h : Rchs l b P i 0) (hi : P.length ≤ i) (y : Bar) : y ∈ srtL P ↔ y ∈ l ∧ Conn l b.lo y.lo := by
  rw [srtL_mem]
  refine ⟨fun hy => ⟨h.sub y hy, h.con y hy⟩, fun ⟨hy, hc⟩ => ?_⟩
  have hcl : ∀ x ∈ P, ∀ z ∈ l, Tch x z → z ∈ P := fun x hx z hz ht => by
    obtain ⟨j, hj, rfl⟩ := List.getElem_of_mem hx
    exact h.old j hj (by omega) z hz ht
  have key : ∀ {k m : Knot}, Conn l k m → (∃ x ∈ P, k = x.lo ∨ k = x.hi) → ∃ x ∈ P, m = x.lo ∨ m = x.hi := by
    intro k m hkm
    induction hkm with
    | refl k => exact id
    | step c hc ha _ ih =>
      rintro ⟨x, hx, hk⟩
      have hcP : c ∈ P := hcl x hx c hc (by
        unfold Tch
        rcases ha with ⟨h1, h2⟩ | ⟨h1, h2⟩ <;> rcases hk with hk | hk <;> simp_all)
      exact ih ⟨c, hcP, by rcases ha with ⟨h1, h2⟩ | ⟨h1, h2⟩ <;> simp_all⟩
  obtain ⟨x, hx, hk⟩ := key hc ⟨b, h.beg, .inl rfl⟩
  refine hcl x hx y hy ?_
  unfold Tch
  rcases hk with hk | hk
  · exact .inl hk.symm
  · exact .inr (.inr (.inl hk.symm))
/-- The parts of the first i bars. -/
structure PartsTo (l : List Bar) (i : Nat) (G : List (List Bar)) : Prop where
  ne : ∀ g ∈ G, g ≠ []
  pw : ∀ g ∈ G, g.Pairwise Blt
  sub : ∀ g ∈ G, ∀ b ∈ g, b ∈ l
  cls : ∀ g ∈ G, ∀ b ∈ g, ∀ c ∈ l, (c ∈ g ↔ Conn l b.lo c.lo)
  all : ∀ b ∈ l.take i, ∃ g ∈ G, b ∈ g
  hd : ∀ g ∈ G, ∃ a, g.head? = some a ∧ a ∈ l.take i
  ord : G.Pairwise fun g h => hdlt g h = true
  le : G.length ≤ i
theorem PartsTo.start (l : List Bar) : PartsTo l 0 [] where
  ne := by simp
  pw := by simp
  sub := by simp
  cls := by simp
  all := by simp
  hd := by simp
  ord := List.Pairwise.nil
  le := Nat.le_refl _
theorem PartsTo.old {l : List Bar} {i : Nat} {G : List (List Bar)} (h : PartsTo l i G) (hi : i < l.length) (hf : ∃ g ∈ G, l[i] ∈ g) : PartsTo l (i + 1) G where
  ne := h.ne
  pw := h.pw
  sub := h.sub
  cls := h.cls
  all b hb := by
    rcases (mem_take_succ hi).1 hb with h1 | h1
    · exact h.all b h1
    · subst h1
      exact hf
  hd g hg := by
    obtain ⟨a, h1, h2⟩ := h.hd g hg
    exact ⟨a, h1, (mem_take_succ hi).2 (.inl h2)⟩
  ord := h.ord
  le := Nat.le_succ_of_le h.le
theorem PartsTo.fresh {l : List Bar} (hs : l.Pairwise Blt) {i : Nat} {G : List (List Bar)} (h : PartsTo l i G) (hi : i < l.length) (hf : ¬ ∃ g ∈ G, l[i] ∈ g) {g : List Bar} (gs : g.Pairwise Blt) (gm : ∀ y, y ∈ g ↔ y ∈ l ∧ Conn l l[i].lo y.lo) : PartsTo l (i + 1) (G ++ [g]) := by
  have hig : l[i] ∈ g := (gm _).2 ⟨List.getElem_mem hi, .refl _⟩
  have hh : g.head? = some l[i] := head_of gs hig fun c hc hb => by
    obtain ⟨hcl, hcc⟩ := (gm c).1 hc
    obtain ⟨g', hg', hcg⟩ := h.all c (before_take hs hi hcl hb)
    exact hf ⟨g', hg', (h.cls g' hg' c hcg _ (List.getElem_mem hi)).2 hcc.symm⟩
  refine ⟨fun x hx => ?_, fun x hx => ?_, fun x hx b hb => ?_, fun x hx b hb c hc => ?_, fun b hb => ?_, fun x hx => ?_, ?_, ?_⟩
  · rcases List.mem_append.1 hx with h1 | h1
    · exact h.ne x h1
    · obtain rfl : x = g := by simpa using h1
      exact List.ne_nil_of_mem hig
  · rcases List.mem_append.1 hx with h1 | h1
    · exact h.pw x h1
    · obtain rfl : x = g := by simpa using h1
      exact gs
  · rcases List.mem_append.1 hx with h1 | h1
    · exact h.sub x h1 b hb
    · obtain rfl : x = g := by simpa using h1
      exact ((gm b).1 hb).1
  · rcases List.mem_append.1 hx with h1 | h1
    · exact h.cls x h1 b hb c hc
    · obtain rfl : x = g := by simpa using h1
      have hb2 := ((gm b).1 hb).2
      rw [gm]
      exact ⟨fun h => hb2.symm.trans h.2, fun h => ⟨hc, hb2.trans h⟩⟩
  · rcases (mem_take_succ hi).1 hb with h1 | h1
    · obtain ⟨x, hx, hbx⟩ := h.all b h1
      exact ⟨x, List.mem_append_left _ hx, hbx⟩
    · subst h1
      exact ⟨g, by simp, hig⟩
  · rcases List.mem_append.1 hx with h1 | h1
    · obtain ⟨a, ha, ha2⟩ := h.hd x h1
      exact ⟨a, ha, (mem_take_succ hi).2 (.inl ha2)⟩
    · obtain rfl : x = g := by simpa using h1
      exact ⟨_, hh, (mem_take_succ hi).2 (.inr rfl)⟩
  · refine List.pairwise_append.2 ⟨h.ord, by simp, fun x hx y hy => ?_⟩
    obtain rfl : y = g := by simpa using hy
    obtain ⟨a, ha, ha2⟩ := h.hd x hx
    unfold hdlt
    rw [ha, hh]
    simp only [decide_eq_true_eq]
    obtain ⟨j, hj, rfl⟩ := List.mem_take_iff_getElem.1 ha2
    exact List.pairwise_iff_getElem.1 hs j i (by omega) hi (by omega)
  · rw [List.length_append]
    have := h.le
    simp
    omega
theorem PartsTo.done {l : List Bar} {G : List (List Bar)} (h : PartsTo l l.length G) : PartsAre l G where
  ne := h.ne
  pw := h.pw
  sub := h.sub
  cls := h.cls
  all b hb := h.all b (by rwa [List.take_length])
  ord := h.ord
end Go.Proofs.YtdeplhihcifmeaaGreatDoor

/- What the laws of netting's lists begin with: short lists, copies, the checks at every length. -/
namespace Go.Proofs.YtdeplhihcifmeaaGreatDoor
open Go.RowKit Ck

set_option maxHeartbeats 2000000 in
set_option maxRecDepth 100000 in
theorem lwCopied1 (A : Option Addr) (c : Nat) (l : List Ck.Bar) (w : World) (hl : l.length ≤ 4098) (hne : 0 < l.length) (h : RB w w.heap.size A l) :
    Calls Tryz.prog 21 #[.slice A l.length c] w (CopyPost l w) := by
  obtain ⟨ib, hib, hb0, hb01, hb02⟩ := info_parts Tryz.info24
  obtain ⟨b, off, rfl, hB, _⟩ := h hne
  have HR := Lib.hid h
  clear h
  go_enter Tryz.func21, Tryz.ntmps21
  go_wp2_with (at_builtin; refine wpList_append_own _ rfl _ _ 22 rfl w.heap.size 24 ib (.agg #[.int .i64 0, .int .i64 0, .int .i64 0]) 3 24 Tryz.underlying22 hib hb0 hb01 hb02 rfl (by decide) _ _ _ rfl (by exact empty_row _ _ (Nat.le_refl _) _ _) ⟨b, off, none⟩ l.length c (bcellsL l) rfl (bcellsL_length l) ?c1 (bcellsL_one l) ?c3 ?c4 ?c5 ?_)
  case c1 => exact (HR.out.below ((Below.refl _ _).alloc (Nat.le_refl _) _)).news hne
  case c3 => unfold maxLen; omega
  case c4 => omega
  case c5 => simp
  intro v' w4 hown4 hgrow4 _
  have HO := Lib.hid hown4
  have hq := ((Below.refl w.heap.size w).alloc (Nat.le_refl _) (.cells #[] 24)).grown hgrow4 (by simp) (ownsRow_base (empty_row w w.heap.size (Nat.le_refl _) 24 3))
  clear hown4 hgrow4
  go_wp2
  go_ret
  exact ⟨_, rfl, by simpa using HO.out, hq⟩
set_option maxHeartbeats 2000000 in
set_option maxRecDepth 100000 in
theorem lwCopied0 (A : Option Addr) (c : Nat) (w : World) (hA : A = none → c = 0) :
    Calls Tryz.prog 21 #[.slice A 0 c] w (CopyPost [] w) := by
  obtain ⟨ib, hib, hb0, hb01, hb02⟩ := info_parts Tryz.info24
  rcases A with _ | ad
  · obtain rfl := hA rfl
    go_enter Tryz.func21, Tryz.ntmps21
    go_wp2_with (at_builtin; refine wpList_append_own_none rfl _ _ 22 rfl w.heap.size 24 ib 3 Tryz.underlying22 hib _ _ _ rfl (by exact empty_row _ _ (Nat.le_refl _) _ _) rfl ?_)
    go_ret
    exact ⟨_, rfl, empty_row _ _ (Nat.le_refl _) _ _, (Below.refl _ _).alloc (Nat.le_refl _) _⟩
  · clear hA
    go_enter Tryz.func21, Tryz.ntmps21
    go_wp2_with (at_builtin; refine wpList_append_own _ rfl _ _ 22 rfl w.heap.size 24 ib (.agg #[.int .i64 0, .int .i64 0, .int .i64 0]) 3 24 Tryz.underlying22 hib hb0 hb01 hb02 rfl (by decide) _ _ _ rfl (by exact empty_row _ _ (Nat.le_refl _) _ _) ad 0 c [] rfl rfl ?c1 ?c2 ?c3 ?c4 ?c5 ?_)
    case c1 => intro j u h; simp at h
    case c2 => intro u h; simp at h
    case c3 => unfold maxLen; omega
    case c4 => omega
    case c5 => simp
    intro v' w4 hown4 hgrow4 _
    have HO := Lib.hid hown4
    have hq := ((Below.refl w.heap.size w).alloc (Nat.le_refl _) (.cells #[] 24)).grown hgrow4 (by simp) (ownsRow_base (empty_row w w.heap.size (Nat.le_refl _) 24 3))
    clear hown4 hgrow4
    go_wp2
    go_ret
    exact ⟨v', rfl, HO.out, hq⟩
/-- copied: a slice with the same bars that is the call's own. -/
theorem lwCopied (A : Option Addr) (c : Nat) (l : List Ck.Bar) (w : World) (hl : l.length ≤ 4098) (h : OKS w A c l) :
    Calls Tryz.prog 21 #[.slice A l.length c] w (SlicePost l w) := by
  have key : Calls Tryz.prog 21 #[.slice A l.length c] w (CopyPost l w) := by
    match l, hl, h with
    | [], _, h => exact lwCopied0 A c w h.2.2.1
    | a :: r, hl, h => exact lwCopied1 A c (a :: r) w hl (by simp) h.2.2.2
  refine key.mono ?_
  rintro e w1 ⟨v, rfl, hown, hb⟩
  obtain ⟨a, c', rfl, ho⟩ := own_oks hown
  exact ⟨a, c', rfl, ho, hb⟩
theorem netE_long {l : List Ck.Bar} (h : 4096 < l.length) : netE l = 5 := by rw [netE, if_pos h]
set_option maxHeartbeats 400000 in
theorem netCheckNetL (A : Option Addr) (c n : Nat) (w : World) (hm : n ≤ maxLen) (h : 4096 < n) :
    Calls Tryz.prog 20 #[.slice A n c] w fun e w' => e = .returned (.int .i64 5) ∧ w = w' := by
  unfold maxLen at hm
  have h1 : (4096 : Int) < (n : Int) := by omega
  go_enter Tryz.func20, Tryz.ntmps20
  go_wp2
  go_ret
  exact ⟨rfl, rfl⟩
theorem netCheckNetA (A : Option Addr) (c : Nat) (l : List Ck.Bar) (w : World) (h : OKS w A c l) :
    Calls Tryz.prog 20 #[.slice A l.length c] w fun e w' => e = .returned (.int .i64 (netE l)) ∧ Below w.heap.size w w' := by
  by_cases hl : l.length ≤ 4096
  · exact netCheckNet A c l w hl h.1 h.2.1 h.2.2.2
  · rw [netE_long (by omega)]
    exact (netCheckNetL A c l.length w (Nat.le_trans h.1 h.2.1) (by omega)).mono fun e w' ⟨h1, h2⟩ => ⟨h1, h2 ▸ Below.refl _ _⟩
end Go.Proofs.YtdeplhihcifmeaaGreatDoor

/- Contracts of the reference's First at three errors, and of CheckSheet. -/
namespace Go.Proofs.YtdeplhihcifmeaaGreatDoor
open Go.RowKit

set_option maxHeartbeats 400000 in
theorem refFirst (b c : Nat) (es : List Int) (w : World) (hn : es.length ≤ 100) (hc : ∀ i (h : i < es.length), w.cell? ⟨b, i, none⟩ = some (.int .i64 es[i])) :
    Calls Tryz.prog 93 #[.slice (some ⟨b, 0, none⟩) es.length c] w fun e w' => e = .returned (.int .i64 (firstE es)) ∧ w = w' := by
  have HC := Lib.hid hc
  have hn' : (es.length : Int) ≤ 100 := by omega
  clear hc
  go_enter Tryz.func93, Tryz.ntmps93
  go_wp2_with fail
  go_loop [2, 3] (fun _ i => ∃ k : Nat, k ≤ es.length ∧ i = .int .i64 k ∧ firstE es = firstE (es.drop k)) (fun _ i => es.length - (intOf i).toNat)
  case atStart => exact ⟨0, Nat.zero_le _, rfl, rfl⟩
  case round =>
    obtain ⟨k, hk, rfl, he⟩ := hrel
    have HE := Lib.hid he
    clear he
    by_cases hlt : k < es.length
    · have hcell := HC.out k hlt
      by_cases hz : es[k] = 0
      · have HF := Lib.hid (show firstE (es.drop k) = firstE (es.drop (k + 1)) by
          rw [List.drop_eq_getElem_cons hlt]
          simp only [firstE, hz, if_true])
        rw [hz] at hcell
        clear hz
        go_wp2
        go_round
        case rel => exact ⟨k + 1, by omega, by go_num, HE.out.trans HF.out⟩
        case measure => simp [intOf]; omega
      · have HF := Lib.hid (show firstE (es.drop k) = es[k] by
          rw [List.drop_eq_getElem_cons hlt]
          simp only [firstE, if_neg hz])
        have hz1 : (es[k] != 0) = true := by rw [bne_iff_ne]; exact hz
        clear hz
        go_wp2
        go_ret
        exact ⟨ret_i (HE.out.trans HF.out).symm, rfl⟩
    · obtain rfl : k = es.length := by omega
      have HF := Lib.hid (show firstE (es.drop es.length) = 0 by rw [List.drop_length]; rfl)
      go_wp2
      go_ret
      exact ⟨ret_i (HE.out.trans HF.out).symm, rfl⟩

theorem refFirst3 (g d : Nat) (a b c : Int) (t : TypeId) (w : World) (h : w.heap[g]? = some (.cells #[.int .i64 a, .int .i64 b, .int .i64 c] t (0, 0))) :
    Calls Tryz.prog 93 #[.slice (some ⟨g, 0, none⟩) 3 d] w fun e w' => e = .returned (.int .i64 (firstE [a, b, c])) ∧ w = w' :=
  refFirst g d [a, b, c] w (by simp) (three_err h)
theorem refSide (n : Int) (w : World) : Calls Tryz.prog 75 #[.int .i64 n, .int .i64 1, .int .i64 256] w fun e w' => e = .returned (.int .i64 (sideR n)) ∧ w = w' := refCheckRange n 1 256 w
set_option maxHeartbeats 1000000 in
set_option maxRecDepth 100000 in
theorem refCheckSheet (x y c r : Int) (w : World) :
    Calls Tryz.prog 38 #[.agg #[.int .i64 x, .int .i64 y], .int .i64 c, .int .i64 r] w fun e w' => e = .returned (.int .i64 (sheetE x y c r)) ∧ Below w.heap.size w w' := by
  obtain ⟨w1, hw1, h0, h1, hb1, hz1⟩ := box2 w (.int .i64 x) (.int .i64 y) 26
  have HW1 := Lib.hid hw1
  clear hw1
  by_cases hs : sheet1 x y c r = 0
  · obtain ⟨hk, c1, c2, r1, r2⟩ := sheet1_zero hs
    obtain ⟨x1, x2, y1, y2⟩ := knotE_zero hk
    have HS2 : firstE [knotE x y, sideR c, sideR r] = 0 := hs
    have HSF := Lib.hid HS2
    have hm1 : -200000 ≤ 2 * c * r := by
      have := Int.mul_le_mul (a := 2 * c) (c := 512) (b := r) (d := 256) (by omega) (by omega) (by omega) (by omega)
      have := Int.mul_nonneg (a := 2 * c) (b := r) (by omega) (by omega)
      omega
    have hm2 : 2 * c * r ≤ 200000 := by
      have := Int.mul_le_mul (a := 2 * c) (c := 512) (b := r) (d := 256) (by omega) (by omega) (by omega) (by omega)
      omega
    have HSH := Lib.hid (show sheetE x y c r = (if 4096 < 2 * c * r then 5 else if farB (x + 2 * c) || farB (y + r) then 3 else 0) by simp only [sheetE, hs, if_true])
    clear HS2 hs hk
    go_enter Tryz.func38, Tryz.ntmps38
    go_wp2_with fail
    rw [← HW1.out]
    refine (refCheckKnot x y _).mono ?_
    rintro e w2 ⟨rfl, hb2⟩
    go_wp2_with fail
    refine (refSide c _).mono ?_
    rintro e w3 ⟨rfl, rfl⟩
    go_wp2_with fail
    refine (refSide r _).mono ?_
    rintro e w4 ⟨rfl, rfl⟩
    go_wp2_with fail
    refine (refFirst3 _ _ (knotE x y) (sideR c) (sideR r) 3 _ (by exact heap_alloc_new _ _)).mono ?_
    rintro e w5 ⟨rfl, rfl⟩
    rw [HSF.out]
    have hb3 : Below w.heap.size w (w2.alloc (.cells #[.int .i64 (knotE x y), .int .i64 (sideR c), .int .i64 (sideR r)] 3)) := (hb1.trans (hb2.mono (by omega))).alloc (by have := hb2.size; omega) _
    have hb4 : Below w1.heap.size w1 (w2.alloc (.cells #[.int .i64 (knotE x y), .int .i64 (sideR c), .int .i64 (sideR r)] 3)) := hb2.alloc hb2.size _
    generalize w2.alloc (.cells #[.int .i64 (knotE x y), .int .i64 (sideR c), .int .i64 (sideR r)] 3) = w6 at *
    have e0 := (hb4.cell (p := ⟨w.heap.size, 0, none⟩) hz1).trans h0
    have e1 := (hb4.cell (p := ⟨w.heap.size, 1, none⟩) hz1).trans h1
    by_cases hbig : 4096 < 2 * c * r
    · have HE := Lib.hid (HSH.out.trans (if_pos hbig))
      clear HSH
      go_wp2_with fail
      go_ret
      exact ⟨ret_i HE.out.symm, hb3⟩
    · have HE := Lib.hid (HSH.out.trans (if_neg hbig))
      clear HSH
      cases hf1 : farB (x + 2 * c)
      · cases hf2 : farB (y + r)
        all_goals
          have HF1 := Lib.hid hf1
          have HF2 := Lib.hid hf2
          rw [hf1, hf2] at HE
          clear hf1 hf2
          go_wp2_with fail
          refine (refFar _ _).mono ?_
          rintro e w7 ⟨rfl, rfl⟩
          rw [HF1.out]
          go_wp2_with fail
          refine (refFar _ _).mono ?_
          rintro e w7 ⟨rfl, rfl⟩
          rw [HF2.out]
          go_wp2_with fail
          go_ret
          exact ⟨ret_i HE.out.symm, hb3⟩
      · have HF1 := Lib.hid hf1
        rw [hf1] at HE
        clear hf1
        go_wp2_with fail
        refine (refFar _ _).mono ?_
        rintro e w7 ⟨rfl, rfl⟩
        rw [HF1.out]
        go_wp2_with fail
        go_ret
        exact ⟨ret_i HE.out.symm, hb3⟩
  · have hs1 : (sheet1 x y c r == 0) = false := by simpa using hs
    have HE := Lib.hid (show sheetE x y c r = sheet1 x y c r by simp [sheetE, hs])
    have HS1 := Lib.hid hs1
    clear hs hs1
    go_enter Tryz.func38, Tryz.ntmps38
    go_wp2_with fail
    rw [← HW1.out]
    refine (refCheckKnot x y _).mono ?_
    rintro e w2 ⟨rfl, hb2⟩
    go_wp2_with fail
    refine (refSide c _).mono ?_
    rintro e w3 ⟨rfl, rfl⟩
    go_wp2_with fail
    refine (refSide r _).mono ?_
    rintro e w4 ⟨rfl, rfl⟩
    go_wp2_with fail
    refine (refFirst3 _ _ (knotE x y) (sideR c) (sideR r) 3 _ (by exact heap_alloc_new _ _)).mono ?_
    rintro e w5 ⟨rfl, rfl⟩
    have HS2 : firstE [knotE x y, sideR c, sideR r] = sheet1 x y c r := rfl
    rw [HS2]
    generalize sheet1 x y c r = e1 at *
    have hs1 := HS1.out
    go_wp2_with fail
    go_ret
    exact ⟨ret_i HE.out.symm, (hb1.trans (hb2.mono (by omega))).alloc (by have := hb2.size; omega) _⟩
end Go.Proofs.YtdeplhihcifmeaaGreatDoor

/- The law of NettingBars at each of its ways. -/
namespace Go.Proofs.YtdeplhihcifmeaaGreatDoor
open Go.RowKit Go.Shelf Ck

theorem hbT {a w w' : World} (h : Below a.heap.size a w) (hb : Below w.heap.size w w') : Below a.heap.size a w' := h.trans (hb.mono h.size)
end Go.Proofs.YtdeplhihcifmeaaGreatDoor

/- An append of whatever many elements (none, too) at a step of a region that draws its order. -/
namespace Go.Proofs.YtdeplhihcifmeaaGreatDoor
open Go.RowKit

section
variable {P : Program} {w : World} {o : Oper} {a : Act} {K : Act → World → Prop} {Q : Exit → Act → World → Prop}
end
/-- The steps of a drawn region: lists' elements, a slot that is put. One theorem, so that no argument of a simp is left unused. -/
theorem layG : (∀ (α : Type) (a : List α) (i : Nat) (h : i < a.toArray.size), a.toArray[i] = a[i]'(by simpa using h)) ∧ (∀ (α : Type) (a : α) (l : List α) (i : Nat) (h : i + 1 < (a :: l).length), (a :: l)[i + 1] = l[i]'(by simpa using h)) ∧ (∀ (α : Type) (a : α) (l : List α) (h : 0 < (a :: l).length), (a :: l)[0] = a) :=
  ⟨fun _ _ _ _ => by simp, fun _ _ _ _ _ => rfl, fun _ _ _ _ => rfl⟩
theorem layA : ((∀ (α : Type) (a : List α) (i : Nat) (h : i < a.toArray.size), a.toArray[i] = a[i]'(by simpa using h)) ∧ (∀ (α : Type) (a : α) (l : List α) (i : Nat) (h : i + 1 < (a :: l).length), (a :: l)[i + 1] = l[i]'(by simpa using h)) ∧ (∀ (α : Type) (a : α) (l : List α) (h : 0 < (a :: l).length), (a :: l)[0] = a)) ∧ (∀ (a : Act) (i : Nat) (v : Value), a.put (some i) v = { a with tmps := a.tmps.setIfInBounds i v }) ∧ (∀ (l : List Value) (i : Nat) (v : Value), l.toArray.setIfInBounds i v = (l.set i v).toArray) ∧ (∀ (x : Value) (l : List Value) (v : Value), (x :: l).set 0 v = v :: l) ∧ (∀ (x : Value) (l : List Value) (i : Nat) (v : Value), (x :: l).set (i + 1) v = x :: l.set i v) :=
  ⟨layG, fun _ _ _ => rfl, fun _ _ _ => by simp, fun _ _ _ => rfl, fun _ _ _ _ => rfl⟩
end Go.Proofs.YtdeplhihcifmeaaGreatDoor

/- The contract of merge where what both lists have is kept. -/
namespace Go.Proofs.YtdeplhihcifmeaaGreatDoor
open Go.RowKit

def mergeI : List Ck.Bar → List Ck.Bar → List Ck.Bar
  | [], _ => []
  | _ :: _, [] => []
  | a :: r, b :: r' => if cmpB a b < 0 then mergeI r (b :: r') else if 0 < cmpB a b then mergeI (a :: r) r' else a :: mergeI r r'
termination_by l l' => l.length + l'.length
theorem mergeI_nil (l : List Ck.Bar) : mergeI l [] = [] := by cases l <;> simp [mergeI]
theorem headsI_neg {ra rb : List Ck.Bar} (h : headsE ra rb < 0) : ∃ a r, ra = a :: r ∧ mergeI ra rb = mergeI r rb := by
  match ra, rb, h with
  | [], _, h => simp [headsE] at h
  | a :: r, [], _ => exact ⟨a, r, rfl, by rw [mergeI_nil, mergeI_nil]⟩
  | a :: r, b :: r', h =>
    have h' : cmpB a b < 0 := h
    exact ⟨a, r, rfl, by rw [mergeI, if_pos h']⟩
theorem headsI_pos {ra rb : List Ck.Bar} (h : 0 < headsE ra rb) (hne : 0 < ra.length + rb.length) : ∃ b r', rb = b :: r' ∧ mergeI ra rb = mergeI ra r' := by
  match ra, rb, h with
  | [], [], _ => simp at hne
  | [], b :: r', _ => exact ⟨b, r', rfl, by simp [mergeI]⟩
  | a :: r, [], h => simp [headsE] at h
  | a :: r, b :: r', h =>
    have h' : 0 < cmpB a b := h
    exact ⟨b, r', rfl, by rw [mergeI, if_neg (by omega), if_pos h']⟩
theorem headsI_zero {ra rb : List Ck.Bar} (h : headsE ra rb = 0) : ∃ a r r', ra = a :: r ∧ rb = a :: r' ∧ mergeI ra rb = a :: mergeI r r' := by
  match ra, rb, h with
  | [], _, h => simp [headsE] at h
  | a :: r, [], h => simp [headsE] at h
  | a :: r, b :: r', h =>
    have h' : cmpB a b = 0 := h
    have e := (cmpB_zero _ _).1 h'
    subst e
    exact ⟨a, r, r', rfl, rfl, by rw [mergeI, if_neg (by omega), if_neg (by omega)]⟩

set_option maxHeartbeats 400000 in
theorem keepMeet (x y : Bool) (w : World) : Calls Tryz.prog 110 #[.bool x, .bool y] w fun e w' => e = .returned (.bool (x && y)) ∧ w = w' := by
  cases x
  all_goals
    go_enter Tryz.func110, Tryz.ntmps110
    go_wp2
    go_ret
    exact ⟨rfl, rfl⟩
theorem keepI10 (w : World) : Calls Tryz.prog 110 #[.bool true, .bool false] w fun e w' => e = .returned (.bool false) ∧ w = w' := keepMeet true false w
theorem keepI11 (w : World) : Calls Tryz.prog 110 #[.bool true, .bool true] w fun e w' => e = .returned (.bool true) ∧ w = w' := keepMeet true true w
theorem keepI01 (w : World) : Calls Tryz.prog 110 #[.bool false, .bool true] w fun e w' => e = .returned (.bool false) ∧ w = w' := keepMeet false true w

def MrgIPost (l l' : List Ck.Bar) (w : World) (e : Ending) (w' : World) : Prop :=
  ∃ v, e = .returned v ∧ w'.ownsRow w.heap.size 24 3 v (mergeI l l').length (bcellsL (mergeI l l')) ∧ Below w.heap.size w w'
def mrgIRel (l0 l0' : List Ck.Bar) (w : World) (g : Nat) (va vb vo : Value) (wi : World) : Prop :=
  ∃ A A' c c' ra rb out, g = ra.length + rb.length ∧ va = .slice A ra.length c ∧ vb = .slice A' rb.length c' ∧ ra.length ≤ c ∧ c ≤ 9223372036854775807 ∧ rb.length ≤ c' ∧ c' ≤ 9223372036854775807 ∧ RB wi w.heap.size A ra ∧ RB wi w.heap.size A' rb ∧
    mergeI l0 l0' = out ++ mergeI ra rb ∧ out.length + ra.length + rb.length ≤ l0.length + l0'.length ∧ wi.ownsRow w.heap.size 24 3 vo out.length (bcellsL out) ∧ Below w.heap.size w wi

set_option maxHeartbeats 4000000 in
set_option maxRecDepth 100000 in
theorem netMergeI (A A' : Option Addr) (c c' : Nat) (l l' : List Ck.Bar) (w : World) (hl : l.length ≤ 4096) (hl' : l'.length ≤ 4096) (hc : l.length ≤ c) (hcm : c ≤ maxLen) (hc' : l'.length ≤ c') (hcm' : c' ≤ maxLen) (h : RB w w.heap.size A l) (h' : RB w w.heap.size A' l') :
    Calls Tryz.prog 144 #[.slice A l.length c, .slice A' l'.length c', .func (.func 131) #[] #[], .func (.func 110) #[] #[]] w (MrgIPost l l' w) := by
  obtain ⟨ib, hib, hb0, hb01, hb02⟩ := info_parts Tryz.info24
  have HIB := Lib.hid hib
  have HB0 := Lib.hid hb0
  have HB1 := Lib.hid hb01
  have HB2 := Lib.hid hb02
  have HR := Lib.hid h
  have HR' := Lib.hid h'
  clear hib hb0 hb01 hb02 h h'
  unfold maxLen at hcm hcm'
  go_enter Tryz.func144, Tryz.ntmps144
  go_wp2_with fail
  go_loopg [0, 1, 9, 10, 11] (l.length + l'.length) (fun g va vb vo _ _ wi => mrgIRel l l' w g va vb vo wi)
  case atStart => exact ⟨A, A', c, c', l, l', [], rfl, rfl, rfl, hc, hcm, hc', hcm', HR.out, HR'.out, rfl, by simp, World.ownsRow_nil _ _ _ _, Below.refl _ _⟩
  case round =>
    obtain ⟨A1, A2, c1, c2, ra, rb, out, hg, rfl, rfl, k1, k2, k3, k4, r1, r2, hm, hlen, hown, hb⟩ := hrel
    have HG := Lib.hid hg
    have HM := Lib.hid hm
    have HO := Lib.hid hown
    have HA := Lib.hid r1
    have HB := Lib.hid r2
    have hbz := hb.size
    clear hg hm hown r1 r2
    by_cases hne : 0 < ra.length + rb.length
    · rcases Int.lt_trichotomy (headsE ra rb) 0 with ho | ho | ho
      · obtain ⟨a, r, rfl, hmu⟩ := headsI_neg ho
        have HMU := Lib.hid hmu
        have ho1 : (headsE (a :: r) rb ≤ 0) := by omega
        have ho2 : ¬ (0 ≤ headsE (a :: r) rb) := by omega
        have HRA := HA.out.head
        clear hmu
        obtain ⟨b, off, rfl, hbb, d0, d1, d2, ht⟩ := HRA
        have HT := Lib.hid ht
        clear ht
        generalize hoe : headsE (a :: r) rb = o at ho ho1 ho2
        have hd1 : decide (0 ≤ o) = false := decide_eq_false (by omega)
        have HOE := Lib.hid hoe
        clear hoe
        go_wp2_with fail
        refine (netHeads (some ⟨b, off, none⟩) A2 c1 c2 (a :: r) rb _ (by simp at hlen ⊢; omega) (by simp at hlen; omega) (HA.out.more hbz) (HB.out.more hbz)).mono ?_
        rintro e w2 ⟨rfl, hb2⟩
        rw [HOE.out]
        have hz2 := hb2.size
        have e0 := (hb2.cell (p := ⟨b, off, none⟩) (by show b < _; omega)).trans d0
        have e1 := (hb2.cell (p := ⟨b, off + 1, none⟩) (by show b < _; omega)).trans d1
        have e2 := (hb2.cell (p := ⟨b, off + 2, none⟩) (by show b < _; omega)).trans d2
        clear d0 d1 d2
        obtain ⟨w3, hw3⟩ : ∃ w3, w3 = w2.alloc (.cells #[.int .i64 0, .int .i64 0, .int .i64 0] 24) := ⟨_, rfl⟩
        have hx : w3.heap[w2.heap.size]? = some (.cells #[.int .i64 0, .int .i64 0, .int .i64 0] 24 (0, 0)) := by rw [hw3]; exact heap_alloc_new _ _
        have hb3 : Below w2.heap.size w2 w3 := by rw [hw3]; exact (Below.refl _ _).alloc (Nat.le_refl _) _
        have hz3 : w2.heap.size < w3.heap.size := by rw [hw3]; simp
        obtain ⟨W, hW, hxW, hbW, hzW⟩ := put3 hx (.int .i64 a.x) (.int .i64 a.y) (.int .i64 a.s)
        obtain ⟨f0, f1, f2, ff⟩ := three_of_block hx
        obtain ⟨g0, g1, g2, _⟩ := three_of_block hxW
        have HW3 := Lib.hid hw3
        have HWW := Lib.hid hW
        have HZW := Lib.hid hzW
        clear hzW
        replace e0 := (hb3.cell (p := ⟨b, off, none⟩) (by show b < _; omega)).trans e0
        replace e1 := (hb3.cell (p := ⟨b, off + 1, none⟩) (by show b < _; omega)).trans e1
        replace e2 := (hb3.cell (p := ⟨b, off + 2, none⟩) (by show b < _; omega)).trans e2
        have hq : Below wr.heap.size wr W := (hb2.trans (hb3.mono hz2)).trans (hbW.mono hz2)
        have HOW := Lib.hid (ownsRow_below HO.out hq)
        have hbw := hb.trans (hq.mono hbz)
        have HTW := Lib.hid ((HT.out.below (hq.mono hbz)))
        have HBW := Lib.hid ((HB.out.below (hq.mono hbz)))
        have hi1 : (0 : Int) < (r.length : Int) + 1 := by omega
        have hi2 : (1 : Int) ≤ (r.length : Int) + 1 := by omega
        have hi3 : (r.length : Int) + 1 ≤ (c1 : Int) := by simp at k1; omega
        clear hw3 hW hx hxW
        go_wp2_with fail
        rw [← HW3.out]
        go_region
        rw [← HWW.out]
        generalize hA1 : (if c1 = 1 then some (⟨b, off, none⟩ : Addr) else some ⟨b, off + 3, none⟩) = A1
        have HRA1 := Lib.hid (HTW.out.cut1 (c := c1) (by simp at k1; omega) A1 (fun hne => by rw [← hA1, if_neg hne]))
        clear hA1 e0 e1 e2
        go_wp2_with (go_at_call 110; refine (keepI10 _).mono ?_; rintro e w' ⟨rfl, rfl⟩)
        go_roundg (r.length + rb.length)
        case measure => rw [HG.out]; simp only [List.length_cons]; omega
        case rel => exact ⟨A1, A2, c1 - 1, c2, r, rb, out, rfl, rfl, rfl, by simp at k1; omega, by omega, k3, k4, HRA1.out, HBW.out, by rw [HM.out, HMU.out], by simp at hlen ⊢; omega, HOW.out, by first | exact hbw | exact below_drew hbw | exact below_drew (below_drew hbw)⟩
      · obtain ⟨a, r, r', rfl, rfl, hmu⟩ := headsI_zero ho
        have HMU := Lib.hid hmu
        have ho1 : (headsE (a :: r) (a :: r') ≤ 0) := by omega
        have ho2 : (0 ≤ headsE (a :: r) (a :: r')) := by omega
        have HRA := HA.out.head
        have HRB := HB.out.head
        clear hmu
        obtain ⟨b, off, rfl, hbb, d0, d1, d2, ht⟩ := HRA
        have HT := Lib.hid ht
        clear ht
        obtain ⟨b', off', rfl, hbb', d0', d1', d2', ht'⟩ := HRB
        have HT' := Lib.hid ht'
        clear ht'
        generalize hoe : headsE (a :: r) (a :: r') = o at ho ho1 ho2
        have HOE := Lib.hid hoe
        clear hoe
        go_wp2_with fail
        refine (netHeads (some ⟨b, off, none⟩) (some ⟨b', off', none⟩) c1 c2 (a :: r) (a :: r') _ (by simp at hlen ⊢; omega) (by simp at hlen ⊢; omega) (HA.out.more hbz) (HB.out.more hbz)).mono ?_
        rintro e w2 ⟨rfl, hb2⟩
        rw [HOE.out]
        have hz2 := hb2.size
        have e0 := (hb2.cell (p := ⟨b, off, none⟩) (by show b < _; omega)).trans d0
        have e0' := (hb2.cell (p := ⟨b', off', none⟩) (by show b' < _; omega)).trans d0'
        have e1 := (hb2.cell (p := ⟨b, off + 1, none⟩) (by show b < _; omega)).trans d1
        have e1' := (hb2.cell (p := ⟨b', off' + 1, none⟩) (by show b' < _; omega)).trans d1'
        have e2 := (hb2.cell (p := ⟨b, off + 2, none⟩) (by show b < _; omega)).trans d2
        have e2' := (hb2.cell (p := ⟨b', off' + 2, none⟩) (by show b' < _; omega)).trans d2'
        clear d0 d1 d2 d0' d1' d2'
        obtain ⟨w3, hw3⟩ : ∃ w3, w3 = w2.alloc (.cells #[.int .i64 0, .int .i64 0, .int .i64 0] 24) := ⟨_, rfl⟩
        have hx : w3.heap[w2.heap.size]? = some (.cells #[.int .i64 0, .int .i64 0, .int .i64 0] 24 (0, 0)) := by rw [hw3]; exact heap_alloc_new _ _
        have hb3 : Below w2.heap.size w2 w3 := by rw [hw3]; exact (Below.refl _ _).alloc (Nat.le_refl _) _
        have hz3 : w2.heap.size < w3.heap.size := by rw [hw3]; simp
        obtain ⟨W, hW, hxW, hbW, hzW⟩ := put3 hx (.int .i64 a.x) (.int .i64 a.y) (.int .i64 a.s)
        obtain ⟨f0, f1, f2, ff⟩ := three_of_block hx
        obtain ⟨g0, g1, g2, gf⟩ := three_of_block hxW
        obtain ⟨V, hV, hxV, hbV, hzV⟩ := put3 hxW (.int .i64 a.x) (.int .i64 a.y) (.int .i64 a.s)
        obtain ⟨q0, q1, q2, _⟩ := three_of_block hxV
        have HVV := Lib.hid hV
        clear hV hzV
        have HW3 := Lib.hid hw3
        have HWW := Lib.hid hW
        have HZW := Lib.hid hzW
        clear hzW
        replace e0 := (hb3.cell (p := ⟨b, off, none⟩) (by show b < _; omega)).trans e0
        replace e0' := (hbW.cell (p := ⟨b', off', none⟩) (by show b' < _; omega)).trans ((hb3.cell (p := ⟨b', off', none⟩) (by show b' < _; omega)).trans e0')
        replace e1 := (hb3.cell (p := ⟨b, off + 1, none⟩) (by show b < _; omega)).trans e1
        replace e1' := (hbW.cell (p := ⟨b', off' + 1, none⟩) (by show b' < _; omega)).trans ((hb3.cell (p := ⟨b', off' + 1, none⟩) (by show b' < _; omega)).trans e1')
        replace e2 := (hb3.cell (p := ⟨b, off + 2, none⟩) (by show b < _; omega)).trans e2
        replace e2' := (hbW.cell (p := ⟨b', off' + 2, none⟩) (by show b' < _; omega)).trans ((hb3.cell (p := ⟨b', off' + 2, none⟩) (by show b' < _; omega)).trans e2')
        have hq : Below wr.heap.size wr W := (hb2.trans (hb3.mono hz2)).trans (hbW.mono hz2)
        have hqv : Below wr.heap.size wr V := hq.trans (hbV.mono hz2)
        have HOW := Lib.hid (ownsRow_below HO.out hqv)
        have hbw := hb.trans (hqv.mono hbz)
        have HTW := Lib.hid ((HT.out.below (hqv.mono hbz)))
        have HBW := Lib.hid ((HT'.out.below (hqv.mono hbz)))
        have hi4 : (0 : Int) < (r'.length : Int) + 1 := by omega
        have hi5 : (1 : Int) ≤ (r'.length : Int) + 1 := by omega
        have hi6 : (r'.length : Int) + 1 ≤ (c2 : Int) := by simp at k3; omega
        have hi1 : (0 : Int) < (r.length : Int) + 1 := by omega
        have hi2 : (1 : Int) ≤ (r.length : Int) + 1 := by omega
        have hi3 : (r.length : Int) + 1 ≤ (c1 : Int) := by simp at k1; omega
        clear hw3 hW hx hxW
        go_wp2_with fail
        rw [← HW3.out]
        go_region
        rw [← HWW.out]
        generalize hA1 : (if c1 = 1 then some (⟨b, off, none⟩ : Addr) else some ⟨b, off + 3, none⟩) = A1
        have HRA1 := Lib.hid (HTW.out.cut1 (c := c1) (by simp at k1; omega) A1 (fun hne => by rw [← hA1, if_neg hne]))
        clear hA1 e0 e1 e2
        go_wp2_with fail
        go_region
        rw [← HVV.out]
        generalize hA3 : (if c2 = 1 then some (⟨b', off', none⟩ : Addr) else some ⟨b', off' + 3, none⟩) = A3
        have HRA3 := Lib.hid (HBW.out.cut1 (c := c2) (by simp at k3; omega) A3 (fun hne => by rw [← hA3, if_neg hne]))
        clear hA3 e0' e1' e2'
        go_wp2_with (first
          | (go_at_call 110; refine (keepI11 _).mono ?_; rintro e w' ⟨rfl, rfl⟩)
          | (at_builtin; refine wpList_append_own _ rfl _ _ 22 rfl w.heap.size 24 ib (.agg #[.int .i64 0, .int .i64 0, .int .i64 0]) 3 24 Tryz.underlying22 HIB.out HB0.out HB1.out HB2.out rfl (by decide) _ _ _ rfl (by exact HOW.out.alloc _) ⟨V.heap.size, 0, none⟩ 1 1 [.int .i64 a.x, .int .i64 a.y, .int .i64 a.s] rfl rfl ?c1 ?c2 ?c3 ?c4 ?c5 ?_))
        case c1 => exact three_new _ _ _ _ _
        case c2 => intro u hu; simp at hu; rcases hu with rfl | rfl | rfl <;> rfl
        case c3 => unfold maxLen; simp at hlen; omega
        case c4 => simp at hlen; omega
        case c5 => have := hbw.size; simp; omega
        intro v' w4 hown4 hgrow4 _
        have hq4 : Below w.heap.size w w4 := (below_drew (below_drew (hbw.alloc hbw.size (.cells #[.int .i64 a.x, .int .i64 a.y, .int .i64 a.s] 24)))).grown hgrow4 (by have := hbw.size; simp; omega) (ownsRow_base HOW.out)
        have hsame : ∀ {X : Option Addr} {q : List Ck.Bar}, RB V w.heap.size X q → RB w4 w.heap.size X q := fun hX => by
          intro hl
          obtain ⟨b9, off9, e', hb', hc'⟩ := hX hl
          have hk : ∀ o, w4.cell? ⟨b9, o, none⟩ = V.cell? ⟨b9, o, none⟩ := fun o => (hq4.cell (p := ⟨b9, o, none⟩) hb').trans (hbw.cell (p := ⟨b9, o, none⟩) hb').symm
          exact ⟨b9, off9, e', hb', fun i hi => ⟨(hk _).trans (hc' i hi).1, (hk _).trans (hc' i hi).2.1, (hk _).trans (hc' i hi).2.2⟩⟩
        have HRA4 := Lib.hid (hsame HRA1.out)
        have HRB4 := Lib.hid (hsame HRA3.out)
        have HO4 := Lib.hid hown4
        clear hown4 hgrow4 hsame
        go_wp2
        go_roundg (r.length + r'.length)
        case measure => rw [HG.out]; simp only [List.length_cons]; omega
        case rel => exact ⟨A1, A3, c1 - 1, c2 - 1, r, r', out ++ [a], rfl, rfl, rfl, by simp at k1; omega, by omega, by simp at k3; omega, by omega, HRA4.out, HRB4.out, by rw [HM.out, HMU.out]; simp, by simp at hlen ⊢; omega, by rw [bcellsL_snoc, List.length_append]; exact HO4.out, hq4⟩
      · obtain ⟨a, r, rfl, hmu⟩ := headsI_pos ho hne
        rcases ra with _ | ⟨x, rx⟩
        · skip
          have HMU := Lib.hid hmu
          have ho1 : ¬ (headsE ([] : List Ck.Bar) (a :: r) ≤ 0) := by omega
          have ho2 : (0 ≤ headsE ([] : List Ck.Bar) (a :: r)) := by omega
          have HRA := HB.out.head
          clear hmu
          obtain ⟨b, off, rfl, hbb, d0, d1, d2, ht⟩ := HRA
          have HT := Lib.hid ht
          clear ht
          generalize hoe : headsE ([] : List Ck.Bar) (a :: r) = o at ho ho1 ho2
          have hd1 : decide (o ≤ 0) = false := decide_eq_false (by omega)
          have HOE := Lib.hid hoe
          clear hoe
          go_wp2_with fail
          refine (netHeads A1 (some ⟨b, off, none⟩) c1 c2 ([] : List Ck.Bar) (a :: r) _ (by simp only [List.length_cons, List.length_nil] at hlen ⊢; omega) (by simp only [List.length_cons, List.length_nil] at hlen ⊢; omega) (HA.out.more hbz) (HB.out.more hbz)).mono ?_
          rintro e w2 ⟨rfl, hb2⟩
          rw [HOE.out]
          have hz2 := hb2.size
          have e0 := (hb2.cell (p := ⟨b, off, none⟩) (by show b < _; omega)).trans d0
          have e1 := (hb2.cell (p := ⟨b, off + 1, none⟩) (by show b < _; omega)).trans d1
          have e2 := (hb2.cell (p := ⟨b, off + 2, none⟩) (by show b < _; omega)).trans d2
          clear d0 d1 d2
          obtain ⟨w3, hw3⟩ : ∃ w3, w3 = w2.alloc (.cells #[.int .i64 0, .int .i64 0, .int .i64 0] 24) := ⟨_, rfl⟩
          have hx : w3.heap[w2.heap.size]? = some (.cells #[.int .i64 0, .int .i64 0, .int .i64 0] 24 (0, 0)) := by rw [hw3]; exact heap_alloc_new _ _
          have hb3 : Below w2.heap.size w2 w3 := by rw [hw3]; exact (Below.refl _ _).alloc (Nat.le_refl _) _
          have hz3 : w2.heap.size < w3.heap.size := by rw [hw3]; simp
          obtain ⟨W, hW, hxW, hbW, hzW⟩ := put3 hx (.int .i64 a.x) (.int .i64 a.y) (.int .i64 a.s)
          obtain ⟨f0, f1, f2, ff⟩ := three_of_block hx
          obtain ⟨g0, g1, g2, _⟩ := three_of_block hxW
          have HW3 := Lib.hid hw3
          have HWW := Lib.hid hW
          have HZW := Lib.hid hzW
          clear hzW
          replace e0 := (hb3.cell (p := ⟨b, off, none⟩) (by show b < _; omega)).trans e0
          replace e1 := (hb3.cell (p := ⟨b, off + 1, none⟩) (by show b < _; omega)).trans e1
          replace e2 := (hb3.cell (p := ⟨b, off + 2, none⟩) (by show b < _; omega)).trans e2
          have hq : Below wr.heap.size wr W := (hb2.trans (hb3.mono hz2)).trans (hbW.mono hz2)
          have HOW := Lib.hid (ownsRow_below HO.out hq)
          have hbw := hb.trans (hq.mono hbz)
          have HTW := Lib.hid ((HT.out.below (hq.mono hbz)))
          have HBW := Lib.hid ((HA.out.below (hq.mono hbz)))
          have hi1 : (0 : Int) < (r.length : Int) + 1 := by omega
          have hi2 : (1 : Int) ≤ (r.length : Int) + 1 := by omega
          have hi3 : (r.length : Int) + 1 ≤ (c2 : Int) := by simp at k3; omega
          clear hw3 hW hx hxW
          go_wp2_with fail
          rw [← HW3.out]
          go_region
          rw [← HWW.out]
          generalize hA1 : (if c2 = 1 then some (⟨b, off, none⟩ : Addr) else some ⟨b, off + 3, none⟩) = A3
          have HRA1 := Lib.hid (HTW.out.cut1 (c := c2) (by simp at k3; omega) A3 (fun hne => by rw [← hA1, if_neg hne]))
          clear hA1 e0 e1 e2
          go_wp2_with (go_at_call 110; refine (keepI01 _).mono ?_; rintro e w' ⟨rfl, rfl⟩)
          go_roundg (([] : List Ck.Bar).length + r.length)
          case measure => rw [HG.out]; simp only [List.length_cons, List.length_nil]; omega
          case rel => exact ⟨A1, A3, c1, c2 - 1, ([] : List Ck.Bar), r, out, rfl, rfl, rfl, k1, k2, by simp at k3; omega, by omega, HBW.out, HRA1.out, by rw [HM.out, HMU.out], by simp at hlen ⊢; omega, HOW.out, by first | exact hbw | exact below_drew hbw | exact below_drew (below_drew hbw)⟩
        · skip
          have HMU := Lib.hid hmu
          have ho1 : ¬ (headsE (x :: rx) (a :: r) ≤ 0) := by omega
          have ho2 : (0 ≤ headsE (x :: rx) (a :: r)) := by omega
          have HRA := HB.out.head
          clear hmu
          obtain ⟨b, off, rfl, hbb, d0, d1, d2, ht⟩ := HRA
          have HT := Lib.hid ht
          clear ht
          generalize hoe : headsE (x :: rx) (a :: r) = o at ho ho1 ho2
          have hd1 : decide (o ≤ 0) = false := decide_eq_false (by omega)
          have HOE := Lib.hid hoe
          clear hoe
          go_wp2_with fail
          refine (netHeads A1 (some ⟨b, off, none⟩) c1 c2 (x :: rx) (a :: r) _ (by simp only [List.length_cons] at hlen ⊢; omega) (by simp only [List.length_cons] at hlen ⊢; omega) (HA.out.more hbz) (HB.out.more hbz)).mono ?_
          rintro e w2 ⟨rfl, hb2⟩
          rw [HOE.out]
          have hz2 := hb2.size
          have e0 := (hb2.cell (p := ⟨b, off, none⟩) (by show b < _; omega)).trans d0
          have e1 := (hb2.cell (p := ⟨b, off + 1, none⟩) (by show b < _; omega)).trans d1
          have e2 := (hb2.cell (p := ⟨b, off + 2, none⟩) (by show b < _; omega)).trans d2
          clear d0 d1 d2
          obtain ⟨w3, hw3⟩ : ∃ w3, w3 = w2.alloc (.cells #[.int .i64 0, .int .i64 0, .int .i64 0] 24) := ⟨_, rfl⟩
          have hx : w3.heap[w2.heap.size]? = some (.cells #[.int .i64 0, .int .i64 0, .int .i64 0] 24 (0, 0)) := by rw [hw3]; exact heap_alloc_new _ _
          have hb3 : Below w2.heap.size w2 w3 := by rw [hw3]; exact (Below.refl _ _).alloc (Nat.le_refl _) _
          have hz3 : w2.heap.size < w3.heap.size := by rw [hw3]; simp
          obtain ⟨W, hW, hxW, hbW, hzW⟩ := put3 hx (.int .i64 a.x) (.int .i64 a.y) (.int .i64 a.s)
          obtain ⟨f0, f1, f2, ff⟩ := three_of_block hx
          obtain ⟨g0, g1, g2, _⟩ := three_of_block hxW
          have HW3 := Lib.hid hw3
          have HWW := Lib.hid hW
          have HZW := Lib.hid hzW
          clear hzW
          replace e0 := (hb3.cell (p := ⟨b, off, none⟩) (by show b < _; omega)).trans e0
          replace e1 := (hb3.cell (p := ⟨b, off + 1, none⟩) (by show b < _; omega)).trans e1
          replace e2 := (hb3.cell (p := ⟨b, off + 2, none⟩) (by show b < _; omega)).trans e2
          have hq : Below wr.heap.size wr W := (hb2.trans (hb3.mono hz2)).trans (hbW.mono hz2)
          have HOW := Lib.hid (ownsRow_below HO.out hq)
          have hbw := hb.trans (hq.mono hbz)
          have HTW := Lib.hid ((HT.out.below (hq.mono hbz)))
          have HBW := Lib.hid ((HA.out.below (hq.mono hbz)))
          have hi1 : (0 : Int) < (r.length : Int) + 1 := by omega
          have hi2 : (1 : Int) ≤ (r.length : Int) + 1 := by omega
          have hi3 : (r.length : Int) + 1 ≤ (c2 : Int) := by simp at k3; omega
          clear hw3 hW hx hxW
          go_wp2_with fail
          rw [← HW3.out]
          go_region
          rw [← HWW.out]
          generalize hA1 : (if c2 = 1 then some (⟨b, off, none⟩ : Addr) else some ⟨b, off + 3, none⟩) = A3
          have HRA1 := Lib.hid (HTW.out.cut1 (c := c2) (by simp at k3; omega) A3 (fun hne => by rw [← hA1, if_neg hne]))
          clear hA1 e0 e1 e2
          go_wp2_with (go_at_call 110; refine (keepI01 _).mono ?_; rintro e w' ⟨rfl, rfl⟩)
          go_roundg ((x :: rx).length + r.length)
          case measure => rw [HG.out]; simp only [List.length_cons]; omega
          case rel => exact ⟨A1, A3, c1, c2 - 1, (x :: rx), r, out, rfl, rfl, rfl, k1, k2, by simp at k3; omega, by omega, HBW.out, HRA1.out, by rw [HM.out, HMU.out], by simp at hlen ⊢; omega, HOW.out, by first | exact hbw | exact below_drew hbw | exact below_drew (below_drew hbw)⟩
    · have h1 : ra = [] := List.eq_nil_of_length_eq_zero (by omega)
      have h2 : rb = [] := List.eq_nil_of_length_eq_zero (by omega)
      subst h1
      subst h2
      go_wp2
      go_ret
      have hfin := HM.out
      simp only [mergeI, List.append_nil] at hfin
      exact ⟨_, rfl, by rw [hfin]; exact HO.out, hb⟩
end Go.Proofs.YtdeplhihcifmeaaGreatDoor

/- Meet at valid nets. -/
namespace Go.Proofs.YtdeplhihcifmeaaGreatDoor
open Go.RowKit

def MitPost (l l' : List Ck.Bar) (w : World) (e : Ending) (w' : World) : Prop :=
  ∃ v, e = .returned (.tuple #[v, .int .i64 0]) ∧ w'.ownsRow w.heap.size 24 3 v (mergeI l l').length (bcellsL (mergeI l l')) ∧ Below w.heap.size w w'

set_option maxHeartbeats 2000000 in
set_option maxRecDepth 100000 in
theorem netMergedI (A A' : Option Addr) (c c' : Nat) (l l' : List Ck.Bar) (w : World) (hl : l.length ≤ 4096) (hl' : l'.length ≤ 4096) (hc : l.length ≤ c) (hcm : c ≤ maxLen) (hc' : l'.length ≤ c') (hcm' : c' ≤ maxLen) (hN : Ck.Net l) (hN' : Ck.Net l') (h : RB w w.heap.size A l) (h' : RB w w.heap.size A' l') :
    Calls Tryz.prog 107 #[.slice A l.length c, .slice A' l'.length c', .func (.func 110) #[] #[]] w (MitPost l l' w) := by
  have HR := Lib.hid h
  have HR' := Lib.hid h'
  have HE := Lib.hid ((netE_zero l).2 ⟨hl, hN⟩)
  have HE' := Lib.hid ((netE_zero l').2 ⟨hl', hN'⟩)
  clear h h' hN hN'
  go_enter Tryz.func107, Tryz.ntmps107
  go_wp2_with fail
  refine (netCheckNet A c l _ hl hc hcm HR.out).mono ?_
  rintro e w1 ⟨rfl, hb1⟩
  rw [HE.out]
  go_wp2_with fail
  refine (netCheckNet A' c' l' _ hl' hc' hcm' ((HR'.out.below hb1).more hb1.size)).mono ?_
  rintro e w2 ⟨rfl, hb2⟩
  rw [HE'.out]
  have hq2 := hb1.trans (hb2.mono hb1.size)
  go_wp2_with fail
  refine (netFirst2 _ _ 0 0 32 _ (by exact heap_alloc_new _ _)).mono ?_
  rintro e w3 ⟨rfl, rfl⟩
  rw [show firstE [0, 0] = 0 from rfl]
  have hq3 := hq2.alloc hq2.size (.cells #[.int .i64 0, .int .i64 0] 32)
  go_wp2_with fail
  refine (netMergeI A A' c c' l l' _ hl hl' hc hcm hc' hcm' ((HR.out.below hq3).more hq3.size) ((HR'.out.below hq3).more hq3.size)).mono ?_
  rintro e w4 ⟨v, rfl, hown, hb4⟩
  have HO := Lib.hid (ownsRow_mono hown hq3.size)
  clear hown
  go_wp2
  go_ret2
  exact ⟨v, rfl, HO.out, hq3.trans (hb4.mono hq3.size)⟩

set_option maxHeartbeats 2000000 in
set_option maxRecDepth 100000 in
theorem netMeet (A A' : Option Addr) (c c' : Nat) (l l' : List Ck.Bar) (w : World) (hl : l.length ≤ 4096) (hl' : l'.length ≤ 4096) (hc : l.length ≤ c) (hcm : c ≤ maxLen) (hc' : l'.length ≤ c') (hcm' : c' ≤ maxLen) (hN : Ck.Net l) (hN' : Ck.Net l') (h : RB w w.heap.size A l) (h' : RB w w.heap.size A' l') :
    Calls Tryz.prog 59 #[.slice A l.length c, .slice A' l'.length c'] w (MitPost l l' w) := by
  have ex0 : ∀ (a b : Value) (w : World), (Instr.extract (.tuple #[a, b]) 0).run Tryz.prog w = .ok a w := fun _ _ _ => by kernel_rfl
  have ex1 : ∀ (a b : Value) (w : World), (Instr.extract (.tuple #[a, b]) 1).run Tryz.prog w = .ok b w := fun _ _ _ => by kernel_rfl
  go_enter Tryz.func59, Tryz.ntmps59
  go_wp2_with fail
  refine (netMergedI A A' c c' l l' _ hl hl' hc hcm hc' hcm' hN hN' h h').mono ?_
  rintro e w1 ⟨v, rfl, hown, hb1⟩
  obtain ⟨a, cv, rfl, _, _⟩ := own_slice hown
  have HO := Lib.hid hown
  clear hown
  generalize hn : (mergeI l l').length = n
  have HN := Lib.hid hn
  clear hn
  go_wp2
  go_ret2
  exact ⟨.slice a n cv, rfl, by have h9 := HO.out; rw [HN.out] at h9 ⊢; exact h9, hb1⟩

end Go.Proofs.YtdeplhihcifmeaaGreatDoor

/- Slices that the call owns, or that read so; Union. -/
namespace Go.Proofs.YtdeplhihcifmeaaGreatDoor
open Go.RowKit Ck

theorem unionS (A A' : Option Addr) (c c' : Nat) (l l' u : List Bar) (w : World) (hu : mergeU l l' = u) (hl : l.length ≤ 2000) (hl' : l'.length ≤ 2000) (hN : Net l) (hN' : Net l') (h : OKS w A c l) (h' : OKS w A' c' l') :
    Calls Tryz.prog 57 #[.slice A l.length c, .slice A' l'.length c'] w (PairPost u w) :=
  (netUnion A A' c c' l l' w (by omega) (by omega) h.1 h.2.1 h'.1 h'.2.1 hN hN' h.2.2.2 h'.2.2.2 (by have := mergeU_length l l'; omega)).mono fun e w' ⟨v, he, hrow, hb⟩ => by
    subst hu
    obtain ⟨a, c', rfl, hok⟩ := own_oks hrow
    exact ⟨a, c', he, hok, hb⟩
end Go.Proofs.YtdeplhihcifmeaaGreatDoor

/- Minus, of slices that the call owns or that read so. -/
namespace Go.Proofs.YtdeplhihcifmeaaGreatDoor
open Go.RowKit Ck

theorem minusS (A A' : Option Addr) (c c' : Nat) (l l' u : List Bar) (w : World) (hu : mergeM l l' = u) (hl : l.length ≤ 2000) (hl' : l'.length ≤ 2000) (hN : Net l) (hN' : Net l') (h : OKS w A c l) (h' : OKS w A' c' l') :
    Calls Tryz.prog 58 #[.slice A l.length c, .slice A' l'.length c'] w (PairPost u w) :=
  (netMinus A A' c c' l l' w (by omega) (by omega) h.1 h.2.1 h'.1 h'.2.1 hN hN' h.2.2.2 h'.2.2.2).mono fun e w' ⟨v, he, hrow, hb⟩ => by
    subst hu
    obtain ⟨a, c', rfl, hok⟩ := own_oks hrow
    exact ⟨a, c', he, hok, hb⟩
end Go.Proofs.YtdeplhihcifmeaaGreatDoor

/- Union, Minus, Meet of the program with an error; what they return of valid nets, in the reference's words. -/
namespace Go.Proofs.YtdeplhihcifmeaaGreatDoor
open Go.RowKit Go.Shelf Ck

theorem mergeM_eq : ∀ (l l' : List Bar), l.Pairwise Blt → l'.Pairwise Blt → mergeM l l' = l.filter (fun b => !(decide (b ∈ l')))
  | [], l', _, _ => by simp [mergeM]
  | a :: r, [], _, _ => by rw [mergeM, List.filter_eq_self.2 (by simp)]
  | a :: r, b :: r', h, h' => by
    obtain ⟨h1, h2⟩ := List.pairwise_cons.1 h
    obtain ⟨k1, k2⟩ := List.pairwise_cons.1 h'
    rw [mergeM]
    split
    · rename_i hc
      have hab := (cmpB_lt_iff a b).1 hc
      have ha : a ∉ b :: r' := fun hm => by
        rcases List.mem_cons.1 hm with e | e
        · subst e; exact hab.irrefl
        · exact (hab.trans (k1 a e)).irrefl
      rw [mergeM_eq r (b :: r') h2 h', List.filter_cons_of_pos (by simpa using ha)]
    · rename_i hc
      split
      · rename_i hd
        have hba : Blt b a := by
          rcases Blt.tri a b with h | h | h
          · exact absurd ((cmpB_lt_iff a b).2 h) hc
          · rw [(cmpB_zero a b).2 h] at hd; omega
          · exact h
        rw [mergeM_eq (a :: r) r' h k2]
        refine List.filter_congr fun x hx => ?_
        have hxb : x ≠ b := by
          rintro rfl
          rcases List.mem_cons.1 hx with e | e
          · subst e; exact hba.irrefl
          · exact (hba.trans (h1 x e)).irrefl
        simp [hxb]
      · have e : a = b := (cmpB_zero a b).1 (by omega)
        subst e
        rw [mergeM_eq r r' h2 k2, List.filter_cons_of_neg (by simp)]
        refine List.filter_congr fun x hx => ?_
        have hxb : x ≠ a := by
          rintro rfl
          exact (h1 x hx).irrefl
        simp [hxb]
termination_by l l' => l.length + l'.length
theorem mergeI_eq : ∀ (l l' : List Bar), l.Pairwise Blt → l'.Pairwise Blt → mergeI l l' = l.filter (fun b => decide (b ∈ l'))
  | [], l', _, _ => by simp [mergeI]
  | a :: r, [], _, _ => by simp [mergeI]
  | a :: r, b :: r', h, h' => by
    obtain ⟨h1, h2⟩ := List.pairwise_cons.1 h
    obtain ⟨k1, k2⟩ := List.pairwise_cons.1 h'
    rw [mergeI]
    split
    · rename_i hc
      have hab := (cmpB_lt_iff a b).1 hc
      have ha : a ∉ b :: r' := fun hm => by
        rcases List.mem_cons.1 hm with e | e
        · subst e; exact hab.irrefl
        · exact (hab.trans (k1 a e)).irrefl
      rw [mergeI_eq r (b :: r') h2 h', List.filter_cons_of_neg (by simpa using ha)]
    · rename_i hc
      split
      · rename_i hd
        have hba : Blt b a := by
          rcases Blt.tri a b with h | h | h
          · exact absurd ((cmpB_lt_iff a b).2 h) hc
          · rw [(cmpB_zero a b).2 h] at hd; omega
          · exact h
        rw [mergeI_eq (a :: r) r' h k2]
        refine List.filter_congr fun x hx => ?_
        have hxb : x ≠ b := by
          rintro rfl
          rcases List.mem_cons.1 hx with e | e
          · subst e; exact hba.irrefl
          · exact (hba.trans (h1 x e)).irrefl
        simp [hxb]
      · have e : a = b := (cmpB_zero a b).1 (by omega)
        subst e
        rw [mergeI_eq r r' h2 k2, List.filter_cons_of_pos (by simp)]
        congr 1
        refine List.filter_congr fun x hx => ?_
        have hxb : x ≠ a := by
          rintro rfl
          exact (h1 x hx).irrefl
        simp [hxb]
termination_by l l' => l.length + l'.length
theorem meetS (A A' : Option Addr) (c c' : Nat) (l l' u : List Bar) (w : World) (hu : mergeI l l' = u) (hl : l.length ≤ 2000) (hl' : l'.length ≤ 2000) (hN : Net l) (hN' : Net l') (h : OKS w A c l) (h' : OKS w A' c' l') :
    Calls Tryz.prog 59 #[.slice A l.length c, .slice A' l'.length c'] w (PairPost u w) :=
  (netMeet A A' c c' l l' w (by omega) (by omega) h.1 h.2.1 h'.1 h'.2.1 hN hN' h.2.2.2 h'.2.2.2).mono fun e w' ⟨v, he, hrow, hb⟩ => by
    subst hu
    obtain ⟨a, c', rfl, hok⟩ := own_oks hrow
    exact ⟨a, c', he, hok, hb⟩
end Go.Proofs.YtdeplhihcifmeaaGreatDoor

/- Motions: plain mathematics of sorted images, and the error of a shifted net. -/
namespace Go.Proofs.YtdeplhihcifmeaaGreatDoor
open Ck Go.RowKit

theorem sort_srt {l : List Bar} (hn : l.Nodup) : sortBars l = srtL l :=
  (srtL_eq (sortBars_strict hn) fun b => ((sortBars_perm l).mem_iff).symm).symm
theorem mirB_inj {a b : Bar} (h : mirB a = mirB b) : a = b := by
  simp only [mirB, Bar.mk.injEq] at h
  exact Bar.ext' (by omega) h.2.1 (by omega)
theorem turnB_inj {a b : Bar} (ha : a.s = 1 ∨ a.s = -1) (hb : b.s = 1 ∨ b.s = -1) (h : turnB a = turnB b) : a = b := by
  have e1 := congrArg Bar.x h
  have e2 := congrArg Bar.y h
  have e3 := congrArg Bar.s h
  rcases ha with ha | ha <;> rcases hb with hb | hb <;> simp [turnB, ha, hb] at e1 e2 e3
  · exact Bar.ext' (by omega) (by omega) (by rw [ha, hb])
  · exact Bar.ext' (by omega) (by omega) (by rw [ha, hb])
theorem map_nodup {f : Bar → Bar} {l : List Bar} (hn : l.Nodup) (hi : ∀ a ∈ l, ∀ b ∈ l, f a = f b → a = b) : (l.map f).Nodup :=
  List.pairwise_map.2 (hn.imp_of_mem fun ha hb hne he => hne (hi _ ha _ hb he))
theorem mirror_srt {l : List Bar} (hN : Net l) : sortBars (l.map mirB) = srtL (l.map mirB) :=
  sort_srt (map_nodup hN.nodup fun _ _ _ _ h => mirB_inj h)
theorem turn_net {l : List Bar} (hN : Net l) : ∀ n, (turnN n l).Pairwise Blt
  | 0 => hN.2
  | n + 1 => by
    have hok := turnN_ok hN.1 n
    have hnd : (turnN n l).Nodup := (turn_net hN n).imp fun {a b} (k : Blt a b) e => by subst e; exact k.irrefl
    exact sortBars_strict (map_nodup hnd fun a ha b hb h => turnB_inj ((hok a ha).2.1.symm) ((hok b hb).2.1.symm) h)
theorem shift_pw {l : List Bar} (dx dy : Int) (h : l.Pairwise Blt) : (l.map (Bar.shift dx dy)).Pairwise Blt :=
  List.pairwise_map.2 (h.imp fun {a b} k => by unfold Blt at *; simp only [Bar.shift]; omega)
/-- A shifted bar has its ends in their range. -/
def inB (dx dy : Int) (b : Bar) : Bool := !farB (b.x + dx) && !farB (b.y + dy) && !farB (b.x + dx + b.s) && !farB (b.y + dy + 1)
theorem bar_shift {b : Bar} (h : okBar b) {dx dy : Int} (hp : (dx + dy) % 2 = 0) : barE (b.x + dx) (b.y + dy) b.s = if inB dx dy b then 0 else 3 := by
  obtain ⟨⟨-, -, h5⟩, hs, -, -⟩ := h
  simp only [Bar.lo] at h5
  have hs' : b.s = 1 ∨ b.s = -1 := hs.symm
  have e1 : evenB (b.x + dx) (b.y + dy) = true := by simp only [evenB, decide_eq_true_eq]; omega
  have e2 : evenB (b.x + dx + b.s) (b.y + dy + 1) = true := by simp only [evenB, decide_eq_true_eq]; omega
  unfold barE inB
  rw [if_pos hs']
  unfold knotE
  rw [e1, e2]
  cases farB (b.x + dx) <;> cases farB (b.y + dy) <;> cases farB (b.x + dx + b.s) <;> cases farB (b.y + dy + 1) <;> simp
theorem netFrom_shift {dx dy : Int} (hp : (dx + dy) % 2 = 0) : ∀ (l : List Bar) (p : Option Bar), (∀ b ∈ l, okBar b) → l.Pairwise Blt → (∀ q, p = some q → ∀ b ∈ l, Blt q b) →
    netFrom (p.map (Bar.shift dx dy)) (l.map (Bar.shift dx dy)) = if l.all (inB dx dy) then 0 else 3
  | [], none, _, _, _ => rfl
  | [], some _, _, _, _ => rfl
  | b :: r, p, hok, hpw, hpp => by
    obtain ⟨h1, h2⟩ := List.pairwise_cons.1 hpw
    have ih := netFrom_shift hp r (some b) (fun x hx => hok x (by simp [hx])) h2 (fun q hq x hx => by cases hq; exact h1 x hx)
    have hb := bar_shift (hok b (by simp)) hp
    have hle : ∀ q, p = some q → lessB (q.shift dx dy).x (q.shift dx dy).y (q.shift dx dy).s (b.shift dx dy).x (b.shift dx dy).y (b.shift dx dy).s = true := fun q hq => by
      have hqb := hpp q hq b (by simp)
      refine (lessB_iff (q.shift dx dy) (b.shift dx dy)).2 ?_
      unfold Blt at *; simp only [Bar.shift]; omega
    rw [List.map_cons, List.all_cons]
    have hb' : barE (b.shift dx dy).x (b.shift dx dy).y (b.shift dx dy).s = if inB dx dy b then 0 else 3 := hb
    cases hi : inB dx dy b
    · rw [hi] at hb'
      simp only [Bool.false_and, Bool.false_eq_true, if_false] at hb' ⊢
      cases p with
      | none => rw [Option.map_none, netFrom, if_neg (by rw [hb']; decide), hb']
      | some q => rw [Option.map_some, netFrom, if_neg (by rw [hb']; decide), hb']
    · rw [hi] at hb'
      simp only [if_true, Bool.true_and] at hb' ⊢
      rw [← ih]
      cases p with
      | none => rw [Option.map_none, netFrom, if_pos hb']; rfl
      | some q => rw [Option.map_some, netFrom, if_pos hb', if_pos (hle q rfl)]; rfl
theorem netE_shift {l : List Bar} (hN : Net l) (hl : l.length ≤ 4096) {dx dy : Int} (hp : (dx + dy) % 2 = 0) : netE (l.map (Bar.shift dx dy)) = if l.all (inB dx dy) then 0 else 3 := by
  rw [netE, if_neg (by rw [List.length_map]; omega)]
  exact netFrom_shift hp l none hN.1 hN.2 (fun q h => by cases h)
theorem knot_even {x y : Int} (hk : knotE x y = 0) : (x + y) % 2 = 0 := by
  unfold knotE at hk
  split at hk
  · cases hk
  · split at hk
    · cases hk
    · split at hk
      · rename_i h; simpa [evenB] using h
      · cases hk
end Go.Proofs.YtdeplhihcifmeaaGreatDoor

/- The law of NettingMotions. -/
namespace Go.Proofs.YtdeplhihcifmeaaGreatDoor
open Go.RowKit Go.Shelf Ck

theorem netShiftS (A : Option Addr) (c : Nat) (l u : List Bar) (dx dy : Int) (w : World) (hu : l.map (Bar.shift dx dy) = u) (hl : l.length ≤ 4096) (hN : Net l) (hF : Net u) (hK : knotE dx dy = 0) (h : OKS w A c l) :
    Calls Tryz.prog 63 #[.slice A l.length c, .agg #[.int .i64 dx, .int .i64 dy]] w (PairPost u w) := by
  obtain ⟨k1, k2, k3, k4⟩ := knotE_zero hK
  subst hu
  exact (netShiftG A c l w hl h.1 h.2.1 dx dy hN hF hK (by omega) (by omega) (by omega) (by omega) h.2.2.2).mono fun e w' ⟨v, he, hrow, hb⟩ => by
    obtain ⟨a, c', rfl, hok⟩ := own_oks hrow
    exact ⟨a, c', he, hok, hb⟩
theorem netTurnS (A : Option Addr) (c : Nat) (t r : Int) (l u : List Bar) (q : Nat) (w : World) (hu : turnN q l = u) (hl : l.length ≤ 4096) (hr : t.tmod 4 = r) (hq : (r + 4).tmod 4 = (q : Int)) (hN : Net l) (h : OKS w A c l) :
    Calls Tryz.prog 65 #[.slice A l.length c, .int .i64 t] w (PairPost u w) :=
  (netTurn A c t l w hl h.1 h.2.1 h.2.2.1 hN h.2.2.2).mono fun e w' ⟨v, he, hrow, hb⟩ => by
    rw [hr, hq, Int.toNat_natCast, hu] at hrow
    obtain ⟨a, c', rfl, hok⟩ := own_oks hrow
    exact ⟨a, c', he, hok, hb⟩
end Go.Proofs.YtdeplhihcifmeaaGreatDoor

/- Degree of the program. -/
namespace Go.Proofs.YtdeplhihcifmeaaGreatDoor
open Go.RowKit Go.Shelf Ck

theorem keepU {W w1 w2 : World} {g : Nat} {x y : Value} (h : w1.cell? ⟨g, 0, none⟩ = some x ∧ w1.cell? ⟨g, 1, none⟩ = some y ∧ Below W.heap.size W w1 ∧ g < w1.heap.size) (hb : Below w1.heap.size w1 w2) :
    w2.cell? ⟨g, 0, none⟩ = some x ∧ w2.cell? ⟨g, 1, none⟩ = some y ∧ Below W.heap.size W w2 ∧ g < w2.heap.size := by
  obtain ⟨h0, h1, h3, h4⟩ := h
  exact ⟨(hb.cell (p := ⟨g, 0, none⟩) h4).trans h0, (hb.cell (p := ⟨g, 1, none⟩) h4).trans h1, hbT h3 hb, by have := hb.size; omega⟩
theorem uId {W w : World} {g : Nat} {x y : Value} (h : w.cell? ⟨g, 0, none⟩ = some x ∧ w.cell? ⟨g, 1, none⟩ = some y ∧ Below W.heap.size W w ∧ g < w.heap.size) : w.cell? ⟨g, 0, none⟩ = some x ∧ w.cell? ⟨g, 1, none⟩ = some y ∧ Below W.heap.size W w ∧ g < w.heap.size := h
set_option maxHeartbeats 4000000 in
set_option maxRecDepth 100000 in
theorem netDegreeOk (A : Option Addr) (c : Nat) (l : List Bar) (x y : Int) (d : Nat) (w : World) (hd : (ends l).count ⟨x, y⟩ = d) (hl : l.length ≤ 4096) (hN : Net l) (hK : knotE x y = 0) (h : OKS w A c l) :
    Calls Tryz.prog 42 #[.slice A l.length c, .agg #[.int .i64 x, .int .i64 y]] w fun e w' => e = .returned (.tuple #[.int .i64 (d : Int), .int .i64 0]) ∧ Below w.heap.size w w' := by
  have HO := Lib.hid h
  have HE := Lib.hid ((netE_zero l).2 ⟨hl, hN⟩)
  have HN := Lib.hid hN
  have HK := Lib.hid hK
  have HD := Lib.hid (show mget (degsL (ends l)) ⟨x, y⟩ = (d : Int) by rw [degs_count, hd])
  clear h hN hK hd
  obtain ⟨w1, hw1, e0, e1, hb1, hz1⟩ := box2 w (.int .i64 x) (.int .i64 y) 26
  have Q : ∀ {W : World}, Below w1.heap.size w1 W → W.cell? ⟨w.heap.size, 0, none⟩ = some (.int .i64 x) ∧ W.cell? ⟨w.heap.size, 1, none⟩ = some (.int .i64 y) := fun hb => ⟨(hb.cell (p := ⟨w.heap.size, 0, none⟩) hz1).trans e0, (hb.cell (p := ⟨w.heap.size, 1, none⟩) hz1).trans e1⟩
  have fin : ∀ {W : World}, Below w1.heap.size w1 W → Below w.heap.size w W := fun hb => hb1.trans (hb.mono hb1.size)
  have HW1 := Lib.hid hw1
  clear hw1
  go_enter Tryz.func42, Tryz.ntmps42
  go_wp2_with fail
  rw [← HW1.out]
  go_region_held3 (fun w' => w'.cell? ⟨w.heap.size, 0, none⟩ = some (.int .i64 x) ∧ w'.cell? ⟨w.heap.size, 1, none⟩ = some (.int .i64 y) ∧ Below w1.heap.size w1 w' ∧ w.heap.size < w'.heap.size)
    (first | exact ⟨e0, e1, below_drew (Below.refl _ _), hz1⟩ | exact keepU (by assumption) (by assumption) | exact keepU (by assumption) ((Below.refl _ _).alloc (Nat.le_refl _) _) | assumption | go_keep)
    (first
      | (go_at_call 20; refine (netCheckNetA A c l _ (HO.out.below (fin (uId (by assumption)).2.2.1))).mono ?_; rintro e w' ⟨rfl, hbq⟩; rw [HE.out])
      | (go_at_call 23; refine (netCheckKnot _ _ _).mono ?_; rintro e w' ⟨rfl, hbq⟩; rw [HK.out])
      | (go_at_call 84; refine (netFirst2 _ _ 0 0 32 _ (by exact heap_alloc_new _ _)).mono ?_; rintro e w' ⟨rfl, rfl⟩; rw [show firstE [0, 0] = 0 from rfl]))
  all_goals
    obtain ⟨-, -, BW, -⟩ := uId (by assumption)
    clear e0 e1
    go_wp2_with fail
    refine wp_region_held_drew (S := (fun w' => Below w1.heap.size w1 w')) (by kernel_rfl) ?_ (fun hHeld => ?_)
    · exact below_drew BW
    refine wpAnyH_take (i := 0) (oi := _) (v := ?vd0_1) rfl (by kernel_rfl) (by kernel_rfl) (by kernel_rfl) (fun _ _ _ h => h) (Or.inl ⟨by rfl, ?hyd0_1⟩) (by assumption) ?restd0_1
    case hyd0_1 => (intro w hSw; (try dsimp only at hSw); go_simp; first | done | rfl)
    try simp only [List.getElem_toArray, List.getElem_cons_succ, List.getElem_cons_zero, Act.put, List.setIfInBounds_toArray, List.set_cons_zero, List.set_cons_succ]
    refine wpAnyH_take (i := 2) (oi := _) (v := ?vd2_2) rfl (by kernel_rfl) (by kernel_rfl) (by kernel_rfl) (fun _ _ _ h => h) (Or.inl ⟨by rfl, ?hyd2_2⟩) (by assumption) ?restd2_2
    case hyd2_2 => (intro w hSw; (try dsimp only at hSw); obtain ⟨s0, s1⟩ := Q hSw; go_simp; first | done | rfl)
    try simp only [List.getElem_toArray, List.getElem_cons_succ, List.getElem_cons_zero, Act.put, List.setIfInBounds_toArray, List.set_cons_zero, List.set_cons_succ]
    refine wpAnyH_ready (rs := [1]) (by kernel_rfl) (by simp) ?_
    refine (AllReadyH.cons (o := _) rfl (fun K hK => ?rd1_3) AllReadyH.nil)
    case rd1_3 =>
      simp only [List.getElem_toArray, List.getElem_cons_succ, List.getElem_cons_zero]
      go_simp
      go_at_call 101
      refine (netDegrees A c l _ (by omega) HN.out.1 (HO.out.below (fin hHeld)).2.2.2).mono ?_
      rintro e w4 ⟨b, rfl, hbB, hmis, hbq⟩
      have hbl := hmis.lt
      have hq := hmis.lookup ⟨x, y⟩
      simp only [kvv] at hq
      rw [HD.out] at hq
      have HM := Lib.hid hmis
      clear hmis
      refine hK.out _ _ (hbT hHeld hbq) (fun hHeld => ?_)
      clear hbq
      clear hK K
      try simp only [List.getElem_toArray, List.getElem_cons_succ, List.getElem_cons_zero, Act.put, List.setIfInBounds_toArray, List.set_cons_zero, List.set_cons_succ]
      refine wpAnyH_ready (rs := [3]) (by kernel_rfl) (by simp) ?_
      refine (AllReadyH.cons (o := _) rfl (fun K hK => ?rd3_4) AllReadyH.nil)
      case rd3_4 =>
        simp only [List.getElem_toArray, List.getElem_cons_succ, List.getElem_cons_zero]
        go_simp
        refine hK.out _ _ hHeld (fun hHeld => ?_)
        clear hK K
        try simp only [List.getElem_toArray, List.getElem_cons_succ, List.getElem_cons_zero, Act.put, List.setIfInBounds_toArray, List.set_cons_zero, List.set_cons_succ]
        refine wpAnyH_take (i := 4) (oi := _) (v := ?vd4_5) rfl (by kernel_rfl) (by kernel_rfl) (by kernel_rfl) (fun _ _ _ h => h) (Or.inl ⟨by rfl, ?hyd4_5⟩) (by assumption) ?restd4_5
        case hyd4_5 => (intro w hSw; (try dsimp only at hSw); go_simp; first | done | rfl)
        try simp only [List.getElem_toArray, List.getElem_cons_succ, List.getElem_cons_zero, Act.put, List.setIfInBounds_toArray, List.set_cons_zero, List.set_cons_succ]
        refine wpAnyH_take (i := 5) (oi := _) (v := ?vd5_6) rfl (by kernel_rfl) (by kernel_rfl) (by kernel_rfl) (fun _ _ _ h => h) (Or.inl ⟨by rfl, ?hyd5_6⟩) (by assumption) ?restd5_6
        case hyd5_6 => (intro w hSw; (try dsimp only at hSw); go_simp; first | done | rfl)
        try simp only [List.getElem_toArray, List.getElem_cons_succ, List.getElem_cons_zero, Act.put, List.setIfInBounds_toArray, List.set_cons_zero, List.set_cons_succ]
        refine wpAnyH_done (by kernel_rfl) ?_ _
        go_wp2
        go_ret2
        exact ⟨rfl, fin hHeld⟩
end Go.Proofs.YtdeplhihcifmeaaGreatDoor

/- Unions, meets and what is left: lengths, degrees, orders: plain mathematics. -/
namespace Go.Proofs.YtdeplhihcifmeaaGreatDoor
open Ck Go.RowKit

theorem ends_sum (k : Knot) (l : List Bar) : (ends l).count k = (l.map fun b => [b.lo, b.hi].count k).sum := by
  induction l with
  | nil => rfl
  | cons a r ih =>
    have e : ends (a :: r) = [a.lo, a.hi] ++ ends r := by simp [ends]
    rw [e, List.count_append, ih, List.map_cons, List.sum_cons]
end Go.Proofs.YtdeplhihcifmeaaGreatDoor

/- The reference's Degree and HasMesh. -/
namespace Go.Proofs.YtdeplhihcifmeaaGreatDoor
open Go.RowKit Go.Shelf Ck

def kgM4 (x y : Int) : List Bar := [⟨x, y - 1, -1⟩, ⟨x, y - 1, 1⟩, ⟨x - 1, y, 1⟩, ⟨x + 1, y, -1⟩]
end Go.Proofs.YtdeplhihcifmeaaGreatDoor

/- Lists of nets in memory; SameNets of the reference. -/
namespace Go.Proofs.YtdeplhihcifmeaaGreatDoor
open Go.RowKit Go.Shelf Ck

/-- The slice reads as these nets. -/
def OKN (w : World) (a : Option Addr) (_ : Nat) (G : List (List Bar)) : Prop := ∃ fs : List Hd, fs.map Hd.l = G ∧ (∀ f ∈ fs, f.ok w) ∧ (0 < fs.length → ∃ b off, a = some ⟨b, off, none⟩ ∧ b < w.heap.size ∧ ∀ i (h : i < fs.length), w.cell? ⟨b, off + i, none⟩ = some fs[i].v)
theorem OKN.below {w w' : World} {a : Option Addr} {c : Nat} {G : List (List Bar)} (h : OKN w a c G) (hb : Below w.heap.size w w') : OKN w' a c G := by
  obtain ⟨fs, h1, h2, h3⟩ := h
  refine ⟨fs, h1, fun f hf => (h2 f hf).below hb, fun hl => ?_⟩
  obtain ⟨b, off, e, hB, hc⟩ := h3 hl
  exact ⟨b, off, e, Nat.lt_of_lt_of_le hB hb.size, fun i hi => (hb.cell (p := ⟨b, off + i, none⟩) hB).trans (hc i hi)⟩
theorem OKN.at {w : World} {a : Option Addr} {c : Nat} {G : List (List Bar)} (h : OKN w a c G) {k : Nat} (hk : k < G.length) : ∃ b off fa fc, a = some ⟨b, off, none⟩ ∧ b < w.heap.size ∧ w.cell? ⟨b, off + k, none⟩ = some (.slice fa G[k].length fc) ∧ OKS w fa fc G[k] ∧ G[k].length ≤ 4096 := by
  obtain ⟨fs, h1, h2, h3⟩ := h
  have hn : fs.length = G.length := by rw [← h1, List.length_map]
  obtain ⟨b, off, e, hB, hc⟩ := h3 (by omega)
  have hkf : k < fs.length := by omega
  have hl : fs[k].l = G[k] := by
    have h4 : (fs.map Hd.l)[k]'(by rw [List.length_map]; exact hkf) = fs[k].l := by rw [List.getElem_map]
    rw [← h4]
    exact List.getElem_of_eq h1 _
  have h5 := hc k hkf
  have h6 := h2 _ (List.getElem_mem hkf)
  refine ⟨b, off, fs[k].a, fs[k].c, e, hB, ?_, ?_, ?_⟩
  · rw [h5, ← hl]; rfl
  · rw [← hl]; exact h6.2
  · rw [← hl]; exact h6.1
end Go.Proofs.YtdeplhihcifmeaaGreatDoor

/- partsOf of the program, with what its rows hold. -/
namespace Go.Proofs.YtdeplhihcifmeaaGreatDoor
open Go.RowKit

structure HeadsX (W : World) (base P n : Nat) (F : Nat → List Ck.Bar) (cur : Array Value) : Prop where
  blk : W.heap[P]? = some (.cells cur 22 (0, 0))
  size : cur.size = n
  own : ∀ j (h : j < cur.size), W.ownsRow base 24 3 cur[j] (F j).length (bcellsL (F j))
  apart : ∀ j j' (h : j < cur.size) (h' : j' < cur.size), j ≠ j' → cur[j].ownBlock = none ∨ cur[j].ownBlock ≠ cur[j'].ownBlock
theorem HeadsX.lt {W : World} {base P n : Nat} {F : Nat → List Ck.Bar} {cur : Array Value} (h : HeadsX W base P n F cur) : P < W.heap.size := (Array.getElem?_eq_some_iff.1 h.blk).1
theorem HeadsX.cell {W : World} {base P n : Nat} {F : Nat → List Ck.Bar} {cur : Array Value} (h : HeadsX W base P n F cur) {q : Nat} (hq : q < cur.size) : W.cell? ⟨P, q, none⟩ = some cur[q] := by
  simp [World.cell?, h.blk, Array.getElem?_eq_getElem hq]
theorem HeadsX.below {W W' : World} {base P n : Nat} {F : Nat → List Ck.Bar} {cur : Array Value} (h : HeadsX W base P n F cur) (hb : Below W.heap.size W W') : HeadsX W' base P n F cur where
  blk := (hb.block P h.lt).trans h.blk
  size := h.size
  own j hj := ownsRow_below (h.own j hj) hb
  apart := h.apart
theorem HeadsX.step {W W1 W2 : World} {base P n q g cap : Nat} {F F' : Nat → List Ck.Bar} {cur : Array Value} (h : HeadsX W base P n F cur) (hF : ∀ j, j ≠ q → F' j = F j) (hW : Below W.heap.size W W1) (hq : q < cur.size)
    {m : Nat} (hm : m = (F' q).length) (hown : W2.ownsRow base 24 3 (.slice (some ⟨g, 0, none⟩) m cap) m (bcellsL (F' q))) (hg : W1.grownBy W2 cur[q].ownBlock) (hblk : cur[q].ownBlock = some g ∨ g = W1.heap.size) :
    HeadsX (W2.setCell ⟨P, q, none⟩ (.slice (some ⟨g, 0, none⟩) m cap)) base P n F' (cur.set q (.slice (some ⟨g, 0, none⟩) m cap)) := by
  have hT : (24 : Nat) ≠ 22 := by decide
  have h1 := h.below hW
  have oq := h1.own q hq
  have hPne := own_block_ne oq h1.blk hT
  have hP2 : W2.heap[P]? = some (.cells cur 22 (0, 0)) := (hg.block P h1.lt (fun e => hPne e.symm)).trans h1.blk
  have hs := setCell_grown W2 P q (.slice (some ⟨g, 0, none⟩) m cap)
  have hgne : (Value.slice (some ⟨g, 0, none⟩) m cap).ownBlock ≠ some P := own_block_ne hown hP2 hT
  have hold : ∀ j (hj : j < cur.size) (hjq : j ≠ q), W2.ownsRow base 24 3 cur[j] (F j).length (bcellsL (F j)) := fun j hj hjq =>
    (h1.own j hj).kept hg (h.apart j q hj hq hjq)
  refine ⟨?_, by rw [Array.size_set, h.size], fun j hj => ?_, fun j j' hj hj' hne => ?_⟩
  · simp only [World.setCell, Array.getElem?_modify, hP2]
    simp [Array.setIfInBounds, hq]
  · rw [Array.size_set] at hj
    by_cases hjq : q = j
    · subst hjq
      rw [Array.getElem_set_self]
      rw [← hm]
      exact hown.kept hs (.inr hgne)
    · rw [Array.getElem_set_ne _ hj hjq]
      have oj := hold j hj (fun e => hjq e.symm)
      rw [hF j (fun e => hjq e.symm)]
      exact oj.kept hs (.inr (own_block_ne oj hP2 hT))
  · rw [Array.size_set] at hj hj'
    have other : ∀ i (hi : i < cur.size), i ≠ q → cur[i].ownBlock = none ∨ cur[i].ownBlock ≠ some g := fun i hi hiq => by
      rcases hblk with hb | hb
      · rw [← hb]; exact h.apart i q hi hq hiq
      · refine .inr (fun e => ?_)
        have oi := h1.own i hi
        have := own_lt oi e
        omega
    by_cases e1 : q = j
    · subst e1
      rw [Array.getElem_set_self, Array.getElem_set_ne _ hj' hne]
      refine .inr (fun e => ?_)
      rcases other j' hj' (fun e => hne e.symm) with h' | h'
      · rw [h'] at e; cases e
      · exact h' e.symm
    · rw [Array.getElem_set_ne _ hj e1]
      by_cases e2 : q = j'
      · subst e2
        rw [Array.getElem_set_self]
        exact other j hj (fun e => e1 e.symm)
      · rw [Array.getElem_set_ne _ hj' e2]
        exact h.apart j j' hj hj' hne
def hdOf (v : Value) (l : List Ck.Bar) : Hd := match v with
  | .slice a _ c => ⟨a, c, l⟩
  | _ => ⟨none, 0, l⟩
theorem hdOf_l (v : Value) (l : List Ck.Bar) : (hdOf v l).l = l := by unfold hdOf; split <;> rfl
theorem HeadsX.forms {W : World} {base P n : Nat} {M : List (Ck.Knot × Int)} {l : List Ck.Bar} {cur : Array Value} (h : HeadsX W base P n (partN M l) cur) (hP : base ≤ P) (hn : n ≤ maxLen) (hle : ∀ q, (partN M l q).length ≤ 4096) : Forms base (.slice (some ⟨P, 0, none⟩) n n) (partsN M l n) W := by
  have hv : ∀ j (hj : j < cur.size), (hdOf cur[j] (partN M l j)).v = cur[j] := fun j hj => by
    obtain ⟨a, c, e, -, -⟩ := own_slice (h.own j hj)
    rw [e]; rfl
  refine ⟨(List.range n).map fun j => hdOf (cur.getD j (.slice none 0 0)) (partN M l j), ?_, ?_, ?_⟩
  · rw [List.map_map, partsN]
    exact List.map_congr_left fun j _ => hdOf_l _ _
  · intro f hf
    obtain ⟨j, hj, rfl⟩ := List.mem_map.1 hf
    have hj' : j < cur.size := by rw [h.size]; exact List.mem_range.1 hj
    rw [show cur.getD j (.slice none 0 0) = cur[j] by simp [Array.getD, hj']]
    refine ⟨by rw [hdOf_l]; exact hle j, ?_⟩
    rw [hv j hj', hdOf_l]
    exact h.own j hj'
  · have e : ((List.range n).map fun j => hdOf (cur.getD j (.slice none 0 0)) (partN M l j)).map Hd.v = cur.toList := by
      refine List.ext_getElem (by simp [h.size]) fun j h1 h2 => ?_
      have hj' : j < cur.size := by simpa using h2
      simp only [List.getElem_map, List.getElem_range, Array.getElem_toList]
      rw [show cur.getD j (.slice none 0 0) = cur[j] by simp [Array.getD, hj']]
      exact hv j hj'
    rw [e]
    have hs := h.size
    refine ⟨by simp [hs], .inr ⟨P, n, cur, by simp, hP, h.blk, by simp, hn, by simp [hs], ?_⟩⟩
    rw [List.take_of_length_le (by simp [hs])]
end Go.Proofs.YtdeplhihcifmeaaGreatDoor

/- The knots of a net in their order: plain mathematics; Knots, Legs and Meshes of the program. -/
namespace Go.Proofs.YtdeplhihcifmeaaGreatDoor
open Go.RowKit Go.Sort Go.Shelf

def knotsL (l : List Ck.Bar) : List Ck.Knot := insL ltK (Ck.ends l) []
theorem knotsL_pw (l : List Ck.Bar) : (knotsL l).Pairwise fun a b => ltK a b = true := insL_sorted ltK ltK_tr ltK_tri _ [] List.Pairwise.nil
theorem knotsL_mem (l : List Ck.Bar) (k : Ck.Knot) : k ∈ knotsL l ↔ k ∈ Ck.ends l := by rw [knotsL, insL_mem]; simp
theorem knotsL_nodup (l : List Ck.Bar) : (knotsL l).Nodup := (knotsL_pw l).imp fun {a b} h e => by subst e; rw [ltK_irr] at h; cases h
end Go.Proofs.YtdeplhihcifmeaaGreatDoor

/- Rows of pairs (knots, meshes) in memory; SameKnots of the reference. -/
namespace Go.Proofs.YtdeplhihcifmeaaGreatDoor
open Go.RowKit

theorem kcellsL_at (l : List Ck.Knot) : ∀ (i : Nat) (h : i < l.length), (kcellsL l)[i * 2]? = some (.int .i64 l[i].x) ∧ (kcellsL l)[i * 2 + 1]? = some (.int .i64 l[i].y) := by
  induction l with
  | nil => intro i h; simp at h
  | cons a r ih =>
    intro i h
    have e : kcellsL (a :: r) = [.int .i64 a.x, .int .i64 a.y] ++ kcellsL r := by simp [kcellsL]
    rw [e]
    cases i with
    | zero => exact ⟨rfl, rfl⟩
    | succ i =>
      have := ih i (by simpa using h)
      rw [show (i + 1) * 2 = i * 2 + 2 from by omega]
      simpa using this
/-- The slice reads as these pairs. -/
def OKP (w : World) (a : Option Addr) (c : Nat) (l : List Ck.Knot) : Prop := l.length ≤ c ∧ c ≤ maxLen ∧ RK w w.heap.size a l
theorem RK.below' {w w' : World} {B : Nat} {A : Option Addr} {l : List Ck.Knot} (h : RK w B A l) (hb : Below B w w') : RK w' B A l := fun hl => by
  obtain ⟨b, off, rfl, hB, hc⟩ := h hl
  exact ⟨b, off, rfl, hB, fun i hi => ⟨(hb.cell (p := ⟨b, _, none⟩) hB).trans (hc i hi).1, (hb.cell (p := ⟨b, _, none⟩) hB).trans (hc i hi).2⟩⟩
theorem RK.more' {w : World} {B B' : Nat} {A : Option Addr} {l : List Ck.Knot} (h : RK w B A l) (hB : B ≤ B') : RK w B' A l := fun hl => by
  obtain ⟨b, off, h1, h2, hc⟩ := h hl
  exact ⟨b, off, h1, by omega, hc⟩
theorem OKP.below {w w' : World} {a : Option Addr} {c : Nat} {l : List Ck.Knot} (h : OKP w a c l) (hb : Below w.heap.size w w') : OKP w' a c l := ⟨h.1, h.2.1, (h.2.2.below' hb).more' hb.size⟩
theorem own_okp {w : World} {base : Nat} {t : TypeId} {v : Value} {l : List Ck.Knot} (h : w.ownsRow base t 2 v l.length (kcellsL l)) : ∃ a c, v = .slice a l.length c ∧ OKP w a c l := by
  rcases h.2 with ⟨rfl, hz⟩ | ⟨g, cap, cur, rfl, _, hgb, h1, h2, _⟩
  · have : l = [] := List.eq_nil_of_length_eq_zero hz
    subst this
    exact ⟨none, 0, rfl, Nat.zero_le _, by unfold maxLen; omega, fun hl => by simp at hl⟩
  · refine ⟨_, _, rfl, h1, h2, fun _ => ⟨g, 0, rfl, (Array.getElem?_eq_some_iff.1 hgb).1, fun i hi => ?_⟩⟩
    have hc := h.cells (g := g) rfl
    obtain ⟨h0, h1⟩ := kcellsL_at l i hi
    have k0 := hc _ _ h0
    have k1 := hc _ _ h1
    rw [add0] at k0 k1
    simp only [Nat.zero_add]
    exact ⟨k0, k1⟩
def meshK (l : List Ck.Bar) : List Ck.Knot := l.map fun b => ⟨b.x, b.y + 1⟩
theorem meshK_length (l : List Ck.Bar) : (meshK l).length = l.length := by simp [meshK]
end Go.Proofs.YtdeplhihcifmeaaGreatDoor

/- The reference's Legs. -/
namespace Go.Proofs.YtdeplhihcifmeaaGreatDoor
open Go.RowKit Go.Shelf Ck

def lgC (es : List Knot) (K : List Knot) (i : Nat) : Nat := K.countP fun k => decide (es.count k = i)
end Go.Proofs.YtdeplhihcifmeaaGreatDoor

/- The reference's Meshes, the law's meshes and sameMeshes, SameKnots. -/
namespace Go.Proofs.YtdeplhihcifmeaaGreatDoor
open Go.RowKit Go.Shelf Ck

theorem isM_iff {l : List Bar} {b : Bar} (hb : b ∈ l) : isM l b = true ↔ b.s = -1 ∧ ((kgM4 b.x (b.y + 1)).all fun x => decide (x ∈ l)) = true := by
  unfold isM
  rw [Bool.and_eq_true, decide_eq_true_eq]
  constructor
  · rintro ⟨h1, h2⟩
    refine ⟨h1, ?_⟩
    simpa [allIn, meshBars4, kgM4] using h2
  · rintro ⟨h1, h2⟩
    refine ⟨h1, ?_⟩
    simpa [allIn, meshBars4, kgM4] using h2
end Go.Proofs.YtdeplhihcifmeaaGreatDoor

/- Degree of the program with an error; the lists of pairs as slices of the way. -/
namespace Go.Proofs.YtdeplhihcifmeaaGreatDoor
open Go.RowKit Go.Shelf Ck

def KPair (ks : List Knot) (w : World) (e : Ending) (w' : World) : Prop := ∃ a c, e = .returned (.tuple #[.slice a ks.length c, .int .i64 0]) ∧ OKP w' a c ks ∧ Below w.heap.size w w'
def KSlice (ks : List Knot) (w : World) (e : Ending) (w' : World) : Prop := ∃ a c, e = .returned (.slice a ks.length c) ∧ OKP w' a c ks ∧ Below w.heap.size w w'
theorem KPair.of {ks : List Knot} {w : World} {t : TypeId} {e : Ending} {w' : World} (h : ∃ v, e = .returned (.tuple #[v, .int .i64 0]) ∧ w'.ownsRow w.heap.size t 2 v ks.length (kcellsL ks) ∧ Below w.heap.size w w') : KPair ks w e w' := by
  obtain ⟨v, rfl, h, hb⟩ := h
  obtain ⟨a, c, rfl, ok⟩ := own_okp h
  exact ⟨a, c, rfl, ok, hb⟩
theorem KSlice.of {ks : List Knot} {w : World} {t : TypeId} {e : Ending} {w' : World} (h : ∃ v, e = .returned v ∧ w'.ownsRow w.heap.size t 2 v ks.length (kcellsL ks) ∧ Below w.heap.size w w') : KSlice ks w e w' := by
  obtain ⟨v, rfl, h, hb⟩ := h
  obtain ⟨a, c, rfl, ok⟩ := own_okp h
  exact ⟨a, c, rfl, ok, hb⟩
def legV (l : List Bar) : Array Value := #[.int .i64 (lgC (ends l) (knotsL l) 0), .int .i64 (lgC (ends l) (knotsL l) 1), .int .i64 (lgC (ends l) (knotsL l) 2), .int .i64 (lgC (ends l) (knotsL l) 3), .int .i64 (lgC (ends l) (knotsL l) 4)]
end Go.Proofs.YtdeplhihcifmeaaGreatDoor

/- The parts of a net are counted; Parts and Count of the program with and without an error; Count of the reference. -/
namespace Go.Proofs.YtdeplhihcifmeaaGreatDoor
open Go.RowKit Go.Shelf Ck

open Classical in
theorem PartsAre.exist {l : List Bar} (hs : l.Pairwise Blt) : ∃ G, PartsAre l G ∧ PartsIs l G.length := by
  have key : ∀ i, i ≤ l.length → ∃ G, PartsTo l i G ∧ ∀ n, CntIs l ((l.take i).map Bar.lo).reverse (l.drop i) n → CntIs l [] l (G.length + n) := by
    intro i
    induction i with
    | zero => exact fun _ => ⟨[], PartsTo.start l, fun n hn => by simpa using hn⟩
    | succ i ih =>
      intro hi
      have hi' : i < l.length := by omega
      obtain ⟨G, h, hc⟩ := ih (by omega)
      by_cases hf : ∃ g ∈ G, l[i] ∈ g
      · refine ⟨G, h.old hi' hf, fun n hn => hc n ?_⟩
        rw [List.drop_eq_getElem_cons hi']
        obtain ⟨g, hg, hb⟩ := hf
        obtain ⟨a, ha, ha2⟩ := h.hd g hg
        have hag : a ∈ g := List.mem_of_head? ha
        exact .old (seen_iff.2 ⟨a, ha2, (h.cls g hg a hag _ (List.getElem_mem hi')).1 hb⟩) (by rw [seen_succ hi'] at hn; exact hn)
      · refine ⟨G ++ [l.filter fun c => decide (Conn l l[i].lo c.lo)], h.fresh hs hi' hf (hs.filter _) (fun y => by simp [List.mem_filter]), fun n hn => ?_⟩
        rw [List.length_append, show G.length + [l.filter fun c => decide (Conn l l[i].lo c.lo)].length + n = G.length + (n + 1) by simp; omega]
        refine hc (n + 1) ?_
        rw [List.drop_eq_getElem_cons hi']
        refine .fresh (fun hx => ?_) (by rw [seen_succ hi'] at hn; exact hn)
        obtain ⟨b, hb, hbc⟩ := seen_iff.1 hx
        obtain ⟨g, hg, hbg⟩ := h.all b hb
        exact hf ⟨g, hg, (h.cls g hg b hbg _ (List.getElem_mem hi')).2 hbc⟩
  obtain ⟨G, h, hc⟩ := key l.length (Nat.le_refl _)
  exact ⟨G, h.done, hc 0 (by rw [List.drop_length]; exact .nil _)⟩
theorem PartsAre.is {l : List Bar} {G : List (List Bar)} (hs : l.Pairwise Blt) (h : PartsAre l G) : PartsIs l G.length := by
  obtain ⟨G', h', hc⟩ := PartsAre.exist hs
  rw [h.unique h']
  exact hc
theorem countP' (A : Option Addr) (c : Nat) (l : List Bar) (G : List (List Bar)) (w : World) (k m p h5 : Int) (hk : k = (nK l : Nat)) (hm : m = (nM l : Nat)) (hp : p = (G.length : Nat)) (h5e : h5 = (l.length : Int) - k + p - m) (hG : PartsAre l G) (hl : l.length ≤ 4096) (hN : Net l) (h : OKS w A c l) :
    Calls Tryz.prog 53 #[.slice A l.length c] w fun e w' => e = .returned (.tuple #[.agg #[.int .i64 k, .int .i64 (l.length : Int), .int .i64 m, .int .i64 p, .int .i64 h5], .int .i64 0]) ∧ Below w.heap.size w w' :=
  (netCount A c l w hl h.1 h.2.1 hN h.2.2.2).mono fun _ _ ⟨q, hq, he, hb⟩ => by
    have : q = G.length := hq.det (hG.is hN.2)
    subst this
    refine ⟨?_, hb⟩
    rw [he, h5e, hk, hm, hp]
end Go.Proofs.YtdeplhihcifmeaaGreatDoor

/- Legs, parts and ranks of a net: plain mathematics. -/
namespace Go.Proofs.YtdeplhihcifmeaaGreatDoor
open Go.RowKit Ck

theorem PartsAre.net {l : List Bar} {G : List (List Bar)} (hN : Net l) (h : PartsAre l G) {g : List Bar} (hg : g ∈ G) : Net g := ⟨fun b hb => hN.1 b (h.sub g hg b hb), h.pw g hg⟩
theorem PartsAre.same {l : List Bar} {G : List (List Bar)} (h : PartsAre l G) {g g' : List Bar} (hg : g ∈ G) (hg' : g' ∈ G) {x y : Bar} (hx : x ∈ g) (hy : y ∈ g') (hc : Conn l x.lo y.lo) : g = g' :=
  sorted_unique (h.pw g hg) (h.pw g' hg') fun c => by
    constructor
    · intro hcg
      have hcl := h.sub g hg c hcg
      exact (h.cls g' hg' y hy c hcl).2 (hc.symm.trans ((h.cls g hg x hx c hcl).1 hcg))
    · intro hcg
      have hcl := h.sub g' hg' c hcg
      exact (h.cls g hg x hx c hcl).2 (hc.trans ((h.cls g' hg' y hy c hcl).1 hcg))
theorem bar_end {l : List Bar} {x : Bar} (hx : x ∈ l) {k : Knot} (hk : k = x.lo ∨ k = x.hi) : Conn l x.lo k := by
  rcases hk with rfl | rfl
  · exact .refl _
  · exact bar_conn hx
theorem PartsAre.apart {l : List Bar} {G : List (List Bar)} (h : PartsAre l G) : G.Pairwise fun g g' => ∀ k ∈ ends g, k ∉ ends g' := by
  refine List.Pairwise.imp_of_mem (fun {g g'} hg hg' ho => ?_) h.ord
  intro k hk hk'
  obtain ⟨x, hx, hkx⟩ := mem_ends.1 hk
  obtain ⟨y, hy, hky⟩ := mem_ends.1 hk'
  have hc := (bar_end (h.sub g hg x hx) hkx).trans (bar_end (h.sub g' hg' y hy) hky).symm
  have e := h.same hg hg' hx hy hc
  subst e
  rw [hdlt_irr] at ho
  cases ho
theorem ends_flat (k : Knot) : ∀ G : List (List Bar), k ∈ ends G.flatten ↔ ∃ g ∈ G, k ∈ ends g
  | [] => by simp [ends]
  | g :: r => by rw [List.flatten_cons, ends_append, List.mem_append, ends_flat k r]; simp
theorem nK_flat : ∀ G : List (List Bar), (G.Pairwise fun g g' => ∀ k ∈ ends g, k ∉ ends g') → nK G.flatten = (G.map nK).sum
  | [], _ => rfl
  | g :: r, h => by
    obtain ⟨h1, h2⟩ := List.pairwise_cons.1 h
    rw [List.flatten_cons, nK_add (fun k hk hk' => by
      obtain ⟨g', hg', hkg⟩ := (ends_flat k r).1 hk'
      exact h1 g' hg' k hk hkg), nK_flat r h2, List.map_cons, List.sum_cons]
theorem PartsAre.mem_flat {l : List Bar} {G : List (List Bar)} (h : PartsAre l G) (b : Bar) : b ∈ G.flatten ↔ b ∈ l := by
  rw [List.mem_flatten]
  exact ⟨fun ⟨g, hg, hb⟩ => h.sub g hg b hb, fun hb => h.all b hb⟩
theorem PartsAre.knots {l : List Bar} {G : List (List Bar)} (h : PartsAre l G) : (G.map nK).sum = nK l := by
  rw [← nK_flat G h.apart]
  refine same_length (nub_nodup _) (nub_nodup _) fun k => ?_
  rw [mem_nub, mem_nub, mem_ends, mem_ends]
  exact ⟨fun ⟨b, hb, hk⟩ => ⟨b, (h.mem_flat b).1 hb, hk⟩, fun ⟨b, hb, hk⟩ => ⟨b, (h.mem_flat b).2 hb, hk⟩⟩
theorem PartsAre.pos {l : List Bar} {G : List (List Bar)} (h : PartsAre l G) {g : List Bar} (hg : g ∈ G) : 0 < g.length := List.length_pos_iff.2 (h.ne g hg)
theorem PartsAre.some {l : List Bar} {G : List (List Bar)} (h : PartsAre l G) (hl : 0 < l.length) : 0 < G.length := by
  obtain ⟨g, hg, -⟩ := h.all (l[0]'hl) (List.getElem_mem hl)
  exact List.length_pos_of_mem hg
end Go.Proofs.YtdeplhihcifmeaaGreatDoor

/- The eight forms of a net: plain mathematics. -/
namespace Go.Proofs.YtdeplhihcifmeaaGreatDoor
open Go.RowKit Ck

def nrmR : List Bar → List Bar
  | [] => []
  | a :: r => (a :: r).map (Bar.shift (-a.x) (-a.y))
def inN : List Bar → Bool
  | [] => true
  | a :: r => (a :: r).all (inB (-a.x) (-a.y))
theorem sortBars_id {l : List Bar} (hs : l.Pairwise Blt) : sortBars l = l :=
  sorted_unique (sortBars_strict (hs.imp fun {a b} (k : Blt a b) e => by subst e; exact k.irrefl)) hs fun b => (sortBars_perm l).mem_iff
theorem normL_net {l : List Bar} (hN : Net l) : normL l = nrmR l := by
  cases l with
  | nil => rfl
  | cons a r => exact sortBars_id (shift_pw _ _ hN.2)
theorem norm_E {l : List Bar} (hN : Net l) (hl : l.length ≤ 4096) : netE (normL l) = if inN l then 0 else 3 := by
  rw [normL_net hN]
  cases l with
  | nil => rfl
  | cons a r =>
    obtain ⟨⟨_, _, he⟩, -⟩ := hN.1 a (by simp)
    simp only [Bar.lo] at he
    exact netE_shift hN hl (dx := -a.x) (dy := -a.y) (by omega)
theorem norm_ok {l : List Bar} (hN : Net l) (hl : l.length ≤ 4096) : Net (normL l) ↔ inN l = true := by
  have h := norm_E hN hl
  have h2 := netE_zero (normL l)
  constructor
  · intro hn
    cases hi : inN l
    · rw [hi] at h
      have := h2.2 ⟨by rw [normL_length]; exact hl, hn⟩
      rw [this] at h
      cases h
    · rfl
  · intro hi
    rw [hi] at h
    exact (h2.1 h).2
theorem mem_turnN {l : List Bar} (n : Nat) (b : Bar) : b ∈ turnN (n + 1) l ↔ ∃ y ∈ turnN n l, turnB y = b := by
  rw [turnN, (sortBars_perm _).mem_iff, List.mem_map]
theorem pick_net {l : List Bar} (hN : Net l) (j : Nat) : Net (pickL l j) := by
  refine ⟨pickL_ok hN.1 j, ?_⟩
  unfold pickL
  split
  · exact hN.2
  · rw [mirror_srt hN]
    exact srtL_pw _
end Go.Proofs.YtdeplhihcifmeaaGreatDoor

/- What a motion keeps: knots, degrees, parts, meshes: plain mathematics. -/
namespace Go.Proofs.YtdeplhihcifmeaaGreatDoor
open Go.RowKit Ck

/-- A motion of bars, and of their knots. -/
structure Motion (f : Bar → Bar) (φ : Knot → Knot) : Prop where
  inj : ∀ {k m : Knot}, φ k = φ m → k = m
  fin : ∀ b : Bar, b.s = 1 ∨ b.s = -1 → ((f b).lo = φ b.lo ∧ (f b).hi = φ b.hi) ∨ ((f b).lo = φ b.hi ∧ (f b).hi = φ b.lo)
/-- The second net has the moved bars of the first one. -/
structure Moved (f : Bar → Bar) (φ : Knot → Knot) (l l' : List Bar) : Prop where
  mo : Motion f φ
  ok : ∀ b ∈ l, b.s = 1 ∨ b.s = -1
  mem : ∀ x, x ∈ l' ↔ ∃ b ∈ l, f b = x
theorem Moved.ends {f : Bar → Bar} {φ : Knot → Knot} {l l' : List Bar} (h : Moved f φ l l') (k : Knot) : k ∈ Ck.ends l' ↔ ∃ m ∈ Ck.ends l, φ m = k := by
  rw [mem_ends]
  constructor
  · rintro ⟨x, hx, hk⟩
    obtain ⟨b, hb, rfl⟩ := (h.mem x).1 hx
    rcases h.mo.fin b (h.ok b hb) with ⟨h1, h2⟩ | ⟨h1, h2⟩ <;> rcases hk with hk | hk
    · exact ⟨b.lo, mem_ends.2 ⟨b, hb, .inl rfl⟩, by rw [hk, h1]⟩
    · exact ⟨b.hi, mem_ends.2 ⟨b, hb, .inr rfl⟩, by rw [hk, h2]⟩
    · exact ⟨b.hi, mem_ends.2 ⟨b, hb, .inr rfl⟩, by rw [hk, h1]⟩
    · exact ⟨b.lo, mem_ends.2 ⟨b, hb, .inl rfl⟩, by rw [hk, h2]⟩
  · rintro ⟨m, hm, rfl⟩
    obtain ⟨b, hb, hk⟩ := mem_ends.1 hm
    refine ⟨f b, (h.mem _).2 ⟨b, hb, rfl⟩, ?_⟩
    rcases h.mo.fin b (h.ok b hb) with ⟨h1, h2⟩ | ⟨h1, h2⟩ <;> rcases hk with hk | hk
    · exact .inl (by rw [hk, h1])
    · exact .inr (by rw [hk, h2])
    · exact .inr (by rw [hk, h2])
    · exact .inl (by rw [hk, h1])
theorem map_nodup_of {α β : Type} {φ : α → β} (inj : ∀ {k m : α}, φ k = φ m → k = m) {K : List α} (h : K.Nodup) : (K.map φ).Nodup :=
  List.pairwise_map.2 (h.imp fun hne e => hne (inj e))
theorem Moved.knots {f : Bar → Bar} {φ : Knot → Knot} {l l' : List Bar} (h : Moved f φ l l') : (knotsL l').Perm ((knotsL l).map φ) :=
  (List.perm_ext_iff_of_nodup (knotsL_nodup l') (map_nodup_of h.mo.inj (knotsL_nodup l))).2 fun k => by
    rw [knotsL_mem, h.ends, List.mem_map]
    exact ⟨fun ⟨m, hm, e⟩ => ⟨m, (knotsL_mem l m).2 hm, e⟩, fun ⟨m, hm, e⟩ => ⟨m, (knotsL_mem l m).1 hm, e⟩⟩
theorem Moved.nK {f : Bar → Bar} {φ : Knot → Knot} {l l' : List Bar} (h : Moved f φ l l') : Ck.nK l' = Ck.nK l := by
  rw [← nK_eq (knotsL_nodup l') (knotsL_mem l'), ← nK_eq (knotsL_nodup l) (knotsL_mem l), h.knots.length_eq, List.length_map]
theorem Moved.perm {f : Bar → Bar} {φ : Knot → Knot} {l l' : List Bar} (h : Moved f φ l l') (hn : l.Nodup) (hn' : l'.Nodup) (hi : ∀ a ∈ l, ∀ b ∈ l, f a = f b → a = b) : l'.Perm (l.map f) :=
  (List.perm_ext_iff_of_nodup hn' (map_nodup hn hi)).2 fun x => by
    rw [h.mem, List.mem_map]
theorem bar_count {f : Bar → Bar} {φ : Knot → Knot} (h : Motion f φ) {b : Bar} (hb : b.s = 1 ∨ b.s = -1) (k : Knot) : [(f b).lo, (f b).hi].count (φ k) = [b.lo, b.hi].count k := by
  have e : ∀ m : Knot, (φ m == φ k) = (m == k) := fun m => by
    by_cases hm : m = k
    · subst hm; simp
    · rw [beq_eq_false_iff_ne.2 hm, beq_eq_false_iff_ne.2 fun h2 => hm (h.inj h2)]
  rcases h.fin b hb with ⟨h1, h2⟩ | ⟨h1, h2⟩
  · rw [h1, h2]; simp only [List.count_cons, List.count_nil, e]
  · rw [h1, h2]; simp only [List.count_cons, List.count_nil, e]; omega
theorem sum_map_congr {l : List Bar} {g g' : Bar → Nat} (h : ∀ b ∈ l, g b = g' b) : (l.map g).sum = (l.map g').sum := by
  rw [List.map_congr_left h]
theorem Moved.count {f : Bar → Bar} {φ : Knot → Knot} {l l' : List Bar} (h : Moved f φ l l') (hp : l'.Perm (l.map f)) (k : Knot) : (Ck.ends l').count (φ k) = (Ck.ends l).count k := by
  rw [ends_sum, ends_sum, (hp.map _).sum_nat, List.map_map]
  exact sum_map_congr fun b hb => bar_count h.mo (h.ok b hb) k
theorem Moved.legs {f : Bar → Bar} {φ : Knot → Knot} {l l' : List Bar} (h : Moved f φ l l') (hp : l'.Perm (l.map f)) : legV l' = legV l := by
  have e : ∀ i, lgC (Ck.ends l') (knotsL l') i = lgC (Ck.ends l) (knotsL l) i := fun i => by
    rw [lgC, h.knots.countP_eq, List.countP_map, lgC]
    exact List.countP_congr fun k _ => by simp only [Function.comp_apply, h.count hp k]
  rw [legV, legV, e 0, e 1, e 2, e 3, e 4]
theorem Moved.adj {f : Bar → Bar} {φ : Knot → Knot} {l l' : List Bar} (h : Moved f φ l l') {b : Bar} (hb : b ∈ l) {k m : Knot} : Adj b k m → Adj (f b) (φ k) (φ m) := by
  unfold Adj
  rcases h.mo.fin b (h.ok b hb) with ⟨h1, h2⟩ | ⟨h1, h2⟩
  · rintro (⟨rfl, rfl⟩ | ⟨rfl, rfl⟩)
    · exact .inl ⟨h1.symm, h2.symm⟩
    · exact .inr ⟨h2.symm, h1.symm⟩
  · rintro (⟨rfl, rfl⟩ | ⟨rfl, rfl⟩)
    · exact .inr ⟨h2.symm, h1.symm⟩
    · exact .inl ⟨h1.symm, h2.symm⟩
theorem Moved.conn {f : Bar → Bar} {φ : Knot → Knot} {l l' : List Bar} (h : Moved f φ l l') {k m : Knot} (hc : Conn l k m) : Conn l' (φ k) (φ m) := by
  induction hc with
  | refl => exact .refl _
  | step b hb ha _ ih => exact .step (f b) ((h.mem _).2 ⟨b, hb, rfl⟩) (h.adj hb ha) ih
theorem Moved.back {f : Bar → Bar} {φ : Knot → Knot} {l l' : List Bar} (h : Moved f φ l l') {k' m' : Knot} (hc : Conn l' k' m') : ∀ k, k' = φ k → ∃ m, m' = φ m ∧ Conn l k m := by
  induction hc with
  | refl => exact fun k hk => ⟨k, hk, .refl _⟩
  | @step k1 m1 n1 x hx ha _ ih =>
    intro k hk
    obtain ⟨b, hb, rfl⟩ := (h.mem x).1 hx
    have key : ∃ m, m1 = φ m ∧ Adj b k m := by
      unfold Adj at ha ⊢
      rcases h.mo.fin b (h.ok b hb) with ⟨h1, h2⟩ | ⟨h1, h2⟩ <;> rcases ha with ⟨e1, e2⟩ | ⟨e1, e2⟩
      · exact ⟨b.hi, by rw [e2, h2], .inl ⟨h.mo.inj (by rw [← hk, e1, h1]), rfl⟩⟩
      · exact ⟨b.lo, by rw [e2, h1], .inr ⟨h.mo.inj (by rw [← hk, e1, h2]), rfl⟩⟩
      · exact ⟨b.lo, by rw [e2, h2], .inr ⟨h.mo.inj (by rw [← hk, e1, h1]), rfl⟩⟩
      · exact ⟨b.hi, by rw [e2, h1], .inl ⟨h.mo.inj (by rw [← hk, e1, h2]), rfl⟩⟩
    obtain ⟨m, hm, hadj⟩ := key
    obtain ⟨n, hn, hcn⟩ := ih m hm
    exact ⟨n, hn, .step b hb hadj hcn⟩
theorem Moved.conn_iff {f : Bar → Bar} {φ : Knot → Knot} {l l' : List Bar} (h : Moved f φ l l') {k m : Knot} : Conn l' (φ k) (φ m) ↔ Conn l k m := by
  refine ⟨fun hc => ?_, h.conn⟩
  obtain ⟨n, hn, hcn⟩ := h.back hc k rfl
  rw [h.mo.inj hn]
  exact hcn
end Go.Proofs.YtdeplhihcifmeaaGreatDoor

/- Shifts, mirrors and quarter turns keep the numbers of a net: plain mathematics. -/
namespace Go.Proofs.YtdeplhihcifmeaaGreatDoor
open Go.RowKit Ck

theorem Moved.parts {f : Bar → Bar} {φ : Knot → Knot} {l l' : List Bar} (h : Moved f φ l l') {p p' : Nat} (hp : PartsIs l p) (hp' : PartsIs l' p') : p' = p := by
  obtain ⟨R, hR, rfl⟩ := hp.rep
  have hR' : Rep l' (R.map φ) := by
    refine ⟨fun r hr => ?_, List.pairwise_map.2 (hR.2.1.imp fun hn hc => hn (h.conn_iff.1 hc)), fun k hk => ?_⟩
    · obtain ⟨m, hm, rfl⟩ := List.mem_map.1 hr
      exact (h.ends _).2 ⟨m, hR.1 m hm, rfl⟩
    · obtain ⟨m, hm, rfl⟩ := (h.ends k).1 hk
      obtain ⟨r, hr, hc⟩ := hR.2.2 m hm
      exact ⟨φ r, List.mem_map_of_mem hr, h.conn hc⟩
  rw [hp'.eq_rep hR', List.length_map]
def ctrs (l : List Bar) : List Knot := meshK (meshL l l)
theorem ctrs_mem (l : List Bar) (c : Knot) : c ∈ ctrs l ↔ ∀ x ∈ kgM4 c.x c.y, x ∈ l := by
  unfold ctrs meshK meshL
  rw [List.mem_map]
  constructor
  · rintro ⟨b, hb, rfl⟩
    obtain ⟨h1, h2⟩ := List.mem_filter.1 hb
    obtain ⟨h3, h4⟩ := (isM_iff h1).1 h2
    simpa [List.all_eq_true] using h4
  · intro h
    have hb : (⟨c.x, c.y - 1, -1⟩ : Bar) ∈ l := h _ (by simp [kgM4])
    refine ⟨⟨c.x, c.y - 1, -1⟩, List.mem_filter.2 ⟨hb, (isM_iff hb).2 ⟨rfl, ?_⟩⟩, ?_⟩
    · rw [List.all_eq_true]
      intro x hx
      rw [show c.y - 1 + 1 = c.y by omega] at hx
      simpa using h x hx
    · obtain ⟨x, y⟩ := c
      simp
theorem ctrs_nodup {l : List Bar} (hn : l.Nodup) : (ctrs l).Nodup := by
  unfold ctrs meshK meshL
  have hf : (l.filter (isM l)).Nodup := hn.filter _
  refine List.pairwise_map.2 (hf.imp_of_mem fun {a b} ha hb hne e => hne ?_)
  have h1 := ((isM_iff (List.mem_filter.1 ha).1).1 (List.mem_filter.1 ha).2).1
  have h2 := ((isM_iff (List.mem_filter.1 hb).1).1 (List.mem_filter.1 hb).2).1
  obtain ⟨x, y, s⟩ := a
  obtain ⟨x', y', s'⟩ := b
  simp only [Knot.mk.injEq] at e h1 h2
  obtain ⟨e1, e2⟩ := e
  subst h1 h2 e1
  rw [show y = y' by omega]
theorem ctrs_length (l : List Bar) : (ctrs l).length = nM l := by rw [ctrs, meshK_length, meshL_nM]
/-- The motion takes the bars of a mesh to those of a mesh. -/
structure Meshing (f : Bar → Bar) (ψ ψ' : Knot → Knot) : Prop where
  inj : ∀ a b : Bar, (a.s = 1 ∨ a.s = -1) → (b.s = 1 ∨ b.s = -1) → f a = f b → a = b
  cinj : ∀ {c d : Knot}, ψ c = ψ d → c = d
  onto : ∀ c : Knot, ψ (ψ' c) = c
  fwd : ∀ (c : Knot), ∀ x ∈ kgM4 c.x c.y, f x ∈ kgM4 (ψ c).x (ψ c).y
  bwd : ∀ (c : Knot), ∀ y ∈ kgM4 (ψ c).x (ψ c).y, ∃ x ∈ kgM4 c.x c.y, f x = y
theorem kgM4_side {x y : Int} {b : Bar} (h : b ∈ kgM4 x y) : b.s = 1 ∨ b.s = -1 := by
  simp [kgM4] at h
  rcases h with rfl | rfl | rfl | rfl <;> simp
theorem Moved.meshes {f : Bar → Bar} {φ ψ ψ' : Knot → Knot} {l l' : List Bar} (h : Moved f φ l l') (hm : Meshing f ψ ψ') (hn : l.Nodup) (hn' : l'.Nodup) : nM l' = nM l := by
  have hp : (ctrs l').Perm ((ctrs l).map ψ) := (List.perm_ext_iff_of_nodup (ctrs_nodup hn') (map_nodup_of hm.cinj (ctrs_nodup hn))).2 fun c => by
    rw [ctrs_mem, List.mem_map]
    constructor
    · intro hc
      refine ⟨ψ' c, (ctrs_mem l _).2 fun x hx => ?_, hm.onto c⟩
      have h1 := hm.fwd (ψ' c) x hx
      rw [hm.onto] at h1
      obtain ⟨b, hb, e⟩ := (h.mem _).1 (hc _ h1)
      rw [← hm.inj b x (h.ok b hb) (kgM4_side hx) e]
      exact hb
    · rintro ⟨d, hd, rfl⟩ y hy
      obtain ⟨x, hx, rfl⟩ := hm.bwd d y hy
      exact (h.mem _).2 ⟨x, (ctrs_mem l d).1 hd x hx, rfl⟩
  rw [← ctrs_length, ← ctrs_length, hp.length_eq, List.length_map]

/-! ### the three motions -/
theorem shift_motion (dx dy : Int) : Motion (Bar.shift dx dy) (Knot.shift dx dy) where
  inj h := Knot.shift_inj h
  fin b _ := .inl ⟨shift_lo .., shift_hi ..⟩
theorem shift_meshing (dx dy : Int) : Meshing (Bar.shift dx dy) (Knot.shift dx dy) (Knot.shift (-dx) (-dy)) where
  inj a b _ _ h := by rw [← Bar.shift_back dx dy a, h, Bar.shift_back]
  cinj h := Knot.shift_inj h
  onto c := by
    obtain ⟨x, y⟩ := c
    simp only [Knot.shift, Knot.mk.injEq]
    omega
  fwd c x hx := by
    simp only [kgM4, List.mem_cons, List.not_mem_nil, or_false] at hx ⊢
    rcases hx with rfl | rfl | rfl | rfl <;> simp [Bar.shift, Knot.shift] <;> omega
  bwd c y hy := by
    refine ⟨y.shift (-dx) (-dy), ?_, by
      obtain ⟨a, b, s⟩ := y
      simp [Bar.shift]; omega⟩
    simp only [kgM4, List.mem_cons, List.not_mem_nil, or_false] at hy ⊢
    rcases hy with rfl | rfl | rfl | rfl <;> simp [Bar.shift, Knot.shift] <;> omega
/-- What all motions keep. -/
structure Alike (l l' : List Bar) : Prop where
  len : l'.length = l.length
  kn : nK l' = nK l
  me : nM l' = nM l
  pa : ∀ p p', PartsIs l p → PartsIs l' p' → p' = p
  le : legV l' = legV l
theorem Alike.trans {a b c : List Bar} (h : Alike a b) (h' : Alike b c) : Alike a c where
  len := h'.len.trans h.len
  kn := h'.kn.trans h.kn
  me := h'.me.trans h.me
  pa p p' hp hp' := by
    obtain ⟨q, hq⟩ := CntIs.total (l := b) b []
    rw [h'.pa q p' hq hp', h.pa p q hp hq]
  le := h'.le.trans h.le
theorem Alike.refl (a : List Bar) : Alike a a where
  len := rfl
  kn := rfl
  me := rfl
  pa p p' hp hp' := hp'.det hp
  le := rfl
theorem Moved.alike {f : Bar → Bar} {φ ψ ψ' : Knot → Knot} {l l' : List Bar} (h : Moved f φ l l') (hm : Meshing f ψ ψ') (hn : l.Nodup) (hn' : l'.Nodup) : Alike l l' where
  len := by
    have hp := h.perm hn hn' fun a ha b hb e => hm.inj a b (h.ok a ha) (h.ok b hb) e
    rw [hp.length_eq, List.length_map]
  kn := h.nK
  me := h.meshes hm hn hn'
  pa _ _ hp hp' := h.parts hp hp'
  le := h.legs (h.perm hn hn' fun a ha b hb e => hm.inj a b (h.ok a ha) (h.ok b hb) e)
theorem side_ok {l : List Bar} (hN : Net l) : ∀ b ∈ l, b.s = 1 ∨ b.s = -1 := fun b hb => (hN.1 b hb).2.1.symm
theorem shift_alike {l : List Bar} (hN : Net l) (dx dy : Int) (hN' : Net (l.map (Bar.shift dx dy))) : Alike l (l.map (Bar.shift dx dy)) :=
  Moved.alike ⟨shift_motion dx dy, side_ok hN, fun x => List.mem_map⟩ (shift_meshing dx dy) hN.nodup hN'.nodup
end Go.Proofs.YtdeplhihcifmeaaGreatDoor

/- The canonical form is the same for shifted, mirrored and turned nets: plain mathematics. -/
namespace Go.Proofs.YtdeplhihcifmeaaGreatDoor
open Go.RowKit Ck

theorem turn_shift {b : Bar} (h : b.s = 1 ∨ b.s = -1) (dx dy : Int) : turnB (b.shift dx dy) = (turnB b).shift (-dy) dx := by
  obtain ⟨x, y, s⟩ := b
  simp only at h
  rcases h with rfl | rfl <;> simp [turnB, Bar.shift] <;> omega
theorem mir_shift (b : Bar) (dx dy : Int) : mirB (b.shift dx dy) = (mirB b).shift (-dx) dy := by
  obtain ⟨x, y, s⟩ := b
  simp [mirB, Bar.shift]; omega
theorem turn_side {b : Bar} : (turnB b).s = 1 ∨ (turnB b).s = -1 := by
  unfold turnB
  split <;> simp
theorem sort_map_shift {l : List Bar} (hn : l.Nodup) (dx dy : Int) : sortBars (l.map (Bar.shift dx dy)) = (sortBars l).map (Bar.shift dx dy) :=
  sorted_unique (sortBars_strict (map_nodup hn fun a _ b _ e => by rw [← Bar.shift_back dx dy a, e, Bar.shift_back])) (shift_pw _ _ (sortBars_strict hn)) fun b => by
    rw [(sortBars_perm _).mem_iff, List.mem_map, List.mem_map]
    exact ⟨fun ⟨x, hx, e⟩ => ⟨x, (sortBars_perm _).mem_iff.2 hx, e⟩, fun ⟨x, hx, e⟩ => ⟨x, (sortBars_perm _).mem_iff.1 hx, e⟩⟩
/-- Sorted, without repetition, each side 1 or -1. -/
structure Srtd (l : List Bar) : Prop where
  pw : l.Pairwise Blt
  sd : ∀ b ∈ l, b.s = 1 ∨ b.s = -1
theorem Srtd.nodup {l : List Bar} (h : Srtd l) : l.Nodup := h.pw.imp fun {a b} (k : Blt a b) e => by subst e; exact k.irrefl
theorem Srtd.turn {l : List Bar} (h : Srtd l) : Srtd (sortBars (l.map turnB)) where
  pw := sortBars_strict (map_nodup h.nodup fun a ha b hb e => turnB_inj (h.sd a ha) (h.sd b hb) e)
  sd b hb := by
    obtain ⟨x, hx, rfl⟩ := List.mem_map.1 ((sortBars_perm _).mem_iff.1 hb)
    exact turn_side
theorem Srtd.turns {l : List Bar} (h : Srtd l) : ∀ n, Srtd (turnN n l)
  | 0 => h
  | n + 1 => (Srtd.turns h n).turn
theorem Srtd.mir {l : List Bar} (h : Srtd l) : Srtd (sortBars (l.map mirB)) where
  pw := sortBars_strict (map_nodup h.nodup fun a _ b _ e => mirB_inj e)
  sd b hb := by
    obtain ⟨x, hx, rfl⟩ := List.mem_map.1 ((sortBars_perm _).mem_iff.1 hb)
    have := h.sd x hx
    simp only [mirB]
    omega
theorem Srtd.pick {l : List Bar} (h : Srtd l) (j : Nat) : Srtd (pickL l j) := by
  unfold pickL
  split
  · exact h
  · exact h.mir
theorem Srtd.shift {l : List Bar} (h : Srtd l) (dx dy : Int) : Srtd (l.map (Bar.shift dx dy)) where
  pw := shift_pw _ _ h.pw
  sd b hb := by
    obtain ⟨x, hx, rfl⟩ := List.mem_map.1 hb
    exact h.sd x hx
/-- Two lists that a shift makes equal. -/
def ByShift (l l' : List Bar) : Prop := ∃ dx dy, l' = l.map (Bar.shift dx dy)
theorem ByShift.turn {l l' : List Bar} (hl : Srtd l) (h : ByShift l l') : ByShift (sortBars (l.map turnB)) (sortBars (l'.map turnB)) := by
  obtain ⟨dx, dy, rfl⟩ := h
  refine ⟨-dy, dx, ?_⟩
  have hn : (l.map turnB).Nodup := map_nodup hl.nodup fun a ha b hb e => turnB_inj (hl.sd a ha) (hl.sd b hb) e
  rw [← sort_map_shift hn, List.map_map, List.map_map]
  congr 1
  exact List.map_congr_left fun b hb => turn_shift (hl.sd b hb) dx dy
theorem ByShift.turns {l l' : List Bar} (hl : Srtd l) (h : ByShift l l') : ∀ n, ByShift (turnN n l) (turnN n l')
  | 0 => h
  | n + 1 => (ByShift.turns hl h n).turn (hl.turns n)
theorem ByShift.pick {l l' : List Bar} (hl : Srtd l) (h : ByShift l l') (j : Nat) : ByShift (pickL l j) (pickL l' j) := by
  unfold pickL
  split
  · exact h
  · obtain ⟨dx, dy, rfl⟩ := h
    refine ⟨-dx, dy, ?_⟩
    have hn : (l.map mirB).Nodup := map_nodup hl.nodup fun a _ b _ e => mirB_inj e
    rw [← sort_map_shift hn, List.map_map, List.map_map]
    congr 1
    exact List.map_congr_left fun b _ => mir_shift b dx dy
/-! ### the least of some nets -/
end Go.Proofs.YtdeplhihcifmeaaGreatDoor

/- The law of NettingParts. -/
namespace Go.Proofs.YtdeplhihcifmeaaGreatDoor
open Go.RowKit Go.Shelf Ck

/-- A box of the numbers of a net. -/
def FiveC (w : World) (b : Nat) (cs : Array Value) : Prop := b < w.heap.size ∧ w.heap[b]? = some (.cells cs 86 (0, 0))
theorem FiveC.below {w w' : World} {b : Nat} {cs : Array Value} (h : FiveC w b cs) (hb : Below w.heap.size w w') : FiveC w' b cs := ⟨Nat.lt_of_lt_of_le h.1 hb.size, (hb.block _ h.1).trans h.2⟩
theorem FiveC.at5 {w : World} {g : Nat} {a b c d e : Value} (h : FiveC w g #[a, b, c, d, e]) : w.cell? ⟨g, 0, none⟩ = some a ∧ w.cell? ⟨g, 1, none⟩ = some b ∧ w.cell? ⟨g, 2, none⟩ = some c ∧ w.cell? ⟨g, 3, none⟩ = some d ∧ w.cell? ⟨g, 4, none⟩ = some e := by
  obtain ⟨c0, c1, c2, c3, c4, -⟩ := five_of_block h.2
  exact ⟨c0, c1, c2, c3, c4⟩
end Go.Proofs.YtdeplhihcifmeaaGreatDoor

/- A net of small numbers, moved: every form and motion is a net; what the law of NettingTurns wants. Plain mathematics. -/
namespace Go.Proofs.YtdeplhihcifmeaaGreatDoor
open Go.RowKit Ck

def Within (B : Int) (l : List Bar) : Prop := ∀ b ∈ l, -B ≤ b.x ∧ b.x ≤ B ∧ -B ≤ b.y ∧ b.y ≤ B
theorem Within.more {B C : Int} {l : List Bar} (h : Within B l) (hc : B ≤ C) : Within C l := fun b hb => by
  have := h b hb
  omega
theorem Within.turn {B : Int} {l : List Bar} (h : Within B l) : Within (B + 1) (sortBars (l.map turnB)) := fun b hb => by
  rw [(sortBars_perm _).mem_iff, List.mem_map] at hb
  obtain ⟨y, hy, rfl⟩ := hb
  have hy' := h y hy
  unfold turnB
  split <;> simp only <;> omega
theorem Within.turns {B : Int} {l : List Bar} (h : Within B l) : ∀ n : Nat, Within (B + n) (turnN n l)
  | 0 => by simpa [turnN] using h
  | n + 1 => by
    have := (h.turns n).turn
    exact this.more (by omega)
theorem Within.mir {B : Int} {l : List Bar} (h : Within B l) : Within B (sortBars (l.map mirB)) := fun b hb => by
  rw [(sortBars_perm _).mem_iff, List.mem_map] at hb
  obtain ⟨y, hy, rfl⟩ := hb
  have hy' := h y hy
  simp only [mirB]
  omega
theorem Within.pick {B : Int} {l : List Bar} (h : Within B l) (j : Nat) : Within B (pickL l j) := by
  unfold pickL
  split
  · exact h
  · exact h.mir
theorem farB_of {n : Int} (h1 : -100000 ≤ n) (h2 : n ≤ 100000) : farB n = false := by simp [farB]; omega
theorem Within.inN {B : Int} {l : List Bar} (h : Within B l) (hB : B ≤ 40000) (hN : Net l) : inN l = true := by
  cases l with
  | nil => rfl
  | cons a r =>
    rw [Go.Proofs.YtdeplhihcifmeaaGreatDoor.inN, List.all_eq_true]
    intro b hb
    have ha := h a (List.mem_cons_self ..)
    have hb' := h b hb
    have hs := (hN.1 b hb).2.1
    rw [inB, farB_of (by omega) (by omega), farB_of (by omega) (by omega), farB_of (by omega) (by omega), farB_of (by omega) (by omega)]
    rfl
theorem forms_net {l : List Bar} (hN : Net l) (hl : l.length ≤ 4096) (h : Within 3000 l) : ∀ j, j < 2 → ∀ q, q < 4 → Net (normL (turnN q (pickL l j))) := fun j _ q hq => by
  have hP := pick_net hN j
  have hT : Net (turnN q (pickL l j)) := ⟨turnN_ok hP.1 q, turn_net hP q⟩
  exact (norm_ok hT (by rw [turnN_length, pickL_length]; exact hl)).2 (((h.pick j).turns q).inN (by omega) hT)
theorem Within.shift {B : Int} {l : List Bar} (h : Within B l) {dx dy : Int} (h1 : -1000 ≤ dx ∧ dx ≤ 1000) (h2 : -1000 ≤ dy ∧ dy ≤ 1000) : Within (B + 1000) (l.map (Bar.shift dx dy)) := fun b hb => by
  obtain ⟨y, hy, rfl⟩ := List.mem_map.1 hb
  have hy' := h y hy
  simp only [Bar.shift]
  omega
theorem shift_back (l : List Bar) (dx dy : Int) : (l.map (Bar.shift dx dy)).map (Bar.shift (-dx) (-dy)) = l := by
  rw [List.map_map]
  refine List.map_id'' (fun b => ?_) l
  obtain ⟨x, y, s⟩ := b
  show Bar.shift (-dx) (-dy) (Bar.shift dx dy ⟨x, y, s⟩) = ⟨x, y, s⟩
  exact Bar.ext' (by simp only [Bar.shift]; omega) (by simp only [Bar.shift]; omega) rfl
/-- What a moved net has in common with the net. -/
structure Fit (n : Nat) (V : Array Value) (C : List Bar) (k m p : Int) (g : List Bar) : Prop where
  net : Net g
  len : g.length = n
  legs : legV g = V
  nk : k = (nK g : Nat)
  nm : m = (nM g : Nat)
  parts : ∃ G, PartsAre g G ∧ p = (G.length : Nat)
  can : canonL g = C
  forms : ∀ j, j < 2 → ∀ q, q < 4 → Net (normL (turnN q (pickL g j)))
theorem Fit.of {l g : List Bar} {n : Nat} {p : Int} (hl : l.length = n) (hn : n ≤ 4096) {G : List (List Bar)} (hP : PartsIs l G.length) (hp : p = (G.length : Nat)) (ha : Alike l g) (hg : Net g) (hc : canonL g = canonL l) (hw : Within 3000 g) :
    Fit n (legV l) (canonL l) (nK l : Nat) (nM l : Nat) p g where
  net := hg
  len := ha.len.trans hl
  legs := ha.le
  nk := by rw [ha.kn]
  nm := by rw [ha.me]
  parts := by
    obtain ⟨G', hG', hP'⟩ := PartsAre.exist hg.2
    exact ⟨G', hG', by rw [hp, ha.pa _ _ hP hP']⟩
  can := hc
  forms := forms_net hg (by rw [ha.len, hl]; exact hn) hw
end Go.Proofs.YtdeplhihcifmeaaGreatDoor
