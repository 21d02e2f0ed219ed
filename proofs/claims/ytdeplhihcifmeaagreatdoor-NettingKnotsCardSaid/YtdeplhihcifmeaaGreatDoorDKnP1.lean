/- Helpers: DKnP1. -/
import Derived.Test.YtdeplhihcifmeaaGreatDoorD7
import Derived.Deep.RegionHeld3
import Derived.ProofKit
import Derived.Deep.Slices
import Derived.Deep.Fields
/- Insertion into a strictly ascending list, and lists that are told by their members: plain mathematics of bars and knots. -/
namespace Go.Proofs.YtdeplhihcifmeaaGreatDoor
open Ck Go.RowKit Go.Sort

section
variable {α : Type} (lt : α → α → Bool) [DecidableEq α]
/-- An element put where it belongs, unless it is there. -/
def insG (out : List α) (x : α) : List α := if (out.dropWhile (lt · x)).head? = some x then out else out.takeWhile (lt · x) ++ x :: out.dropWhile (lt · x)
omit [DecidableEq α] in
theorem dropWhile_first {p : α → Bool} {l : List α} {y : α} {r : List α} (h : l.dropWhile p = y :: r) : p y = false := by
  induction l with
  | nil => simp at h
  | cons a l ih =>
    rw [List.dropWhile_cons] at h
    split at h
    · exact ih h
    · rename_i hp
      cases h
      simpa using hp
theorem insG_mem (out : List α) (x y : α) : y ∈ insG lt out x ↔ y ∈ out ∨ y = x := by
  unfold insG
  split
  · rename_i h
    have hx : x ∈ out := by
      have h2 : x ∈ out.dropWhile (lt · x) := by
        cases hd : out.dropWhile (lt · x) with
        | nil => rw [hd] at h; simp at h
        | cons a r => rw [hd] at h; simp at h; subst h; simp
      exact (List.dropWhile_sublist _).subset h2
    exact ⟨fun h => .inl h, fun h => h.elim id fun e => by rw [e]; exact hx⟩
  · rw [List.mem_append, List.mem_cons]
    have e : y ∈ out ↔ y ∈ out.takeWhile (lt · x) ∨ y ∈ out.dropWhile (lt · x) := by
      rw [← List.mem_append, List.takeWhile_append_dropWhile]
    rw [e]
    constructor
    · rintro (h | h | h)
      · exact .inl (.inl h)
      · exact .inr h
      · exact .inl (.inr h)
    · rintro ((h | h) | h)
      · exact .inl h
      · exact .inr (.inr h)
      · exact .inr (.inl h)
theorem insG_sorted (tr : ∀ a b c, lt a b = true → lt b c = true → lt a c = true) (tri : ∀ a b, lt a b = true ∨ a = b ∨ lt b a = true) {out : List α} (h : out.Pairwise fun a b => lt a b = true) (x : α) : (insG lt out x).Pairwise fun a b => lt a b = true := by
  unfold insG
  split
  · exact h
  · rename_i hne
    have h0 : (out.takeWhile (lt · x) ++ out.dropWhile (lt · x)).Pairwise fun a b => lt a b = true := by rw [List.takeWhile_append_dropWhile]; exact h
    obtain ⟨h1, h2, h3⟩ := List.pairwise_append.1 h0
    have ht : ∀ a ∈ out.takeWhile (lt · x), lt a x = true := fun a ha => List.all_eq_true.1 List.all_takeWhile a ha
    have hd : ∀ b ∈ out.dropWhile (lt · x), lt x b = true := by
      cases hdd : out.dropWhile (lt · x) with
      | nil => intro b hb; simp at hb
      | cons y r =>
        have hy := dropWhile_first hdd
        rw [hdd] at hne h2
        simp only [List.head?_cons, Option.some.injEq] at hne
        have hxy : lt x y = true := by
          rcases tri x y with h | h | h
          · exact h
          · exact absurd h.symm hne
          · rw [hy] at h; cases h
        intro b hb
        rcases List.mem_cons.1 hb with rfl | hb
        · exact hxy
        · exact tr x y b hxy ((List.pairwise_cons.1 h2).1 b hb)
    refine List.pairwise_append.2 ⟨h1, List.pairwise_cons.2 ⟨hd, h2⟩, fun a ha b hb => ?_⟩
    rcases List.mem_cons.1 hb with rfl | hb
    · exact ht a ha
    · exact h3 a ha b hb
/-- All elements put where they belong. -/
def insL (l out : List α) : List α := l.foldl (insG lt) out
theorem insL_mem (y : α) : ∀ (l out : List α), y ∈ insL lt l out ↔ y ∈ out ∨ y ∈ l
  | [], _ => by simp [insL]
  | a :: r, out => by
    have e : insL lt (a :: r) out = insL lt r (insG lt out a) := rfl
    rw [e, insL_mem y r, insG_mem, List.mem_cons, or_assoc]
theorem insL_sorted (tr : ∀ a b c, lt a b = true → lt b c = true → lt a c = true) (tri : ∀ a b, lt a b = true ∨ a = b ∨ lt b a = true) : ∀ (l out : List α), (out.Pairwise fun a b => lt a b = true) → (insL lt l out).Pairwise fun a b => lt a b = true
  | [], _, h => h
  | a :: r, out, h => insL_sorted tr tri r _ (insG_sorted lt tr tri h a)
theorem insG_length (out : List α) (x : α) : (insG lt out x).length ≤ out.length + 1 := by
  unfold insG
  split
  · omega
  · rw [List.length_append, List.length_cons]
    have h := congrArg List.length (List.takeWhile_append_dropWhile (p := (lt · x)) (l := out))
    rw [List.length_append] at h
    omega
theorem insL_length : ∀ (l out : List α), (insL lt l out).length ≤ out.length + l.length
  | [], _ => by simp [insL]
  | a :: r, out => by
    have e : insL lt (a :: r) out = insL lt r (insG lt out a) := rfl
    have h1 := insL_length r (insG lt out a)
    have h2 := insG_length lt out a
    rw [e, List.length_cons]
    omega
omit [DecidableEq α] in
/-- Two strictly ascending lists with the same members are equal. -/
theorem told (tr : ∀ a b c, lt a b = true → lt b c = true → lt a c = true) (irr : ∀ a, lt a a = false) : ∀ {a b : List α}, (a.Pairwise fun x y => lt x y = true) → (b.Pairwise fun x y => lt x y = true) → (∀ x, x ∈ a ↔ x ∈ b) → a = b
  | [], [], _, _, _ => rfl
  | [], y :: s, _, _, h => absurd ((h y).2 (by simp)) (by simp)
  | x :: r, [], _, _, h => absurd ((h x).1 (by simp)) (by simp)
  | x :: r, y :: s, ha, hb, h => by
    obtain ⟨a1, a2⟩ := List.pairwise_cons.1 ha
    obtain ⟨b1, b2⟩ := List.pairwise_cons.1 hb
    have e : x = y := by
      rcases List.mem_cons.1 ((h x).1 (by simp)) with e | hx
      · exact e
      · rcases List.mem_cons.1 ((h y).2 (by simp)) with e | hy
        · exact e.symm
        · have := tr _ _ _ (a1 y hy) (b1 x hx)
          rw [irr] at this
          cases this
    subst e
    rw [told tr irr a2 b2 fun z => ?_]
    constructor
    · intro hz
      rcases List.mem_cons.1 ((h z).1 (by simp [hz])) with e | hz'
      · subst e
        have := a1 z hz
        rw [irr] at this
        cases this
      · exact hz'
    · intro hz
      rcases List.mem_cons.1 ((h z).2 (by simp [hz])) with e | hz'
      · subst e
        have := b1 z hz
        rw [irr] at this
        cases this
      · exact hz'
end
def ltK (a b : Knot) : Bool := decide (Klt a b)
theorem ltK_tr (a b c : Knot) (h1 : ltK a b = true) (h2 : ltK b c = true) : ltK a c = true := by
  simp only [ltK, decide_eq_true_eq] at *
  unfold Klt at *
  omega
theorem ltK_tri (a b : Knot) : ltK a b = true ∨ a = b ∨ ltK b a = true := by
  simp only [ltK, decide_eq_true_eq]
  exact Klt.tri a b
theorem ltK_irr (a : Knot) : ltK a a = false := by
  simp only [ltK, decide_eq_false_iff_not]
  unfold Klt
  omega
theorem sortKnots_pw {l : List Knot} (hn : l.Nodup) : (sortKnots l).Pairwise fun a b => ltK a b = true := by
  have h1 := List.pairwise_mergeSort (le := fun x y => !(ltOf cmpK) y x) (fun a b c h1 h2 => by
    simp only [ltKnots, Bool.not_eq_true', decide_eq_false_iff_not] at *
    unfold Klt at *; omega) (fun a b => by
    simp only [ltKnots, Bool.or_eq_true, Bool.not_eq_true', decide_eq_false_iff_not]
    unfold Klt; omega) l
  have h2 : (sortKnots l).Nodup := (sortKnots_perm l).nodup_iff.2 hn
  refine List.Pairwise.imp₂ (fun a b h k => ?_) h1 h2
  simp only [ltKnots, Bool.not_eq_true', decide_eq_false_iff_not] at h
  simp only [ltK, decide_eq_true_eq]
  rcases Klt.tri a b with h' | h' | h'
  · exact h'
  · exact absurd h' k
  · exact absurd h' h
end Go.Proofs.YtdeplhihcifmeaaGreatDoor

/- What the laws of netting's lists begin with: short lists, copies, the checks at every length. -/
namespace Go.Proofs.YtdeplhihcifmeaaGreatDoor
open Go.RowKit Ck

set_option maxHeartbeats 400000 in
theorem refShortYes (A : Option Addr) (c n : Nat) (k : Int) (w : World) (_ : n ≤ maxLen) (h : (n : Int) ≤ k) :
    Calls Tryz.prog 16 #[.slice A n c, .int .i64 k] w fun e w' => e = .returned (.bool true) ∧ w = w' := by
  go_enter Tryz.func16, Tryz.ntmps16
  go_wp2
  go_ret
  exact ⟨rfl, rfl⟩
set_option maxHeartbeats 400000 in
theorem refShortLong (A : Option Addr) (c n : Nat) (k : Int) (w : World) (_ : n ≤ maxLen) (h : ¬ (n : Int) ≤ k) (h1 : 4096 < (n : Int)) (h2 : (n : Int) ≤ 4098) :
    Calls Tryz.prog 16 #[.slice A n c, .int .i64 k] w fun e w' => e = .returned (.bool true) ∧ w = w' := by
  go_enter Tryz.func16, Tryz.ntmps16
  go_wp2
  go_ret
  exact ⟨by simp, rfl⟩
set_option maxHeartbeats 400000 in
theorem refShortNo1 (A : Option Addr) (c n : Nat) (k : Int) (w : World) (_ : n ≤ maxLen) (h : ¬ (n : Int) ≤ k) (h1 : ¬ 4096 < (n : Int)) :
    Calls Tryz.prog 16 #[.slice A n c, .int .i64 k] w fun e w' => e = .returned (.bool false) ∧ w = w' := by
  go_enter Tryz.func16, Tryz.ntmps16
  go_wp2
  go_ret
  exact ⟨rfl, rfl⟩
set_option maxHeartbeats 400000 in
theorem refShortNo2 (A : Option Addr) (c n : Nat) (k : Int) (w : World) (_ : n ≤ maxLen) (h : ¬ (n : Int) ≤ k) (h1 : 4096 < (n : Int)) (h2 : ¬ (n : Int) ≤ 4098) :
    Calls Tryz.prog 16 #[.slice A n c, .int .i64 k] w fun e w' => e = .returned (.bool false) ∧ w = w' := by
  go_enter Tryz.func16, Tryz.ntmps16
  go_wp2
  go_ret
  exact ⟨by simp, rfl⟩
set_option maxHeartbeats 2000000 in
set_option maxRecDepth 100000 in
theorem lwCopied1 (A : Option Addr) (c : Nat) (l : List Ck.Bar) (w : World) (hl : l.length ≤ 4098) (hne : 0 < l.length) (h : RB w w.heap.size A l) :
    Calls Tryz.prog 21 #[.slice A l.length c] w (CopyPost l w) := by
  obtain ⟨ib, hib, hb0, hb01, hb02⟩ := info_parts Tryz.info24
  obtain ⟨b, off, rfl, hB, _⟩ := h hne
  have HR := Lib.hid h
  clear h
  go_enter Tryz.func21, Tryz.ntmps21
  go_wp2_with (at_builtin; refine wpList_append_own _ rfl _ _ 22 rfl w.heap.size 24 ib (.agg #[.int .i64 0, .int .i64 0, .int .i64 0]) 3 24 Tryz.underlying22 hib hb0 hb01 hb02 rfl (by decide) _ _ _ rfl (by exact empty_row _ _ (Nat.le_refl _) _ _) ⟨b, off, none⟩ l.length c (bcellsL l) rfl (bcellsL_length l) ?c1 (bcellsL_one l) ?c3 ?c4 ?c5 ?_)
  case c1 => exact (HR.out.below ((Below.refl _ _).alloc (Nat.le_refl _) _)).news hne
  case c3 => unfold maxLen; omega
  case c4 => omega
  case c5 => simp
  intro v' w4 hown4 hgrow4 _
  have HO := Lib.hid hown4
  have hq := ((Below.refl w.heap.size w).alloc (Nat.le_refl _) (.cells #[] 24)).grown hgrow4 (by simp) (ownsRow_base (empty_row w w.heap.size (Nat.le_refl _) 24 3))
  clear hown4 hgrow4
  go_wp2
  go_ret
  exact ⟨_, rfl, by simpa using HO.out, hq⟩
set_option maxHeartbeats 2000000 in
set_option maxRecDepth 100000 in
theorem lwCopied0 (A : Option Addr) (c : Nat) (w : World) (hA : A = none → c = 0) :
    Calls Tryz.prog 21 #[.slice A 0 c] w (CopyPost [] w) := by
  obtain ⟨ib, hib, hb0, hb01, hb02⟩ := info_parts Tryz.info24
  rcases A with _ | ad
  · obtain rfl := hA rfl
    go_enter Tryz.func21, Tryz.ntmps21
    go_wp2_with (at_builtin; refine wpList_append_own_none rfl _ _ 22 rfl w.heap.size 24 ib 3 Tryz.underlying22 hib _ _ _ rfl (by exact empty_row _ _ (Nat.le_refl _) _ _) rfl ?_)
    go_ret
    exact ⟨_, rfl, empty_row _ _ (Nat.le_refl _) _ _, (Below.refl _ _).alloc (Nat.le_refl _) _⟩
  · clear hA
    go_enter Tryz.func21, Tryz.ntmps21
    go_wp2_with (at_builtin; refine wpList_append_own _ rfl _ _ 22 rfl w.heap.size 24 ib (.agg #[.int .i64 0, .int .i64 0, .int .i64 0]) 3 24 Tryz.underlying22 hib hb0 hb01 hb02 rfl (by decide) _ _ _ rfl (by exact empty_row _ _ (Nat.le_refl _) _ _) ad 0 c [] rfl rfl ?c1 ?c2 ?c3 ?c4 ?c5 ?_)
    case c1 => intro j u h; simp at h
    case c2 => intro u h; simp at h
    case c3 => unfold maxLen; omega
    case c4 => omega
    case c5 => simp
    intro v' w4 hown4 hgrow4 _
    have HO := Lib.hid hown4
    have hq := ((Below.refl w.heap.size w).alloc (Nat.le_refl _) (.cells #[] 24)).grown hgrow4 (by simp) (ownsRow_base (empty_row w w.heap.size (Nat.le_refl _) 24 3))
    clear hown4 hgrow4
    go_wp2
    go_ret
    exact ⟨v', rfl, HO.out, hq⟩
/-- copied: a slice with the same bars that is the call's own. -/
theorem lwCopied (A : Option Addr) (c : Nat) (l : List Ck.Bar) (w : World) (hl : l.length ≤ 4098) (h : OKS w A c l) :
    Calls Tryz.prog 21 #[.slice A l.length c] w (SlicePost l w) := by
  have key : Calls Tryz.prog 21 #[.slice A l.length c] w (CopyPost l w) := by
    match l, hl, h with
    | [], _, h => exact lwCopied0 A c w h.2.2.1
    | a :: r, hl, h => exact lwCopied1 A c (a :: r) w hl (by simp) h.2.2.2
  refine key.mono ?_
  rintro e w1 ⟨v, rfl, hown, hb⟩
  obtain ⟨a, c', rfl, ho⟩ := own_oks hown
  exact ⟨a, c', rfl, ho, hb⟩
theorem netE_long {l : List Ck.Bar} (h : 4096 < l.length) : netE l = 5 := by rw [netE, if_pos h]
set_option maxHeartbeats 400000 in
theorem netCheckNetL (A : Option Addr) (c n : Nat) (w : World) (hm : n ≤ maxLen) (h : 4096 < n) :
    Calls Tryz.prog 20 #[.slice A n c] w fun e w' => e = .returned (.int .i64 5) ∧ w = w' := by
  unfold maxLen at hm
  have h1 : (4096 : Int) < (n : Int) := by omega
  go_enter Tryz.func20, Tryz.ntmps20
  go_wp2
  go_ret
  exact ⟨rfl, rfl⟩
set_option maxHeartbeats 400000 in
theorem refCheckNetL (A : Option Addr) (c n : Nat) (w : World) (hm : n ≤ maxLen) (h : 4096 < n) :
    Calls Tryz.prog 17 #[.slice A n c] w fun e w' => e = .returned (.int .i64 5) ∧ w = w' := by
  unfold maxLen at hm
  have h1 : (4096 : Int) < (n : Int) := by omega
  go_enter Tryz.func17, Tryz.ntmps17
  go_wp2
  go_ret
  exact ⟨rfl, rfl⟩
theorem netCheckNetA (A : Option Addr) (c : Nat) (l : List Ck.Bar) (w : World) (h : OKS w A c l) :
    Calls Tryz.prog 20 #[.slice A l.length c] w fun e w' => e = .returned (.int .i64 (netE l)) ∧ Below w.heap.size w w' := by
  by_cases hl : l.length ≤ 4096
  · exact netCheckNet A c l w hl h.1 h.2.1 h.2.2.2
  · rw [netE_long (by omega)]
    exact (netCheckNetL A c l.length w (Nat.le_trans h.1 h.2.1) (by omega)).mono fun e w' ⟨h1, h2⟩ => ⟨h1, h2 ▸ Below.refl _ _⟩
theorem refCheckNetA (A : Option Addr) (c : Nat) (l : List Ck.Bar) (w : World) (h : OKS w A c l) :
    Calls Tryz.prog 17 #[.slice A l.length c] w fun e w' => e = .returned (.int .i64 (netE l)) ∧ Below w.heap.size w w' := by
  by_cases hl : l.length ≤ 4096
  · exact refCheckNet A c l w hl h.2.2.2
  · rw [netE_long (by omega)]
    exact (refCheckNetL A c l.length w (Nat.le_trans h.1 h.2.1) (by omega)).mono fun e w' ⟨h1, h2⟩ => ⟨h1, h2 ▸ Below.refl _ _⟩
end Go.Proofs.YtdeplhihcifmeaaGreatDoor

/- The knots of a net in their order: plain mathematics; Knots, Legs and Meshes of the program. -/
namespace Go.Proofs.YtdeplhihcifmeaaGreatDoor
open Go.RowKit Go.Sort Go.Shelf

def knotsL (l : List Ck.Bar) : List Ck.Knot := insL ltK (Ck.ends l) []
theorem knotsL_pw (l : List Ck.Bar) : (knotsL l).Pairwise fun a b => ltK a b = true := insL_sorted ltK ltK_tr ltK_tri _ [] List.Pairwise.nil
theorem knotsL_mem (l : List Ck.Bar) (k : Ck.Knot) : k ∈ knotsL l ↔ k ∈ Ck.ends l := by rw [knotsL, insL_mem]; simp
theorem knotsL_of {l : List Ck.Bar} {ks : List Ck.Knot} (hs : ks.Pairwise fun a b => ltK a b = true) (hm : ∀ k, k ∈ ks ↔ k ∈ Ck.ends l) : ks = knotsL l :=
  told ltK ltK_tr ltK_irr hs (knotsL_pw l) fun k => by rw [hm, knotsL_mem]
theorem knotsL_nodup (l : List Ck.Bar) : (knotsL l).Nodup := (knotsL_pw l).imp fun {a b} h e => by subst e; rw [ltK_irr] at h; cases h
theorem knotsL_le (l : List Ck.Bar) : (knotsL l).length ≤ 2 * l.length := by
  have h1 := (knotsL_nodup l).length_le_of_subset (l₂ := Ck.ends l) (fun x hx => (knotsL_mem l x).1 hx)
  have h2 := ends_length l
  omega
theorem two_at_most {l : List Ck.Bar} (hN : Ck.Net l) (p : Ck.Bar → Bool) (a b : Ck.Bar) (h : ∀ x ∈ l, p x = true → x = a ∨ x = b) : l.countP p ≤ 2 := by
  rw [List.countP_eq_length_filter]
  have hn : l.Nodup := hN.nodup
  have hf : (l.filter p).Nodup := hn.filter p
  have h1 := hf.length_le_of_subset (l₂ := [a, b]) (fun x hx => by
    obtain ⟨hx1, hx2⟩ := List.mem_filter.1 hx
    have := h x hx1 hx2
    simpa using this)
  simpa using h1
theorem degs_four {l : List Ck.Bar} (hN : Ck.Net l) (k : Ck.Knot) : (Ck.ends l).count k ≤ 4 := by
  rw [ends_count]
  have h1 := two_at_most hN (fun b => decide (b.lo = k)) ⟨k.x, k.y, 1⟩ ⟨k.x, k.y, -1⟩ (fun x hx he => by
    have h2 : x.lo = k := by simpa using he
    obtain ⟨-, h3, -, -⟩ := hN.1 x hx
    cases x; cases k
    simp only [Ck.Bar.lo, Ck.Knot.mk.injEq, Ck.Bar.mk.injEq] at *
    omega)
  have h2 := two_at_most hN (fun b => decide (b.hi = k)) ⟨k.x - 1, k.y - 1, 1⟩ ⟨k.x + 1, k.y - 1, -1⟩ (fun x hx he => by
    have h2 : x.hi = k := by simpa using he
    obtain ⟨-, h3, -, -⟩ := hN.1 x hx
    cases x; cases k
    simp only [Ck.Bar.hi, Ck.Knot.mk.injEq, Ck.Bar.mk.injEq] at *
    omega)
  omega
theorem legN_knots {l : List Ck.Bar} {K : List Ck.Knot} (hK : K = (degsL (Ck.ends l)).map (·.1)) (hn : K.Nodup) (hm : ∀ x, x ∈ K ↔ x ∈ Ck.ends l) (i : Nat) : legN l i = (knotsL l).countP fun k => decide ((Ck.ends l).count k = i) := by
  unfold legN
  rw [← hK]
  exact List.Perm.countP_eq _ ((List.perm_ext_iff_of_nodup hn (knotsL_nodup l)).2 fun x => by rw [hm, knotsL_mem])
set_option maxHeartbeats 2000000 in
set_option maxRecDepth 100000 in
theorem netKnotsS (A : Option Addr) (c : Nat) (l : List Ck.Bar) (w : World) (u : List Ck.Knot) (hu : knotsL l = u) (hl : l.length ≤ 4096) (hN : Ck.Net l) (hO : OKS w A c l) :
    Calls Tryz.prog 41 #[.slice A l.length c] w fun e w' => ∃ v, e = .returned (.tuple #[v, .int .i64 0]) ∧ w'.ownsRow w.heap.size 26 2 v u.length (kcellsL u) ∧ Below w.heap.size w w' := by
  obtain ⟨hcap, hcm, -, h⟩ := hO
  have HU := Lib.hid hu
  clear hu
  have HR := Lib.hid h
  have HN := Lib.hid hN
  have HE := Lib.hid ((netE_zero l).2 ⟨hl, hN⟩)
  have hnk := nK_le l
  clear h hN
  go_enter Tryz.func41, Tryz.ntmps41
  go_wp2_with fail
  refine (netCheckNet A c l _ hl hcap hcm HR.out).mono ?_
  rintro e w1 ⟨rfl, hb1⟩
  rw [HE.out]
  go_wp2_with fail
  refine (netDegrees A c l _ hl HN.out.1 ((HR.out.below hb1).more hb1.size)).mono ?_
  rintro e w2 ⟨b, rfl, hbz, hm2, hb2⟩
  have hc2 := hb1.trans (hb2.mono hb1.size)
  have hdl := degs_length hm2
  have hbl := hm2.lt
  have HM := Lib.hid hm2
  clear hm2
  go_wp2_with fail
  refine (keys_any (some b) _).mono ?_
  rintro e w3 ⟨rfl, rfl⟩
  have bM := Boxed.new w2 139 (.map (some b))
  have hb3 : Below w2.heap.size w2 (w2.alloc (.cells #[.map (some b)] 139)) := (Below.refl _ _).alloc (Nat.le_refl _) _
  have hM3 : MIs (w2.alloc (.cells #[.map (some b)] 139)) b (degsL (Ck.ends l)) := HM.out.below hb3 hbl
  have hc3 := hc2.trans (hb3.mono hc2.size)
  have hsz3 : w2.heap.size < (w2.alloc (.cells #[.map (some b)] 139)).heap.size := by simp
  obtain ⟨W3, hW3⟩ : ∃ W3, W3 = w2.alloc (.cells #[.map (some b)] 139) := ⟨_, rfl⟩
  rw [← hW3] at bM hM3 hc3 hsz3
  have HW3 := Lib.hid hW3
  clear hW3 hb3
  have hseq := keys_stops Fence.wide 1 trivial rfl (Nat.le_refl _) w2.heap.size b (degsL (Ck.ends l)) W3 hsz3 bM.cell hM3
  have HDL := Lib.hid hdl
  clear hdl hM3
  go_wp2_with fail
  rw [← HW3.out]
  refine (netSortedFunc _ _ (enters_of Tryz.func137 (by kernel_rfl) rfl) _ _ _ (by rw [HDL.out]; omega) (fun ss hs => by
    have h1 : ss.length ≤ (degsL (Ck.ends l)).length := by
      have := hs.1.length_le_of_subset (l₂ := (degsL (Ck.ends l)).map (·.1)) (fun x hx => (hs.2 x).1 hx)
      rwa [List.length_map] at this
    rw [HDL.out] at h1; omega) _ hseq).mono ?_
  rintro e w4 ⟨v, ss, rfl, hS, hrow, hb4⟩
  have HO := Lib.hid (ownsRow_mono hrow hc3.size)
  have HS := Lib.hid hS
  clear hrow hS hseq
  go_wp2
  go_ret2
  have e := knotsL_of (l := l) (ks := sortKnots ss) (sortKnots_pw HS.out.1) (fun k => by rw [(sortKnots_perm ss).mem_iff, HS.out.2 k, degs_mem])
  refine ⟨v, rfl, ?_, hc3.trans (hb4.mono hc3.size)⟩
  rw [← HU.out, ← e, (sortKnots_perm ss).length_eq]
  exact HO.out
set_option maxHeartbeats 1000000 in
set_option maxRecDepth 100000 in
theorem netKnotsBad (A : Option Addr) (c : Nat) (l : List Ck.Bar) (E : Int) (w : World) (h : OKS w A c l) (hE : netE l = E) (hne : E ≠ 0) :
    Calls Tryz.prog 41 #[.slice A l.length c] w fun e w' => e = .returned (.tuple #[.slice none 0 0, .int .i64 E]) ∧ Below w.heap.size w w' := by
  have HO := Lib.hid h
  have HE := Lib.hid hE
  have hn0 : (E != 0) = true := by rw [bne_iff_ne]; exact hne
  clear h hE hne
  go_enter Tryz.func41, Tryz.ntmps41
  go_wp2_with fail
  refine (netCheckNetA A c l _ HO.out).mono ?_
  rintro e w1 ⟨rfl, hb1⟩
  rw [HE.out]
  go_wp2
  go_ret2
  exact ⟨rfl, hb1⟩
set_option maxHeartbeats 1000000 in
set_option maxRecDepth 100000 in
theorem netMeshesBad (A : Option Addr) (c : Nat) (l : List Ck.Bar) (E : Int) (w : World) (h : OKS w A c l) (hE : netE l = E) (hne : E ≠ 0) :
    Calls Tryz.prog 44 #[.slice A l.length c] w fun e w' => e = .returned (.tuple #[.slice none 0 0, .int .i64 E]) ∧ Below w.heap.size w w' := by
  have HO := Lib.hid h
  have HE := Lib.hid hE
  have hn0 : (E != 0) = true := by rw [bne_iff_ne]; exact hne
  clear h hE hne
  go_enter Tryz.func44, Tryz.ntmps44
  go_wp2_with fail
  refine (netCheckNetA A c l _ HO.out).mono ?_
  rintro e w1 ⟨rfl, hb1⟩
  rw [HE.out]
  go_wp2
  go_ret2
  exact ⟨rfl, hb1⟩
set_option maxHeartbeats 1000000 in
set_option maxRecDepth 100000 in
theorem netLegsBad (A : Option Addr) (c : Nat) (l : List Ck.Bar) (E : Int) (w : World) (h : OKS w A c l) (hE : netE l = E) (hne : E ≠ 0) :
    Calls Tryz.prog 43 #[.slice A l.length c] w fun e w' => e = .returned (.tuple #[.agg #[.int .i64 0, .int .i64 0, .int .i64 0, .int .i64 0, .int .i64 0], .int .i64 E]) ∧ Below w.heap.size w w' := by
  have HO := Lib.hid h
  have HE := Lib.hid hE
  have hn0 : (E != 0) = true := by rw [bne_iff_ne]; exact hne
  clear h hE hne
  obtain ⟨w0, hw0, h0, hb0, hz0⟩ := box5H w (.int .i64 0) (.int .i64 0) (.int .i64 0) (.int .i64 0) (.int .i64 0) 67
  have HW0 := Lib.hid hw0
  have HH0 := Lib.hid h0
  have HZ0 := Lib.hid hz0
  clear hw0 h0 hz0
  go_enter Tryz.func43, Tryz.ntmps43
  go_wp2_with fail
  rw [← HW0.out]
  refine (netCheckNetA A c l _ (HO.out.below hb0)).mono ?_
  rintro e w1 ⟨rfl, hb1⟩
  rw [HE.out]
  have h0 := (hb1.block _ (by rw [HZ0.out]; omega)).trans HH0.out
  obtain ⟨d0, d1, d2, d3, d4, -⟩ := five_of_block h0
  have f0 := fiveF h0 0
  have f1 := fiveF h0 1
  have f2 := fiveF h0 2
  have f3 := fiveF h0 3
  have f4 := fiveF h0 4
  obtain ⟨s0, g0⟩ := setBlockAt h0 0 (.int .i64 0)
  obtain ⟨s1, g1⟩ := setBlockAt s0 1 (.int .i64 0)
  obtain ⟨s2, g2⟩ := setBlockAt s1 2 (.int .i64 0)
  obtain ⟨s3, g3⟩ := setBlockAt s2 3 (.int .i64 0)
  obtain ⟨s4, g4⟩ := setBlockAt s3 4 (.int .i64 0)
  have bq : Below w.heap.size w w1 := hb0.trans (hb1.mono hb0.size)
  have t0 := bq.grown g0 bq.size (fun j e => by cases e; exact Nat.le_refl _)
  have t1 := t0.grown g1 t0.size (fun j e => by cases e; exact Nat.le_refl _)
  have t2 := t1.grown g2 t1.size (fun j e => by cases e; exact Nat.le_refl _)
  have t3 := t2.grown g3 t2.size (fun j e => by cases e; exact Nat.le_refl _)
  have HT := Lib.hid (t3.grown g4 t3.size (fun j e => by cases e; exact Nat.le_refl _))
  have HS4 := Lib.hid (show _ = some (Obj.cells #[.int .i64 0, .int .i64 0, .int .i64 0, .int .i64 0, .int .i64 0] 67 (0, 0)) from s4)
  clear s0 s1 s2 s3 s4 g0 g1 g2 g3 g4 t0 t1 t2 t3 bq h0 hb1
  go_wp2
  obtain ⟨r0, r1, r2, r3, r4, -⟩ := five_of_block HS4.out
  refine bodyPost_ret (v := .tuple #[.agg #[.int .i64 0, .int .i64 0, .int .i64 0, .int .i64 0, .int .i64 0], .int .i64 E]) (by simp [results, Tryz.results43, go_sem, r0, r1, r2, r3, r4]) rfl ⟨rfl, HT.out⟩
set_option maxHeartbeats 1000000 in
set_option maxRecDepth 100000 in
theorem netMeshesS (A : Option Addr) (c : Nat) (l u : List Ck.Bar) (w : World) (hu : meshL l l = u) (hl : l.length ≤ 4096) (hN : Ck.Net l) (h : OKS w A c l) :
    Calls Tryz.prog 44 #[.slice A l.length c] w fun e w' => ∃ v, e = .returned (.tuple #[v, .int .i64 0]) ∧ w'.ownsRow w.heap.size 118 2 v u.length (meshCells u) ∧ Below w.heap.size w w' := by
  have HO := Lib.hid h
  have HN := Lib.hid hN
  have HU := Lib.hid hu
  have HE := Lib.hid ((netE_zero l).2 ⟨hl, hN⟩)
  clear h hN hu
  go_enter Tryz.func44, Tryz.ntmps44
  go_wp2_with fail
  refine (netCheckNetA A c l _ HO.out).mono ?_
  rintro e w1 ⟨rfl, hb1⟩
  rw [HE.out]
  go_wp2_with fail
  refine (netMeshesOf A c l _ hl HN.out.2 HN.out.1 (HO.out.below hb1).2.2.2).mono ?_
  rintro e w2 ⟨v, rfl, hrow, hb2⟩
  rw [HU.out] at hrow
  have HR := Lib.hid (ownsRow_mono hrow hb1.size)
  clear hrow
  go_wp2
  go_ret2
  exact ⟨v, rfl, HR.out, hb1.trans (hb2.mono hb1.size)⟩
end Go.Proofs.YtdeplhihcifmeaaGreatDoor

/- Rows of pairs (knots, meshes) in memory; SameKnots of the reference. -/
namespace Go.Proofs.YtdeplhihcifmeaaGreatDoor
open Go.RowKit

theorem kcellsL_at (l : List Ck.Knot) : ∀ (i : Nat) (h : i < l.length), (kcellsL l)[i * 2]? = some (.int .i64 l[i].x) ∧ (kcellsL l)[i * 2 + 1]? = some (.int .i64 l[i].y) := by
  induction l with
  | nil => intro i h; simp at h
  | cons a r ih =>
    intro i h
    have e : kcellsL (a :: r) = [.int .i64 a.x, .int .i64 a.y] ++ kcellsL r := by simp [kcellsL]
    rw [e]
    cases i with
    | zero => exact ⟨rfl, rfl⟩
    | succ i =>
      have := ih i (by simpa using h)
      rw [show (i + 1) * 2 = i * 2 + 2 from by omega]
      simpa using this
/-- The slice reads as these pairs. -/
def OKP (w : World) (a : Option Addr) (c : Nat) (l : List Ck.Knot) : Prop := l.length ≤ c ∧ c ≤ maxLen ∧ RK w w.heap.size a l
theorem RK.below' {w w' : World} {B : Nat} {A : Option Addr} {l : List Ck.Knot} (h : RK w B A l) (hb : Below B w w') : RK w' B A l := fun hl => by
  obtain ⟨b, off, rfl, hB, hc⟩ := h hl
  exact ⟨b, off, rfl, hB, fun i hi => ⟨(hb.cell (p := ⟨b, _, none⟩) hB).trans (hc i hi).1, (hb.cell (p := ⟨b, _, none⟩) hB).trans (hc i hi).2⟩⟩
theorem RK.more' {w : World} {B B' : Nat} {A : Option Addr} {l : List Ck.Knot} (h : RK w B A l) (hB : B ≤ B') : RK w B' A l := fun hl => by
  obtain ⟨b, off, h1, h2, hc⟩ := h hl
  exact ⟨b, off, h1, by omega, hc⟩
theorem OKP.below {w w' : World} {a : Option Addr} {c : Nat} {l : List Ck.Knot} (h : OKP w a c l) (hb : Below w.heap.size w w') : OKP w' a c l := ⟨h.1, h.2.1, (h.2.2.below' hb).more' hb.size⟩
theorem own_okp {w : World} {base : Nat} {t : TypeId} {v : Value} {l : List Ck.Knot} (h : w.ownsRow base t 2 v l.length (kcellsL l)) : ∃ a c, v = .slice a l.length c ∧ OKP w a c l := by
  rcases h.2 with ⟨rfl, hz⟩ | ⟨g, cap, cur, rfl, _, hgb, h1, h2, _⟩
  · have : l = [] := List.eq_nil_of_length_eq_zero hz
    subst this
    exact ⟨none, 0, rfl, Nat.zero_le _, by unfold maxLen; omega, fun hl => by simp at hl⟩
  · refine ⟨_, _, rfl, h1, h2, fun _ => ⟨g, 0, rfl, (Array.getElem?_eq_some_iff.1 hgb).1, fun i hi => ?_⟩⟩
    have hc := h.cells (g := g) rfl
    obtain ⟨h0, h1⟩ := kcellsL_at l i hi
    have k0 := hc _ _ h0
    have k1 := hc _ _ h1
    rw [add0] at k0 k1
    simp only [Nat.zero_add]
    exact ⟨k0, k1⟩
def meshK (l : List Ck.Bar) : List Ck.Knot := l.map fun b => ⟨b.x, b.y + 1⟩
theorem meshK_cells (l : List Ck.Bar) : meshCells l = kcellsL (meshK l) := by
  induction l with
  | nil => rfl
  | cons a r ih => simp [meshCells, meshK, kcellsL] at ih ⊢; exact ih
theorem meshK_length (l : List Ck.Bar) : (meshK l).length = l.length := by simp [meshK]
set_option maxHeartbeats 1000000 in
set_option maxRecDepth 100000 in
theorem refSameKnots (A A' : Option Addr) (c c' : Nat) (l : List Ck.Knot) (w : World) (hl : l.length ≤ 10000) (h : RK w w.heap.size A l) (h' : RK w w.heap.size A' l) :
    Calls Tryz.prog 46 #[.slice A l.length c, .slice A' l.length c'] w fun e w' => e = .returned (.bool true) ∧ Below w.heap.size w w' := by
  have HR := Lib.hid h
  have HR' := Lib.hid h'
  clear h h'
  have hne : ((l.length : Int) != (l.length : Int)) = false := by simp
  go_enter Tryz.func46, Tryz.ntmps46
  go_wp2_with fail
  go_loopw [5] (fun i wr => ∃ k : Nat, k ≤ l.length ∧ i = .int .i64 k ∧ Below w.heap.size w wr) (fun i _ => l.length - (intOf i).toNat)
  case atStart => exact ⟨0, Nat.zero_le _, rfl, Below.refl _ _⟩
  case round =>
    obtain ⟨k, hk, rfl, hb⟩ := hrel
    by_cases hlt : k < l.length
    · have h := HR.out.below hb
      have h' := HR'.out.below hb
      obtain ⟨b, off, rfl, hB, hc⟩ := h (by omega)
      obtain ⟨b', off', rfl, hB', hc'⟩ := h' (by omega)
      obtain ⟨c0, c1⟩ := hc k hlt
      obtain ⟨d0, d1⟩ := hc' k hlt
      clear hc hc' h h'
      have b1 : (0 : Int) ≤ (k : Int) := by omega
      have b2 : (k : Int) < (l.length : Int) := by omega
      generalize l[k] = x at c0 c1 d0 d1
      go_wp2_with fail
      go_region
      go_wp2_with fail
      go_roundw
      case rel => exact ⟨k + 1, by omega, by go_num, below_drew hb⟩
      case measure => simp [intOf]; omega
    · have e : k = l.length := by omega
      subst e
      go_wp2_with fail
      go_ret
      exact ⟨rfl, hb⟩
end Go.Proofs.YtdeplhihcifmeaaGreatDoor

/- The contract of the reference's Sorted, at a list that ascends already. -/
namespace Go.Proofs.YtdeplhihcifmeaaGreatDoor
open Go.RowKit

def OwnPost (l : List Ck.Bar) (w : World) (e : Ending) (w' : World) : Prop :=
  ∃ v, e = .returned v ∧ w'.ownsRow w.heap.size 24 3 v l.length (bcellsL l) ∧ Below w.heap.size w w'

theorem grewQ {B : Nat} {w1 w2 : World} {base : Nat} {e : TypeId} {size n : Nat} {v : Value} {xs : List Value} (h : w1.ownsRow base e size v n xs) (hB : B ≤ base) (hz : B ≤ w1.heap.size) (hg : w1.grownBy w2 v.ownBlock) : Below B w1 w2 :=
  (Below.refl _ _).grown hg hz (fun k e => Nat.le_trans hB (ownsRow_base h k e))

end Go.Proofs.YtdeplhihcifmeaaGreatDoor

/- An append of whatever many elements (none, too) at a step of a region that draws its order. -/
namespace Go.Proofs.YtdeplhihcifmeaaGreatDoor
open Go.RowKit

section
variable {P : Program} {w : World} {o : Oper} {a : Act} {K : Act → World → Prop} {Q : Exit → Act → World → Prop}
theorem wp_append_gen (s x : Operand) (t : TypeId) (ho : o.op = .call { callee := .builtin .append, args := #[s, x], argTypes := #[t, t] })
    (base : Nat) (e : TypeId) (i : TypeInfo) (z : Value) (size bytes : Nat) (ht : P.underlying t = some (.slice e)) (hi : P.info? e = some i) (hz : i.zero = some z)
    (hsize : i.size = size) (hby : i.bytes = bytes) (hzs : z.cells.size = size) (hsz : 0 < size)
    (v : Value) (n : Nat) (xs : List Value) (hs : a.eval s = v) (hown : w.ownsRow base e size v n xs)
    (A : Option Addr) (m c : Nat) (news : List Value) (hx : a.eval x = .slice A m c) (hl : news.length = m * size) (hA : A = none → m = 0 ∧ c = 0) (hnews : ∀ ad, A = some ad → ∀ j u, news[j]? = some u → w.cell? (ad.add j) = some u) (h1 : ∀ u ∈ news, u.oneCell' = true)
    (h63 : n + m ≤ maxLen) (hbytes : (n + m) * bytes ≤ 140737488355328) (hbase : base ≤ w.heap.size)
    (h : ∀ v' w', w'.ownsRow base e size v' (n + m) (xs ++ news) → w.grownBy w' v.ownBlock → K (a.put o.dst v') w') :
    Oper.wp P o a w K Q := by
  rcases A with _ | ad
  · obtain ⟨rfl, rfl⟩ := hA rfl
    have hn : news = [] := List.eq_nil_of_length_eq_zero (by rw [hl, Nat.zero_mul])
    subst hn
    have hr := run_append_owned_none (P := P) (w := w) base t o.type e i size ht hi v n xs hown
    unfold Oper.wp execOp
    simp only [ho, resolve, invoke, builtin, Sem.run_bind, Sem.run_pure, Result.andThen_ok, List.map_toArray, List.map_cons, List.map_nil, hs, hx, hr]
    exact h v w (by simpa using hown) (World.grownBy.refl _ _)
  · obtain ⟨v', w', hr, h2, h3, _, _⟩ := run_append_own_at (P := P) w base t o.type e i z size bytes ht hi hz hsize hby hzs hsz v n xs hown ad m c news hl (hnews ad rfl) h1 h63 hbytes hbase
    unfold Oper.wp execOp
    simp only [ho, resolve, invoke, builtin, Sem.run_bind, Sem.run_pure, Result.andThen_ok, List.map_toArray, List.map_cons, List.map_nil, hs, hx, hr]
    exact h v' w' h2 h3
end
/-- The steps of a drawn region: lists' elements, a slot that is put. One theorem, so that no argument of a simp is left unused. -/
theorem layG : (∀ (α : Type) (a : List α) (i : Nat) (h : i < a.toArray.size), a.toArray[i] = a[i]'(by simpa using h)) ∧ (∀ (α : Type) (a : α) (l : List α) (i : Nat) (h : i + 1 < (a :: l).length), (a :: l)[i + 1] = l[i]'(by simpa using h)) ∧ (∀ (α : Type) (a : α) (l : List α) (h : 0 < (a :: l).length), (a :: l)[0] = a) :=
  ⟨fun _ _ _ _ => by simp, fun _ _ _ _ _ => rfl, fun _ _ _ _ => rfl⟩
theorem layA : ((∀ (α : Type) (a : List α) (i : Nat) (h : i < a.toArray.size), a.toArray[i] = a[i]'(by simpa using h)) ∧ (∀ (α : Type) (a : α) (l : List α) (i : Nat) (h : i + 1 < (a :: l).length), (a :: l)[i + 1] = l[i]'(by simpa using h)) ∧ (∀ (α : Type) (a : α) (l : List α) (h : 0 < (a :: l).length), (a :: l)[0] = a)) ∧ (∀ (a : Act) (i : Nat) (v : Value), a.put (some i) v = { a with tmps := a.tmps.setIfInBounds i v }) ∧ (∀ (l : List Value) (i : Nat) (v : Value), l.toArray.setIfInBounds i v = (l.set i v).toArray) ∧ (∀ (x : Value) (l : List Value) (v : Value), (x :: l).set 0 v = v :: l) ∧ (∀ (x : Value) (l : List Value) (i : Nat) (v : Value), (x :: l).set (i + 1) v = x :: l.set i v) :=
  ⟨layG, fun _ _ _ => rfl, fun _ _ _ => by simp, fun _ _ _ => rfl, fun _ _ _ _ => rfl⟩
end Go.Proofs.YtdeplhihcifmeaaGreatDoor

/- Equality of bars, and the reference's Has. -/
namespace Go.Proofs.YtdeplhihcifmeaaGreatDoor
open Go.RowKit Ck

theorem eqBar' (a b : Ck.Bar) (r : Bool) (hr : decide (a = b) = r) (w : World) :
    (Op.equalIn 10000 24 (.agg #[.int .i64 a.x, .int .i64 a.y, .int .i64 a.s]) (.agg #[.int .i64 b.x, .int .i64 b.y, .int .i64 b.s])).run Tryz.prog w = .ok r w := by
  have u3 := Tryz.underlying3
  have a3 := Tryz.isAgg3
  have z3 := Tryz.sizeOf3
  have hS : Tryz.prog.underlying 24 = some (.struct (Tryz.prog.fieldsOf 24)) := by kernel_rfl
  have hp : Tryz.prog.stoodInHeld 24 = false := by kernel_rfl
  subst hr
  have he : (a = b) = (a.x = b.x ∧ a.y = b.y ∧ a.s = b.s) := propext ⟨fun h => by subst h; exact ⟨rfl, rfl, rfl⟩, fun ⟨h1, h2, h3⟩ => Bar.ext' h1 h2 h3⟩
  rw [show (10000 : Nat) = 9999 + 1 from rfl, run_equalIn_struct w 9999 24 _ _ hS hp]
  simp only [Program.fieldsOf, Tryz.underlying24, he]
  go_simp
  by_cases h1 : a.x = b.x <;> by_cases h2 : a.y = b.y <;> by_cases h3 : a.s = b.s <;> simp [h1, h2, h3]
theorem guardBar : Tryz.prog.eqGuardType Tryz.prog.depth 24 = false := by kernel_rfl
set_option maxHeartbeats 2000000 in
set_option maxRecDepth 100000 in
theorem refHasBar (A : Option Addr) (c : Nat) (l : List Ck.Bar) (k : Ck.Bar) (w : World) (hl : l.length ≤ 10000) (h : RB w w.heap.size A l) :
    Calls Tryz.prog 31 #[.slice A l.length c, .agg #[.int .i64 k.x, .int .i64 k.y, .int .i64 k.s]] w fun e w' => e = .returned (.bool (decide (k ∈ l))) ∧ Below w.heap.size w w' := by
  have HR := Lib.hid h
  have hl' : (l.length : Int) ≤ 10000 := by omega
  have hgd := guardBar
  clear h
  go_enter Tryz.func31, Tryz.ntmps31
  go_wp2_with fail
  go_loopw [5] (fun i wi => ∃ j : Nat, j ≤ l.length ∧ i = .int .i64 j ∧ Hid (∀ q (hq : q < l.length), q < j → l[q] ≠ k) ∧ wi.cell? ⟨w.heap.size, 0, none⟩ = some (.int .i64 k.x) ∧ wi.cell? ⟨w.heap.size, 1, none⟩ = some (.int .i64 k.y) ∧ wi.cell? ⟨w.heap.size, 2, none⟩ = some (.int .i64 k.s) ∧ Below w.heap.size w wi) (fun i _ => l.length - (intOf i).toNat)
  case atStart =>
    obtain ⟨w1, hw1, e0, e1, e2, hb1, hz1⟩ := box3 w (.int .i64 k.x) (.int .i64 k.y) (.int .i64 k.s) 24
    rw [← hw1]
    exact ⟨0, Nat.zero_le _, rfl, fun q _ h => by omega, e0, e1, e2, hb1⟩
  case round =>
    obtain ⟨j, hj, rfl, hno, e0, e1, e2, hb⟩ := hrel
    by_cases hlt : j < l.length
    · obtain ⟨b, off, rfl, hB, hc⟩ := HR.out.below hb (by omega)
      obtain ⟨c0, c1, c2⟩ := hc j hlt
      have hi0 : (0 : Int) ≤ (j : Int) := by omega
      have hi1 : (j : Int) < (l.length : Int) := by omega
      have hw1 : IntKind.i64.wrap (j : Int) = (j : Int) := by rw [IntKind.wrap_i64]; omega
      clear hc
      by_cases he : l[j] = k
      · have hq := eqBar' l[j] k true (by simpa using he)
        have HF := Lib.hid (show decide (k ∈ l) = true by rw [decide_eq_true_eq, ← he]; exact List.getElem_mem hlt)
        clear he
        go_wp2_with fail
        go_quiet (fail)
        go_wp2
        go_ret
        exact ⟨ret_b HF.out.symm, below_drewN hb _⟩
      · have hq := eqBar' l[j] k false (by simpa using he)
        have HE := Lib.hid he
        clear he
        go_wp2_with fail
        go_quiet (fail)
        go_wp2
        go_roundw
        case rel => exact ⟨j + 1, by omega, by go_num, fun q hq2 hqj => by
          rcases Nat.lt_or_ge q j with h1 | h1
          · exact hno.out q hq2 h1
          · obtain rfl : q = j := by omega
            exact HE.out, e0, e1, e2, below_drewN hb _⟩
        case measure => simp [intOf]; omega
    · obtain rfl : j = l.length := by omega
      have HF := Lib.hid (show decide (k ∈ l) = false by
        rw [decide_eq_false_iff_not]
        intro hm
        obtain ⟨q, hq, e⟩ := List.getElem_of_mem hm
        exact hno.out q hq hq e)
      go_wp2
      go_ret
      exact ⟨ret_b HF.out.symm, hb⟩
end Go.Proofs.YtdeplhihcifmeaaGreatDoor

/- Ends and Has of the program with errors, Around with an error; the reference's Ends. -/
namespace Go.Proofs.YtdeplhihcifmeaaGreatDoor
open Go.RowKit Go.Shelf Ck

set_option maxHeartbeats 1000000 in
set_option maxRecDepth 100000 in
theorem refEnds (x y s : Int) (w : World) (hx1 : -100000 ≤ x) (hx2 : x ≤ 100000) (hy1 : -100000 ≤ y) (hy2 : y ≤ 100000) (hs1 : -1 ≤ s) (hs2 : s ≤ 1) :
    Calls Tryz.prog 27 #[.agg #[.int .i64 x, .int .i64 y, .int .i64 s]] w fun e w' => e = .returned (.agg #[.int .i64 x, .int .i64 y, .int .i64 (x + s), .int .i64 (y + 1)]) ∧ Below w.heap.size w w' := by
  obtain ⟨w0, hw0, c0, c1, c2, hr, hb0, hz0⟩ := box34 w (.int .i64 x) (.int .i64 y) (.int .i64 s) (.int .i64 0) (.int .i64 0) (.int .i64 0) (.int .i64 0) 24 37
  obtain ⟨r0, r1, r2, r3, rf⟩ := four_cells hr
  have hz00 : w.heap.size < w0.heap.size := by omega
  have HW := Lib.hid hw0
  have HR := Lib.hid hr
  clear hw0 hr
  go_enter Tryz.func27, Tryz.ntmps27
  go_wp2_with fail
  rw [← HW.out]
  go_region_with (first
    | (go_at_call 80; refine (refLower _ _ _ _).mono ?_; rintro e w1 ⟨rfl, hb1⟩; obtain ⟨d0, d1, d2, hr1, hz1⟩ := carry34 hb1 hz0 c0 c1 c2 HR.out; have HR1 := Lib.hid hr1; obtain ⟨s0, s1, s2, s3, sf⟩ := four_cells hr1; clear hr1)
    | (go_at_call 81; refine (refUpper _ _ _ _ hx1 hx2 hy1 hy2 hs1 hs2).mono ?_; rintro e w2 ⟨rfl, hb2⟩; obtain ⟨e0, e1, e2, hr2, hz2⟩ := carry34 hb2 hz1 d0 d1 d2 HR1.out; have HR2 := Lib.hid hr2; obtain ⟨t0, t1, t2, t3, tf⟩ := four_cells hr2; clear hr2))
  all_goals go_wp2
  all_goals
    exact bodyPost_ret (v := .agg #[.int .i64 x, .int .i64 y, .int .i64 (x + s), .int .i64 (y + 1)]) (by simp [results, Tryz.results27, go_sem, t0, t1, t2, t3]) rfl
      ⟨rfl, ((((((below_drew hb0).trans (hb1.mono (by show w.heap.size ≤ w0.heap.size; omega))).trans (hb2.mono (by omega))).setCell (by simp) _).setCell (by simp) _).setCell (by simp) _).setCell (by simp) _⟩
end Go.Proofs.YtdeplhihcifmeaaGreatDoor
