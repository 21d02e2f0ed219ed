/- TaperBack returns true for every string and byte; the library's tables that its row lists are tied to the program's text. Conditions: none beside that. -/
import Derived.Test.YtgpgdjdababidaaGreatDoorM5
import Derived.BigQuiet
import Derived.Deep.QuietTactic
/- isDigit, Number (one or two digits) and Text (below 100) of the references; how a run is read: plain mathematics. -/
namespace Go.Proofs.YtgpgdjdababidaaGreatDoor
open Go.RowKit Go.Shelf Ck

theorem rfIsDigit (c : UInt8) (w : World) : Calls Tryz.prog 80 #[.int .u8 c.toNat] w fun e w' => e = .returned (.bool (digC c)) ∧ w = w' := by
  by_cases h1 : 48 ≤ c.toNat
  · by_cases h2 : c.toNat ≤ 57
    · have hd : digC c = true := by simp [digC, h1, h2]
      have g1 : (48 : Int) ≤ (c.toNat : Int) := by omega
      have g2 : (c.toNat : Int) ≤ 57 := by omega
      rw [hd]
      clear hd h1 h2
      go_enter Tryz.func80, Tryz.ntmps80
      go_wp2
      go_ret
      simp
    · have hd : digC c = false := by simp [digC, h2]
      have g1 : (48 : Int) ≤ (c.toNat : Int) := by omega
      have g2 : ¬ (c.toNat : Int) ≤ 57 := by omega
      rw [hd]
      clear hd h1 h2
      go_enter Tryz.func80, Tryz.ntmps80
      go_wp2
      go_ret
      simp
  · have hd : digC c = false := by simp [digC, h1]
    have g1 : ¬ (48 : Int) ≤ (c.toNat : Int) := by omega
    rw [hd]
    clear hd h1
    go_enter Tryz.func80, Tryz.ntmps80
    go_wp2
    go_ret
    simp
/-- How many of the first two bytes are digits, from the first one on. -/
def digN : List UInt8 → Nat
  | [] => 0
  | [a] => if digC a = true then 1 else 0
  | a :: b :: _ => if digC a = true then (if digC b = true then 2 else 1) else 0
theorem digN_le (l : List UInt8) : digN l ≤ 2 ∧ digN l ≤ l.length := by
  match l with
  | [] => simp [digN]
  | [a] => by_cases h : digC a = true <;> simp [digN, h]
  | a :: b :: r => by_cases h : digC a = true <;> by_cases h2 : digC b = true <;> simp [digN, h, h2]
theorem digN_lt {l : List UInt8} {j : Nat} (h : j ≤ digN l) : j < digN l ↔ ∃ h' : j < l.length, j < 2 ∧ digC l[j] = true := by
  match l with
  | [] => simp [digN] at h ⊢
  | [a] =>
    by_cases hd : digC a = true
    · simp only [digN, if_pos hd] at h ⊢
      constructor
      · intro hj
        obtain rfl : j = 0 := by omega
        exact ⟨by simp, by omega, hd⟩
      · rintro ⟨h1, _⟩
        simp at h1
        omega
    · simp only [digN, if_neg hd] at h ⊢
      obtain rfl : j = 0 := by omega
      simp [hd]
  | a :: b :: r =>
    by_cases hd : digC a = true
    · by_cases hb : digC b = true
      · simp only [digN, if_pos hd, if_pos hb] at h ⊢
        have : j = 0 ∨ j = 1 ∨ j = 2 := by omega
        rcases this with rfl | rfl | rfl <;> simp [hd, hb]
      · simp only [digN, if_pos hd, if_neg hb] at h ⊢
        have : j = 0 ∨ j = 1 := by omega
        rcases this with rfl | rfl <;> simp [hd, hb]
    · simp only [digN, if_neg hd] at h ⊢
      obtain rfl : j = 0 := by omega
      simp [hd]
def numL (l : List UInt8) : Nat := l.foldl (fun n c => 10 * n + (c.toNat - 48)) 0
theorem okC_dig {c : UInt8} (h : okC c = true) : digC c = false := by
  rcases (okC_iff c).1 h with rfl | rfl | rfl <;> decide
/-- A run, as the reference reads it. -/
theorem readF_ref (l : List UInt8) : (digN l = 0 → readF 0 0 l = none) ∧ (∀ h : 0 < l.length, l[0] = 48 → readF 0 0 l = none) ∧ (digN l = l.length → readF 0 0 l = none) ∧
    (∀ h : digN l < l.length, okC l[digN l] = false → readF 0 0 l = none) ∧
    (∀ h : digN l < l.length, ∀ h0 : 0 < l.length, digN l ≠ 0 → l[0] ≠ 48 → okC l[digN l] = true → readF 0 0 l = some (l[digN l], numL (l.take (digN l)), digN l + 1)) := by
  match l with
  | [] => simp [readF, digN]
  | [a] =>
    cases hd : digC a <;> cases ho : okC a <;> by_cases h48 : a = 48 <;> simp [readF, digN, hd, ho, h48, numL] <;> (try (have := okC_dig ho; simp_all))
  | [a, b] =>
    cases hd : digC a <;> cases hb : digC b <;> cases ho : okC a <;> cases hob : okC b <;> by_cases h48 : a = 48 <;> simp [readF, digN, hd, hb, ho, hob, h48, numL] <;> (try (have := okC_dig ho; simp_all)) <;> (try (have := okC_dig hob; simp_all))
  | a :: b :: c :: r =>
    cases hd : digC a <;> cases hb : digC b <;> cases hob : okC b <;> cases hoc : okC c <;> by_cases h48 : a = 48 <;> simp [readF, digN, hd, hb, hob, hoc, h48, numL] <;> (try (have := okC_dig hob; simp_all)) <;> (try (have := okC_dig hoc; simp_all))
end Go.Proofs.YtgpgdjdababidaaGreatDoor

/- What is printed of a word is parsed as that word: plain mathematics. -/
namespace Go.Proofs.YtgpgdjdababidaaGreatDoor
open Go.RowKit

/-- The digits of a number from 1 to 99, as a test that can be computed. -/
def decOk (n : Nat) : Bool := match Lib.decDigits n with
  | [a] => digC a && decide (a ≠ 48) && decide (a.toNat - 48 = n)
  | [a, b] => digC a && decide (a ≠ 48) && digC b && decide (10 * (a.toNat - 48) + (b.toNat - 48) = n)
  | _ => false
theorem decOk_all : ∀ n, n < 100 → n ≠ 0 → decOk n = true := by decide +kernel
theorem dig_okC {c : UInt8} (h : digC c = true) : okC c = false := by
  cases ho : okC c with
  | false => rfl
  | true => rw [okC_dig ho] at h; cases h
/-- A printed run is read back. -/
theorem read_dec {n : Nat} {c : UInt8} (h : n < 100) (h0 : n ≠ 0) (hc : okC c = true) (r : List UInt8) :
    readF 0 0 (Lib.decDigits n ++ c :: r) = some (c, n, (Lib.decDigits n).length + 1) := by
  have hk := decOk_all n h h0
  unfold decOk at hk
  split at hk
  · rename_i a e
    rw [e]
    simp only [Bool.and_eq_true, decide_eq_true_eq] at hk
    obtain ⟨⟨h1, h2⟩, h3⟩ := hk
    have := dig_okC h1
    simp [readF, h1, h2, h3, hc]
  · rename_i a b e
    rw [e]
    simp only [Bool.and_eq_true, decide_eq_true_eq] at hk
    obtain ⟨⟨⟨h1, h2⟩, h3⟩, h4⟩ := hk
    have k1 := dig_okC h1
    have k2 := dig_okC h3
    simp [readF, h1, h2, h3, h4, hc, k2]
  · cases hk
theorem parse_run {g p n : Nat} {W r : List UInt8} {c : UInt8} (h : n < 100) (h0 : n ≠ 0) (hc : okC c = true) (hW : W.length + n ≤ 64) :
    parseF (g + 1) p W (Lib.decDigits n ++ [c] ++ r) = parseF g (p + ((Lib.decDigits n).length + 1)) (W ++ Lib.repeatL [c] n) r := by
  have e : Lib.decDigits n ++ [c] ++ r = Lib.decDigits n ++ c :: r := by simp
  rw [e, parseF, if_neg (by simp), read_dec h h0 hc]
  simp only []
  rw [if_neg (by omega)]
  congr 1
  rw [← e, List.drop_append]
  simp
theorem rep_snoc (c : UInt8) : ∀ k, Lib.repeatL [c] k ++ [c] = Lib.repeatL [c] (k + 1)
  | 0 => rfl
  | k + 1 => by
    have ih := rep_snoc c k
    rw [Lib.repeatL, List.append_assoc, ih]
    rfl
/-- From a run's middle on, with the word V before the run. -/
theorem parse_printF {L : List UInt8} (hok : ∀ c ∈ L, okC c = true) (r V : List UInt8) : ∀ k i c g p W, i + k = L.length → c ≤ i → (0 < k → W ++ Lib.repeatL [L.getD i 0] c = V ++ L.take i) → (k = 0 → c = 0 ∧ W = V ++ L) → V.length + L.length ≤ 64 → (printF L k i c).length ≤ g →
    ∃ g' p', g ≤ g' + (printF L k i c).length ∧ parseF g p W (printF L k i c ++ r) = parseF g' p' (V ++ L) r
  | 0, i, c, g, p, W, hik, hci, _, h0, _, _ => by
    obtain ⟨_, rfl⟩ := h0 rfl
    exact ⟨g, p, by omega, by simp [printF]⟩
  | k + 1, i, c, g, p, W, hik, hci, hrun, _, hV, hg => by
    have hi : i < L.length := by omega
    have hgd : L.getD i 0 = L[i] := by simp [hi]
    have hr := hrun (by omega)
    rw [hgd] at hr
    have htake : L.take (i + 1) = L.take i ++ [L[i]] := List.take_succ_eq_append_getElem hi
    have hlen := congrArg List.length hr
    have replen : ∀ m, (Lib.repeatL [L[i]] m).length = m := by
      intro m
      induction m with
      | zero => rfl
      | succ m ih => rw [← rep_snoc, List.length_append, ih]; rfl
    rw [List.length_append, replen, List.length_append, List.length_take] at hlen
    rw [printF] at hg ⊢
    by_cases he : endB L i = true
    · rw [if_pos he, hgd] at hg ⊢
      rw [List.length_append, List.length_append, List.length_singleton] at hg
      obtain ⟨g, rfl⟩ : ∃ g', g = g' + 1 := ⟨g - 1, by omega⟩
      have hW2 : W ++ Lib.repeatL [L[i]] (c + 1) = V ++ L.take (i + 1) := by
        rw [← rep_snoc, ← List.append_assoc, hr, htake, List.append_assoc]
      obtain ⟨g', p', e1, e3⟩ := parse_printF hok r V k (i + 1) 0 g (p + ((Lib.decDigits (c + 1)).length + 1)) (W ++ Lib.repeatL [L[i]] (c + 1)) (by omega) (by omega) (fun _ => by rw [Lib.repeatL, List.append_nil, hW2]) (fun hk => ⟨rfl, by rw [hW2, List.take_of_length_le (by omega)]⟩) hV (by omega)
      refine ⟨g', p', ?_, ?_⟩
      · rw [List.length_append, List.length_append, List.length_singleton]
        omega
      · rw [List.append_assoc, parse_run (by omega) (by omega) (hok _ (List.getElem_mem hi)) (by omega), e3]
    · rw [if_neg he] at hg ⊢
      unfold endB at he
      rw [Bool.not_eq_true, Bool.or_eq_false_iff, decide_eq_false_iff_not, decide_eq_false_iff_not] at he
      obtain ⟨q1, q2⟩ := he
      have q3 : L.getD (i + 1) 0 = L[i] := by rw [Decidable.not_not.1 q2, hgd]
      exact parse_printF hok r V k (i + 1) (c + 1) g p W (by omega) (by omega) (fun _ => by rw [q3, ← rep_snoc, ← List.append_assoc, hr, htake, List.append_assoc]) (fun hk => by omega) hV hg
/-- What is printed of L in front of r is parsed as L, then r. -/
theorem parse_printL {L : List UInt8} (hok : ∀ c ∈ L, okC c = true) (r V : List UInt8) (g p : Nat) (hV : V.length + L.length ≤ 64) (hg : (printL L).length ≤ g) :
    ∃ g' p', g ≤ g' + (printL L).length ∧ parseF g p V (printL L ++ r) = parseF g' p' (V ++ L) r := by
  refine parse_printF hok r V L.length 0 0 g p V (by omega) (Nat.le_refl _) (fun _ => by simp [Lib.repeatL]) (fun h => ⟨rfl, ?_⟩) hV hg
  rw [List.length_eq_zero_iff.1 h, List.append_nil]
theorem parse_two {A B : List UInt8} (ha : ∀ c ∈ A, okC c = true) (hb : ∀ c ∈ B, okC c = true) (h64 : A.length + B.length ≤ 64) (h1 : 1 ≤ (printL A ++ printL B).length) (h2 : (printL A ++ printL B).length ≤ 4096) :
    parseL (printL A ++ printL B) = (A ++ B, 0, 0) := by
  have hne : ¬ printL A ++ printL B = [] := fun e => by rw [e] at h1; simp at h1
  rw [parseL, if_neg hne, if_neg (by omega)]
  rw [List.length_append] at h1 h2 ⊢
  obtain ⟨g1, p1, e1, e2⟩ := parse_printL ha (printL B) [] ((printL A).length + (printL B).length + 1) 0 (by simpa using by omega) (by omega)
  obtain ⟨g2, p2, e3, e4⟩ := parse_printL hb [] A g1 p1 (by omega) (by omega)
  rw [List.append_nil] at e4
  rw [e2, List.nil_append, e4]
  obtain ⟨g, rfl⟩ : ∃ g, g2 = g + 1 := ⟨g2 - 1, by omega⟩
  rw [parseF, if_pos rfl]
theorem parse_one {A : List UInt8} (ha : ∀ c ∈ A, okC c = true) (h64 : A.length ≤ 64) (h1 : 1 ≤ (printL A).length) (h2 : (printL A).length ≤ 4096) : parseL (printL A) = (A, 0, 0) := by
  have e : printL ([] : List UInt8) = [] := by simp [printL, printF]
  have := parse_two (A := A) (B := []) ha (by simp) (by simpa using h64) (by rw [e, List.append_nil]; exact h1) (by rw [e, List.append_nil]; exact h2)
  rwa [e, List.append_nil, List.append_nil] at this
end Go.Proofs.YtgpgdjdababidaaGreatDoor

/- How long the string of a word is, and how many runs it has: plain mathematics. -/
namespace Go.Proofs.YtgpgdjdababidaaGreatDoor
open Go.RowKit

theorem dec_long {n : Nat} (h : n < 100) : 1 ≤ (Lib.decDigits n).length ∧ (Lib.decDigits n).length ≤ 2 := by
  have : ∀ k, k < 100 → 1 ≤ (Lib.decDigits k).length ∧ (Lib.decDigits k).length ≤ 2 := by decide +kernel
  exact this n h
theorem printF_c (L : List UInt8) : ∀ k i c d, c + k < 100 → d + k < 100 → (printF L k i c).length ≤ (printF L k i d).length + 1
  | 0, _, _, _, _, _ => by simp [printF]
  | k + 1, i, c, d, hc, hd => by
    rw [printF, printF]
    split
    · rw [List.length_append, List.length_append, List.length_append, List.length_append, List.length_singleton]
      have h1 := dec_long (n := c + 1) (by omega)
      have h2 := dec_long (n := d + 1) (by omega)
      omega
    · exact printF_c L k (i + 1) (c + 1) (d + 1) (by omega) (by omega)
theorem getD_drop (L : List UInt8) (m i : Nat) : (L.drop m).getD i 0 = L.getD (i + m) 0 := by
  simp [List.getD_eq_getElem?_getD, Nat.add_comm]
theorem endB_drop (L : List UInt8) (m i : Nat) (_ : m + i < L.length) : endB (L.drop m) i = endB L (i + m) := by
  unfold endB
  rw [getD_drop, getD_drop, List.length_drop, show i + 1 + m = i + m + 1 by omega]
  congr 1
  exact decide_eq_decide.2 (by omega)
theorem printF_drop (L : List UInt8) (m : Nat) : ∀ k i c, m + i + k = L.length → printF (L.drop m) k i c = printF L k (i + m) c
  | 0, _, _, _ => by simp [printF]
  | k + 1, i, c, h => by
    rw [printF, printF, endB_drop L m i (by omega), getD_drop, printF_drop L m k (i + 1) 0 (by omega), printF_drop L m k (i + 1) (c + 1) (by omega), show i + 1 + m = i + m + 1 by omega]
theorem getD_take (L : List UInt8) (m i : Nat) (h : i < m) : (L.take m).getD i 0 = L.getD i 0 := by
  simp [List.getD_eq_getElem?_getD, h]
theorem endB_take (L : List UInt8) (m i : Nat) (h : i + 1 < m) (hm : m ≤ L.length) : endB (L.take m) i = endB L i := by
  unfold endB
  rw [getD_take L m _ h, getD_take L m i (by omega), List.length_take]
  congr 1
  exact decide_eq_decide.2 (by omega)
theorem printF_cut (L : List UInt8) (m j : Nat) (hm : m + j = L.length) (h64 : L.length ≤ 64) (hj : 0 < j) : ∀ k i c, 0 < k → i + k = m → c ≤ i → (printF L (k + j) i c).length ≤ (printF (L.take m) k i c).length + (printF L j m 0).length
  | 0, _, _, h, _, _ => by omega
  | k + 1, i, c, _, h, hc => by
    have e : k + 1 + j = (k + j) + 1 := by omega
    rw [e, printF, printF, getD_take L m i (by omega)]
    by_cases hk : k = 0
    · subst hk
      have he : endB (L.take m) i = true := by
        unfold endB
        rw [List.length_take, Bool.or_eq_true, decide_eq_true_eq]
        left
        omega
      rw [if_pos he, Nat.zero_add, show i + 1 = m by omega]
      have h1 := dec_long (n := c + 1) (by omega)
      split
      · rw [List.length_append, List.length_append, List.length_append, List.length_append, List.length_singleton]
        omega
      · have := printF_c L j m (c + 1) 0 (by omega) (by omega)
        rw [List.length_append, List.length_append, List.length_singleton]
        omega
    · rw [endB_take L m i (by omega) (by omega)]
      split
      · have := printF_cut L m j hm h64 hj k (i + 1) 0 (by omega) (by omega) (by omega)
        rw [List.length_append, List.length_append, List.length_append, List.length_append, List.length_singleton]
        omega
      · exact printF_cut L m j hm h64 hj k (i + 1) (c + 1) (by omega) (by omega) (by omega)
/-- A word's string is no longer than the strings of two parts of it. -/
theorem print_short {L : List UInt8} {m : Nat} (h0 : 0 < m) (hm : m < L.length) (h64 : L.length ≤ 64) : (printL L).length ≤ (printL (L.take m)).length + (printL (L.drop m)).length := by
  have h := printF_cut L m (L.length - m) (by omega) h64 (by omega) m 0 0 h0 (by omega) (by omega)
  have e1 : (L.take m).length = m := by rw [List.length_take]; omega
  have e2 : (L.drop m).length = L.length - m := List.length_drop
  rw [printL, printL, printL, e1, e2, printF_drop L m (L.length - m) 0 0 (by omega), Nat.zero_add]
  rwa [show m + (L.length - m) = L.length by omega] at h
/-! ### Runs -/
def runN (L : List UInt8) : Nat → Nat
  | 0 => 0
  | i + 1 => runN L i + if L.getD (i + 1) 0 = L.getD i 0 then 0 else 1
def okN (l : List UInt8) : Nat := l.countP okC
theorem okN_dec {n : Nat} (h : n < 100) : okN (Lib.decDigits n) = 0 := by
  have : ∀ k, k < 100 → okN (Lib.decDigits k) = 0 := by decide +kernel
  exact this n h
theorem okN_app (a b : List UInt8) : okN (a ++ b) = okN a + okN b := List.countP_append
theorem okN_one {c : UInt8} (h : okC c = true) : okN [c] = 1 := by simp [okN, h]
theorem runs_print {L : List UInt8} (hok : ∀ c ∈ L, okC c = true) (h64 : L.length ≤ 64) : ∀ k i c, i + (k + 1) = L.length → c ≤ i → okN (printF L (k + 1) i c) + runN L i = runN L (L.length - 1) + 1
  | 0, i, c, h, hc => by
    have hi : i < L.length := by omega
    have he : endB L i = true := by
      unfold endB
      rw [Bool.or_eq_true, decide_eq_true_eq]
      left
      omega
    have hgd : L.getD i 0 = L[i] := by simp [hi]
    rw [printF, if_pos he, hgd, okN_app, okN_app, okN_dec (by omega), okN_one (hok _ (List.getElem_mem hi)), show L.length - 1 = i by omega]
    simp [printF, okN]
    omega
  | k + 1, i, c, h, hc => by
    have hi : i < L.length := by omega
    have hgd : L.getD i 0 = L[i] := by simp [hi]
    rw [printF]
    by_cases he : endB L i = true
    · have ih := runs_print hok h64 k (i + 1) 0 (by omega) (by omega)
      rw [if_pos he, hgd, okN_app, okN_app, okN_dec (by omega), okN_one (hok _ (List.getElem_mem hi))]
      unfold endB at he
      rw [Bool.or_eq_true, decide_eq_true_eq, decide_eq_true_eq] at he
      rcases he with he | he
      · omega
      · rw [runN, if_neg he] at ih
        omega
    · have ih := runs_print hok h64 k (i + 1) (c + 1) (by omega) (by omega)
      rw [if_neg he]
      unfold endB at he
      rw [Bool.not_eq_true, Bool.or_eq_false_iff, decide_eq_false_iff_not, decide_eq_false_iff_not] at he
      rw [runN, if_pos (Decidable.not_not.1 he.2)] at ih
      omega
theorem runs_all {L : List UInt8} (hok : ∀ c ∈ L, okC c = true) (h1 : 1 ≤ L.length) (h64 : L.length ≤ 64) : okN (printL L) = runN L (L.length - 1) + 1 := by
  have := runs_print hok h64 (L.length - 1) 0 0 (by omega) (Nat.le_refl _)
  rw [show L.length - 1 + 1 = L.length by omega] at this
  rw [printL, ← this]
  simp [runN]
theorem print_len {L : List UInt8} (h64 : L.length ≤ 64) : (printL L).length ≤ 3 * L.length := by
  have : ∀ k i c, c + k < 100 → (printF L k i c).length ≤ 3 * k := by
    intro k
    induction k with
    | zero => intro i c _; simp [printF]
    | succ k ih =>
      intro i c hc
      rw [printF]
      split
      · rw [List.length_append, List.length_append, List.length_singleton]
        have h1 := dec_long (n := c + 1) (by omega)
        have := ih (i + 1) 0 (by omega)
        omega
      · have := ih (i + 1) (c + 1) (by omega)
        omega
  exact this _ _ _ (by omega)
end Go.Proofs.YtgpgdjdababidaaGreatDoor

/- Text (below 100) and Number (one or two digits) of the reference of chapter 1. -/
namespace Go.Proofs.YtgpgdjdababidaaGreatDoor
open Go.RowKit Go.Shelf Ck

theorem text_dig : ∀ n, n < 10 → (⟨#[48, 49, 50, 51, 52, 53, 54, 55, 56, 57]⟩ : ByteArray).extract n (n + 1) = ⟨(Lib.decDigits n).toArray⟩ := by
  intro n hn
  have h : ∀ n, n < 10 → ((⟨#[48, 49, 50, 51, 52, 53, 54, 55, 56, 57]⟩ : ByteArray).extract n (n + 1)).data.toList = Lib.decDigits n := by decide +kernel
  have := h n hn
  rw [← this, Array.toArray_toList]
theorem text_two : ∀ n, n < 100 → ¬ n < 10 → Lib.decDigits (n / 10) ++ Lib.decDigits (n % 10) = Lib.decDigits n := by decide +kernel
set_option maxHeartbeats 1000000 in
set_option maxRecDepth 100000 in
theorem rfText1 (n : Nat) (h : n < 10) (w : World) :
    Calls Tryz.prog 82 #[.int .i64 n] w fun e w' => e = .returned (.string (strA (Lib.decDigits n))) ∧ w' = w := by
  have HT := Lib.hid (text_dig n h)
  have g1 : ¬ (n : Int) < -9 := by omega
  have g2 : ¬ (n : Int) < 0 := by omega
  have g3 : (n : Int) < 10 := by omega
  have i0 : (0 : Int) ≤ (n : Int) := by omega
  have i1 : (n : Int) ≤ (n : Int) + 1 := by omega
  have i2 : (n : Int) + 1 ≤ 10 := by omega
  have i3 : ((n : Int) + 1).toNat = n + 1 := by omega
  go_enter Tryz.func82, Tryz.ntmps82
  go_wp2_with fail
  go_ret
  exact ⟨by rw [strA, ← HT.out]; rfl, rfl⟩
set_option maxHeartbeats 1000000 in
set_option maxRecDepth 100000 in
theorem rfText (n : Nat) (h : n < 100) (w : World) :
    Calls Tryz.prog 82 #[.int .i64 n] w fun e w' => e = .returned (.string (strA (Lib.decDigits n))) ∧ w' = w := by
  by_cases h10 : n < 10
  · exact rfText1 n h10 w
  · have HT := Lib.hid (text_two n h h10)
    have g1 : ¬ (n : Int) < -9 := by omega
    have g2 : ¬ (n : Int) < 0 := by omega
    have g3 : ¬ (n : Int) < 10 := by omega
    have q1 : (n : Int) / 10 = ((n / 10 : Nat) : Int) := by omega
    have q2 : (n : Int) % 10 = ((n % 10 : Nat) : Int) := by omega
    have l1 : n / 10 < 10 := by omega
    have l2 : n % 10 < 10 := by omega
    obtain ⟨a, ha⟩ : ∃ a, n / 10 = a := ⟨_, rfl⟩
    obtain ⟨b, hb⟩ : ∃ b, n % 10 = b := ⟨_, rfl⟩
    rw [ha] at HT q1 l1
    rw [hb] at HT q2 l2
    clear ha hb
    go_enter Tryz.func82, Tryz.ntmps82
    go_wp2_with fail
    refine (rfText1 a l1 _).mono ?_
    rintro e w1 ⟨rfl, rfl⟩
    go_wp2_with fail
    refine (rfText1 b l2 _).mono ?_
    rintro e w2 ⟨rfl, rfl⟩
    have z1 := strA_size (Lib.decDigits a)
    have z2 := strA_size (Lib.decDigits b)
    have z3 := dec_short (n := a) (by omega)
    have z4 := dec_short (n := b) (by omega)
    go_wp2
    go_ret
    exact ⟨by rw [← HT.out, ← strA_cat]; rfl, rfl⟩
theorem rfTextQ (n : Nat) (S : ByteArray) (h : n < 100) (hS : strA (Lib.decDigits n) = S) (w : World) :
    Calls Tryz.prog 82 #[.int .i64 n] w fun e w' => e = .returned (.string S) ∧ w' = w := by
  subst hS
  exact rfText n h w
theorem numL_snoc (l : List UInt8) (c : UInt8) : numL (l ++ [c]) = 10 * numL l + (c.toNat - 48) := by simp [numL]
theorem numL_small : ∀ (l : List UInt8), l.length ≤ 2 → (∀ c ∈ l, digC c = true) → numL l ≤ 99
  | [], _, _ => by simp [numL]
  | [a], _, h => by
    have h1 : 48 ≤ a.toNat ∧ a.toNat ≤ 57 := by simpa [digC] using h a (by simp)
    simp [numL]
    omega
  | [a, b], _, h => by
    have h1 : 48 ≤ a.toNat ∧ a.toNat ≤ 57 := by simpa [digC] using h a (by simp)
    have h2 : 48 ≤ b.toNat ∧ b.toNat ≤ 57 := by simpa [digC] using h b (by simp)
    simp [numL]
    omega
  | _ :: _ :: _ :: _, h, _ => by simp at h
set_option maxHeartbeats 2000000 in
set_option maxRecDepth 100000 in
theorem rfNumber (s : ByteArray) (L : List UInt8) (N : Nat) (w : World) (hL : s.data.toList = L) (h1 : 1 ≤ s.size) (h2 : s.size ≤ 2) (hd : ∀ k (h : k < L.length), digC L[k] = true) (h0 : ∀ h : 0 < L.length, L[0] ≠ 48) (hN : numL L = N) :
    Calls Tryz.prog 81 #[.string s] w fun e w' => e = .returned (.int .i64 N) ∧ Below w.heap.size w w' := by
  have hz : s.size = L.length := by rw [← hL]; exact Lib.size_eq s
  have hel : ∀ k (h : k < s.size) (h' : k < L.length), s[k] = L[k] := by
    intro k h h'
    rw [← byte_at s k h (by rw [hL]; exact h')]
    simp only [hL]
  have HD := Lib.hid hd
  have HEL := Lib.hid hel
  have p0 : 0 < s.size := by omega
  have h48 : ¬ (s[0].toNat = 48) := by
    rw [hel 0 p0 (by omega)]
    intro h
    exact h0 (by omega) (UInt8.toNat.inj h)
  have b48 : ((s[0].toNat : Int) == 48) = false := by rw [beq_eq_false_iff_ne]; omega
  have b1 : ((s.size : Int) == 0) = false := by rw [beq_eq_false_iff_ne]; omega
  have b2 : decide ((9 : Int) < (s.size : Int)) = false := by rw [decide_eq_false_iff_not]; omega
  have i1 : (0 : Int) < (s.size : Int) := by omega
  have HN := Lib.hid hN
  have HZ := Lib.hid hz
  obtain ⟨t, ht⟩ : ∃ t, decide ((1 : Int) < (s.size : Int)) = t := ⟨_, rfl⟩
  clear hd hel h0 hL h48 hN hz
  cases t
  all_goals
    go_enter Tryz.func81, Tryz.ntmps81
    go_wp2_with fail
    clear ht b2 b1 b48
    go_loopg [3, 4] s.size (fun g v i wi => ∃ k : Nat, g = s.size - k ∧ k ≤ s.size ∧ i = .int .i64 k ∧ v = .int .i64 (numL (L.take k) : Nat) ∧ Below w.heap.size w wi)
    case atStart => exact ⟨0, rfl, Nat.zero_le _, rfl, rfl, Below.refl _ _⟩
    case round =>
      obtain ⟨k, hg, hk, rfl, rfl, hbi⟩ := hrel
      by_cases hlt : k < s.size
      · have hkL : k < L.length := by rw [← HZ.out]; exact hlt
        have hc := HEL.out k hlt hkL
        have hdig : 48 ≤ L[k].toNat ∧ L[k].toNat ≤ 57 := by simpa [digC] using HD.out k hkL
        have HS := Lib.hid (show numL (L.take (k + 1)) = 10 * numL (L.take k) + (L[k].toNat - 48) by rw [List.take_succ_eq_append_getElem hkL, numL_snoc])
        have hsm := numL_small (L.take k) (by rw [List.length_take]; omega) (fun c hc => by
          obtain ⟨j, hj, rfl⟩ := List.getElem_of_mem hc
          rw [List.getElem_take]
          exact HD.out j _)
        have k0 : (0 : Int) ≤ (k : Int) := by omega
        have k1 : (k : Int) < (s.size : Int) := by omega
        have d1 : ¬ (s[k].toNat : Int) < 48 := by rw [hc]; omega
        have d2 : ¬ (57 : Int) < (s[k].toNat : Int) := by rw [hc]; omega
        rw [← hc] at HS hdig
        obtain ⟨v, hv⟩ : ∃ v, numL (L.take k) = v := ⟨_, rfl⟩
        rw [hv] at HS hsm ⊢
        clear hv hc
        go_wp2
        go_roundg (s.size - (k + 1))
        case rel => exact ⟨k + 1, by omega, by omega, by go_num, by rw [HS.out]; go_num, by first | exact below_drewN hbi _ | exact hbi⟩
        case measure => omega
      · obtain rfl : k = s.size := by omega
        have HT := Lib.hid (show numL (L.take s.size) = N by rw [List.take_of_length_le (by rw [← HZ.out]; exact Nat.le_refl _)]; exact HN.out)
        go_wp2
        go_ret
        exact ⟨by rw [← HT.out]; rfl, hbi⟩
end Go.Proofs.YtgpgdjdababidaaGreatDoor

/- Power and Rotate of taper, at all arguments. -/
namespace Go.Proofs.YtgpgdjdababidaaGreatDoor
open Go.RowKit

def rotE (s : ByteArray) (n : Int) : Int := firstE [wordE s.data.toList, rngE n 0 999999999]
def rotS (s : ByteArray) (n : Int) : ByteArray := if rotE s n = 0 then ⟨(rotA s.data.toList (n.toNat % s.size)).toArray⟩ else ⟨#[]⟩
theorem first2_zero {a b : Int} (h : firstE [a, b] = 0) : a = 0 ∧ b = 0 := by
  simp only [firstE] at h
  repeat' split at h
  all_goals simp_all
set_option maxHeartbeats 2000000 in
set_option maxRecDepth 100000 in
theorem tpRotate (s : ByteArray) (n : Int) (w : World) :
    Calls Tryz.prog 33 #[.string s, .int .i64 n] w fun e w' => e = .returned (.tuple #[.string (rotS s n), .int .i64 (rotE s n)]) ∧ Below w.heap.size w w' := by
  by_cases h0 : rotE s n = 0
  · obtain ⟨hw0, hn0⟩ := first2_zero h0
    obtain ⟨n1, n2⟩ := rngE_zero hn0
    have hs := wordE_zero hw0
    rw [rotS, if_pos h0, h0]
    obtain ⟨N, rfl⟩ : ∃ N : Nat, n = (N : Int) := ⟨n.toNat, by omega⟩
    rw [Int.toNat_natCast]
    have h64 := hs.2.2
    have h1 := hs.2.1
    have hm := nat_tmod N s.size
    have hlt : N % s.size < s.size := Nat.mod_lt _ (by omega)
    obtain ⟨r, hr⟩ : ∃ r, N % s.size = r := ⟨_, rfl⟩
    rw [hr] at hm hlt ⊢
    have HV := Lib.hid hw0
    have HR := Lib.hid hn0
    have hzN : ¬ s.size = 0 := by omega
    clear hs hr h0 hw0 hn0
    go_enter Tryz.func33, Tryz.ntmps33
    go_wp2_with fail
    refine (tpCheckWordE s _).mono ?_
    rintro e w1 ⟨rfl, hb1⟩
    rw [HV.out]
    go_wp2_with fail
    refine (tpRng _ _ _ _).mono ?_
    rintro e w2 ⟨rfl, rfl⟩
    rw [HR.out]
    go_wp2_with fail
    refine (tpFirst2 _ _ _ _ 23 _ (by exact heap_alloc_new _ _)).mono ?_
    rintro e w3 ⟨rfl, rfl⟩
    rw [show firstE [0, 0] = 0 from rfl]
    have b3 : Below w.heap.size w (w1.alloc (.cells #[.int .i64 0, .int .i64 0] 23)) := hb1.alloc hb1.size _
    generalize World.alloc w1 _ = w4 at b3 ⊢
    go_wp2_with fail
    refine (tpRotated s r _ h64 hlt).mono ?_
    rintro e w5 ⟨rfl, hb5⟩
    go_wp2
    go_ret2
    exact ⟨rfl, b3.trans (hb5.mono b3.size)⟩
  · have hne := neE h0
    obtain ⟨E, hE⟩ : ∃ E, rotE s n = E := ⟨_, rfl⟩
    rw [rotS, if_neg h0, hE]
    rw [hE] at hne
    have HE := Lib.hid hE
    clear h0 hE
    go_enter Tryz.func33, Tryz.ntmps33
    go_wp2_with fail
    refine (tpCheckWordE s _).mono ?_
    rintro e w1 ⟨rfl, hb1⟩
    go_wp2_with fail
    refine (tpRng _ _ _ _).mono ?_
    rintro e w1' ⟨rfl, rfl⟩
    go_wp2_with fail
    refine (tpFirst2 _ _ _ _ 23 _ (by exact heap_alloc_new _ _)).mono ?_
    rintro e w3 ⟨rfl, rfl⟩
    rw [show firstE [wordE s.data.toList, rngE n 0 999999999] = E from HE.out]
    go_wp2
    go_ret2
    exact ⟨rfl, hb1.alloc hb1.size _⟩
def pow0 (s : ByteArray) (n : Int) : Int := firstE [wordE s.data.toList, rngE n 1 64]
def powE (s : ByteArray) (n : Int) : Int := if pow0 s n = 0 then lenE ((s.size : Int) * n) else pow0 s n
def powS (s : ByteArray) (n : Int) : ByteArray := if powE s n = 0 then ⟨(Lib.repeatL s.data.toList n.toNat).toArray⟩ else ⟨#[]⟩
set_option maxHeartbeats 2000000 in
set_option maxRecDepth 100000 in
theorem tpPower (s : ByteArray) (n : Int) (w : World) :
    Calls Tryz.prog 32 #[.string s, .int .i64 n] w fun e w' => e = .returned (.tuple #[.string (powS s n), .int .i64 (powE s n)]) ∧ Below w.heap.size w w' := by
  by_cases h0 : pow0 s n = 0
  · obtain ⟨hw0, hn0⟩ := first2_zero h0
    obtain ⟨n1, n2⟩ := rngE_zero hn0
    have hs := wordE_zero hw0
    have h64 := hs.2.2
    have h1 := hs.2.1
    obtain ⟨N, rfl⟩ : ∃ N : Nat, n = (N : Int) := ⟨n.toNat, by omega⟩
    have hm1 : 0 ≤ (s.size : Int) * (N : Int) := Int.mul_nonneg (by omega) (by omega)
    have hm2 : (s.size : Int) * (N : Int) ≤ 64 * 64 := Int.mul_le_mul (by omega) (by omega) (by omega) (by omega)
    have HV := Lib.hid hw0
    have HR := Lib.hid hn0
    by_cases hl : lenE ((s.size : Int) * (N : Int)) = 0
    · rw [powS, powE, if_pos h0, if_pos hl, hl, Int.toNat_natCast]
      have HL := Lib.hid hl
      clear hs h0 hw0 hn0 hl
      go_enter Tryz.func32, Tryz.ntmps32
      go_wp2_with fail
      refine (tpCheckWordE s _).mono ?_
      rintro e w1 ⟨rfl, hb1⟩
      rw [HV.out]
      go_wp2_with fail
      refine (tpRng _ _ _ _).mono ?_
      rintro e w2 ⟨rfl, rfl⟩
      rw [HR.out]
      go_wp2_with fail
      refine (tpFirst2 _ _ _ _ 23 _ (by exact heap_alloc_new _ _)).mono ?_
      rintro e w3 ⟨rfl, rfl⟩
      rw [show firstE [0, 0] = 0 from rfl]
      have b3 : Below w.heap.size w (w1.alloc (.cells #[.int .i64 0, .int .i64 0] 23)) := hb1.alloc hb1.size _
      generalize World.alloc w1 _ = w4 at b3 ⊢
      go_wp2_with fail
      refine (tpCheckLengthE _ _).mono ?_
      rintro e w5 ⟨rfl, rfl⟩
      rw [HL.out]
      go_wp2_with fail
      refine (tpRepeated s N _ h64 (by omega)).mono ?_
      rintro e w6 ⟨rfl, hb6⟩
      go_wp2
      go_ret2
      exact ⟨rfl, b3.trans (hb6.mono b3.size)⟩
    · have hne := neE hl
      obtain ⟨E, hE⟩ : ∃ E, lenE ((s.size : Int) * (N : Int)) = E := ⟨_, rfl⟩
      rw [powS, powE, if_pos h0, if_neg hl, hE]
      rw [hE] at hne
      have HL := Lib.hid hE
      clear hs h0 hw0 hn0 hl hE
      go_enter Tryz.func32, Tryz.ntmps32
      go_wp2_with fail
      refine (tpCheckWordE s _).mono ?_
      rintro e w1 ⟨rfl, hb1⟩
      rw [HV.out]
      go_wp2_with fail
      refine (tpRng _ _ _ _).mono ?_
      rintro e w2 ⟨rfl, rfl⟩
      rw [HR.out]
      go_wp2_with fail
      refine (tpFirst2 _ _ _ _ 23 _ (by exact heap_alloc_new _ _)).mono ?_
      rintro e w3 ⟨rfl, rfl⟩
      rw [show firstE [0, 0] = 0 from rfl]
      have b3 : Below w.heap.size w (w1.alloc (.cells #[.int .i64 0, .int .i64 0] 23)) := hb1.alloc hb1.size _
      generalize World.alloc w1 _ = w4 at b3 ⊢
      go_wp2_with fail
      refine (tpCheckLengthE _ _).mono ?_
      rintro e w5 ⟨rfl, rfl⟩
      rw [HL.out]
      go_wp2
      go_ret2
      exact ⟨rfl, b3⟩
  · have hne := neE h0
    obtain ⟨E, hE⟩ : ∃ E, pow0 s n = E := ⟨_, rfl⟩
    have hq : powE s n = E := by rw [powE, if_neg h0, hE]
    rw [powS, hq, if_neg (by rw [← hE]; exact h0)]
    rw [hE] at hne
    have HE := Lib.hid hE
    clear h0 hE hq
    go_enter Tryz.func32, Tryz.ntmps32
    go_wp2_with fail
    refine (tpCheckWordE s _).mono ?_
    rintro e w1 ⟨rfl, hb1⟩
    go_wp2_with fail
    refine (tpRng _ _ _ _).mono ?_
    rintro e w1' ⟨rfl, rfl⟩
    go_wp2_with fail
    refine (tpFirst2 _ _ _ _ 23 _ (by exact heap_alloc_new _ _)).mono ?_
    rintro e w3 ⟨rfl, rfl⟩
    rw [show firstE [wordE s.data.toList, rngE n 1 64] = E from HE.out]
    go_wp2
    go_ret2
    exact ⟨rfl, hb1.alloc hb1.size _⟩
end Go.Proofs.YtgpgdjdababidaaGreatDoor

/- Roots, rotations and least rotations of words: plain mathematics. -/
namespace Go.Proofs.YtgpgdjdababidaaGreatDoor
open Go.RowKit

theorem bl_cmp : ∀ a b : List UInt8, Lib.compareBytes a b < 0 ↔ Op.bytesLess a b = true
  | [], [] => by simp [Lib.compareBytes, Op.bytesLess]
  | [], _ :: _ => by simp [Lib.compareBytes, Op.bytesLess]
  | _ :: _, [] => by simp [Lib.compareBytes, Op.bytesLess]
  | x :: a, y :: b => by
    have ih := bl_cmp a b
    rw [Lib.compareBytes, Op.bytesLess]
    by_cases h1 : x < y
    · simp [h1]
    · by_cases h2 : y < x
      · have h3 : ¬ x = y := fun e => by rw [e] at h2; exact UInt8.lt_irrefl _ h2
        simp [h1, h2, h3]
      · have h3 : x = y := UInt8.le_antisymm (UInt8.not_lt.1 h2) (UInt8.not_lt.1 h1)
        rw [if_neg h1, if_neg h2, ih]
        simp [h3]
theorem bl_cons (x y : UInt8) (a b : List UInt8) : Op.bytesLess (x :: a) (y :: b) = true ↔ x.toNat < y.toNat ∨ (x.toNat = y.toNat ∧ Op.bytesLess a b = true) := by
  rw [Op.bytesLess, Bool.or_eq_true, Bool.and_eq_true, beq_iff_eq, decide_eq_true_eq, UInt8.lt_iff_toNat_lt]
  constructor
  · rintro (h | ⟨h, h'⟩)
    · exact .inl h
    · exact .inr ⟨by rw [h], h'⟩
  · rintro (h | ⟨h, h'⟩)
    · exact .inl h
    · exact .inr ⟨UInt8.toNat.inj h, h'⟩
/-- a is not behind b. -/
def bLe (a b : List UInt8) : Prop := Op.bytesLess b a = false
theorem bLe_refl : ∀ a : List UInt8, bLe a a
  | [] => rfl
  | x :: a => by
    have ih := bLe_refl a
    unfold bLe at ih ⊢
    rw [Bool.eq_false_iff] at ih ⊢
    intro h
    rcases (bl_cons _ _ _ _).1 h with h | ⟨_, h⟩
    · omega
    · exact ih h
theorem bLe_total : ∀ a b : List UInt8, bLe a b ∨ bLe b a
  | [], b => .inl (by cases b <;> rfl)
  | _ :: _, [] => .inr rfl
  | x :: a, y :: b => by
    have ih := bLe_total a b
    unfold bLe at ih ⊢
    rw [Bool.eq_false_iff, Bool.eq_false_iff] at ih ⊢
    simp only [ne_eq, bl_cons] at ih ⊢
    by_cases h1 : x.toNat < y.toNat
    · left; rintro (h | ⟨h, _⟩) <;> omega
    · by_cases h2 : y.toNat < x.toNat
      · right; rintro (h | ⟨h, _⟩) <;> omega
      · rcases ih with ih | ih
        · left; rintro (h | ⟨_, h⟩)
          · omega
          · exact ih h
        · right; rintro (h | ⟨_, h⟩)
          · omega
          · exact ih h
theorem bLe_trans : ∀ {a b c : List UInt8}, bLe a b → bLe b c → bLe a c
  | [], _, c => fun _ _ => by cases c <;> rfl
  | x :: a, [], _ => fun h _ => by simp [bLe, Op.bytesLess] at h
  | x :: a, y :: b, [] => fun _ h => by simp [bLe, Op.bytesLess] at h
  | x :: a, y :: b, z :: c => fun h1 h2 => by
    have ih := @bLe_trans a b c
    unfold bLe at ih h1 h2 ⊢
    rw [Bool.eq_false_iff] at h1 h2 ⊢
    simp only [ne_eq, bl_cons] at h1 h2 ⊢
    rintro (h | ⟨h, h'⟩)
    · by_cases g : y.toNat < x.toNat
      · exact h1 (.inl g)
      · exact h2 (.inl (by omega))
    · by_cases g : y.toNat < x.toNat
      · exact h1 (.inl g)
      · by_cases g2 : z.toNat < y.toNat
        · exact h2 (.inl g2)
        · have e1 : y.toNat = x.toNat := by omega
          have e2 : z.toNat = y.toNat := by omega
          have k1 : Op.bytesLess b a = false := Bool.eq_false_iff.2 fun k => h1 (.inr ⟨e1, k⟩)
          have k2 : Op.bytesLess c b = false := Bool.eq_false_iff.2 fun k => h2 (.inr ⟨e2, k⟩)
          rw [ih k1 k2] at h'
          cases h'
theorem bLe_antisymm : ∀ {a b : List UInt8}, bLe a b → bLe b a → a = b
  | [], [] => fun _ _ => rfl
  | [], _ :: _ => fun _ h => by simp [bLe, Op.bytesLess] at h
  | _ :: _, [] => fun h _ => by simp [bLe, Op.bytesLess] at h
  | x :: a, y :: b => fun h1 h2 => by
    have ih := @bLe_antisymm a b
    unfold bLe at ih h1 h2
    rw [Bool.eq_false_iff] at h1 h2
    simp only [ne_eq, bl_cons] at h1 h2
    have e : x.toNat = y.toNat := by
      by_cases g : y.toNat < x.toNat
      · exact absurd (.inl g) h1
      · by_cases g2 : x.toNat < y.toNat
        · exact absurd (.inl g2) h2
        · omega
    have k1 : Op.bytesLess b a = false := Bool.eq_false_iff.2 fun k => h1 (.inr ⟨e.symm, k⟩)
    have k2 : Op.bytesLess a b = false := Bool.eq_false_iff.2 fun k => h2 (.inr ⟨e, k⟩)
    rw [UInt8.toNat.inj e, ih k1 k2]
theorem bLe_gtr {a b : List UInt8} (h : bLe a b) : (!(Op.bytesLess a b || a == b)) = false := by
  by_cases hb : Op.bytesLess a b = true
  · rw [hb]; rfl
  · have : a = b := bLe_antisymm h (by rw [bLe]; exact Bool.eq_false_iff.2 hb)
    rw [this]
    simp
/-- The least rotation is not behind the others. -/
theorem lstF_le (L : List UInt8) : ∀ i j, j < i → bLe (rotA L (lstF L i)) (rotA L j)
  | 0, j, h => by omega
  | i + 1, j, h => by
    rw [lstF]
    by_cases hc : Lib.compareBytes (rotA L i) (rotA L (lstF L i)) < 0
    · rw [if_pos hc]
      have hl := (bl_cmp _ _).1 hc
      have hle : bLe (rotA L i) (rotA L (lstF L i)) := by
        rcases bLe_total (rotA L i) (rotA L (lstF L i)) with g | g
        · exact g
        · rw [bLe, hl] at g; cases g
      by_cases hj : j = i
      · rw [hj]; exact bLe_refl _
      · exact bLe_trans hle (lstF_le L i j (by omega))
    · rw [if_neg hc]
      by_cases hj : j = i
      · rw [hj]
        exact Bool.eq_false_iff.2 fun k => hc ((bl_cmp _ _).2 k)
      · exact lstF_le L i j (by omega)
theorem lstW_le {L : List UInt8} {j : Nat} (h : j < L.length) : bLe (lstW L) (rotA L j) := lstF_le L L.length j h
theorem lstW_is {L : List UInt8} (h : 0 < L.length) : ∃ i, i < L.length ∧ lstW L = rotA L i := ⟨lstF L L.length, by have := lstF_lt L L.length; omega, rfl⟩
theorem rotA_len {L : List UInt8} {a : Nat} (_ : a ≤ L.length) : (rotA L a).length = L.length := by
  rw [rotA, List.length_append, List.length_drop, List.length_take]
  omega
theorem rotA_zero (L : List UInt8) : rotA L 0 = L := by simp [rotA]
theorem rotA_rot {L : List UInt8} {a b : Nat} (ha : a < L.length) (hb : b < L.length) : rotA (rotA L a) b = rotA L (if a + b < L.length then a + b else a + b - L.length) := by
  split
  · rename_i h
    unfold rotA
    rw [List.drop_append_of_le_length (by rw [List.length_drop]; omega), List.take_append_of_le_length (by rw [List.length_drop]; omega), List.drop_drop, List.append_assoc, ← List.take_add]
  · rename_i h
    obtain ⟨c, hc⟩ : ∃ c, b = L.length - a + c := ⟨b - (L.length - a), by omega⟩
    have e : a + b - L.length = c := by omega
    rw [e]
    unfold rotA
    have hd : (L.drop a).length = L.length - a := List.length_drop
    rw [hc, ← hd, List.drop_length_add_append, List.take_length_add_append, List.drop_take, List.take_take]
    have e2 : min c a = c := by omega
    rw [e2]
    have : L.drop c = (L.drop c).take (a - c) ++ L.drop a := by
      conv => lhs; rw [← List.take_append_drop (a - c) (L.drop c), List.drop_drop]
      rw [show c + (a - c) = a by omega]
    rw [← List.append_assoc, ← this]
theorem rot_back {L : List UInt8} {a : Nat} (h : a < L.length) : rotA (rotA L a) ((L.length - a) % L.length) = L := by
  by_cases h0 : a = 0
  · subst h0
    rw [Nat.sub_zero, Nat.mod_self, rotA_zero, rotA_zero]
  · rw [Nat.mod_eq_of_lt (by omega), rotA_rot h (by omega), if_neg (by omega)]
    rw [show a + (L.length - a) - L.length = 0 by omega, rotA_zero]
theorem lst_rot {L : List UInt8} {a : Nat} (h : a < L.length) : lstW (rotA L a) = lstW L := by
  have hl := rotA_len (L := L) (a := a) (by omega)
  apply bLe_antisymm
  · obtain ⟨i, hi, e⟩ := lstW_is (L := L) (by omega)
    rw [e]
    have hj : ∃ j, j < L.length ∧ rotA (rotA L a) j = rotA L i := by
      by_cases g : a ≤ i
      · exact ⟨i - a, by omega, by rw [rotA_rot h (by omega), if_pos (by omega)]; rw [show a + (i - a) = i by omega]⟩
      · exact ⟨i + L.length - a, by omega, by rw [rotA_rot h (by omega), if_neg (by omega)]; rw [show a + (i + L.length - a) - L.length = i by omega]⟩
    obtain ⟨j, hj, e2⟩ := hj
    rw [← e2]
    exact lstW_le (by omega)
  · obtain ⟨i, hi, e⟩ := lstW_is (L := rotA L a) (by omega)
    rw [e, rotA_rot h (by omega)]
    exact lstW_le (by split <;> omega)
theorem lst_len {L : List UInt8} (h : 0 < L.length) : (lstW L).length = L.length := by
  obtain ⟨i, hi, e⟩ := lstW_is h
  rw [e, rotA_len (by omega)]
theorem lst_self {L : List UInt8} (h : 0 < L.length) : bLe (lstW L) L := by
  have := lstW_le (L := L) (j := 0) h
  rwa [rotA_zero] at this
theorem vecL_app (a b : List UInt8) : vecL (a ++ b) = ((vecL a).1 + (vecL b).1, (vecL a).2 + (vecL b).2) := by simp [vecL]
theorem vec_rot (L : List UInt8) (a : Nat) : vecL (rotA L a) = vecL L := by
  conv => rhs; rw [← List.take_append_drop a L]
  rw [rotA, vecL_app, vecL_app]
  exact Prod.ext (Int.add_comm _ _) (Int.add_comm _ _)
theorem vec_repeat (L : List UInt8) : ∀ k, vecL (Lib.repeatL L k) = ((k : Int) * (vecL L).1, (k : Int) * (vecL L).2)
  | 0 => by simp [Lib.repeatL, vecL]
  | k + 1 => by
    rw [Lib.repeatL, vecL_app, vec_repeat L k]
    refine Prod.ext ?_ ?_
    · show _ + (k : Int) * _ = ((k + 1 : Nat) : Int) * _
      push_cast
      grind
    · show _ + (k : Int) * _ = ((k + 1 : Nat) : Int) * _
      push_cast
      grind
/-! ### Roots -/
theorem leastF_pass {P : Nat → Bool} {G : Nat} : ∀ k n, n + k = G → leastF P G k n = G ∨ P (leastF P G k n) = true
  | 0, _, _ => .inl rfl
  | k + 1, n, h => by
    rw [leastF]
    split
    · right; assumption
    · exact leastF_pass k (n + 1) (by omega)
theorem leastF_low {P : Nat → Bool} {G : Nat} : ∀ k n m, n ≤ m → m < n + k → P m = true → leastF P G k n ≤ m
  | 0, _, _, h1, h2, _ => by omega
  | k + 1, n, m, h1, h2, h3 => by
    rw [leastF]
    split
    · exact h1
    · rename_i hp
      have : n ≠ m := fun e => hp (by rw [e]; exact h3)
      exact leastF_low k (n + 1) m (by omega) (by omega) h3
theorem leastN_low {P : Nat → Bool} {G m : Nat} (h1 : 1 ≤ m) (h2 : m < G) (h : P m = true) : leastN P G ≤ m := leastF_low _ _ _ h1 (by omega) h
theorem repeat_one (L : List UInt8) : Lib.repeatL L 1 = L := by simp [Lib.repeatL]
theorem root_facts {L : List UInt8} (h : 1 ≤ L.length) : 1 ≤ rootN L ∧ rootN L ≤ L.length ∧ L.length % rootN L = 0 ∧ L = Lib.repeatL (L.take (rootN L)) (L.length / rootN L) := by
  obtain ⟨h1, h2⟩ := leastN_range (powB L) h
  refine ⟨h1, h2, ?_⟩
  rcases leastF_pass (P := powB L) (G := L.length) (L.length - 1) 1 (by omega) with g | g
  · have e : rootN L = L.length := g
    rw [e, Nat.mod_self, Nat.div_self (by omega), List.take_length, repeat_one]
    exact ⟨rfl, rfl⟩
  · have g' : powB L (rootN L) = true := g
    unfold powB at g'
    rw [Bool.and_eq_true, decide_eq_true_eq, beq_iff_eq] at g'
    exact g'
theorem repeat_repeat (L : List UInt8) (m : Nat) : ∀ n, Lib.repeatL (Lib.repeatL L m) n = Lib.repeatL L (m * n)
  | 0 => by simp [Lib.repeatL]
  | n + 1 => by
    have add : ∀ a b, Lib.repeatL L (a + b) = Lib.repeatL L a ++ Lib.repeatL L b := by
      intro a b
      induction a with
      | zero => simp [Lib.repeatL]
      | succ a ih => rw [Nat.add_right_comm, Lib.repeatL, ih, Lib.repeatL, List.append_assoc]
    rw [Lib.repeatL, repeat_repeat L m n, Nat.mul_add, Nat.mul_one, Nat.add_comm, add]
theorem root_root {L : List UInt8} (h : 1 ≤ L.length) : rootN (L.take (rootN L)) = rootN L := by
  obtain ⟨h1, h2, h3, h4⟩ := root_facts h
  obtain ⟨n, hn⟩ : ∃ n, rootN L = n := ⟨_, rfl⟩
  rw [hn] at h1 h2 h3 h4 ⊢
  have hl : (L.take n).length = n := by rw [List.length_take]; omega
  obtain ⟨g1, g2, g3, g4⟩ := root_facts (L := L.take n) (by omega)
  obtain ⟨m, hm⟩ : ∃ m, rootN (L.take n) = m := ⟨_, rfl⟩
  rw [hm] at g1
  rw [hm, hl] at g2 g3 g4
  rw [hm]
  by_cases hlt : m < n
  · exfalso
    have d1 := Nat.dvd_of_mod_eq_zero g3
    have d2 := Nat.dvd_of_mod_eq_zero h3
    have hp : powB L m = true := by
      unfold powB
      rw [Bool.and_eq_true, decide_eq_true_eq, beq_iff_eq]
      refine ⟨Nat.mod_eq_zero_of_dvd (Nat.dvd_trans d1 d2), ?_⟩
      rw [List.take_take, Nat.min_eq_left (by omega)] at g4
      rw [g4, repeat_repeat] at h4
      have e : n / m * (L.length / n) = L.length / m := by
        obtain ⟨p, rfl⟩ := d1
        obtain ⟨q, hq⟩ := d2
        rw [hq, Nat.mul_div_cancel_left _ (by omega), Nat.mul_div_cancel_left _ (by omega), Nat.mul_assoc, Nat.mul_div_cancel_left _ (by omega)]
      rwa [e] at h4
    have := leastN_low (P := powB L) (G := L.length) g1 (by omega) hp
    have e : leastN (powB L) L.length = n := hn
    omega
  · omega
end Go.Proofs.YtgpgdjdababidaaGreatDoor

/- Rotate, Root, Least and count of the reference of chapter 2. -/
namespace Go.Proofs.YtgpgdjdababidaaGreatDoor
open Go.RowKit Go.Shelf Ck

theorem arr_back (s : ByteArray) : (⟨s.data.toList.toArray⟩ : ByteArray) = s := by rw [Array.toArray_toList]
theorem cat_arr (a b : ByteArray) (l m : List UInt8) (ha : a.data.toList = l) (hb : b.data.toList = m) : a ++ b = ⟨(l ++ m).toArray⟩ := by
  have h : (a ++ b).data.toList = (⟨(l ++ m).toArray⟩ : ByteArray).data.toList := by simp [ha, hb]
  have h2 : (a ++ b).data = (⟨(l ++ m).toArray⟩ : ByteArray).data := Array.toList_inj.1 h
  cases hh : a ++ b
  rw [hh] at h2
  exact congrArg ByteArray.mk h2
set_option maxHeartbeats 2000000 in
set_option maxRecDepth 100000 in
theorem rfRotate (s : ByteArray) (n : Nat) (w : World) (h1 : 1 ≤ s.size) (h64 : s.size ≤ 64) :
    Calls Tryz.prog 41 #[.string s, .int .i64 n] w fun e w' => e = .returned (.string ⟨(rotA s.data.toList (n % s.size)).toArray⟩) ∧ Below w.heap.size w w' := by
  have hm := nat_tmod n s.size
  have hm2 : (n : Int) % (s.size : Int) = ((n % s.size : Nat) : Int) := (Int.natCast_emod _ _).symm
  have hlt : n % s.size < s.size := Nat.mod_lt _ (by omega)
  obtain ⟨r, hr⟩ : ∃ r, n % s.size = r := ⟨_, rfl⟩
  rw [hr] at hm hm2 hlt ⊢
  have hzN : ¬ s.size = 0 := by omega
  have hz0 : ¬ (s.size : Int) = 0 := by omega
  have i0 : (0 : Int) ≤ (r : Int) := by omega
  have i1 : (r : Int) ≤ (s.size : Int) := by omega
  have HC := Lib.hid (show s.extract r s.size ++ s.extract 0 r = ⟨(rotA s.data.toList r).toArray⟩ from
    cat_arr _ _ _ _ (ext_data s r (by omega)).1 (ext_data s r (by omega)).2.1)
  have z1 : (s.extract r s.size).size = s.size - r := (ext_data s r (by omega)).2.2.1
  have z2 : (s.extract 0 r).size = r := (ext_data s r (by omega)).2.2.2
  clear hr
  go_enter Tryz.func41, Tryz.ntmps41
  go_wp2_with fail
  go_quiet (fail)
  go_wp2
  go_ret
  exact ⟨by rw [← HC.out]; rfl, below_drewN (Below.refl _ _) _⟩
set_option maxHeartbeats 2000000 in
set_option maxRecDepth 100000 in
theorem rfCount (s : ByteArray) (c : UInt8) (w : World) (h64 : s.size ≤ 1000) :
    Calls Tryz.prog 98 #[.string s, .int .u8 c.toNat] w fun e w' => e = .returned (.int .i64 (s.data.toList.count c : Nat)) ∧ w' = w := by
  have hz := Lib.size_eq s
  obtain ⟨L, hL⟩ : ∃ L, s.data.toList = L := ⟨_, rfl⟩
  have HL := Lib.hid hL
  rw [hL] at hz ⊢
  clear hL
  go_enter Tryz.func98, Tryz.ntmps98
  go_wp2_with fail
  go_loop [5, 6] (fun v i => ∃ k : Nat, k ≤ s.size ∧ i = .int .i64 k ∧ v = .int .i64 ((L.take k).count c : Nat)) (fun _ i => s.size - (intOf i).toNat)
  case atStart => exact ⟨0, Nat.zero_le _, rfl, by simp⟩
  case round =>
    obtain ⟨k, hk, rfl, rfl⟩ := hrel
    by_cases hlt : k < s.size
    · have k0 : (0 : Int) ≤ (k : Int) := by omega
      have k1 : (k : Int) < (s.size : Int) := by omega
      have hkL : k < L.length := by omega
      have hel : s[k] = L[k] := by
        rw [← byte_at s k hlt (by rw [HL.out]; exact hkL)]
        simp only [HL.out]
      have hcl : (L.take k).count c ≤ 1000 := Nat.le_trans List.count_le_length (by rw [List.length_take]; omega)
      have HN := Lib.hid (show (L.take (k + 1)).count c = (L.take k).count c + if L[k] = c then 1 else 0 by
        rw [List.take_succ_eq_append_getElem hkL, List.count_append]
        congr 1
        rw [List.count_singleton]
        simp only [beq_iff_eq])
      obtain ⟨v, hv⟩ : ∃ v, (L.take k).count c = v := ⟨_, rfl⟩
      rw [hv] at hcl HN ⊢
      clear hv
      by_cases hc : L[k] = c
      · have e1 : s[k].toNat = c.toNat := by rw [hel, hc]
        rw [if_pos hc] at HN
        clear hc hel
        go_wp2
        go_round
        case rel => exact ⟨k + 1, by omega, by go_num, by rw [HN.out]; go_num⟩
        case measure => simp [intOf]; omega
      · have e1 : ¬ s[k].toNat = c.toNat := fun e => hc (by rw [← hel]; exact UInt8.toNat.inj e)
        have e2 : ((s[k].toNat : Int) == (c.toNat : Int)) = false := by rw [beq_eq_false_iff_ne]; omega
        rw [if_neg hc] at HN
        clear hc hel e1
        go_wp2
        go_round
        case rel => exact ⟨k + 1, by omega, by go_num, by rw [HN.out]; rfl⟩
        case measure => simp [intOf]; omega
    · obtain rfl : k = s.size := by omega
      have HT := Lib.hid (show L.take s.size = L from List.take_of_length_le (by omega))
      go_wp2
      go_ret
      first | exact ⟨rfl, rfl⟩ | exact ⟨by rw [HT.out], rfl⟩
set_option maxHeartbeats 2000000 in
set_option maxRecDepth 100000 in
theorem rfLeast (s : ByteArray) (w : World) (h1 : 1 ≤ s.size) (h64 : s.size ≤ 64) :
    Calls Tryz.prog 38 #[.string s] w fun e w' => e = .returned (.string ⟨(lstW s.data.toList).toArray⟩) ∧ Below w.heap.size w w' := by
  have hz := Lib.size_eq s
  have HL := Lib.hid (show lstW s.data.toList = rotA s.data.toList (lstF s.data.toList s.size) by rw [lstW, hz])
  have HS := Lib.hid (show lstF s.data.toList 1 = 0 by rw [lstF]; split <;> rfl)
  have HS0 := Lib.hid (show (⟨(rotA s.data.toList 0).toArray⟩ : ByteArray) = s by rw [rotA_zero, Array.toArray_toList])
  clear hz
  go_enter Tryz.func38, Tryz.ntmps38
  go_wp2_with fail
  go_loopg [3, 4, 5] (s.size - 1) (fun g v i _ wi => ∃ k : Nat, g = s.size - k ∧ 1 ≤ k ∧ k ≤ s.size ∧ i = .int .i64 k ∧ v = .string ⟨(rotA s.data.toList (lstF s.data.toList k)).toArray⟩ ∧ Below w.heap.size w wi)
  case atStart => exact ⟨1, rfl, Nat.le_refl _, h1, rfl, by rw [HS.out, HS0.out], Below.refl _ _⟩
  case round =>
    obtain ⟨k, hg, hk1, hk, rfl, rfl, hbi⟩ := hrel
    by_cases hlt : k < s.size
    · have HN := Lib.hid (show lstF s.data.toList (k + 1) = if Lib.compareBytes (rotA s.data.toList k) (rotA s.data.toList (lstF s.data.toList k)) < 0 then k else lstF s.data.toList k from rfl)
      have HM := Lib.hid (Nat.mod_eq_of_lt hlt)
      obtain ⟨o, ho⟩ : ∃ o, lstF s.data.toList k = o := ⟨_, rfl⟩
      rw [ho] at HN ⊢
      clear ho
      obtain ⟨A, hA⟩ : ∃ A, (⟨(rotA s.data.toList k).toArray⟩ : ByteArray) = A := ⟨_, rfl⟩
      obtain ⟨B, hB⟩ : ∃ B, (⟨(rotA s.data.toList o).toArray⟩ : ByteArray) = B := ⟨_, rfl⟩
      have hAd : A.toList = rotA s.data.toList k := by rw [← hA, Lib.toList_data]
      have hBd : B.toList = rotA s.data.toList o := by rw [← hB, Lib.toList_data]
      have HA := Lib.hid hA
      have HB := Lib.hid hB
      rw [hB]
      clear hA hB
      go_wp2_with fail
      refine (rfRotate s k _ h1 h64).mono ?_
      rintro e w2 ⟨rfl, hb2⟩
      rw [HM.out, HA.out]
      have B2 := hbi.trans (hb2.mono hbi.size)
      clear hbi hb2
      have hq := bl_cmp (rotA s.data.toList k) (rotA s.data.toList o)
      by_cases hc : Lib.compareBytes (rotA s.data.toList k) (rotA s.data.toList o) < 0
      · have hb : Op.bytesLess A.toList B.toList = true := by
          rw [hAd, hBd]
          exact hq.1 hc
        have HN2 := Lib.hid (show lstF s.data.toList (k + 1) = k by rw [HN.out, if_pos hc])
        clear hq hc HN hAd hBd
        go_wp2
        go_roundg (s.size - (k + 1))
        case rel => exact ⟨k + 1, by omega, by omega, by omega, by go_num, by rw [HN2.out, HA.out], B2⟩
        case measure => omega
      · have hb : Op.bytesLess A.toList B.toList = false := by
          rw [hAd, hBd]
          exact Bool.eq_false_iff.2 fun h => hc (hq.2 h)
        have HN2 := Lib.hid (show lstF s.data.toList (k + 1) = o by rw [HN.out, if_neg hc])
        clear hq hc HN hAd hBd
        go_wp2
        go_roundg (s.size - (k + 1))
        case rel => exact ⟨k + 1, by omega, by omega, by omega, by go_num, by rw [HN2.out, HB.out], B2⟩
        case measure => omega
    · obtain rfl : k = s.size := by omega
      go_wp2
      go_ret
      exact ⟨by rw [HL.out]; rfl, hbi⟩
theorem refPowerQ (s R : ByteArray) (c : Nat) (w : World) (hc : c ≤ 256) (hs : s.size ≤ 64) (hR : strL (Lib.repeatL s.data.toList c) = R) :
    Calls Tryz.prog 40 #[.string s, .int .i64 c] w fun e w' => e = .returned (.string R) ∧ w' = w :=
  (refPower s c w hc hs).mono fun _ _ ⟨h, h'⟩ => ⟨by rw [h, hR], h'.symm⟩
set_option maxHeartbeats 2000000 in
set_option maxRecDepth 100000 in
theorem rfRoot (s : ByteArray) (w : World) (h1 : 1 ≤ s.size) (h64 : s.size ≤ 64) :
    Calls Tryz.prog 37 #[.string s] w fun e w' => e = .returned (.tuple #[.string (s.extract 0 (rootN s.data.toList)), .int .i64 (s.size / rootN s.data.toList : Nat)]) ∧ Below w.heap.size w w' := by
  have hz := Lib.size_eq s
  obtain ⟨R, hR⟩ : ∃ R, rootN s.data.toList = R := ⟨_, rfl⟩
  have HR := Lib.hid (show leastF (powB s.data.toList) s.size (s.size - 1) 1 = R by rw [← hR, rootN, leastN, hz])
  rw [hR]
  clear hR
  go_enter Tryz.func37, Tryz.ntmps37
  go_wp2_with fail
  go_loopg [4] (s.size - 1) (fun g i wi => ∃ n : Nat, g = s.size - n ∧ 1 ≤ n ∧ n ≤ s.size ∧ i = .int .i64 n ∧ leastF (powB s.data.toList) s.size (s.size - n) n = R ∧ Below w.heap.size w wi)
  case atStart => exact ⟨1, rfl, Nat.le_refl _, h1, rfl, HR.out, Below.refl _ _⟩
  case round =>
    obtain ⟨n, hg, hn1, hn, rfl, hl, hbi⟩ := hrel
    have HLF := Lib.hid hl
    clear hl HR
    by_cases hlt : n < s.size
    · have hsub : s.size - n = (s.size - (n + 1)) + 1 := by omega
      have ht := nat_tmod s.size n
      have ht2 : (s.size : Int) % (n : Int) = ((s.size % n : Nat) : Int) := (Int.natCast_emod _ _).symm
      have hd := nat_tdiv s.size n
      have hd2 : (s.size : Int) / (n : Int) = ((s.size / n : Nat) : Int) := (Int.natCast_ediv _ _).symm
      have hq : s.size / n ≤ 64 := Nat.le_trans (Nat.div_le_self _ _) h64
      have HE : powB s.data.toList n = (decide (s.size % n = 0) && (s.data.toList == Lib.repeatL (s.data.toList.take n) (s.size / n))) := by rw [powB, hz]
      have he1 : (s.extract 0 n).data.toList = s.data.toList.take n := (ext_data s n (by omega)).2.1
      have he2 : (s.extract 0 n).size = n := (ext_data s n (by omega)).2.2.2
      obtain ⟨q, hqq⟩ : ∃ q, s.size / n = q := ⟨_, rfl⟩
      rw [hqq] at hd hd2 hq HE
      have hwq : IntKind.i64.wrap (q : Int) = (q : Int) := by rw [IntKind.wrap_i64]; omega
      obtain ⟨m, hm⟩ : ∃ m, s.size % n = m := ⟨_, rfl⟩
      rw [hm] at ht ht2 HE
      have hzN : ¬ n = 0 := by omega
      have hz0 : ¬ (n : Int) = 0 := by omega
      have i0 : (0 : Int) ≤ (n : Int) := by omega
      have i1 : (n : Int) ≤ (s.size : Int) := by omega
      obtain ⟨P, hP⟩ : ∃ P, strL (Lib.repeatL (s.extract 0 n).data.toList q) = P := ⟨_, rfl⟩
      have hPl : P.data.toList = Lib.repeatL (s.data.toList.take n) q := by rw [← hP, ← he1]; rfl
      have HPP := Lib.hid hP
      have HQQ := Lib.hid hqq
      clear hqq hm hP
      by_cases hm0 : m = 0
      · subst hm0
        rw [decide_eq_true rfl, Bool.true_and, ← hPl] at HE
        by_cases hp : s.data.toList = P.data.toList
        · have hps : (P.toList == s.toList) = true := by rw [Lib.toList_data, Lib.toList_data, beq_iff_eq]; exact hp.symm
          have HN := Lib.hid (show n = R by rw [← HLF.out, hsub, leastF, if_pos (by rw [HE, beq_iff_eq]; exact hp)])
          clear HE hp hPl hsub hz he1
          go_wp2_with fail
          go_quiet (first | (go_at_call 40; exact Calls.quiet_of_same (refPowerQ (s.extract 0 n) P q _ (by omega) (by omega) HPP.out)))
          go_wp2_with fail
          go_quiet (fail)
          go_wp2
          go_ret2
          exact ⟨by rw [← HN.out, HQQ.out]; rfl, below_drewN (below_drewN hbi _) _⟩
        · have hps : (P.toList == s.toList) = false := by rw [Lib.toList_data, Lib.toList_data, beq_eq_false_iff_ne]; exact fun h => hp h.symm
          have HN := Lib.hid (show leastF (powB s.data.toList) s.size (s.size - (n + 1)) (n + 1) = R by rw [← HLF.out, hsub, leastF, if_neg (by rw [HE, beq_iff_eq]; exact hp)])
          clear HE hp hPl hsub hz he1
          go_wp2_with fail
          go_quiet (first | (go_at_call 40; exact Calls.quiet_of_same (refPowerQ (s.extract 0 n) P q _ (by omega) (by omega) HPP.out)))
          go_wp2
          go_roundg (s.size - (n + 1))
          case rel => exact ⟨n + 1, by omega, by omega, by omega, by go_num, HN.out, below_drewN hbi _⟩
          case measure => omega
      · have hmb : ((m : Int) == 0) = false := by rw [beq_eq_false_iff_ne]; omega
        have HN := Lib.hid (show leastF (powB s.data.toList) s.size (s.size - (n + 1)) (n + 1) = R by rw [← HLF.out, hsub, leastF, if_neg (by rw [HE, decide_eq_false hm0]; simp)])
        clear HE hPl hsub hz he1 hm0
        go_wp2_with fail
        go_quiet (fail)
        go_wp2
        go_roundg (s.size - (n + 1))
        case rel => exact ⟨n + 1, by omega, by omega, by omega, by go_num, HN.out, below_drewN hbi _⟩
        case measure => omega
    · obtain rfl : n = s.size := by omega
      have HRN := Lib.hid (show s.size = R by have := HLF.out; rwa [Nat.sub_self, leastF] at this)
      clear hz HLF
      go_wp2_with fail
      go_ret2
      have e1 : s.extract 0 R = s := by
        rw [← HRN.out]
        have h := (ext_data s s.size (Nat.le_refl _)).2.1
        rw [List.take_of_length_le (by rw [← Lib.size_eq]; exact Nat.le_refl _)] at h
        rw [← arr_back (s.extract 0 s.size), h, arr_back]
      exact ⟨by rw [e1, ← HRN.out, Nat.div_self (by omega)]; rfl, hbi⟩
end Go.Proofs.YtgpgdjdababidaaGreatDoor

/- Print of the reference of chapter 2. -/
namespace Go.Proofs.YtgpgdjdababidaaGreatDoor
open Go.RowKit Go.Shelf Ck

set_option maxHeartbeats 4000000 in
set_option maxRecDepth 100000 in
theorem rfPrint (s : ByteArray) (w : World) (h64 : s.size ≤ 64) :
    Calls Tryz.prog 20 #[.string s] w fun e w' => e = .returned (.string (strA (printL s.data.toList))) ∧ Below w.heap.size w w' := by
  have hz := Lib.size_eq s
  obtain ⟨L, hL⟩ : ∃ L, s.data.toList = L := ⟨_, rfl⟩
  rw [hL] at hz ⊢
  have HL := Lib.hid hL
  have HZ := Lib.hid hz
  have HP := Lib.hid (show printF L s.size 0 0 = printL L by rw [printL, hz])
  clear hL hz
  go_enter Tryz.func20, Tryz.ntmps20
  go_wp2_with fail
  go_loopg [3, 4, 5] s.size (fun g ov nv iv wi => ∃ (i c : Nat) (O : List UInt8), g = s.size - i ∧ i ≤ s.size ∧ c ≤ i ∧ O.length ≤ 3 * i ∧ ov = .string (strA O) ∧ nv = .int .i64 c ∧ iv = .int .i64 i ∧ O ++ printF L (s.size - i) i c = printL L ∧ Below w.heap.size w wi)
  case atStart => exact ⟨0, 0, [], rfl, Nat.zero_le _, Nat.le_refl _, Nat.le_refl _, rfl, rfl, rfl, HP.out, Below.refl _ _⟩
  case round =>
    obtain ⟨i, c, O, hg, hi, hc, hO, rfl, rfl, rfl, hpr, hbi⟩ := hrel
    have HPR := Lib.hid hpr
    clear hpr
    by_cases hlt : i < s.size
    · have hsub : s.size - i = (s.size - (i + 1)) + 1 := by omega
      have hiL : i < L.length := by rw [← HZ.out]; exact hlt
      have hel : s[i] = L[i] := by
        rw [← byte_at s i hlt (by rw [HL.out]; exact hiL)]
        simp only [HL.out]
      have hgd : L.getD i 0 = L[i] := by simp [hiL]
      have i0 : (0 : Int) ≤ (i : Int) := by omega
      have i1 : (i : Int) < (s.size : Int) := by omega
      have i2 : (i : Int) ≤ (i : Int) + 1 := by omega
      have i3 : (i : Int) + 1 ≤ (s.size : Int) := by omega
      have i4 : ((i : Int) + 1).toNat = i + 1 := by omega
      have HX := Lib.hid (show s.extract i (i + 1) = strA [L[i]] by
        rw [← arr_back (s.extract i (i + 1)), strA]
        congr 2
        have : (s.extract i (i + 1)).data.toList = (s.data.toList.drop i).take 1 := by simp [ByteArray.data_extract]
        rw [this, HL.out, List.drop_eq_getElem_cons hiL]
        rfl)
      have hxz : (s.extract i (i + 1)).size = 1 := by rw [HX.out, strA_size]; rfl
      have zO := strA_size O
      obtain ⟨d, hd⟩ : ∃ d, c + 1 = d := ⟨_, rfl⟩
      have hd64 : d < 100 := by omega
      have HDD := Lib.hid hd
      obtain ⟨T, hT⟩ : ∃ T, strA (Lib.decDigits d) = T := ⟨_, rfl⟩
      have hTz : T.size ≤ 2 := by rw [← hT, strA_size]; exact dec_short (by omega)
      have HT := Lib.hid hT
      have HCAT := Lib.hid (show strA O ++ T ++ s.extract i (i + 1) = strA (O ++ (Lib.decDigits d ++ [L[i]])) by rw [← hT, HX.out, strA_cat, strA_cat, List.append_assoc])
      have hcast : (c : Int) + 1 = (d : Int) := by omega
      have hF : printF L (s.size - i) i c = if endB L i = true then Lib.decDigits d ++ [L[i]] ++ printF L (s.size - (i + 1)) (i + 1) 0 else printF L (s.size - (i + 1)) (i + 1) d := by
        rw [hsub, printF, hgd, ← hd]
      cases he : endB L i with
      | true =>
        have HN := Lib.hid (show (O ++ (Lib.decDigits d ++ [L[i]])) ++ printF L (s.size - (i + 1)) (i + 1) 0 = printL L by
          rw [← HPR.out, hF, if_pos he, List.append_assoc])
        have hOl : (O ++ (Lib.decDigits d ++ [L[i]])).length ≤ 3 * (i + 1) := by
          rw [List.length_append, List.length_append, List.length_singleton]
          have := dec_short (n := d) (by omega)
          omega
        have HOL := Lib.hid hOl
        unfold endB at he
        rw [Bool.or_eq_true, decide_eq_true_eq, decide_eq_true_eq] at he
        by_cases hl : i + 1 = s.size
        · have b1 : ((i : Int) + 1 == (s.size : Int)) = true := by rw [beq_iff_eq]; omega
          clear he hT hOl hsub hel hgd hF hd hl
          go_wp2_with fail
          go_quiet (fail)
          have hbj := below_drewN hbi nq
          generalize World.drewN wr nq = wj at hbj ⊢
          clear hbi
          go_wp2_with fail
          go_quiet (first | (go_at_call 82; exact Calls.quiet_of_same (rfTextQ d T hd64 HT.out _)))
          go_wp2
          rw [HCAT.out]
          go_roundg (s.size - (i + 1))
          case rel => exact ⟨i + 1, 0, _, by omega, by omega, by omega, HOL.out, rfl, rfl, by go_num, HN.out, by first | exact below_drewN hbj _ | exact hbj⟩
          case measure => omega
        · have j1 : (i : Int) + 1 < (s.size : Int) := by omega
          have j0 : (0 : Int) ≤ (i : Int) + 1 := by omega
          have hiL1 : i + 1 < L.length := by rw [← HZ.out]; omega
          have hj1 : i + 1 < s.size := by omega
          have hel1 : s[i + 1] = L[i + 1] := by
            rw [← byte_at s (i + 1) hj1 (by rw [HL.out]; exact hiL1)]
            simp only [HL.out]
          have hgd1 : L.getD (i + 1) 0 = L[i + 1] := by simp [hiL1]
          have b1 : ((i : Int) + 1 == (s.size : Int)) = false := by rw [beq_eq_false_iff_ne]; omega
          have hne : L[i + 1] ≠ L[i] := by
            rcases he with he | he
            · exact absurd (by rw [← HZ.out] at he; exact he) hl
            · rwa [hgd1, hgd] at he
          have b2 : ((s[i + 1].toNat : Int) != (s[i].toNat : Int)) = true := by
            rw [bne_iff_ne, hel1, hel]
            intro h
            exact hne (UInt8.toNat.inj (by omega))
          clear he hT hOl hsub hel hgd hF hd hl hel1 hgd1 hne
          go_wp2_with fail
          go_quiet (fail)
          have hbj := below_drewN hbi nq
          generalize World.drewN wr nq = wj at hbj ⊢
          clear hbi
          go_wp2_with fail
          go_quiet (first | (go_at_call 82; exact Calls.quiet_of_same (rfTextQ d T hd64 HT.out _)))
          go_wp2
          rw [HCAT.out]
          go_roundg (s.size - (i + 1))
          case rel => exact ⟨i + 1, 0, _, by omega, by omega, by omega, HOL.out, rfl, rfl, by go_num, HN.out, by first | exact below_drewN hbj _ | exact hbj⟩
          case measure => omega
      | false =>
        have HN := Lib.hid (show O ++ printF L (s.size - (i + 1)) (i + 1) d = printL L by
          rw [← HPR.out, hF, if_neg (by rw [he]; decide)])
        unfold endB at he
        rw [Bool.or_eq_false_iff, decide_eq_false_iff_not, decide_eq_false_iff_not] at he
        by_cases hl : i + 1 = s.size
        · exact absurd (by rw [← HZ.out]; exact hl) he.1
        · have j1 : (i : Int) + 1 < (s.size : Int) := by omega
          have j0 : (0 : Int) ≤ (i : Int) + 1 := by omega
          have hiL1 : i + 1 < L.length := by rw [← HZ.out]; omega
          have hj1 : i + 1 < s.size := by omega
          have hel1 : s[i + 1] = L[i + 1] := by
            rw [← byte_at s (i + 1) hj1 (by rw [HL.out]; exact hiL1)]
            simp only [HL.out]
          have hgd1 : L.getD (i + 1) 0 = L[i + 1] := by simp [hiL1]
          have b1 : ((i : Int) + 1 == (s.size : Int)) = false := by rw [beq_eq_false_iff_ne]; omega
          have hne : L[i + 1] = L[i] := by
            have := he.2
            rw [hgd1, hgd] at this
            exact Decidable.not_not.1 this
          have b2 : ((s[i + 1].toNat : Int) != (s[i].toNat : Int)) = false := by
            rw [bne_eq_false_iff_eq, hel1, hel, hne]
          clear he hT hsub hel hgd hF hl hel1 hgd1 hne
          go_wp2_with fail
          go_quiet (fail)
          go_wp2
          go_roundg (s.size - (i + 1))
          case rel => exact ⟨i + 1, d, O, by omega, by omega, by omega, by omega, rfl, rfl, by go_num, HN.out, by first | exact below_drewN hbi _ | exact hbi⟩
          case measure => omega
    · obtain rfl : i = s.size := by omega
      have HO := Lib.hid (show O = printL L by rw [← HPR.out, Nat.sub_self, printF, List.append_nil])
      go_wp2
      go_ret
      exact ⟨by rw [← HO.out]; rfl, hbi⟩
end Go.Proofs.YtgpgdjdababidaaGreatDoor

/- Parse of the reference of chapter 2. -/
namespace Go.Proofs.YtgpgdjdababidaaGreatDoor
open Go.RowKit Go.Shelf Ck

theorem repeat_snoc (c : UInt8) : ∀ k, Lib.repeatL [c] k ++ [c] = Lib.repeatL [c] (k + 1)
  | 0 => rfl
  | k + 1 => by
    have ih := repeat_snoc c k
    rw [Lib.repeatL, List.append_assoc, ih]
    rfl
theorem repeat_len (c : UInt8) : ∀ k, (Lib.repeatL [c] k).length = k
  | 0 => rfl
  | k + 1 => by rw [← repeat_snoc, List.length_append, repeat_len c k]; rfl
/-- Where the digits of a run end, and what the reference says of it. -/
structure RunF (L : List UInt8) (p q : Nat) : Prop where
  low : p ≤ q
  two : q ≤ p + 2
  top : q ≤ L.length
  dig : ∀ k, p ≤ k → k < q → ∃ h : k < L.length, k < p + 2 ∧ digC L[k] = true
  stop : q = L.length ∨ (q < L.length ∧ q = p + 2) ∨ (∃ h : q < L.length, q < p + 2 ∧ digC L[q] = false)
  noA : q = p → readF 0 0 (L.drop p) = none
  noB : ∀ h : p < L.length, L[p] = 48 → readF 0 0 (L.drop p) = none
  noC : q = L.length → readF 0 0 (L.drop p) = none
  noD : ∀ h : q < L.length, okC L[q] = false → readF 0 0 (L.drop p) = none
  yes : ∀ h : q < L.length, ∀ h0 : p < L.length, q ≠ p → L[p] ≠ 48 → okC L[q] = true → readF 0 0 (L.drop p) = some (L[q], numL ((L.drop p).take (q - p)), q - p + 1)
theorem runF {L : List UInt8} {p : Nat} (hp : p < L.length) : RunF L p (p + digN (L.drop p)) := by
  obtain ⟨d1, d2⟩ := digN_le (L.drop p)
  obtain ⟨c1, c2, c3, c4, c5⟩ := readF_ref (L.drop p)
  rw [List.length_drop] at d2 c3
  have hlt := fun j => @digN_lt (L.drop p) j
  obtain ⟨d, hd⟩ : ∃ d, digN (L.drop p) = d := ⟨_, rfl⟩
  simp only [hd] at d1 d2 c1 c3 hlt ⊢
  have c4' : ∀ h : p + d < L.length, okC L[p + d] = false → readF 0 0 (L.drop p) = none := fun h h2 => by
    have h' : digN (L.drop p) < (L.drop p).length := by rw [List.length_drop]; omega
    refine c4 h' ?_
    simp only [hd, List.getElem_drop]
    exact h2
  refine ⟨by omega, by omega, by omega, fun k k1 k2 => ?_, ?_, fun h => c1 (by omega), fun h h2 => ?_, fun h => c3 (by omega), c4', fun h h0 h1 h2 h3 => ?_⟩
  · have := (hlt (k - p) (by omega)).1 (by omega)
    obtain ⟨g, g1, g2⟩ := this
    rw [List.length_drop] at g
    refine ⟨by omega, by omega, ?_⟩
    rw [List.getElem_drop] at g2
    have e : p + (k - p) = k := by omega
    simpa only [e] using g2
  · by_cases h : p + d = L.length
    · exact .inl h
    · by_cases h2 : d = 2
      · exact .inr (.inl ⟨by omega, by omega⟩)
      · refine .inr (.inr ⟨by omega, by omega, ?_⟩)
        have := mt (hlt d (Nat.le_refl _)).2 (Nat.lt_irrefl _)
        cases hh : digC L[p + d] with
        | false => rfl
        | true => exact absurd ⟨by rw [List.length_drop]; omega, by omega, by rw [List.getElem_drop]; exact hh⟩ this
  · refine c2 (by rw [List.length_drop]; omega) ?_
    simp only [List.getElem_drop, Nat.add_zero]
    exact h2
  · have h' : digN (L.drop p) < (L.drop p).length := by rw [List.length_drop]; omega
    have := c5 h' (by rw [List.length_drop]; omega) (by omega) (by simp only [List.getElem_drop, Nat.add_zero]; exact h2) (by simp only [hd, List.getElem_drop]; exact h3)
    simp only [hd, List.getElem_drop] at this
    rw [show p + d - p = d by omega]
    exact this
theorem parse_none {L W : List UInt8} {g p : Nat} (hp : p < L.length) (h : readF 0 0 (L.drop p) = none) : parseF (g + 1) p W (L.drop p) = ([], p, 25) := by
  rw [parseF, if_neg (fun e => by have := congrArg List.length e; rw [List.length_drop, List.length_nil] at this; omega), h]
theorem parse_some {L W : List UInt8} {g p n z : Nat} {c : UInt8} (hp : p < L.length) (h : readF 0 0 (L.drop p) = some (c, n, z)) :
    parseF (g + 1) p W (L.drop p) = if 64 < W.length + n then ([], p, 26) else parseF g (p + z) (W ++ Lib.repeatL [c] n) (L.drop (p + z)) := by
  rw [parseF, if_neg (fun e => by have := congrArg List.length e; rw [List.length_drop, List.length_nil] at this; omega), h]
  simp only [List.drop_drop]
set_option maxHeartbeats 1000000 in
set_option maxRecDepth 100000 in
theorem rfParse (s : ByteArray) (w : World) (hs1 : 1 ≤ s.size) (hs : s.size ≤ 140) :
    Calls Tryz.prog 19 #[.string s] w fun e w' => e = .returned (.tuple #[.string (strA (parseF (s.size + 1) 0 [] s.data.toList).1), .int .i64 (parseF (s.size + 1) 0 [] s.data.toList).2.1, .int .i64 (parseF (s.size + 1) 0 [] s.data.toList).2.2]) ∧ Below w.heap.size w w' := by
  obtain ⟨L, hL⟩ : ∃ L, s.data.toList = L := ⟨_, rfl⟩
  have hz : L.length = s.size := by rw [← hL, ← Lib.size_eq]
  have hne : s.toList.isEmpty = false := by
    rw [Lib.toList_data, hL]
    cases L with
    | nil => simp at hz; omega
    | cons a r => rfl
  have hlen : ¬ (4096 : Int) < (s.size : Int) := by omega
  have hel : ∀ k (h : k < s.size) (h' : k < L.length), s[k] = L[k] := by
    intro k h h'
    rw [← byte_at s k h (by rw [hL]; exact h')]
    simp only [hL]
  have hex : ∀ a b, (s.extract a b).data.toList = (L.drop a).take (b - a) := by
    intro a b
    rw [← hL]
    simp [ByteArray.data_extract]
  obtain ⟨R, hR⟩ : ∃ R, parseF (s.size + 1) 0 [] L = R := ⟨_, rfl⟩
  rw [hL, hR]
  obtain ⟨RW, Rp, RE⟩ := R
  have HEL := Lib.hid hel
  have HEX := Lib.hid hex
  have HZ := Lib.hid hz
  have HR := Lib.hid hR
  clear hL hz hR hel hex
  go_enter Tryz.func19, Tryz.ntmps19
  go_wp2_with fail
  go_loopg [5, 6, 7, 8, 9] (s.size + 1) (fun g wv pv _ _ _ wi => ∃ (p : Nat) (W : List UInt8), p ≤ s.size ∧ s.size + 1 ≤ g + p ∧ W.length ≤ 64 ∧ wv = .string (strA W) ∧ pv = .int .i64 p ∧ parseF g p W (L.drop p) = (RW, Rp, RE) ∧ Below w.heap.size w wi)
  case atStart => exact ⟨0, [], Nat.zero_le _, Nat.le_refl _, Nat.zero_le _, rfl, rfl, HR.out, Below.refl _ _⟩
  case round =>
    obtain ⟨p, W, hp, hg, hW, rfl, rfl, hF, hbi⟩ := hrel
    obtain ⟨g, rfl⟩ : ∃ g', gk = g' + 1 := ⟨gk - 1, by omega⟩
    by_cases hlt : p < s.size
    · have hpL : p < L.length := by rw [HZ.out]; exact hlt
      obtain ⟨q0, hq0⟩ : ∃ q0, p + digN (L.drop p) = q0 := ⟨_, rfl⟩
      have RF := runF hpL
      rw [hq0] at RF
      have HRF := Lib.hid RF
      have HF := Lib.hid hF
      have r1 := RF.low
      have r2 := RF.two
      have r3 : q0 ≤ s.size := by rw [← HZ.out]; exact RF.top
      clear RF hq0 hF HR
      go_wp2_with fail
      go_loopg [7] 3 (fun g' ev wi => ∃ q : Nat, q0 < g' + q ∧ p ≤ q ∧ q ≤ q0 ∧ ev = .int .i64 q ∧ Below w.heap.size w wi)
      case atStart => exact ⟨p, by omega, by omega, by omega, rfl, hbi⟩
      case round =>
        obtain ⟨q, hgq, hq1, hq2, rfl, hbi2⟩ := hrel
        clear hbi
        by_cases hqq : q < q0
        · obtain ⟨g2, rfl⟩ : ∃ g', gk = g' + 1 := ⟨gk - 1, by omega⟩
          obtain ⟨hqL, hq3, hdg⟩ := HRF.out.dig q hq1 hqq
          have hqs : q < s.size := by rw [← HZ.out]; exact hqL
          have f1 : (q : Int) < (s.size : Int) := by omega
          have f0 : (0 : Int) ≤ (q : Int) := by omega
          have f2 : (q : Int) < (p : Int) + 2 := by omega
          have HDG := Lib.hid (show digC s[q] = true by rw [HEL.out q hqs hqL]; exact hdg)
          clear hdg
          go_wp2_with fail
          refine (rfIsDigit (s[q]) _).mono ?_
          rintro e w2 ⟨rfl, rfl⟩
          rw [HDG.out]
          go_wp2
          go_roundg g2
          case rel => exact ⟨q + 1, by omega, by omega, by omega, by go_num, hbi2⟩
          case measure => omega
        · obtain rfl : q = q0 := by omega
          have hsp : (0 : Int) ≤ (p : Int) := by omega
          have hsp1 : (p : Int) < (s.size : Int) := by omega
          have hpe := HEL.out p hlt hpL
          have f0 : (0 : Int) ≤ (q : Int) := by omega
          rcases HRF.out.stop with hst | ⟨hst, hst2⟩ | ⟨hst, hst2, hst3⟩
          · have hqs : q = s.size := by rw [← HZ.out]; exact hst
            have f1 : ¬ (q : Int) < (s.size : Int) := by omega
            by_cases hA : q = p
            · exfalso; omega
            · have b1 : ((q : Int) == (p : Int)) = false := by rw [beq_eq_false_iff_ne]; omega
              by_cases hB : L[p] = 48
              · have b2 : ((s[p].toNat : Int) == 48) = true := by rw [beq_iff_eq, hpe, hB]; rfl
                have hN := HF.out
                rw [parse_none hpL (HRF.out.noB hpL hB)] at hN
                simp only [Prod.mk.injEq] at hN
                obtain ⟨rfl, rfl, rfl⟩ := hN
                clear HF
                clear hpe
                go_wp2
                go_ret3
                exact ⟨rfl, hbi2⟩
              · have b2 : ((s[p].toNat : Int) == 48) = false := by
                  rw [beq_eq_false_iff_ne, hpe]
                  intro h
                  exact hB (UInt8.toNat.inj (by have h48 : (48 : UInt8).toNat = 48 := rfl; omega))
                have b3 : ((q : Int) == (s.size : Int)) = true := by rw [beq_iff_eq]; omega
                have hN := HF.out
                rw [parse_none hpL (HRF.out.noC hst)] at hN
                simp only [Prod.mk.injEq] at hN
                obtain ⟨rfl, rfl, rfl⟩ := hN
                clear HF
                clear hpe
                go_wp2
                go_ret3
                exact ⟨rfl, hbi2⟩
          · have hqs : q < s.size := by rw [← HZ.out]; exact hst
            have f1 : (q : Int) < (s.size : Int) := by omega
            have hqe := HEL.out q hqs hst
            have f2 : ¬ (q : Int) < (p : Int) + 2 := by omega
            by_cases hA : q = p
            · exfalso; omega
            · have b1 : ((q : Int) == (p : Int)) = false := by rw [beq_eq_false_iff_ne]; omega
              clear hst2
              by_cases hB : L[p] = 48
              · have b2 : ((s[p].toNat : Int) == 48) = true := by rw [beq_iff_eq, hpe, hB]; rfl
                have hN := HF.out
                rw [parse_none hpL (HRF.out.noB hpL hB)] at hN
                simp only [Prod.mk.injEq] at hN
                obtain ⟨rfl, rfl, rfl⟩ := hN
                clear HF
                clear hpe hqe
                go_wp2
                go_ret3
                exact ⟨rfl, hbi2⟩
              · have b2 : ((s[p].toNat : Int) == 48) = false := by
                  rw [beq_eq_false_iff_ne, hpe]
                  intro h
                  exact hB (UInt8.toNat.inj (by have h48 : (48 : UInt8).toNat = 48 := rfl; omega))
                have b3 : ((q : Int) == (s.size : Int)) = false := by rw [beq_eq_false_iff_ne]; omega
                cases hok : okC L[q] with
                | false =>
                  have HO := Lib.hid (show okC s[q] = false by rw [hqe]; exact hok)
                  have hN := HF.out
                  rw [parse_none hpL (HRF.out.noD hst hok)] at hN
                  simp only [Prod.mk.injEq] at hN
                  obtain ⟨rfl, rfl, rfl⟩ := hN
                  clear HF
                  clear hpe hqe
                  go_wp2_with fail
                  refine (refIsLetter (s[q]) _).mono ?_
                  rintro e w2 ⟨rfl, rfl⟩
                  rw [HO.out]
                  go_wp2
                  go_ret3
                  exact ⟨rfl, hbi2⟩
                | true =>
                  have HO := Lib.hid (show okC s[q] = true by rw [hqe]; exact hok)
                  have hrd := HRF.out.yes hst hpL hA hB hok
                  obtain ⟨N, hN⟩ : ∃ N, numL ((L.drop p).take (q - p)) = N := ⟨_, rfl⟩
                  rw [hN] at hrd
                  have hps := parse_some (g := g) (W := W) hpL hrd
                  rw [show p + (q - p + 1) = q + 1 by omega, HF.out] at hps
                  have HPS := Lib.hid hps
                  have HNN := Lib.hid hN
                  have hN99 : N ≤ 99 := by
                    rw [← hN]
                    refine numL_small _ (by rw [List.length_take]; omega) fun c hc => ?_
                    obtain ⟨j, hj, rfl⟩ := List.getElem_of_mem hc
                    rw [List.getElem_take, List.getElem_drop]
                    rw [List.length_take] at hj
                    obtain ⟨_, _, h⟩ := HRF.out.dig (p + j) (by omega) (by omega)
                    exact h
                  have xz : (s.extract p q).size = q - p := by rw [ByteArray.size_extract]; omega
                  have HXZ := Lib.hid xz
                  have HDD := Lib.hid (show ∀ k (h : k < ((L.drop p).take (q - p)).length), digC ((L.drop p).take (q - p))[k] = true from fun k h => by
                    rw [List.getElem_take, List.getElem_drop]
                    rw [List.length_take] at h
                    obtain ⟨_, _, h⟩ := HRF.out.dig (p + k) (by omega) (by omega)
                    exact h)
                  have H48 := Lib.hid (show ∀ h : 0 < ((L.drop p).take (q - p)).length, ((L.drop p).take (q - p))[0] ≠ 48 from fun h => by
                    rw [List.getElem_take, List.getElem_drop]
                    exact hB)
                  obtain ⟨c, hcc⟩ : ∃ c, L[q] = c := ⟨_, rfl⟩
                  rw [hcc] at HPS
                  have HX1 := Lib.hid (show s.extract q (q + 1) = strA [c] by
                    rw [← arr_back (s.extract q (q + 1)), HEX.out, List.drop_eq_getElem_cons hst, hcc, show q + 1 - q = 1 by omega]
                    rfl)
                  have x0 : (0 : Int) ≤ (p : Int) := by omega
                  have x1 : (p : Int) ≤ (q : Int) := by omega
                  have x2 : (q : Int) ≤ (s.size : Int) := by omega
                  have x3 : (q : Int) ≤ (q : Int) + 1 := by omega
                  have x4 : (q : Int) + 1 ≤ (s.size : Int) := by omega
                  have x5 : ((q : Int) + 1).toNat = q + 1 := by omega
                  have zW := strA_size W
                  have x1z : (s.extract q (q + 1)).size = 1 := by rw [HX1.out, strA_size]; rfl
                  clear hpe hqe hok hrd hps hN xz hcc HF
                  go_wp2_with fail
                  refine (refIsLetter (s[q]) _).mono ?_
                  rintro e w2 ⟨rfl, rfl⟩
                  rw [HO.out]
                  go_wp2_with fail
                  refine (rfNumber (s.extract p q) _ N _ (HEX.out p q) (by rw [HXZ.out]; omega) (by rw [HXZ.out]; omega) HDD.out H48.out HNN.out).mono ?_
                  rintro e w5 ⟨rfl, hb5⟩
                  have B5 := hbi2.trans (hb5.mono hbi2.size)
                  clear hbi2 hb5
                  by_cases hbig : 64 < W.length + N
                  · have hN := HPS.out
                    rw [if_pos hbig] at hN
                    simp only [Prod.mk.injEq] at hN
                    obtain ⟨rfl, rfl, rfl⟩ := hN
                    have y1 : (64 : Int) < (W.length : Int) + (N : Int) := by omega
                    clear HPS
                    go_wp2
                    go_ret3
                    exact ⟨rfl, B5⟩
                  · have y1 : ¬ (64 : Int) < (W.length : Int) + (N : Int) := by omega
                    have HNX := Lib.hid (show parseF g (q + 1) (W ++ Lib.repeatL [c] N) (L.drop (q + 1)) = (RW, Rp, RE) by rw [HPS.out, if_neg hbig])
                    clear HPS
                    go_wp2_with fail
                    go_loopg [5, 9] N (fun g3 ov iv wi => ∃ k : Nat, g3 = N - k ∧ k ≤ N ∧ iv = .int .i64 k ∧ ov = .string (strA (W ++ Lib.repeatL [c] k)) ∧ Below w.heap.size w wi)
                    case atStart => exact ⟨0, rfl, Nat.zero_le _, rfl, by rw [Lib.repeatL, List.append_nil], B5⟩
                    case round =>
                      obtain ⟨k, hgk3, hk, rfl, rfl, hbi3⟩ := hrel
                      clear B5
                      by_cases hkN : k < N
                      · have HA := Lib.hid (show strA (W ++ Lib.repeatL [c] k) ++ s.extract q (q + 1) = strA (W ++ Lib.repeatL [c] (k + 1)) by
                          rw [HX1.out, strA_cat, List.append_assoc, repeat_snoc])
                        have hAz : (strA (W ++ Lib.repeatL [c] k)).size ≤ 200 := by
                          rw [strA_size, List.length_append, repeat_len]
                          omega
                        obtain ⟨A, hAA⟩ : ∃ A, strA (W ++ Lib.repeatL [c] k) = A := ⟨_, rfl⟩
                        rw [hAA] at HA hAz ⊢
                        clear hAA
                        go_wp2
                        rw [HA.out]
                        go_roundg (N - (k + 1))
                        case rel => exact ⟨k + 1, by omega, by omega, by go_num, rfl, by first | exact below_drewN hbi3 _ | exact hbi3⟩
                        case measure => omega
                      · obtain rfl : k = N := by omega
                        have hWN : (W ++ Lib.repeatL [c] k).length ≤ 64 := by rw [List.length_append, repeat_len]; omega
                        have HWN := Lib.hid hWN
                        clear hWN
                        go_wp2
                        go_roundg g
                        case rel => exact ⟨q + 1, _, by omega, by omega, HWN.out, rfl, by go_num, HNX.out, hbi3⟩
                        case measure => omega
          · have hqs : q < s.size := by rw [← HZ.out]; exact hst
            have f1 : (q : Int) < (s.size : Int) := by omega
            have hqe := HEL.out q hqs hst
            have f2 : (q : Int) < (p : Int) + 2 := by omega
            have HDG := Lib.hid (show digC s[q] = false by rw [hqe]; exact hst3)
            by_cases hA : q = p
            · have b1 : ((q : Int) == (p : Int)) = true := by rw [beq_iff_eq]; omega
              have hN := HF.out
              rw [parse_none hpL (HRF.out.noA hA)] at hN
              simp only [Prod.mk.injEq] at hN
              obtain ⟨rfl, rfl, rfl⟩ := hN
              clear HF
              clear hpe hqe hA
              go_wp2_with fail
              refine (rfIsDigit (s[q]) _).mono ?_
              rintro e w2 ⟨rfl, rfl⟩
              rw [HDG.out]
              go_wp2
              go_ret3
              exact ⟨rfl, hbi2⟩
            · have b1 : ((q : Int) == (p : Int)) = false := by rw [beq_eq_false_iff_ne]; omega
              by_cases hB : L[p] = 48
              · have b2 : ((s[p].toNat : Int) == 48) = true := by rw [beq_iff_eq, hpe, hB]; rfl
                have hN := HF.out
                rw [parse_none hpL (HRF.out.noB hpL hB)] at hN
                simp only [Prod.mk.injEq] at hN
                obtain ⟨rfl, rfl, rfl⟩ := hN
                clear HF
                clear hpe hqe
                go_wp2_with fail
                refine (rfIsDigit (s[q]) _).mono ?_
                rintro e w2 ⟨rfl, rfl⟩
                rw [HDG.out]
                go_wp2
                go_ret3
                exact ⟨rfl, hbi2⟩
              · have b2 : ((s[p].toNat : Int) == 48) = false := by
                  rw [beq_eq_false_iff_ne, hpe]
                  intro h
                  exact hB (UInt8.toNat.inj (by have h48 : (48 : UInt8).toNat = 48 := rfl; omega))
                have b3 : ((q : Int) == (s.size : Int)) = false := by rw [beq_eq_false_iff_ne]; omega
                cases hok : okC L[q] with
                | false =>
                  have HO := Lib.hid (show okC s[q] = false by rw [hqe]; exact hok)
                  have hN := HF.out
                  rw [parse_none hpL (HRF.out.noD hst hok)] at hN
                  simp only [Prod.mk.injEq] at hN
                  obtain ⟨rfl, rfl, rfl⟩ := hN
                  clear HF
                  clear hpe hqe
                  go_wp2_with fail
                  refine (rfIsDigit (s[q]) _).mono ?_
                  rintro e w2 ⟨rfl, rfl⟩
                  rw [HDG.out]
                  go_wp2_with fail
                  refine (refIsLetter (s[q]) _).mono ?_
                  rintro e w2 ⟨rfl, rfl⟩
                  rw [HO.out]
                  go_wp2
                  go_ret3
                  exact ⟨rfl, hbi2⟩
                | true =>
                  have HO := Lib.hid (show okC s[q] = true by rw [hqe]; exact hok)
                  have hrd := HRF.out.yes hst hpL hA hB hok
                  obtain ⟨N, hN⟩ : ∃ N, numL ((L.drop p).take (q - p)) = N := ⟨_, rfl⟩
                  rw [hN] at hrd
                  have hps := parse_some (g := g) (W := W) hpL hrd
                  rw [show p + (q - p + 1) = q + 1 by omega, HF.out] at hps
                  have HPS := Lib.hid hps
                  have HNN := Lib.hid hN
                  have hN99 : N ≤ 99 := by
                    rw [← hN]
                    refine numL_small _ (by rw [List.length_take]; omega) fun c hc => ?_
                    obtain ⟨j, hj, rfl⟩ := List.getElem_of_mem hc
                    rw [List.getElem_take, List.getElem_drop]
                    rw [List.length_take] at hj
                    obtain ⟨_, _, h⟩ := HRF.out.dig (p + j) (by omega) (by omega)
                    exact h
                  have xz : (s.extract p q).size = q - p := by rw [ByteArray.size_extract]; omega
                  have HXZ := Lib.hid xz
                  have HDD := Lib.hid (show ∀ k (h : k < ((L.drop p).take (q - p)).length), digC ((L.drop p).take (q - p))[k] = true from fun k h => by
                    rw [List.getElem_take, List.getElem_drop]
                    rw [List.length_take] at h
                    obtain ⟨_, _, h⟩ := HRF.out.dig (p + k) (by omega) (by omega)
                    exact h)
                  have H48 := Lib.hid (show ∀ h : 0 < ((L.drop p).take (q - p)).length, ((L.drop p).take (q - p))[0] ≠ 48 from fun h => by
                    rw [List.getElem_take, List.getElem_drop]
                    exact hB)
                  obtain ⟨c, hcc⟩ : ∃ c, L[q] = c := ⟨_, rfl⟩
                  rw [hcc] at HPS
                  have HX1 := Lib.hid (show s.extract q (q + 1) = strA [c] by
                    rw [← arr_back (s.extract q (q + 1)), HEX.out, List.drop_eq_getElem_cons hst, hcc, show q + 1 - q = 1 by omega]
                    rfl)
                  have x0 : (0 : Int) ≤ (p : Int) := by omega
                  have x1 : (p : Int) ≤ (q : Int) := by omega
                  have x2 : (q : Int) ≤ (s.size : Int) := by omega
                  have x3 : (q : Int) ≤ (q : Int) + 1 := by omega
                  have x4 : (q : Int) + 1 ≤ (s.size : Int) := by omega
                  have x5 : ((q : Int) + 1).toNat = q + 1 := by omega
                  have zW := strA_size W
                  have x1z : (s.extract q (q + 1)).size = 1 := by rw [HX1.out, strA_size]; rfl
                  clear hpe hqe hok hrd hps hN xz hcc HF
                  go_wp2_with fail
                  refine (rfIsDigit (s[q]) _).mono ?_
                  rintro e w2 ⟨rfl, rfl⟩
                  rw [HDG.out]
                  go_wp2_with fail
                  refine (refIsLetter (s[q]) _).mono ?_
                  rintro e w2 ⟨rfl, rfl⟩
                  rw [HO.out]
                  go_wp2_with fail
                  refine (rfNumber (s.extract p q) _ N _ (HEX.out p q) (by rw [HXZ.out]; omega) (by rw [HXZ.out]; omega) HDD.out H48.out HNN.out).mono ?_
                  rintro e w5 ⟨rfl, hb5⟩
                  have B5 := hbi2.trans (hb5.mono hbi2.size)
                  clear hbi2 hb5
                  by_cases hbig : 64 < W.length + N
                  · have hN := HPS.out
                    rw [if_pos hbig] at hN
                    simp only [Prod.mk.injEq] at hN
                    obtain ⟨rfl, rfl, rfl⟩ := hN
                    have y1 : (64 : Int) < (W.length : Int) + (N : Int) := by omega
                    clear HPS
                    go_wp2
                    go_ret3
                    exact ⟨rfl, B5⟩
                  · have y1 : ¬ (64 : Int) < (W.length : Int) + (N : Int) := by omega
                    have HNX := Lib.hid (show parseF g (q + 1) (W ++ Lib.repeatL [c] N) (L.drop (q + 1)) = (RW, Rp, RE) by rw [HPS.out, if_neg hbig])
                    clear HPS
                    go_wp2_with fail
                    go_loopg [5, 9] N (fun g3 ov iv wi => ∃ k : Nat, g3 = N - k ∧ k ≤ N ∧ iv = .int .i64 k ∧ ov = .string (strA (W ++ Lib.repeatL [c] k)) ∧ Below w.heap.size w wi)
                    case atStart => exact ⟨0, rfl, Nat.zero_le _, rfl, by rw [Lib.repeatL, List.append_nil], B5⟩
                    case round =>
                      obtain ⟨k, hgk3, hk, rfl, rfl, hbi3⟩ := hrel
                      clear B5
                      by_cases hkN : k < N
                      · have HA := Lib.hid (show strA (W ++ Lib.repeatL [c] k) ++ s.extract q (q + 1) = strA (W ++ Lib.repeatL [c] (k + 1)) by
                          rw [HX1.out, strA_cat, List.append_assoc, repeat_snoc])
                        have hAz : (strA (W ++ Lib.repeatL [c] k)).size ≤ 200 := by
                          rw [strA_size, List.length_append, repeat_len]
                          omega
                        obtain ⟨A, hAA⟩ : ∃ A, strA (W ++ Lib.repeatL [c] k) = A := ⟨_, rfl⟩
                        rw [hAA] at HA hAz ⊢
                        clear hAA
                        go_wp2
                        rw [HA.out]
                        go_roundg (N - (k + 1))
                        case rel => exact ⟨k + 1, by omega, by omega, by go_num, rfl, by first | exact below_drewN hbi3 _ | exact hbi3⟩
                        case measure => omega
                      · obtain rfl : k = N := by omega
                        have hWN : (W ++ Lib.repeatL [c] k).length ≤ 64 := by rw [List.length_append, repeat_len]; omega
                        have HWN := Lib.hid hWN
                        clear hWN
                        go_wp2
                        go_roundg g
                        case rel => exact ⟨q + 1, _, by omega, by omega, HWN.out, rfl, by go_num, HNX.out, hbi3⟩
                        case measure => omega
    · obtain rfl : p = s.size := by omega
      have hdl : L.drop s.size = [] := List.drop_of_length_le (by rw [HZ.out]; exact Nat.le_refl _)
      rw [parseF, if_pos hdl] at hF
      simp only [Prod.mk.injEq] at hF
      obtain ⟨rfl, rfl, rfl⟩ := hF
      clear hdl HR
      go_wp2
      go_ret3
      exact ⟨rfl, hbi⟩
end Go.Proofs.YtgpgdjdababidaaGreatDoor

/- The walk of TaperWords. -/
namespace Go.Proofs.YtgpgdjdababidaaGreatDoor
open Go.RowKit Go.Shelf Ck

theorem rfParseNil (s : ByteArray) (w : World) (hs : s.size = 0) :
    Calls Tryz.prog 19 #[.string s] w fun e w' => e = .returned (.tuple #[.string ⟨#[]⟩, .int .i64 0, .int .i64 12]) ∧ Below w.heap.size w w' := by
  have hne : s.toList.isEmpty = true := by
    rw [Lib.toList_data, List.isEmpty_iff, ← List.length_eq_zero_iff, ← Lib.size_eq]
    exact hs
  clear hs
  go_enter Tryz.func19, Tryz.ntmps19
  go_wp2
  go_ret3
  exact ⟨rfl, Below.refl _ _⟩
theorem rfParseAll (s : ByteArray) (P : ByteArray) (N : Nat) (E : Int) (w : World) (hs : s.size ≤ 140) (h1 : strA (parseL s.data.toList).1 = P) (h2 : (parseL s.data.toList).2.1 = N) (h3 : (parseL s.data.toList).2.2 = E) :
    Calls Tryz.prog 19 #[.string s] w fun e w' => e = .returned (.tuple #[.string P, .int .i64 N, .int .i64 E]) ∧ Below w.heap.size w w' := by
  subst h1 h2 h3
  have hz := Lib.size_eq s
  by_cases h0 : s.size = 0
  · have hl : s.data.toList = [] := List.length_eq_zero_iff.1 (by omega)
    rw [parseL, if_pos hl]
    exact rfParseNil s w h0
  · have hl : ¬ s.data.toList = [] := fun e => by rw [e] at hz; exact h0 hz
    rw [parseL, if_neg hl, if_neg (by omega), ← hz]
    exact rfParse s w (by omega) hs
theorem woParse (s : ByteArray) (P : ByteArray) (N : Nat) (E : Int) (w : World) (h1 : strA (parseL s.data.toList).1 = P) (h2 : (parseL s.data.toList).2.1 = N) (h3 : (parseL s.data.toList).2.2 = E) :
    Calls Tryz.prog 17 #[.string s] w fun e w' => e = .returned (.tuple #[.string P, .int .i64 N, .int .i64 E]) ∧ Below w.heap.size w w' := by
  subst h1 h2 h3
  exact tpParseAll s w
theorem woPrint (s P : ByteArray) (w : World) (hs : Word s) (hP : strA (printL s.data.toList) = P) :
    Calls Tryz.prog 16 #[.string s] w fun e w' => e = .returned (.tuple #[.string P, .int .i64 0]) ∧ Below w.heap.size w w' := by
  subst hP
  exact tpPrint s w hs
theorem woRfPrint (s P : ByteArray) (w : World) (hs : Word s) (hP : strA (printL s.data.toList) = P) :
    Calls Tryz.prog 20 #[.string s] w fun e w' => e = .returned (.string P) ∧ Below w.heap.size w w' := by
  subst hP
  exact rfPrint s w hs.2.2
theorem woWordE {s : ByteArray} (h : Word s) : wordE s.data.toList = 0 := by
  have hz := Lib.size_eq s
  have h1 := h.2.1
  have h2 := h.2.2
  have h0 : ¬ s.data.toList = [] := fun e => by rw [e, List.length_nil] at hz; omega
  rw [wordE, if_neg h0, if_neg (show ¬ 64 < s.data.toList.length by omega), if_pos]
  rw [List.all_eq_true]
  exact fun c hc => (okC_iff c).2 (h.1 c hc)
set_option maxHeartbeats 4000000 in
set_option maxRecDepth 100000 in
theorem lawWordsYes (v s : ByteArray) (w : World) (hv : Word v) (hs : s.size ≤ 140) :
    Calls Tryz.prog 3 #[.string v, .string s] w fun e w' => e = .returned (.bool true) ∧ Below w.heap.size w w' := by
  have g1 : ¬ (140 : Int) < (v.size : Int) := by have := hv.2.2; omega
  have g2 : ¬ (140 : Int) < (s.size : Int) := by omega
  obtain ⟨P, hP⟩ : ∃ P, strA (parseL s.data.toList).1 = P := ⟨_, rfl⟩
  obtain ⟨N, hN⟩ : ∃ N, (parseL s.data.toList).2.1 = N := ⟨_, rfl⟩
  obtain ⟨E, hE⟩ : ∃ E, (parseL s.data.toList).2.2 = E := ⟨_, rfl⟩
  obtain ⟨Q, hQ⟩ : ∃ Q, strA (printL v.data.toList) = Q := ⟨_, rfl⟩
  have HP := Lib.hid hP
  have HN := Lib.hid hN
  have HE := Lib.hid hE
  have HQ := Lib.hid hQ
  have HV := Lib.hid hv
  have HW := Lib.hid (woWordE hv)
  have hv64 := hv.2.2
  have hee : (E == E) = true := by simp
  clear hP hN hE hQ hv
  go_enter Tryz.func3, Tryz.ntmps3
  go_wp2_with fail
  refine (awake2 _).mono ?_
  rintro e w1 ⟨rfl, hb1⟩
  go_wp2_with fail
  refine (woPrint v Q _ HV.out HQ.out).mono ?_
  rintro e w2 ⟨rfl, hb2⟩
  have B2 := hb1.trans (hb2.mono hb1.size)
  clear hb1 hb2
  go_wp2_with fail
  refine (woParse s P N E _ HP.out HN.out HE.out).mono ?_
  rintro e w3 ⟨rfl, hb3⟩
  have B3 := B2.trans (hb3.mono B2.size)
  clear B2 hb3
  go_wp2_with fail
  refine (refCheckWord v _ (by omega)).mono ?_
  rintro e w4 ⟨rfl, rfl⟩
  rw [HW.out]
  go_wp2_with fail
  refine (rfParseAll s P N E _ hs HP.out HN.out HE.out).mono ?_
  rintro e w4 ⟨rfl, hb4⟩
  have B4 := B3.trans (hb4.mono B3.size)
  clear B3 hb4
  go_wp2_with fail
  refine (woRfPrint v Q _ HV.out HQ.out).mono ?_
  rintro e w5 ⟨rfl, hb5⟩
  have B5 := B4.trans (hb5.mono B4.size)
  clear B4 hb5
  go_wp2_with fail
  refine (tpCheckWordE v _).mono ?_
  rintro e w6 ⟨rfl, hb6⟩
  rw [HW.out]
  have B6 := B5.trans (hb6.mono B5.size)
  clear B5 hb6
  go_wp2_with fail
  refine (lawText Q Q 0 _ (fun h => absurd rfl h) (fun _ => rfl)).mono ?_
  rintro e w7 ⟨rfl, rfl⟩
  go_wp2
  go_ret
  exact ⟨rfl, B6⟩
set_option maxHeartbeats 4000000 in
set_option maxRecDepth 100000 in
theorem lawWordsNo (v s : ByteArray) (F : Int) (w : World) (hv : v.size ≤ 140) (hF : wordE v.data.toList = F) (h0 : F ≠ 0) (hs : s.size ≤ 140) :
    Calls Tryz.prog 3 #[.string v, .string s] w fun e w' => e = .returned (.bool true) ∧ Below w.heap.size w w' := by
  have g1 : ¬ (140 : Int) < (v.size : Int) := by omega
  have g2 : ¬ (140 : Int) < (s.size : Int) := by omega
  obtain ⟨P, hP⟩ : ∃ P, strA (parseL s.data.toList).1 = P := ⟨_, rfl⟩
  obtain ⟨N, hN⟩ : ∃ N, (parseL s.data.toList).2.1 = N := ⟨_, rfl⟩
  obtain ⟨E, hE⟩ : ∃ E, (parseL s.data.toList).2.2 = E := ⟨_, rfl⟩
  have HP := Lib.hid hP
  have HN := Lib.hid hN
  have HE := Lib.hid hE
  have HF := Lib.hid hF
  have H0 := Lib.hid h0
  have hne : (F == 0) = false := by rw [beq_eq_false_iff_ne]; exact h0
  have hee : (E == E) = true := by simp
  have hff : (F == F) = true := by simp
  clear hP hN hE hF h0
  go_enter Tryz.func3, Tryz.ntmps3
  go_wp2_with fail
  refine (awake2 _).mono ?_
  rintro e w1 ⟨rfl, hb1⟩
  go_wp2_with fail
  refine (tpPrintNo v _ F HF.out H0.out).mono ?_
  rintro e w2 ⟨rfl, hb2⟩
  have B2 := hb1.trans (hb2.mono hb1.size)
  clear hb1 hb2
  go_wp2_with fail
  refine (woParse s P N E _ HP.out HN.out HE.out).mono ?_
  rintro e w3 ⟨rfl, hb3⟩
  have B3 := B2.trans (hb3.mono B2.size)
  clear B2 hb3
  go_wp2_with fail
  refine (refCheckWord v _ (by omega)).mono ?_
  rintro e w4 ⟨rfl, rfl⟩
  rw [HF.out]
  go_wp2_with fail
  refine (rfParseAll s P N E _ hs HP.out HN.out HE.out).mono ?_
  rintro e w4 ⟨rfl, hb4⟩
  have B4 := B3.trans (hb4.mono B3.size)
  clear B3 hb4
  go_wp2_with fail
  refine (tpCheckWordE v _).mono ?_
  rintro e w6 ⟨rfl, hb6⟩
  rw [HF.out]
  have B6 := B4.trans (hb6.mono B4.size)
  clear B4 hb6
  go_wp2_with fail
  refine (lawText ⟨#[]⟩ ⟨#[]⟩ F _ (fun _ => rfl) (fun _ => rfl)).mono ?_
  rintro e w7 ⟨rfl, rfl⟩
  go_wp2
  go_ret
  exact ⟨rfl, B6⟩
set_option maxHeartbeats 4000000 in
set_option maxRecDepth 100000 in
theorem lawWordsBig (v s : ByteArray) (w : World) (h : ¬ (v.size ≤ 140 ∧ s.size ≤ 140)) :
    Calls Tryz.prog 3 #[.string v, .string s] w fun e w' => e = .returned (.bool true) ∧ Below w.heap.size w w' := by
  by_cases h1 : v.size ≤ 140
  · have g1 : ¬ (140 : Int) < (v.size : Int) := by omega
    have g2 : (140 : Int) < (s.size : Int) := by omega
    go_enter Tryz.func3, Tryz.ntmps3
    go_wp2_with fail
    refine (awake2 _).mono ?_
    rintro e w1 ⟨rfl, hb1⟩
    go_wp2_with fail
    refine (awake2 _).mono ?_
    rintro e w2 ⟨rfl, hb2⟩
    have B2 := hb1.trans (hb2.mono hb1.size)
    clear hb1 hb2
    go_wp2
    go_ret
    exact ⟨rfl, B2⟩
  · have g1 : (140 : Int) < (v.size : Int) := by omega
    go_enter Tryz.func3, Tryz.ntmps3
    go_wp2_with fail
    refine (awake2 _).mono ?_
    rintro e w1 ⟨rfl, hb1⟩
    go_wp2_with fail
    refine (awake2 _).mono ?_
    rintro e w2 ⟨rfl, hb2⟩
    have B2 := hb1.trans (hb2.mono hb1.size)
    clear hb1 hb2
    go_wp2
    go_ret
    exact ⟨rfl, B2⟩
theorem lawWords (v s : ByteArray) (w : World) :
    Calls Tryz.prog 3 #[.string v, .string s] w fun e w' => e = .returned (.bool true) ∧ Below w.heap.size w w' := by
  by_cases h : v.size ≤ 140 ∧ s.size ≤ 140
  · by_cases h0 : wordE v.data.toList = 0
    · exact lawWordsYes v s w (wordE_zero h0) h.2
    · exact lawWordsNo v s _ w h.1 rfl h0 h.2
  · exact lawWordsBig v s w h
end Go.Proofs.YtgpgdjdababidaaGreatDoor

/- The walk of TaperBack. -/
namespace Go.Proofs.YtgpgdjdababidaaGreatDoor
open Go.RowKit Go.Shelf Ck

theorem rfCheckWordBig (s : ByteArray) (w : World) (hs : 64 < s.size) :
    Calls Tryz.prog 18 #[.string s] w fun e w' => e = .returned (.int .i64 26) ∧ w = w' := by
  have g1 : (64 : Int) < (s.size : Int) := by omega
  have hne : s.toList.isEmpty = false := by
    rw [Lib.toList_data]
    cases h : s.data.toList with
    | nil =>
      have := Lib.size_eq s
      rw [h, List.length_nil] at this
      omega
    | cons a r => rfl
  go_enter Tryz.func18, Tryz.ntmps18
  go_wp2
  go_ret
  exact ⟨rfl, rfl⟩
theorem baCheckWord (s : ByteArray) (E : Int) (w : World) (hE : wordE s.data.toList = E) :
    Calls Tryz.prog 18 #[.string s] w fun e w' => e = .returned (.int .i64 E) ∧ w = w' := by
  subst hE
  by_cases h : s.size ≤ 1000
  · exact refCheckWord s w h
  · have hz := Lib.size_eq s
    have h0 : ¬ s.data.toList = [] := fun e => by rw [e, List.length_nil] at hz; omega
    rw [wordE, if_neg h0, if_pos (by omega)]
    exact rfCheckWordBig s w (by omega)
/-- What TaperBack asks of a word and its string. -/
structure BaF (s S : ByteArray) (L T : List UInt8) (n : Nat) : Prop where
  word : Word s
  list : s.data.toList = L
  prt : strA (printL s.data.toList) = S
  listS : S.data.toList = T
  p1 : strA (parseL S.data.toList).1 = s
  p2 : (parseL S.data.toList).2.1 = 0
  p3 : (parseL S.data.toList).2.2 = 0
  runs : okN T = n
  runs' : runN L (L.length - 1) + 1 = n
  small : S.size ≤ 192
  nle : n ≤ 192
theorem runN_le (L : List UInt8) : ∀ i, runN L i ≤ i
  | 0 => Nat.le_refl _
  | i + 1 => by
    have := runN_le L i
    rw [runN]
    split <;> omega
theorem okN_snoc (l : List UInt8) (c : UInt8) : okN (l ++ [c]) = okN l + if okC c = true then 1 else 0 := by
  rw [okN_app]
  by_cases h : okC c = true <;> simp [okN, h]
theorem okC_word {s : ByteArray} (h : Word s) : ∀ c ∈ s.data.toList, okC c = true := fun c hc => (okC_iff c).2 (h.1 c hc)
theorem okN_le : ∀ l : List UInt8, okN l ≤ l.length := fun _ => List.countP_le_length
theorem print_pos {L : List UInt8} (hok : ∀ c ∈ L, okC c = true) (h1 : 1 ≤ L.length) (h64 : L.length ≤ 64) : 1 ≤ (printL L).length := by
  have := runs_all hok h1 h64
  have := okN_le (printL L)
  omega
theorem ba_facts {s : ByteArray} (h : Word s) : ∃ S L T n, BaF s S L T n := by
  have hz := Lib.size_eq s
  have h1 := h.2.1
  have h2 := h.2.2
  have hok := okC_word h
  have hl := print_len (L := s.data.toList) (by omega)
  have hp := print_pos hok (by omega) (by omega)
  have hone := parse_one hok (by omega) hp (by omega)
  have hr := runs_all hok (by omega) (by omega)
  have hn := okN_le (printL s.data.toList)
  refine ⟨strA (printL s.data.toList), s.data.toList, printL s.data.toList, _, ⟨h, rfl, rfl, rfl, ?_, ?_, ?_, rfl, hr.symm, by rw [strA_size]; omega, by omega⟩⟩
  · show strA (parseL (printL s.data.toList)).1 = s
    rw [hone]
    exact arr_back s
  · show (parseL (printL s.data.toList)).2.1 = 0
    rw [hone]
  · show (parseL (printL s.data.toList)).2.2 = 0
    rw [hone]
structure BaC (s S A B X Y : ByteArray) (a : Nat) : Prop where
  low : 1 ≤ a
  top : a < s.size
  exA : s.extract 0 a = X
  exB : s.extract a s.size = Y
  wA : Word X
  wB : Word Y
  pA : strA (printL X.data.toList) = A
  pB : strA (printL Y.data.toList) = B
  p1 : strA (parseL (A ++ B).data.toList).1 = s
  p2 : (parseL (A ++ B).data.toList).2.1 = 0
  p3 : (parseL (A ++ B).data.toList).2.2 = 0
  smA : A.size ≤ 192
  smB : B.size ≤ 192
  le : S.size ≤ A.size + B.size
theorem ba_cut {s S : ByteArray} {a : Nat} (h : Word s) (hS : strA (printL s.data.toList) = S) (h1 : 1 ≤ a) (h2 : a < s.size) : ∃ A B X Y, BaC s S A B X Y a := by
  have hz := Lib.size_eq s
  have h64 := h.2.2
  obtain ⟨d1, d2, d3, d4⟩ := ext_data s a (by omega)
  have hok := okC_word h
  have okA : ∀ c ∈ s.data.toList.take a, okC c = true := fun c hc => hok c (List.mem_of_mem_take hc)
  have okB : ∀ c ∈ s.data.toList.drop a, okC c = true := fun c hc => hok c (List.mem_of_mem_drop hc)
  have lA : (s.data.toList.take a).length = a := by rw [List.length_take]; omega
  have lB : (s.data.toList.drop a).length = s.size - a := by rw [List.length_drop]; omega
  have nA := print_len (L := s.data.toList.take a) (by omega)
  have nB := print_len (L := s.data.toList.drop a) (by omega)
  have oA := print_pos okA (by omega) (by omega)
  have hp := parse_two okA okB (by omega) (by rw [List.length_append]; omega) (by rw [List.length_append]; omega)
  rw [List.take_append_drop] at hp
  have hsh := print_short (L := s.data.toList) (m := a) (by omega) (by omega) (by omega)
  have hcat : (strA (printL (s.data.toList.take a)) ++ strA (printL (s.data.toList.drop a))).data.toList = printL (s.data.toList.take a) ++ printL (s.data.toList.drop a) := by
    rw [strA_cat]
    rfl
  refine ⟨strA (printL (s.data.toList.take a)), strA (printL (s.data.toList.drop a)), _, _, ⟨h1, h2, rfl, rfl, ⟨?_, by omega, by omega⟩, ⟨?_, by omega, by omega⟩, by rw [d2], by rw [d1], ?_, ?_, ?_, by rw [strA_size]; omega, by rw [strA_size]; omega, ?_⟩⟩
  · rw [d2]
    exact fun c hc => h.1 c (List.mem_of_mem_take hc)
  · rw [d1]
    exact fun c hc => h.1 c (List.mem_of_mem_drop hc)
  · rw [hcat, hp]
    exact arr_back s
  · rw [hcat, hp]
  · rw [hcat, hp]
  · rw [← hS, strA_size, strA_size, strA_size]
    exact hsh
theorem baParse (s P : ByteArray) (w : World) (h1 : strA (parseL s.data.toList).1 = P) (h2 : (parseL s.data.toList).2.1 = 0) (h3 : (parseL s.data.toList).2.2 = 0) :
    Calls Tryz.prog 17 #[.string s] w fun e w' => e = .returned (.tuple #[.string P, .int .i64 0, .int .i64 0]) ∧ Below w.heap.size w w' := woParse s P 0 0 w h1 h2 h3
set_option maxHeartbeats 4000000 in
set_option maxRecDepth 100000 in
theorem lawBackY (s S A B X Y : ByteArray) (L T : List UInt8) (n t a : Nat) (w : World) (F : BaF s S L T n) (C : 1 ≤ a → BaC s S A B X Y a) (ht : t ≤ 255) (ha : t % s.size = a) :
    Calls Tryz.prog 10 #[.string s, .int .u8 t] w fun e w' => e = .returned (.bool true) ∧ Below w.heap.size w w' := by
  have hs1 := F.word.2.1
  have hs2 := F.word.2.2
  have HF := Lib.hid F
  have HC := Lib.hid C
  have HE := Lib.hid (woWordE F.word)
  have hS := F.small
  have hn := F.nle
  have hLz : L.length = s.size := by rw [← F.list]; exact (Lib.size_eq s).symm
  have hTz : T.length = S.size := by rw [← F.listS]; exact (Lib.size_eq S).symm
  have hel : ∀ k (h : k < s.size) (h' : k < L.length), s[k] = L[k] := by
    intro k h h'
    rw [← byte_at s k h (by rw [F.list]; exact h')]
    simp only [F.list]
  have helT : ∀ k (h : k < S.size) (h' : k < T.length), S[k] = T[k] := by
    intro k h h'
    rw [← byte_at S k h (by rw [F.listS]; exact h')]
    simp only [F.listS]
  have HEL := Lib.hid hel
  have HET := Lib.hid helT
  have HLZ := Lib.hid hLz
  have HTZ := Lib.hid hTz
  have ha1 : (t : Int) % (s.size : Int) = (a : Int) := by rw [← ha]; exact (Int.natCast_emod _ _).symm
  have halt : a < s.size := by rw [← ha]; exact Nat.mod_lt _ (by omega)
  have HA1 := Lib.hid ha1
  clear F C hel helT hLz hTz ha ha1
  go_enter Tryz.func10, Tryz.ntmps10
  go_wp2_with fail
  refine (awake2 _).mono ?_
  rintro e w1 ⟨rfl, hb1⟩
  go_wp2_with fail
  refine (baCheckWord s 0 _ HE.out).mono ?_
  rintro e w2 ⟨rfl, rfl⟩
  go_wp2_with fail
  refine (woPrint s S _ HF.out.word HF.out.prt).mono ?_
  rintro e w2 ⟨rfl, hb2⟩
  have B2 := hb1.trans (hb2.mono hb1.size)
  clear hb1 hb2
  go_wp2_with fail
  refine (baParse S s _ HF.out.p1 HF.out.p2 HF.out.p3).mono ?_
  rintro e w3 ⟨rfl, hb3⟩
  have B3 := B2.trans (hb3.mono B2.size)
  clear B2 hb3
  go_wp2_with fail
  go_loopg [10, 12] (s.size - 1) (fun g rv iv wi => ∃ i : Nat, g = s.size - (i + 1) ∧ i + 1 ≤ s.size ∧ iv = .int .i64 ((i : Int) + 1) ∧ rv = .int .i64 ((runN L i + 1 : Nat)) ∧ Below w.heap.size w wi)
  case atStart => exact ⟨0, by omega, by omega, by simp, by simp [runN], B3⟩
  case round =>
    obtain ⟨i, hg, hi, rfl, rfl, hbi⟩ := hrel
    clear B3
    have hrl := runN_le L i
    by_cases hlt : i + 1 < s.size
    · have hiL : i < L.length := by rw [HLZ.out]; omega
      have hiL1 : i + 1 < L.length := by rw [HLZ.out]; omega
      have his : i < s.size := by omega
      have e1 := HEL.out i his hiL
      have e2 := HEL.out (i + 1) hlt hiL1
      have d1 : L.getD i 0 = L[i] := by simp [hiL]
      have d2 : L.getD (i + 1) 0 = L[i + 1] := by simp [hiL1]
      have HN := Lib.hid (show runN L (i + 1) = runN L i + if L[i + 1] = L[i] then 0 else 1 by rw [runN, d1, d2])
      have i0 : (0 : Int) ≤ (i : Int) := by omega
      have i1 : (i : Int) < (s.size : Int) := by omega
      have j0 : (0 : Int) ≤ (i : Int) + 1 := by omega
      have j1 : (i : Int) + 1 < (s.size : Int) := by omega
      obtain ⟨v, hv⟩ : ∃ v, runN L i = v := ⟨_, rfl⟩
      rw [hv] at hrl HN ⊢
      clear hv d1 d2
      by_cases hq : L[i + 1] = L[i]
      · have b2 : ((s[i + 1].toNat : Int) != (s[i].toNat : Int)) = false := by rw [bne_eq_false_iff_eq, e1, e2, hq]
        have HN2 := Lib.hid (show runN L (i + 1) = v by rw [HN.out, if_pos hq]; rfl)
        clear hq e1 e2 HN
        go_wp2_with fail
        go_quiet (fail)
        go_wp2
        go_roundg (s.size - (i + 1 + 1))
        case rel => exact ⟨i + 1, by omega, by omega, by go_num, by rw [HN2.out], below_drewN hbi _⟩
        case measure => omega
      · have b2 : ((s[i + 1].toNat : Int) != (s[i].toNat : Int)) = true := by
          rw [bne_iff_ne, e1, e2]
          intro h
          exact hq (UInt8.toNat.inj (by omega))
        have HN2 := Lib.hid (show runN L (i + 1) = v + 1 by rw [HN.out, if_neg hq])
        clear hq e1 e2 HN
        go_wp2_with fail
        go_quiet (fail)
        go_wp2
        go_roundg (s.size - (i + 1 + 1))
        case rel => exact ⟨i + 1, by omega, by omega, by go_num, by rw [HN2.out]; go_num, below_drewN hbi _⟩
        case measure => omega
    · have HR := Lib.hid (show runN L i + 1 = n by rw [← HF.out.runs', HLZ.out, show s.size - 1 = i by omega])
      rw [HR.out]
      clear hrl
      go_wp2_with fail
      go_loopg [11, 13, 74] S.size (fun g lv _ mv wi => ∃ m : Nat, g = S.size - m ∧ m ≤ S.size ∧ mv = .int .i64 m ∧ lv = .int .i64 (okN (T.take m) : Nat) ∧ Below w.heap.size w wi)
      case atStart => exact ⟨0, rfl, Nat.zero_le _, rfl, by simp [okN], hbi⟩
      case round =>
        obtain ⟨m, hg2, hm, rfl, rfl, hbj⟩ := hrel
        clear hbi
        by_cases hml : m < S.size
        · have hmT : m < T.length := by rw [HTZ.out]; exact hml
          have e1 := HET.out m hml hmT
          have HN := Lib.hid (show okN (T.take (m + 1)) = okN (T.take m) + if okC T[m] = true then 1 else 0 by rw [List.take_succ_eq_append_getElem hmT, okN_snoc])
          have hkl : okN (T.take m) ≤ 200 := Nat.le_trans (okN_le _) (by rw [List.length_take]; omega)
          have m0 : (0 : Int) ≤ (m : Int) := by omega
          have m1 : (m : Int) < (S.size : Int) := by omega
          obtain ⟨v, hv⟩ : ∃ v, okN (T.take m) = v := ⟨_, rfl⟩
          rw [hv] at hkl HN ⊢
          clear hv
          cases hok : okC T[m] with
          | true =>
            have HN2 := Lib.hid (show okN (T.take (m + 1)) = v + 1 by rw [HN.out, if_pos hok])
            rcases (okC_iff _).1 hok with h | h | h
            all_goals
              have hc := congrArg UInt8.toNat (e1.trans h)
              clear h hok e1 HN
            · have hc' : S[m].toNat = 78 := hc
              clear hc
              go_wp2
              go_roundg (S.size - (m + 1))
              case rel => exact ⟨m + 1, by omega, by omega, by go_num, by rw [HN2.out]; go_num, hbj⟩
              case measure => omega
            · have hc' : S[m].toNat = 66 := hc
              clear hc
              go_wp2
              go_roundg (S.size - (m + 1))
              case rel => exact ⟨m + 1, by omega, by omega, by go_num, by rw [HN2.out]; go_num, hbj⟩
              case measure => omega
            · have hc' : S[m].toNat = 84 := hc
              clear hc
              go_wp2
              go_roundg (S.size - (m + 1))
              case rel => exact ⟨m + 1, by omega, by omega, by go_num, by rw [HN2.out]; go_num, hbj⟩
              case measure => omega
          | false =>
            have HN2 := Lib.hid (show okN (T.take (m + 1)) = v by rw [HN.out, if_neg (by rw [hok]; decide)]; rfl)
            have hno : ¬ isL T[m] := fun h => by rw [(okC_iff _).2 h] at hok; cases hok
            have ne : ∀ k : UInt8, k = 78 ∨ k = 66 ∨ k = 84 → ((S[m].toNat : Int) == (k.toNat : Int)) = false := by
              intro k hk
              rw [beq_eq_false_iff_ne, e1]
              intro h
              have : T[m] = k := UInt8.toNat.inj (by omega)
              rw [this] at hno
              rcases hk with rfl | rfl | rfl <;> exact hno (by simp [isL])
            have n1 : ((S[m].toNat : Int) == 78) = false := ne 78 (by simp)
            have n2 : ((S[m].toNat : Int) == 66) = false := ne 66 (by simp)
            have n3 : ((S[m].toNat : Int) == 84) = false := ne 84 (by simp)
            clear hno ne hok e1 HN
            go_wp2
            go_roundg (S.size - (m + 1))
            case rel => exact ⟨m + 1, by omega, by omega, by go_num, by rw [HN2.out], hbj⟩
            case measure => omega
        · obtain rfl : m = S.size := by omega
          have HO := Lib.hid (show okN (T.take S.size) = n by rw [List.take_of_length_le (by rw [HTZ.out]; exact Nat.le_refl _)]; exact HF.out.runs)
          rw [HO.out]
          have ha1 := HA1.out
          have hz0 : ¬ (s.size : Int) = 0 := by omega
          have hzN : ¬ s.size = 0 := by omega
          by_cases ha0 : a = 0
          · have hb0 : ((a : Int) == 0) = true := by rw [beq_iff_eq]; omega
            clear ha0
            go_wp2
            go_ret
            exact ⟨rfl, hbj⟩
          · have hb0 : ((a : Int) == 0) = false := by rw [beq_eq_false_iff_ne]; omega
            have HCC := Lib.hid (HC.out (by omega))
            have a0 : (0 : Int) ≤ (a : Int) := by omega
            have a1 : (a : Int) ≤ (s.size : Int) := by omega
            clear ha0
            go_wp2_with fail
            rw [HCC.out.exA]
            refine (woPrint X A _ HCC.out.wA HCC.out.pA).mono ?_
            rintro e w5 ⟨rfl, hb5⟩
            have B5 := hbj.trans (hb5.mono hbj.size)
            clear hbj hb5
            go_wp2_with fail
            rw [HCC.out.exB]
            refine (woPrint Y B _ HCC.out.wB HCC.out.pB).mono ?_
            rintro e w6 ⟨rfl, hb6⟩
            have B6 := B5.trans (hb6.mono B5.size)
            clear B5 hb6
            have zA := HCC.out.smA
            have zB := HCC.out.smB
            go_wp2_with fail
            refine (baParse (A ++ B) s _ HCC.out.p1 HCC.out.p2 HCC.out.p3).mono ?_
            rintro e w7 ⟨rfl, hb7⟩
            have B7 := B6.trans (hb7.mono B6.size)
            clear B6 hb7
            have hle : (S.size : Int) ≤ (A.size : Int) + (B.size : Int) := by have := HCC.out.le; omega
            go_wp2
            go_ret
            exact ⟨rfl, B7⟩
set_option maxHeartbeats 4000000 in
set_option maxRecDepth 100000 in
theorem lawBackNo (s : ByteArray) (t : Nat) (E : Int) (w : World) (hE : wordE s.data.toList = E) (h0 : E ≠ 0) :
    Calls Tryz.prog 10 #[.string s, .int .u8 t] w fun e w' => e = .returned (.bool true) ∧ Below w.heap.size w w' := by
  have HE := Lib.hid hE
  have hne : (E != 0) = true := by rw [bne_iff_ne]; exact h0
  clear hE h0
  go_enter Tryz.func10, Tryz.ntmps10
  go_wp2_with fail
  refine (awake2 _).mono ?_
  rintro e w1 ⟨rfl, hb1⟩
  go_wp2_with fail
  refine (baCheckWord s E _ HE.out).mono ?_
  rintro e w2 ⟨rfl, rfl⟩
  go_wp2_with fail
  refine (awake2 _).mono ?_
  rintro e w2 ⟨rfl, hb2⟩
  have B2 := hb1.trans (hb2.mono hb1.size)
  clear hb1 hb2
  go_wp2
  go_ret
  exact ⟨rfl, B2⟩
theorem lawBack (s : ByteArray) (t : Int) (w : World) (t1 : 0 ≤ t) (t2 : t < 256) :
    Calls Tryz.prog 10 #[.string s, .int .u8 t] w fun e w' => e = .returned (.bool true) ∧ Below w.heap.size w w' := by
  obtain ⟨N, rfl⟩ : ∃ N : Nat, t = (N : Int) := ⟨t.toNat, by omega⟩
  by_cases h0 : wordE s.data.toList = 0
  · have hs := wordE_zero h0
    obtain ⟨S, L, T, n, F⟩ := ba_facts hs
    have hlt : N % s.size < s.size := Nat.mod_lt _ (by have := hs.2.1; omega)
    by_cases ha : 1 ≤ N % s.size
    · obtain ⟨A, B, X, Y, C⟩ := ba_cut hs F.prt ha hlt
      exact lawBackY s S A B X Y L T n N _ w F (fun _ => C) (by omega) rfl
    · exact lawBackY s S s s s s L T n N _ w F (fun h => absurd h ha) (by omega) rfl
  · exact lawBackNo s N _ w rfl h0
end Go.Proofs.YtgpgdjdababidaaGreatDoor

namespace Go.Proofs.YtgpgdjdababidaaGreatDoor
open Go.ChangeShapes Go.WideShapes Go.ChangeAt Go.WideMaps Go.WideElems Go.RowKit

set_option maxRecDepth 100000 in
theorem back_lifted (os : Os) (started : os.Started) (H : Type) (enc : TypeId × Value → H) :
    ReturnsInHanded {} Tryz.checked os 10 .any (fun w args => (Rows.taperBackSpec.pre enc Tryz.prog Tryz.f10 [] false w args ∧ laidMetH Tryz.prog taLaid w) ∧ sizedMet enc Tryz.prog Tryz.f10 (OpenSpec.ofChange Rows.taperBackSpec) false w args)
      (Rows.taperBackSpec.post enc Tryz.prog Tryz.f10 false true false false) := by
  refine returnsInHanded_of_change_and (C := Tryz.checked) (X := fun w _ => laidMetH Tryz.prog taLaid w) (fun _ _ _ hh h => h.of_heap hh) Tryz.ownT started (by kernel_rfl) Tryz.func10
    (ChangeSpec.witness_shaped (enc := enc) (C := Tryz.checked) (os := os) (X := fun w _ => laidMetH Tryz.prog taLaid w) false (World.doorLaid Tryz.prog 400 os) #[.string ByteArray.empty, .int .u8 0] 8 rfl (World.shaped_of_RefB (by kernel_rfl) (by kernel_rfl)) (by kernel_rfl) (by kernel_rfl) (by kernel_rfl) (door_met os _)) ?_
  intro W base args ds gs before hval0 hW _ _ hL _
  have hval : ∀ (j : Nat) t v, Tryz.f10.params[j]? = some t → args[j]? = some v → Value.okWide Tryz.prog W .any base t v := hval0
  have hW' := hW
  obtain ⟨p, q, hA0, hV, rfl, hfz, hnd⟩ := hW
  have hA : DataW.TrodAll enc Tryz.prog W 0 (fun _ => true) true Tryz.f10.params.toList args.toList ds p := hA0
  rw [Tryz.params10] at hA hval
  obtain ⟨v0, v1, d0, d1, p0, p1, rfl, rfl, rfl, h0, h1⟩ := trodAll_two hA
  obtain ⟨rfl, rfl⟩ := trodVars_none hV
  clear hA0 hval0
  simp only [List.append_nil] at hW'
  have hlt : ∀ x ∈ p0 ++ p1, x.block < W.heap.size := fun x hx => by simpa using hW'.lt x hx
  obtain ⟨z00, rfl⟩ := open_strv (hval 0 9 v0 rfl rfl)
  obtain ⟨z10, rfl, b10, b11⟩ := open_bytev (hval 1 5 v1 rfl rfl)
  have harg0 : ∀ (W' : World), Below W.heap.size W W' → DataW.Trod enc Tryz.prog W' 0 (fun b => decide (b < W.heap.size)) true 9 (.string z00) d0 p0 :=
    fun W' hn => Below.trod Tryz.laidOutT (by kernel_rfl) (of_decide_eq_true (by kernel_rfl)) h0 hn (fun x hx => hlt x (List.mem_append_left _ hx))
  have harg1 : ∀ (W' : World), Below W.heap.size W W' → DataW.Trod enc Tryz.prog W' 0 (fun b => decide (b < W.heap.size)) true 5 (.int .u8 z10) d1 p1 :=
    fun W' hn => Below.trod Tryz.laidOutT (by kernel_rfl) (of_decide_eq_true (by kernel_rfl)) h1 hn (fun x hx => hlt x (List.mem_append_right _ hx))
  refine (lawBack z00 z10 W b10 b11).mono fun e W' ⟨he, hb⟩ => ?_
  subst he
  refine ⟨_, rfl, _, _, _, [], p0 ++ p1, [], hW', ?_, trodAll_mk2 (harg0 W' hb) (harg1 W' hb), rfl, hb.frame _, fun h => by cases h⟩
  exact trodAll_mk1 (shut_bool Tryz.underlying4 true)
theorem back_holds : Rows.TaperBackSaid :=
  OpenClaim.holds_of_wide 10 Tryz.f10 rfl rfl rfl rfl rfl rfl rfl ⟨rfl, rfl, rfl, rfl, rfl⟩ rfl rfl rfl rfl rfl (by kernel_rfl) Tryz.func10 (by kernel_rfl)
    (of_decide_eq_true (by kernel_rfl)) (by unfold Func.isWrapper; first | (rw [if_pos (by decide +kernel)]; kernel_rfl) | (rw [if_neg (by decide +kernel)]; exact ⟨rfl, rfl⟩))
    (fun os started H enc _ => back_lifted os started H enc)
theorem back_card : Rows.TaperBackCardSaid :=
  Claim7.holds_tied_plain_at .later [] [.data, .data, .data] true (true, "b6e41887c4f920463a90685bca101cdc24d79fe0e4c7c6f96c088de150e08b9e") false
    back_holds (fun _ h => by cases h) (by kernel_rfl) (fun _ h => by cases h) taperBack_row_tie rfl ⟨rfl, rfl⟩ (by kernel_rfl) rfl
    (fun f fn hf hfn => by
      obtain rfl : f = 10 := Option.some.inj ((show Tryz.prog.funcNamed "codend/codendlaw02.TaperBack" = some 10 by kernel_rfl).symm.trans hf) |>.symm
      obtain rfl : fn = Tryz.f10 := (Option.some.inj (Tryz.func10.symm.trans hfn)).symm
      exact ⟨by kernel_rfl, fun j t ht => by
        rw [Tryz.params10] at ht
        have hm : t ∈ [9, 5] := by simpa using Array.mem_of_getElem? ht
        have hall : ([9, 5].all fun u => !Tryz.prog.wantsStandIn u) = true := by kernel_rfl
        exact (show Tryz.prog.wantsStandIn t = false by simpa using List.all_eq_true.1 hall t hm)⟩)
    (by kernel_rfl)
#print axioms back_card
end Go.Proofs.YtgpgdjdababidaaGreatDoor
