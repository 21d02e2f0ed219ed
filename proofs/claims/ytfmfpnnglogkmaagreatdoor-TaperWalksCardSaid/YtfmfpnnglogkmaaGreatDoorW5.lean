/- Helpers, part 5. -/
import Derived.Test.YtfmfpnnglogkmaaGreatDoorW4
import Derived.ChangeKeysEq
import Derived.Deep.LoopGhost
import Derived.Deep.RegionHeld3
import Derived.BigQuiet
/- Roots, rotations and least rotations of words: plain mathematics. -/
namespace Go.Proofs.YtfmfpnnglogkmaaGreatDoor
open Go.RowKit

theorem bl_cmp : ∀ a b : List UInt8, Lib.compareBytes a b < 0 ↔ Op.bytesLess a b = true
  | [], [] => by simp [Lib.compareBytes, Op.bytesLess]
  | [], _ :: _ => by simp [Lib.compareBytes, Op.bytesLess]
  | _ :: _, [] => by simp [Lib.compareBytes, Op.bytesLess]
  | x :: a, y :: b => by
    have ih := bl_cmp a b
    rw [Lib.compareBytes, Op.bytesLess]
    by_cases h1 : x < y
    · simp [h1]
    · by_cases h2 : y < x
      · have h3 : ¬ x = y := fun e => by rw [e] at h2; exact UInt8.lt_irrefl _ h2
        simp [h1, h2, h3]
      · have h3 : x = y := UInt8.le_antisymm (UInt8.not_lt.1 h2) (UInt8.not_lt.1 h1)
        rw [if_neg h1, if_neg h2, ih]
        simp [h3]
theorem bl_cons (x y : UInt8) (a b : List UInt8) : Op.bytesLess (x :: a) (y :: b) = true ↔ x.toNat < y.toNat ∨ (x.toNat = y.toNat ∧ Op.bytesLess a b = true) := by
  rw [Op.bytesLess, Bool.or_eq_true, Bool.and_eq_true, beq_iff_eq, decide_eq_true_eq, UInt8.lt_iff_toNat_lt]
  constructor
  · rintro (h | ⟨h, h'⟩)
    · exact .inl h
    · exact .inr ⟨by rw [h], h'⟩
  · rintro (h | ⟨h, h'⟩)
    · exact .inl h
    · exact .inr ⟨UInt8.toNat.inj h, h'⟩
/-- a is not behind b. -/
def bLe (a b : List UInt8) : Prop := Op.bytesLess b a = false
theorem bLe_refl : ∀ a : List UInt8, bLe a a
  | [] => rfl
  | x :: a => by
    have ih := bLe_refl a
    unfold bLe at ih ⊢
    rw [Bool.eq_false_iff] at ih ⊢
    intro h
    rcases (bl_cons _ _ _ _).1 h with h | ⟨_, h⟩
    · omega
    · exact ih h
theorem bLe_total : ∀ a b : List UInt8, bLe a b ∨ bLe b a
  | [], b => .inl (by cases b <;> rfl)
  | _ :: _, [] => .inr rfl
  | x :: a, y :: b => by
    have ih := bLe_total a b
    unfold bLe at ih ⊢
    rw [Bool.eq_false_iff, Bool.eq_false_iff] at ih ⊢
    simp only [ne_eq, bl_cons] at ih ⊢
    by_cases h1 : x.toNat < y.toNat
    · left; rintro (h | ⟨h, _⟩) <;> omega
    · by_cases h2 : y.toNat < x.toNat
      · right; rintro (h | ⟨h, _⟩) <;> omega
      · rcases ih with ih | ih
        · left; rintro (h | ⟨_, h⟩)
          · omega
          · exact ih h
        · right; rintro (h | ⟨_, h⟩)
          · omega
          · exact ih h
theorem bLe_trans : ∀ {a b c : List UInt8}, bLe a b → bLe b c → bLe a c
  | [], _, c => fun _ _ => by cases c <;> rfl
  | x :: a, [], _ => fun h _ => by simp [bLe, Op.bytesLess] at h
  | x :: a, y :: b, [] => fun _ h => by simp [bLe, Op.bytesLess] at h
  | x :: a, y :: b, z :: c => fun h1 h2 => by
    have ih := @bLe_trans a b c
    unfold bLe at ih h1 h2 ⊢
    rw [Bool.eq_false_iff] at h1 h2 ⊢
    simp only [ne_eq, bl_cons] at h1 h2 ⊢
    rintro (h | ⟨h, h'⟩)
    · by_cases g : y.toNat < x.toNat
      · exact h1 (.inl g)
      · exact h2 (.inl (by omega))
    · by_cases g : y.toNat < x.toNat
      · exact h1 (.inl g)
      · by_cases g2 : z.toNat < y.toNat
        · exact h2 (.inl g2)
        · have e1 : y.toNat = x.toNat := by omega
          have e2 : z.toNat = y.toNat := by omega
          have k1 : Op.bytesLess b a = false := Bool.eq_false_iff.2 fun k => h1 (.inr ⟨e1, k⟩)
          have k2 : Op.bytesLess c b = false := Bool.eq_false_iff.2 fun k => h2 (.inr ⟨e2, k⟩)
          rw [ih k1 k2] at h'
          cases h'
theorem bLe_antisymm : ∀ {a b : List UInt8}, bLe a b → bLe b a → a = b
  | [], [] => fun _ _ => rfl
  | [], _ :: _ => fun _ h => by simp [bLe, Op.bytesLess] at h
  | _ :: _, [] => fun h _ => by simp [bLe, Op.bytesLess] at h
  | x :: a, y :: b => fun h1 h2 => by
    have ih := @bLe_antisymm a b
    unfold bLe at ih h1 h2
    rw [Bool.eq_false_iff] at h1 h2
    simp only [ne_eq, bl_cons] at h1 h2
    have e : x.toNat = y.toNat := by
      by_cases g : y.toNat < x.toNat
      · exact absurd (.inl g) h1
      · by_cases g2 : x.toNat < y.toNat
        · exact absurd (.inl g2) h2
        · omega
    have k1 : Op.bytesLess b a = false := Bool.eq_false_iff.2 fun k => h1 (.inr ⟨e.symm, k⟩)
    have k2 : Op.bytesLess a b = false := Bool.eq_false_iff.2 fun k => h2 (.inr ⟨e, k⟩)
    rw [UInt8.toNat.inj e, ih k1 k2]
theorem bLe_gtr {a b : List UInt8} (h : bLe a b) : (!(Op.bytesLess a b || a == b)) = false := by
  by_cases hb : Op.bytesLess a b = true
  · rw [hb]; rfl
  · have : a = b := bLe_antisymm h (by rw [bLe]; exact Bool.eq_false_iff.2 hb)
    rw [this]
    simp
/-- The least rotation is not behind the others. -/
theorem lstF_le (L : List UInt8) : ∀ i j, j < i → bLe (rotA L (lstF L i)) (rotA L j)
  | 0, j, h => by omega
  | i + 1, j, h => by
    rw [lstF]
    by_cases hc : Lib.compareBytes (rotA L i) (rotA L (lstF L i)) < 0
    · rw [if_pos hc]
      have hl := (bl_cmp _ _).1 hc
      have hle : bLe (rotA L i) (rotA L (lstF L i)) := by
        rcases bLe_total (rotA L i) (rotA L (lstF L i)) with g | g
        · exact g
        · rw [bLe, hl] at g; cases g
      by_cases hj : j = i
      · rw [hj]; exact bLe_refl _
      · exact bLe_trans hle (lstF_le L i j (by omega))
    · rw [if_neg hc]
      by_cases hj : j = i
      · rw [hj]
        exact Bool.eq_false_iff.2 fun k => hc ((bl_cmp _ _).2 k)
      · exact lstF_le L i j (by omega)
theorem lstW_le {L : List UInt8} {j : Nat} (h : j < L.length) : bLe (lstW L) (rotA L j) := lstF_le L L.length j h
theorem lstW_is {L : List UInt8} (h : 0 < L.length) : ∃ i, i < L.length ∧ lstW L = rotA L i := ⟨lstF L L.length, by have := lstF_lt L L.length; omega, rfl⟩
theorem rotA_len {L : List UInt8} {a : Nat} (_ : a ≤ L.length) : (rotA L a).length = L.length := by
  rw [rotA, List.length_append, List.length_drop, List.length_take]
  omega
theorem rotA_zero (L : List UInt8) : rotA L 0 = L := by simp [rotA]
theorem rotA_rot {L : List UInt8} {a b : Nat} (ha : a < L.length) (hb : b < L.length) : rotA (rotA L a) b = rotA L (if a + b < L.length then a + b else a + b - L.length) := by
  split
  · rename_i h
    unfold rotA
    rw [List.drop_append_of_le_length (by rw [List.length_drop]; omega), List.take_append_of_le_length (by rw [List.length_drop]; omega), List.drop_drop, List.append_assoc, ← List.take_add]
  · rename_i h
    obtain ⟨c, hc⟩ : ∃ c, b = L.length - a + c := ⟨b - (L.length - a), by omega⟩
    have e : a + b - L.length = c := by omega
    rw [e]
    unfold rotA
    have hd : (L.drop a).length = L.length - a := List.length_drop
    rw [hc, ← hd, List.drop_length_add_append, List.take_length_add_append, List.drop_take, List.take_take]
    have e2 : min c a = c := by omega
    rw [e2]
    have : L.drop c = (L.drop c).take (a - c) ++ L.drop a := by
      conv => lhs; rw [← List.take_append_drop (a - c) (L.drop c), List.drop_drop]
      rw [show c + (a - c) = a by omega]
    rw [← List.append_assoc, ← this]
theorem rot_back {L : List UInt8} {a : Nat} (h : a < L.length) : rotA (rotA L a) ((L.length - a) % L.length) = L := by
  by_cases h0 : a = 0
  · subst h0
    rw [Nat.sub_zero, Nat.mod_self, rotA_zero, rotA_zero]
  · rw [Nat.mod_eq_of_lt (by omega), rotA_rot h (by omega), if_neg (by omega)]
    rw [show a + (L.length - a) - L.length = 0 by omega, rotA_zero]
theorem lst_rot {L : List UInt8} {a : Nat} (h : a < L.length) : lstW (rotA L a) = lstW L := by
  have hl := rotA_len (L := L) (a := a) (by omega)
  apply bLe_antisymm
  · obtain ⟨i, hi, e⟩ := lstW_is (L := L) (by omega)
    rw [e]
    have hj : ∃ j, j < L.length ∧ rotA (rotA L a) j = rotA L i := by
      by_cases g : a ≤ i
      · exact ⟨i - a, by omega, by rw [rotA_rot h (by omega), if_pos (by omega)]; rw [show a + (i - a) = i by omega]⟩
      · exact ⟨i + L.length - a, by omega, by rw [rotA_rot h (by omega), if_neg (by omega)]; rw [show a + (i + L.length - a) - L.length = i by omega]⟩
    obtain ⟨j, hj, e2⟩ := hj
    rw [← e2]
    exact lstW_le (by omega)
  · obtain ⟨i, hi, e⟩ := lstW_is (L := rotA L a) (by omega)
    rw [e, rotA_rot h (by omega)]
    exact lstW_le (by split <;> omega)
theorem lst_len {L : List UInt8} (h : 0 < L.length) : (lstW L).length = L.length := by
  obtain ⟨i, hi, e⟩ := lstW_is h
  rw [e, rotA_len (by omega)]
theorem lst_self {L : List UInt8} (h : 0 < L.length) : bLe (lstW L) L := by
  have := lstW_le (L := L) (j := 0) h
  rwa [rotA_zero] at this
theorem vecL_app (a b : List UInt8) : vecL (a ++ b) = ((vecL a).1 + (vecL b).1, (vecL a).2 + (vecL b).2) := by simp [vecL]
theorem vec_rot (L : List UInt8) (a : Nat) : vecL (rotA L a) = vecL L := by
  conv => rhs; rw [← List.take_append_drop a L]
  rw [rotA, vecL_app, vecL_app]
  exact Prod.ext (Int.add_comm _ _) (Int.add_comm _ _)
theorem vec_repeat (L : List UInt8) : ∀ k, vecL (Lib.repeatL L k) = ((k : Int) * (vecL L).1, (k : Int) * (vecL L).2)
  | 0 => by simp [Lib.repeatL, vecL]
  | k + 1 => by
    rw [Lib.repeatL, vecL_app, vec_repeat L k]
    refine Prod.ext ?_ ?_
    · show _ + (k : Int) * _ = ((k + 1 : Nat) : Int) * _
      push_cast
      grind
    · show _ + (k : Int) * _ = ((k + 1 : Nat) : Int) * _
      push_cast
      grind
/-! ### Roots -/
theorem leastF_pass {P : Nat → Bool} {G : Nat} : ∀ k n, n + k = G → leastF P G k n = G ∨ P (leastF P G k n) = true
  | 0, _, _ => .inl rfl
  | k + 1, n, h => by
    rw [leastF]
    split
    · right; assumption
    · exact leastF_pass k (n + 1) (by omega)
theorem leastF_low {P : Nat → Bool} {G : Nat} : ∀ k n m, n ≤ m → m < n + k → P m = true → leastF P G k n ≤ m
  | 0, _, _, h1, h2, _ => by omega
  | k + 1, n, m, h1, h2, h3 => by
    rw [leastF]
    split
    · exact h1
    · rename_i hp
      have : n ≠ m := fun e => hp (by rw [e]; exact h3)
      exact leastF_low k (n + 1) m (by omega) (by omega) h3
theorem leastN_low {P : Nat → Bool} {G m : Nat} (h1 : 1 ≤ m) (h2 : m < G) (h : P m = true) : leastN P G ≤ m := leastF_low _ _ _ h1 (by omega) h
theorem repeat_one (L : List UInt8) : Lib.repeatL L 1 = L := by simp [Lib.repeatL]
theorem root_facts {L : List UInt8} (h : 1 ≤ L.length) : 1 ≤ rootN L ∧ rootN L ≤ L.length ∧ L.length % rootN L = 0 ∧ L = Lib.repeatL (L.take (rootN L)) (L.length / rootN L) := by
  obtain ⟨h1, h2⟩ := leastN_range (powB L) h
  refine ⟨h1, h2, ?_⟩
  rcases leastF_pass (P := powB L) (G := L.length) (L.length - 1) 1 (by omega) with g | g
  · have e : rootN L = L.length := g
    rw [e, Nat.mod_self, Nat.div_self (by omega), List.take_length, repeat_one]
    exact ⟨rfl, rfl⟩
  · have g' : powB L (rootN L) = true := g
    unfold powB at g'
    rw [Bool.and_eq_true, decide_eq_true_eq, beq_iff_eq] at g'
    exact g'
theorem repeat_repeat (L : List UInt8) (m : Nat) : ∀ n, Lib.repeatL (Lib.repeatL L m) n = Lib.repeatL L (m * n)
  | 0 => by simp [Lib.repeatL]
  | n + 1 => by
    have add : ∀ a b, Lib.repeatL L (a + b) = Lib.repeatL L a ++ Lib.repeatL L b := by
      intro a b
      induction a with
      | zero => simp [Lib.repeatL]
      | succ a ih => rw [Nat.add_right_comm, Lib.repeatL, ih, Lib.repeatL, List.append_assoc]
    rw [Lib.repeatL, repeat_repeat L m n, Nat.mul_add, Nat.mul_one, Nat.add_comm, add]
theorem root_root {L : List UInt8} (h : 1 ≤ L.length) : rootN (L.take (rootN L)) = rootN L := by
  obtain ⟨h1, h2, h3, h4⟩ := root_facts h
  obtain ⟨n, hn⟩ : ∃ n, rootN L = n := ⟨_, rfl⟩
  rw [hn] at h1 h2 h3 h4 ⊢
  have hl : (L.take n).length = n := by rw [List.length_take]; omega
  obtain ⟨g1, g2, g3, g4⟩ := root_facts (L := L.take n) (by omega)
  obtain ⟨m, hm⟩ : ∃ m, rootN (L.take n) = m := ⟨_, rfl⟩
  rw [hm] at g1
  rw [hm, hl] at g2 g3 g4
  rw [hm]
  by_cases hlt : m < n
  · exfalso
    have d1 := Nat.dvd_of_mod_eq_zero g3
    have d2 := Nat.dvd_of_mod_eq_zero h3
    have hp : powB L m = true := by
      unfold powB
      rw [Bool.and_eq_true, decide_eq_true_eq, beq_iff_eq]
      refine ⟨Nat.mod_eq_zero_of_dvd (Nat.dvd_trans d1 d2), ?_⟩
      rw [List.take_take, Nat.min_eq_left (by omega)] at g4
      rw [g4, repeat_repeat] at h4
      have e : n / m * (L.length / n) = L.length / m := by
        obtain ⟨p, rfl⟩ := d1
        obtain ⟨q, hq⟩ := d2
        rw [hq, Nat.mul_div_cancel_left _ (by omega), Nat.mul_div_cancel_left _ (by omega), Nat.mul_assoc, Nat.mul_div_cancel_left _ (by omega)]
      rwa [e] at h4
    have := leastN_low (P := powB L) (G := L.length) g1 (by omega) hp
    have e : leastN (powB L) L.length = n := hn
    omega
  · omega
end Go.Proofs.YtfmfpnnglogkmaaGreatDoor

/- Plain mathematics for TaperReturns: knots, bars and meshes along an edge. -/
namespace Go.Proofs.YtfmfpnnglogkmaaGreatDoor
open Go.RowKit Go.Shelf Ck

theorem edgeG_of {x y : Int} {s : ByteArray} {c : Nat} (o : Bool) (hs : Word s) (h1 : 1 ≤ c) (h2 : c * s.size ≤ 256) (hk : okKnot ⟨x, y⟩) (hx : x ≤ 90000) (hx' : -90000 ≤ x) (hy : y ≤ 90000) : EdgeG x y s c o := by
  have hl : (Lib.repeatL s.data.toList c).length ≤ 256 := by rw [rep_len]; exact h2
  exact ⟨hs, h1, h2, hk, fun q hq => (legs_ok o _ _ (rep_letters hs c) hk (by simp; omega) (by simp; omega) (by simp; omega) q hq).2.2.2⟩
theorem posK_vec (σ : Int) : ∀ (l : List UInt8) (k : Knot), posK σ k l = ⟨k.x + σ * (vecL l).1, k.y + (vecL l).2⟩
  | [], k => by simp [posK, vecL]
  | c :: r, k => by
    have ih := posK_vec σ r (stepK σ k c)
    have e : posK σ k (c :: r) = posK σ (stepK σ k c) r := rfl
    have v1 : (vecL (c :: r)).1 = dxL c + (vecL r).1 := by simp [vecL]
    have v2 : (vecL (c :: r)).2 = dyL c + (vecL r).2 := by simp [vecL]
    rw [e, ih, v1, v2]
    simp only [stepK, Knot.mk.injEq]
    exact ⟨by rw [Int.mul_add]; omega, by omega⟩
theorem rep_at (s : List UInt8) : ∀ (c i : Nat) (_ : i < (Lib.repeatL s c).length), (Lib.repeatL s c)[i]? = s[i % s.length]?
  | 0, i, h => by simp [Lib.repeatL] at h
  | c + 1, i, h => by
    have e : Lib.repeatL s (c + 1) = s ++ Lib.repeatL s c := rfl
    rw [e] at h ⊢
    by_cases hi : i < s.length
    · rw [List.getElem?_append_left hi, Nat.mod_eq_of_lt hi]
    · rw [List.getElem?_append_right (by omega), rep_at s c (i - s.length) (by rw [List.length_append] at h; omega), ← Nat.mod_eq_sub_mod (by omega)]
theorem barsP_append (σ : Int) : ∀ (A B : List UInt8) (k : Knot), barsP σ k (A ++ B) = barsP σ k A ++ barsP σ (posK σ k A) B
  | [], _, _ => rfl
  | c :: r, B, k => by
    have ih := barsP_append σ r B (stepK σ k c)
    have e : posK σ k (c :: r) = posK σ (stepK σ k c) r := rfl
    rw [List.cons_append, barsP_cons, barsP_cons, ih, e]
    split <;> rfl
theorem midsP_append (σ : Int) : ∀ (A B : List UInt8) (k : Knot), midsP σ k (A ++ B) = midsP σ k A ++ midsP σ (posK σ k A) B
  | [], _, _ => rfl
  | c :: r, B, k => by
    have ih := midsP_append σ r B (stepK σ k c)
    have e : posK σ k (c :: r) = posK σ (stepK σ k c) r := rfl
    rw [List.cons_append, midsP, midsP, ih, e]
    split <;> rfl
theorem midsP_len (σ : Int) : ∀ (l : List UInt8) (k : Knot), (midsP σ k l).length + barsN l = l.length
  | [], _ => rfl
  | c :: r, k => by
    have ih := midsP_len σ r (stepK σ k c)
    have hb : barsN (c :: r) = barsN r + (if c = 66 then 1 else 0) := by simp [barsN, List.countP_cons]
    rw [midsP, hb]
    split
    · simp only [List.length_cons]; omega
    · simp only [List.length_cons]; omega
theorem split_at {L : List UInt8} {i : Nat} (h : i < L.length) : L = L.take i ++ L[i] :: L.drop (i + 1) := by
  rw [List.getElem_cons_drop]
  exact (List.take_append_drop i L).symm
theorem barsP_at {σ : Int} {L : List UInt8} {k : Knot} {i : Nat} (h : i < L.length) (hc : L[i] = 66) : (barsP σ k L)[barsN (L.take i)]? = some ⟨(posK σ k (L.take i)).x, (posK σ k (L.take i)).y, σ⟩ := by
  conv => lhs; rw [split_at h]
  rw [barsP_append, List.take_append_of_le_length (by rw [List.length_take]; omega), List.take_take, Nat.min_self, List.getElem?_append_right (by rw [barsP_length]; exact Nat.le_refl _), barsP_length, Nat.sub_self, barsP_cons, if_pos hc]
  rfl
theorem midsP_at {σ : Int} {L : List UInt8} {k : Knot} {i : Nat} (h : i < L.length) (hc : L[i] ≠ 66) : (midsP σ k L)[i - barsN (L.take i)]? = some (midK σ (posK σ k (L.take i)) L[i]) := by
  have hl := midsP_len σ (L.take i) k
  have e : (midsP σ k (L.take i)).length = i - barsN (L.take i) := by
    rw [List.length_take] at hl
    omega
  conv => lhs; rw [split_at h]
  rw [midsP_append, List.take_append_of_le_length (by rw [List.length_take]; omega), List.take_take, Nat.min_self, ← e, List.getElem?_append_right (Nat.le_refl _), Nat.sub_self, midsP, if_neg hc]
  rfl
theorem mid_twice {k : Knot} {c : UInt8} (hc : isL c) (h : c ≠ 66) : 2 * (midK 1 k c).x = k.x + (stepK 1 k c).x ∧ 2 * (midK 1 k c).y = k.y + (stepK 1 k c).y := by
  rcases hc with rfl | rfl | rfl
  · simp [midK, stepK, dxL, dyL]; omega
  · exact absurd rfl h
  · simp [midK, stepK, dxL, dyL]; omega
theorem barsN_le (l : List UInt8) : barsN l ≤ l.length := List.countP_le_length
end Go.Proofs.YtfmfpnnglogkmaaGreatDoor

/- The reference's SameBars, SameMeshes and SameKnots at two slices that read alike. -/
namespace Go.Proofs.YtfmfpnnglogkmaaGreatDoor
open Go.RowKit

theorem infoIT : (Tryz.prog.info? 3).map (fun i => (i.zero, i.size, i.bytes)) = some (some (.int .i64 0), 1, 8) := by kernel_rfl
theorem infoPT : (Tryz.prog.info? 28).map (fun i => (i.zero, i.size, i.bytes)) = some (some (.agg #[.int .i64 0, .int .i64 0]), 2, 16) := by kernel_rfl
set_option maxRecDepth 100000 in
/-- Equality of pairs of numbers. -/
theorem eqPair (a b c d : Int) (r : Bool) (hr : decide (a = c ∧ b = d) = r) (w : World) : (Op.equalIn 10000 66 (.agg #[.int .i64 a, .int .i64 b]) (.agg #[.int .i64 c, .int .i64 d])).run Tryz.prog w = .ok r w := by
  have u3 := Tryz.underlying3
  have a3 := Tryz.isAgg3
  have z3 := Tryz.sizeOf3
  obtain ⟨i, hi, -, -, -⟩ := info_parts infoIT
  have hc : Tryz.prog.cellsOf 3 = 1 := by kernel_rfl
  subst hr
  rw [show (10000 : Nat) = 9999 + 1 from rfl, run_equalIn_array w 9999 _ _ Tryz.underlying66 hi, hc, show List.range 2 = [0, 1] from rfl]
  simp only [Op.eqItems]
  go_simp
  by_cases h1 : a = c <;> by_cases h2 : b = d <;> simp [h1, h2]
theorem guardPair : Tryz.prog.eqGuardType Tryz.prog.depth 66 = false := by kernel_rfl
theorem eqPairSame (a b : Int) (w : World) : (Op.equalIn 10000 66 (.agg #[.int .i64 a, .int .i64 b]) (.agg #[.int .i64 a, .int .i64 b])).run Tryz.prog w = .ok true w := eqPair a b a b true (by simp) w
set_option maxHeartbeats 1000000 in
set_option maxRecDepth 100000 in
theorem refSameBars (A A' : Option Addr) (c c' : Nat) (l : List Ck.Bar) (w : World) (hl : l.length ≤ 4096) (h : RB w w.heap.size A l) (h' : RB w w.heap.size A' l) :
    Calls Tryz.prog 23 #[.slice A l.length c, .slice A' l.length c'] w fun e w' => e = .returned (.bool true) ∧ Below w.heap.size w w' := by
  have HR := Lib.hid h
  have HR' := Lib.hid h'
  clear h h'
  have hne : ((l.length : Int) != (l.length : Int)) = false := by simp
  go_enter Tryz.func23, Tryz.ntmps23
  go_wp2_with fail
  go_loopw [5] (fun i wr => ∃ k : Nat, k ≤ l.length ∧ i = .int .i64 k ∧ Below w.heap.size w wr) (fun i _ => l.length - (intOf i).toNat)
  case atStart => exact ⟨0, Nat.zero_le _, rfl, Below.refl _ _⟩
  case round =>
    obtain ⟨k, hk, rfl, hb⟩ := hrel
    by_cases hlt : k < l.length
    · have h := HR.out.below hb
      have h' := HR'.out.below hb
      obtain ⟨b, off, rfl, hB, hc⟩ := h (by omega)
      obtain ⟨b', off', rfl, hB', hc'⟩ := h' (by omega)
      obtain ⟨c0, c1, c2⟩ := hc k hlt
      obtain ⟨d0, d1, d2⟩ := hc' k hlt
      clear hc hc' h h'
      have b1 : (0 : Int) ≤ (k : Int) := by omega
      have b2 : (k : Int) < (l.length : Int) := by omega
      generalize l[k] = x at c0 c1 c2 d0 d1 d2
      go_wp2_with fail
      go_region
      go_wp2_with fail
      go_roundw
      case rel => exact ⟨k + 1, by omega, by go_num, below_drew hb⟩
      case measure => simp [intOf]; omega
    · have e : k = l.length := by omega
      subst e
      go_wp2_with fail
      go_ret
      exact ⟨rfl, hb⟩
set_option maxHeartbeats 1000000 in
set_option maxRecDepth 100000 in
theorem refSameMeshes (A A' : Option Addr) (c c' : Nat) (l : List Ck.Knot) (w : World) (hl : l.length ≤ 4096) (h : RK w w.heap.size A l) (h' : RK w w.heap.size A' l) :
    Calls Tryz.prog 25 #[.slice A l.length c, .slice A' l.length c'] w fun e w' => e = .returned (.bool true) ∧ Below w.heap.size w w' := by
  have HR := Lib.hid h
  have HR' := Lib.hid h'
  clear h h'
  have hne : ((l.length : Int) != (l.length : Int)) = false := by simp
  go_enter Tryz.func25, Tryz.ntmps25
  go_wp2_with fail
  go_loopw [5] (fun i wr => ∃ k : Nat, k ≤ l.length ∧ i = .int .i64 k ∧ Below w.heap.size w wr) (fun i _ => l.length - (intOf i).toNat)
  case atStart => exact ⟨0, Nat.zero_le _, rfl, Below.refl _ _⟩
  case round =>
    obtain ⟨k, hk, rfl, hb⟩ := hrel
    by_cases hlt : k < l.length
    · have h := HR.out.below hb
      have h' := HR'.out.below hb
      obtain ⟨b, off, rfl, hB, hc⟩ := h (by omega)
      obtain ⟨b', off', rfl, hB', hc'⟩ := h' (by omega)
      obtain ⟨c0, c1⟩ := hc k hlt
      obtain ⟨d0, d1⟩ := hc' k hlt
      clear hc hc' h h'
      have b1 : (0 : Int) ≤ (k : Int) := by omega
      have b2 : (k : Int) < (l.length : Int) := by omega
      generalize l[k] = x at c0 c1 d0 d1
      have hes := eqPairSame x.x x.y
      have hgp := guardPair
      go_wp2_with fail
      go_region
      go_wp2_with fail
      go_roundw
      case rel => exact ⟨k + 1, by omega, by go_num, below_drew hb⟩
      case measure => simp [intOf]; omega
    · have e : k = l.length := by omega
      subst e
      go_wp2_with fail
      go_ret
      exact ⟨rfl, hb⟩
set_option maxHeartbeats 1000000 in
set_option maxRecDepth 100000 in
theorem refSameKnots (A A' : Option Addr) (c c' : Nat) (l : List Ck.Knot) (w : World) (hl : l.length ≤ 4096) (h : RK w w.heap.size A l) (h' : RK w w.heap.size A' l) :
    Calls Tryz.prog 21 #[.slice A l.length c, .slice A' l.length c'] w fun e w' => e = .returned (.bool true) ∧ Below w.heap.size w w' := by
  have HR := Lib.hid h
  have HR' := Lib.hid h'
  clear h h'
  have hne : ((l.length : Int) != (l.length : Int)) = false := by simp
  go_enter Tryz.func21, Tryz.ntmps21
  go_wp2_with fail
  go_loopw [5] (fun i wr => ∃ k : Nat, k ≤ l.length ∧ i = .int .i64 k ∧ Below w.heap.size w wr) (fun i _ => l.length - (intOf i).toNat)
  case atStart => exact ⟨0, Nat.zero_le _, rfl, Below.refl _ _⟩
  case round =>
    obtain ⟨k, hk, rfl, hb⟩ := hrel
    by_cases hlt : k < l.length
    · have h := HR.out.below hb
      have h' := HR'.out.below hb
      obtain ⟨b, off, rfl, hB, hc⟩ := h (by omega)
      obtain ⟨b', off', rfl, hB', hc'⟩ := h' (by omega)
      obtain ⟨c0, c1⟩ := hc k hlt
      obtain ⟨d0, d1⟩ := hc' k hlt
      clear hc hc' h h'
      have b1 : (0 : Int) ≤ (k : Int) := by omega
      have b2 : (k : Int) < (l.length : Int) := by omega
      generalize l[k] = x at c0 c1 d0 d1
      go_wp2_with fail
      go_region
      go_wp2_with fail
      go_roundw
      case rel => exact ⟨k + 1, by omega, by go_num, below_drew hb⟩
      case measure => simp [intOf]; omega
    · have e : k = l.length := by omega
      subst e
      go_wp2_with fail
      go_ret
      exact ⟨rfl, hb⟩
end Go.Proofs.YtfmfpnnglogkmaaGreatDoor

/- neighboursOf of taper. -/
namespace Go.Proofs.YtfmfpnnglogkmaaGreatDoor
open Go.RowKit

/-- What holds at the head of the search. -/
def nbRel (N D n : Nat) (R : Nat × Nat × Nat × Nat) (w : World) (g : Nat) (wi : World) : Prop :=
  ∃ a b c d : Nat, nbF N D n g a b c d = R ∧ 1 ≤ g ∧ n + 2 ≤ g + b + d ∧ NbI N D n a b c d ∧
    wi.heap[w.heap.size]? = some (.cells #[.int .i64 N, .int .i64 D] 23 (0, 0)) ∧
    wi.heap[w.heap.size + 1]? = some (.cells #[.int .i64 0, .int .i64 0, .int .i64 0, .int .i64 0] 29 (0, 0)) ∧
    wi.heap[w.heap.size + 1 + 1]? = some (.cells #[.int .i64 a, .int .i64 b] 28 (0, 0)) ∧
    wi.heap[w.heap.size + 1 + 1 + 1]? = some (.cells #[.int .i64 c, .int .i64 d] 28 (0, 0)) ∧
    Below w.heap.size w wi
theorem boxH4 (w : World) (o0 o1 o2 o3 : Obj) : ∃ w1, w1 = (((w.alloc o0).alloc o1).alloc o2).alloc o3 ∧ w1.heap[w.heap.size]? = some o0 ∧ w1.heap[w.heap.size + 1]? = some o1 ∧ w1.heap[w.heap.size + 2]? = some o2 ∧ w1.heap[w.heap.size + 3]? = some o3 ∧ Below w.heap.size w w1 ∧ w1.heap.size = w.heap.size + 4 := by
  have z1 : (w.alloc o0).heap.size = w.heap.size + 1 := by simp
  have z2 : ((w.alloc o0).alloc o1).heap.size = w.heap.size + 2 := by simp
  have z3 : (((w.alloc o0).alloc o1).alloc o2).heap.size = w.heap.size + 3 := by simp
  have a0 := heap_alloc_new w o0
  have a1 := heap_alloc_new (w.alloc o0) o1
  have a2 := heap_alloc_new ((w.alloc o0).alloc o1) o2
  have a3 := heap_alloc_new (((w.alloc o0).alloc o1).alloc o2) o3
  rw [z1] at a1
  rw [z2] at a2
  rw [z3] at a3
  refine ⟨_, rfl, ?_, ?_, ?_, a3, (((((Below.refl _ _).alloc (Nat.le_refl _) _).alloc (by omega) _).alloc (by omega) _).alloc (by omega) _), by simp⟩
  · rw [Below.heap_alloc _ _ _ (by omega), Below.heap_alloc _ _ _ (by omega), Below.heap_alloc _ _ _ (by omega)]; exact a0
  · rw [Below.heap_alloc _ _ _ (by omega), Below.heap_alloc _ _ _ (by omega)]; exact a1
  · rw [Below.heap_alloc _ _ _ (by omega)]; exact a2
theorem four_cell {W : World} {b : Nat} {u v x y : Value} {t : TypeId} (h : W.heap[b]? = some (.cells #[u, v, x, y] t (0, 0))) : (W.cell? ⟨b, 0, none⟩ = some u ∧ W.cell? ⟨b, 1, none⟩ = some v ∧ W.cell? ⟨b, 2, none⟩ = some x ∧ W.cell? ⟨b, 3, none⟩ = some y) ∧ W.frozen? ⟨b, 0, none⟩ = false ∧ W.frozen? ⟨b, 1, none⟩ = false ∧ W.frozen? ⟨b, 2, none⟩ = false ∧ W.frozen? ⟨b, 3, none⟩ = false := by
  refine ⟨⟨?_, ?_, ?_, ?_⟩, ?_, ?_, ?_, ?_⟩ <;> simp [World.cell?, World.frozen?, h]
theorem four_set {W : World} {b : Nat} {u v x y : Value} {t : TypeId} (h : W.heap[b]? = some (.cells #[u, v, x, y] t (0, 0))) (p q r s : Value) :
    ((((W.setCell ⟨b, 0, none⟩ p).setCell ⟨b, 1, none⟩ q).setCell ⟨b, 2, none⟩ r).setCell ⟨b, 3, none⟩ s).heap[b]? = some (.cells #[p, q, r, s] t (0, 0)) ∧ W.grownBy ((((W.setCell ⟨b, 0, none⟩ p).setCell ⟨b, 1, none⟩ q).setCell ⟨b, 2, none⟩ r).setCell ⟨b, 3, none⟩ s) (some b) := by
  have f0 : (W.setCell ⟨b, 0, none⟩ p).heap[b]? = some (.cells #[p, v, x, y] t (0, 0)) := by
    simp only [World.setCell, Array.getElem?_modify, if_true, h, Option.map_some]
    rfl
  have f1 : ((W.setCell ⟨b, 0, none⟩ p).setCell ⟨b, 1, none⟩ q).heap[b]? = some (.cells #[p, q, x, y] t (0, 0)) := by
    generalize W.setCell ⟨b, 0, none⟩ p = X at *
    simp only [World.setCell, Array.getElem?_modify, if_true, f0, Option.map_some]
    rfl
  have f2 : (((W.setCell ⟨b, 0, none⟩ p).setCell ⟨b, 1, none⟩ q).setCell ⟨b, 2, none⟩ r).heap[b]? = some (.cells #[p, q, r, y] t (0, 0)) := by
    generalize (W.setCell ⟨b, 0, none⟩ p).setCell ⟨b, 1, none⟩ q = X at *
    simp only [World.setCell, Array.getElem?_modify, if_true, f1, Option.map_some]
    rfl
  have f3 : ((((W.setCell ⟨b, 0, none⟩ p).setCell ⟨b, 1, none⟩ q).setCell ⟨b, 2, none⟩ r).setCell ⟨b, 3, none⟩ s).heap[b]? = some (.cells #[p, q, r, s] t (0, 0)) := by
    generalize ((W.setCell ⟨b, 0, none⟩ p).setCell ⟨b, 1, none⟩ q).setCell ⟨b, 2, none⟩ r = X at *
    simp only [World.setCell, Array.getElem?_modify, if_true, f2, Option.map_some]
    rfl
  refine ⟨f3, ⟨rfl, rfl, rfl, by simp [World.setCell], fun i _ hne => ?_⟩⟩
  have : i ≠ b := fun e => hne (by rw [e])
  exact (((Below.heap_setCell _ _ _ i this).trans (Below.heap_setCell _ _ _ i this)).trans (Below.heap_setCell _ _ _ i this)).trans (Below.heap_setCell _ _ _ i this)
theorem tpCompareSharesI (x y : Int) (a b N D : Nat) (w : World) (hx : x = (a : Int)) (hy : y = (b : Int)) (ha : a ≤ 1000) (hb : b ≤ 1000) (hN : N ≤ 2000000000) (hD : D ≤ 2000000000) :
    Calls Tryz.prog 91 #[.agg #[.int .i64 x, .int .i64 y], .agg #[.int .i64 N, .int .i64 D]] w fun e w' => e = .returned (.int .i64 (cmpI ((a : Int) * D) ((N : Int) * b))) ∧ Below w.heap.size w w' := by
  subst hx hy
  exact tpCompareShares a b N D w ha hb hN hD
set_option maxHeartbeats 4000000 in
set_option maxRecDepth 100000 in
theorem tpNeighboursOf (N D n a b c d : Nat) (w : World) (hND : N ≤ D) (hD : D ≤ 2000000000) (hn : 1 ≤ n) (hn2 : n ≤ 64) (hR : nbF N D n n 0 1 1 1 = (a, b, c, d)) :
    Calls Tryz.prog 44 #[.agg #[.int .i64 N, .int .i64 D], .int .i64 n] w fun e w' => e = .returned (.agg #[.int .i64 a, .int .i64 b, .int .i64 c, .int .i64 d]) ∧ Below w.heap.size w w' := by
  have H0 := Lib.hid (show NbI N D n 0 1 1 1 from ⟨by omega, by omega, hn, hn, by omega, by omega, by simp, by simpa using hND, by omega⟩)
  obtain ⟨w1, hw1, e0, e1, e2, e3, hb, -⟩ := boxH4 w (.cells #[.int .i64 N, .int .i64 D] 23) (.cells #[.int .i64 0, .int .i64 0, .int .i64 0, .int .i64 0] 29) (.cells #[.int .i64 0, .int .i64 1] 28) (.cells #[.int .i64 1, .int .i64 1] 28)
  have HW1 := Lib.hid hw1
  have HR := Lib.hid hR
  clear hR hw1
  go_enter Tryz.func44, Tryz.ntmps44
  go_wp2_with fail
  go_step3
  go_wp2
  go_step3
  go_wp2
  rw [← HW1.out]
  go_loopg [] n (fun g wi => nbRel N D n (a, b, c, d) w g wi)
  case atStart => exact ⟨0, 1, 1, 1, HR.out, hn, by omega, H0.out, e0, e1, e2, e3, hb⟩
  case round =>
    obtain ⟨p, q, r, s, hF, hg, hk, hI, k0, k1, k2, k3, hbb⟩ := hrel
    have hb1 := hI.b1
    have hd1 := hI.d1
    have hbn := hI.bn
    have hdn := hI.dn
    have hab := hI.ab
    have hcd := hI.cd
    have HI := Lib.hid hI
    have HF := Lib.hid hF
    have zs := hbb.size
    obtain ⟨W1, hW1, m0, bb1, bz1⟩ := boxH2 wr (.int .i64 ((p : Int) + r)) (.int .i64 ((q : Int) + s)) 28
    have HW1 := Lib.hid hW1
    have z0 := (Array.getElem?_eq_some_iff.1 k0).1
    have z1 := (Array.getElem?_eq_some_iff.1 k1).1
    have z2 := (Array.getElem?_eq_some_iff.1 k2).1
    have z3 := (Array.getElem?_eq_some_iff.1 k3).1
    obtain ⟨c00, c01, -, -⟩ := two_cell k0
    obtain ⟨c20, c21, -, -⟩ := two_cell k2
    obtain ⟨c30, c31, -, -⟩ := two_cell k3
    have n0 := (bb1.block _ z0).trans k0
    have n1 := (bb1.block _ z1).trans k1
    have n2 := (bb1.block _ z2).trans k2
    have n3 := (bb1.block _ z3).trans k3
    have zz1 := bb1.size
    have B1 := hbb.trans (bb1.mono hbb.size)
    obtain ⟨d00, d01, -, -⟩ := two_cell n0
    obtain ⟨d20, d21, -, -⟩ := two_cell n2
    obtain ⟨dm0, dm1, -, -⟩ := two_cell m0
    clear hI hF hW1 hbb k0 k1 k2 k3 bb1
    go_wp2_with fail
    rw [← HW1.out]
    refine (tpCompareSharesI p q p q N D _ rfl rfl (by omega) (by omega) (by omega) hD).mono ?_
    rintro e W2 ⟨rfl, hb2⟩
    have n20 := (hb2.block _ (Array.getElem?_eq_some_iff.1 n0).1).trans n0
    have n21 := (hb2.block _ (Array.getElem?_eq_some_iff.1 n1).1).trans n1
    have n22 := (hb2.block _ (Array.getElem?_eq_some_iff.1 n2).1).trans n2
    have n23 := (hb2.block _ (Array.getElem?_eq_some_iff.1 n3).1).trans n3
    have n2m := (hb2.block _ (Array.getElem?_eq_some_iff.1 m0).1).trans m0
    have B2 := B1.trans (hb2.mono B1.size)
    clear d00 d01 d20 d21 dm0 dm1 c00 c01 c20 c21 c30 c31 hb2
    obtain ⟨d00, d01, -, -⟩ := two_cell n20
    obtain ⟨d20, d21, f20, f21⟩ := two_cell n22
    obtain ⟨d30, d31, f30, f31⟩ := two_cell n23
    obtain ⟨dm0, dm1, -, -⟩ := two_cell n2m
    obtain ⟨v1, hv1⟩ : ∃ v, cmpI ((p : Int) * D) ((N : Int) * q) = v := ⟨_, rfl⟩
    rw [hv1]
    by_cases h1 : p * D = N * q
    · have hv0 : v1 = 0 := by rw [← hv1]; exact cmpI_zero.2 (by exact_mod_cast h1)
      subst hv0
      have HS := Lib.hid (show (p, q, p, q) = (a, b, c, d) by
        rw [← HF.out]
        obtain ⟨g, rfl⟩ : ∃ g, gk = g + 1 := ⟨gk - 1, by omega⟩
        rw [nbF, nbStep, if_pos h1])
      clear hv1 h1 HF
      have EQ := HS.out
      simp only [Prod.mk.injEq] at EQ
      obtain ⟨rfl, rfl, rfl, rfl⟩ := EQ
      obtain ⟨s1, s2⟩ := two_set n23 (.int .i64 p) (.int .i64 q)
      have o1 := (s2.block _ (Array.getElem?_eq_some_iff.1 n21).1 (fun e => by injection e; omega)).trans n21
      have o2 := (s2.block _ (Array.getElem?_eq_some_iff.1 n22).1 (fun e => by injection e; omega)).trans n22
      obtain ⟨s3, s4⟩ := four_set o1 (.int .i64 p) (.int .i64 q) (.int .i64 p) (.int .i64 q)
      have bf1 := B2.grown s2 B2.size (fun j e => by cases e; omega)
      have bf := bf1.grown s4 bf1.size (fun j e => by cases e; omega)
      obtain ⟨a20, a21, -, -⟩ := two_cell o2
      obtain ⟨a30, a31, -, -⟩ := two_cell s1
      obtain ⟨⟨a0, a1, a2, a3⟩, g0, g1, g2, g3⟩ := four_cell o1
      obtain ⟨⟨t0, t1, t2, t3⟩, -, -, -, -⟩ := four_cell s3
      clear s1 s2 s3 s4 o1 o2 HS bf1
      go_wp2
      rw [Exit.noGoto_ret]
      exact bodyPost_ret (v := .agg #[.int .i64 p, .int .i64 q, .int .i64 p, .int .i64 q]) (by simp [results, Tryz.results44, go_sem, t0, t1, t2, t3]) rfl ⟨rfl, bf⟩
    have hv0 : (v1 == 0) = false := by
      rw [beq_eq_false_iff_ne, ← hv1]
      exact fun h => h1 (by exact_mod_cast cmpI_zero.1 h)
    clear hv1
    go_wp2_with fail
    refine (tpCompareSharesI r s r s N D _ rfl rfl (by omega) (by omega) (by omega) hD).mono ?_
    rintro e W3 ⟨rfl, hb3⟩
    have n30 := (hb3.block _ (Array.getElem?_eq_some_iff.1 n20).1).trans n20
    have n31 := (hb3.block _ (Array.getElem?_eq_some_iff.1 n21).1).trans n21
    have n32 := (hb3.block _ (Array.getElem?_eq_some_iff.1 n22).1).trans n22
    have n33 := (hb3.block _ (Array.getElem?_eq_some_iff.1 n23).1).trans n23
    have n3m := (hb3.block _ (Array.getElem?_eq_some_iff.1 n2m).1).trans n2m
    have B3 := B2.trans (hb3.mono B2.size)
    clear d00 d01 d20 d21 dm0 dm1 d30 d31 f20 f21 f30 f31 hb3
    obtain ⟨d00, d01, -, -⟩ := two_cell n30
    obtain ⟨d20, d21, f20, f21⟩ := two_cell n32
    obtain ⟨d30, d31, f30, f31⟩ := two_cell n33
    obtain ⟨dm0, dm1, -, -⟩ := two_cell n3m
    obtain ⟨v2, hv2⟩ : ∃ v, cmpI ((r : Int) * D) ((N : Int) * s) = v := ⟨_, rfl⟩
    rw [hv2]
    by_cases h2 : r * D = N * s
    · have hv0 : v2 = 0 := by rw [← hv2]; exact cmpI_zero.2 (by exact_mod_cast h2)
      subst hv0
      have HS := Lib.hid (show (r, s, r, s) = (a, b, c, d) by
        rw [← HF.out]
        obtain ⟨g, rfl⟩ : ∃ g, gk = g + 1 := ⟨gk - 1, by omega⟩
        rw [nbF, nbStep, if_neg h1, if_pos h2])
      clear hv2 h2 h1 HF
      have EQ := HS.out
      simp only [Prod.mk.injEq] at EQ
      obtain ⟨rfl, rfl, rfl, rfl⟩ := EQ
      obtain ⟨s1, s2⟩ := two_set n32 (.int .i64 r) (.int .i64 s)
      have o1 := (s2.block _ (Array.getElem?_eq_some_iff.1 n31).1 (fun e => by injection e; omega)).trans n31
      have o3 := (s2.block _ (Array.getElem?_eq_some_iff.1 n33).1 (fun e => by injection e; omega)).trans n33
      obtain ⟨s3, s4⟩ := four_set o1 (.int .i64 r) (.int .i64 s) (.int .i64 r) (.int .i64 s)
      have bf1 := B3.grown s2 B3.size (fun j e => by cases e; omega)
      have bf := bf1.grown s4 bf1.size (fun j e => by cases e; omega)
      obtain ⟨a20, a21, -, -⟩ := two_cell s1
      obtain ⟨a30, a31, -, -⟩ := two_cell o3
      obtain ⟨⟨a0, a1, a2, a3⟩, g0, g1, g2, g3⟩ := four_cell o1
      obtain ⟨⟨t0, t1, t2, t3⟩, -, -, -, -⟩ := four_cell s3
      clear s1 s2 s3 s4 o1 o3 HS bf1
      go_wp2
      rw [Exit.noGoto_ret]
      exact bodyPost_ret (v := .agg #[.int .i64 r, .int .i64 s, .int .i64 r, .int .i64 s]) (by simp [results, Tryz.results44, go_sem, t0, t1, t2, t3]) rfl ⟨rfl, bf⟩
    have hv02 : (v2 == 0) = false := by
      rw [beq_eq_false_iff_ne, ← hv2]
      exact fun h => h2 (by exact_mod_cast cmpI_zero.1 h)
    clear hv2
    by_cases h3 : n < q + s
    · have HS := Lib.hid (show (p, q, r, s) = (a, b, c, d) by
        rw [← HF.out]
        obtain ⟨g, rfl⟩ : ∃ g, gk = g + 1 := ⟨gk - 1, by omega⟩
        rw [nbF, nbStep, if_neg h1, if_neg h2, if_pos h3])
      have h3i : (n : Int) < (q : Int) + (s : Int) := by omega
      clear h2 h1 HF h3
      have EQ := HS.out
      simp only [Prod.mk.injEq] at EQ
      obtain ⟨rfl, rfl, rfl, rfl⟩ := EQ
      obtain ⟨s3, s4⟩ := four_set n31 (.int .i64 p) (.int .i64 q) (.int .i64 r) (.int .i64 s)
      have bf := B3.grown s4 B3.size (fun j e => by cases e; omega)
      obtain ⟨⟨a0, a1, a2, a3⟩, g0, g1, g2, g3⟩ := four_cell n31
      obtain ⟨⟨t0, t1, t2, t3⟩, -, -, -, -⟩ := four_cell s3
      clear s3 s4 HS
      go_wp2
      rw [Exit.noGoto_ret]
      exact bodyPost_ret (v := .agg #[.int .i64 p, .int .i64 q, .int .i64 r, .int .i64 s]) (by simp [results, Tryz.results44, go_sem, t0, t1, t2, t3]) rfl ⟨rfl, bf⟩
    have h3i : ¬ (n : Int) < (q : Int) + (s : Int) := by omega
    go_wp2_with fail
    refine (tpCompareSharesI _ _ (p + r) (q + s) N D _ (by push_cast; rfl) (by push_cast; rfl) (by omega) (by omega) (by omega) hD).mono ?_
    rintro e W4 ⟨rfl, hb4⟩
    have n40 := (hb4.block _ (Array.getElem?_eq_some_iff.1 n30).1).trans n30
    have n41 := (hb4.block _ (Array.getElem?_eq_some_iff.1 n31).1).trans n31
    have n42 := (hb4.block _ (Array.getElem?_eq_some_iff.1 n32).1).trans n32
    have n43 := (hb4.block _ (Array.getElem?_eq_some_iff.1 n33).1).trans n33
    have n4m := (hb4.block _ (Array.getElem?_eq_some_iff.1 n3m).1).trans n3m
    have B4 := B3.trans (hb4.mono B3.size)
    clear d00 d01 d20 d21 dm0 dm1 d30 d31 f20 f21 f30 f31 hb4
    obtain ⟨dm0, dm1, -, -⟩ := two_cell n4m
    obtain ⟨v3, hv3⟩ : ∃ v, cmpI (((p + r : Nat) : Int) * D) ((N : Int) * (q + s : Nat)) = v := ⟨_, rfl⟩
    rw [hv3]
    obtain ⟨g, rfl⟩ : ∃ g, gk = g + 1 := ⟨gk - 1, by omega⟩
    have HI2 := HI.out
    have hlo := HI2.lo
    have hhi := HI2.hi
    have hdet := HI2.det
    by_cases h4 : (p + r) * D ≤ N * (q + s)
    · have hv0 : v3 ≤ 0 := by rw [← hv3]; exact cmpI_le.2 (by exact_mod_cast h4)
      have HS := Lib.hid (show nbF N D n g (p + r) (q + s) r s = (a, b, c, d) by
        rw [← HF.out]
        rw [nbF, nbStep, if_neg h1, if_neg h2, if_neg h3, if_pos h4])
      have HN := Lib.hid (show NbI N D n (p + r) (q + s) r s from ⟨by omega, hd1, by omega, hdn, by omega, hcd, h4, hhi, by rw [Nat.mul_add, Nat.add_mul]; omega⟩)
      clear hv3 h2 h1 HF h3 h4 HI2 hlo hhi hdet
      obtain ⟨e20, e21, f20, f21⟩ := two_cell n42
      obtain ⟨s1, s2⟩ := two_set n42 (.int .i64 ((p : Int) + r)) (.int .i64 ((q : Int) + s))
      have o0 := (s2.block _ (Array.getElem?_eq_some_iff.1 n40).1 (fun e => by injection e; omega)).trans n40
      have o1 := (s2.block _ (Array.getElem?_eq_some_iff.1 n41).1 (fun e => by injection e; omega)).trans n41
      have o3 := (s2.block _ (Array.getElem?_eq_some_iff.1 n43).1 (fun e => by injection e; omega)).trans n43
      have bf1 := B4.grown s2 B4.size (fun j e => by cases e; omega)
      go_wp2
      go_roundg g
      case rel => exact ⟨p + r, q + s, r, s, HS.out, by omega, by omega, HN.out, o0, o1, (by push_cast; exact s1), o3, bf1⟩
      case measure => omega
    · have hv0 : ¬ v3 ≤ 0 := by rw [← hv3]; exact fun h => h4 (by exact_mod_cast cmpI_le.1 h)
      have HS := Lib.hid (show nbF N D n g p q (p + r) (q + s) = (a, b, c, d) by
        rw [← HF.out]
        rw [nbF, nbStep, if_neg h1, if_neg h2, if_neg h3, if_neg h4])
      have HN := Lib.hid (show NbI N D n p q (p + r) (q + s) from ⟨hb1, by omega, hbn, by omega, hab, by omega, hlo, by omega, by rw [Nat.mul_add, Nat.add_mul]; omega⟩)
      clear hv3 h2 h1 HF h3 h4 HI2 hlo hhi hdet
      obtain ⟨e30, e31, f30, f31⟩ := two_cell n43
      obtain ⟨s1, s2⟩ := two_set n43 (.int .i64 ((p : Int) + r)) (.int .i64 ((q : Int) + s))
      have o0 := (s2.block _ (Array.getElem?_eq_some_iff.1 n40).1 (fun e => by injection e; omega)).trans n40
      have o1 := (s2.block _ (Array.getElem?_eq_some_iff.1 n41).1 (fun e => by injection e; omega)).trans n41
      have o2 := (s2.block _ (Array.getElem?_eq_some_iff.1 n42).1 (fun e => by injection e; omega)).trans n42
      have bf1 := B4.grown s2 B4.size (fun j e => by cases e; omega)
      go_wp2
      go_roundg g
      case rel => exact ⟨p, q, p + r, q + s, HS.out, by omega, by omega, HN.out, o0, o1, o2, (by push_cast; exact s1), bf1⟩
      case measure => omega
end Go.Proofs.YtfmfpnnglogkmaaGreatDoor

/- checkRatio, checkTarget, Share, Exact and Neighbours of taper at all arguments. -/
namespace Go.Proofs.YtfmfpnnglogkmaaGreatDoor
open Go.RowKit Ck

def rat0 (a b : Int) : Int := firstE [rngE a 0 999999999, rngE b 1 999999999]
def ratE (a b : Int) : Int := if rat0 a b = 0 then (if 1 < a.toNat.gcd b.toNat then 1 else 0) else rat0 a b
theorem rat0_zero {a b : Int} (h : rat0 a b = 0) : 0 ≤ a ∧ a ≤ 999999999 ∧ 1 ≤ b ∧ b ≤ 999999999 := by
  unfold rat0 rngE at h
  simp only [firstE] at h
  repeat' split at h
  all_goals first | (cases h; done) | omega | (exact absurd rfl (by assumption))
theorem ratE_zero {a b : Int} (h : ratE a b = 0) : ∃ P D : Nat, a = P ∧ b = D ∧ P ≤ 999999999 ∧ 1 ≤ D ∧ D ≤ 999999999 ∧ P.gcd D = 1 := by
  unfold ratE at h
  split at h
  · rename_i h0
    obtain ⟨h1, h2, h3, h4⟩ := rat0_zero h0
    split at h
    · cases h
    · rename_i hg
      refine ⟨a.toNat, b.toNat, by omega, by omega, by omega, by omega, by omega, ?_⟩
      have : 0 < a.toNat.gcd b.toNat := Nat.gcd_pos_of_pos_right _ (by omega)
      omega
  · exact absurd h (by assumption)
set_option maxHeartbeats 2000000 in
set_option maxRecDepth 100000 in
theorem tpCheckRatioE (a b : Int) (w : World) :
    Calls Tryz.prog 69 #[.agg #[.int .i64 a, .int .i64 b]] w fun e w' => e = .returned (.int .i64 (ratE a b)) ∧ Below w.heap.size w w' := by
  obtain ⟨w1, hw1, h0, hb1, hz1⟩ := boxH2 w (.int .i64 a) (.int .i64 b) 23
  obtain ⟨p0, p1, -, -⟩ := two_cell h0
  have HW1 := Lib.hid hw1
  have HE0 := Lib.hid (show firstE [rngE a 0 999999999, rngE b 1 999999999] = rat0 a b from rfl)
  have HE := Lib.hid (show ratE a b = if rat0 a b = 0 then (if 1 < a.toNat.gcd b.toNat then 1 else 0) else rat0 a b from rfl)
  clear hw1
  by_cases hz : rat0 a b = 0
  · have HZ := Lib.hid hz
    obtain ⟨g1, g2, g3, g4⟩ := rat0_zero hz
    rw [if_pos hz] at HE
    obtain ⟨P, rfl⟩ : ∃ P : Nat, a = (P : Int) := ⟨a.toNat, by omega⟩
    obtain ⟨D, rfl⟩ : ∃ D : Nat, b = (D : Int) := ⟨b.toNat, by omega⟩
    rw [Int.toNat_natCast, Int.toNat_natCast] at HE
    obtain ⟨g, hg⟩ : ∃ g, P.gcd D = g := ⟨_, rfl⟩
    have HG := Lib.hid hg
    rw [hg] at HE
    rw [HE.out]
    clear hz hg HE
    by_cases hg1 : 1 < g
    · have hgi : (1 : Int) < (g : Int) := by omega
      rw [if_pos hg1]
      go_enter Tryz.func69, Tryz.ntmps69
      go_wp2_with fail
      rw [← HW1.out]
      go_wp2_with fail
      refine wp_region_still_tail 6 (by kernel_rfl) (by kernel_rfl) ?_
      simp only [List.take_succ_cons, List.take_zero, List.drop_succ_cons, List.drop_zero]
      still_step
      still_step
      still_call (Calls.mono (tpRng _ _ _ _) fun _ _ h => ⟨h.1, h.2.symm⟩)
      still_step
      still_step
      still_call (Calls.mono (tpRng _ _ _ _) fun _ _ h => ⟨h.1, h.2.symm⟩)
      refine wpStill_nil ?_
      change wpList _ _ _ _ _ w1.drew
      go_wp2_with fail
      refine (tpFirst2 _ _ _ _ 30 _ (by exact heap_alloc_new _ _)).mono ?_
      rintro e w3 ⟨rfl, rfl⟩
      rw [HE0.out, HZ.out]
      obtain ⟨w4, hw4, hb4, e0, e1⟩ : ∃ w4, w4 = (w1.alloc (.cells #[.int .i64 (rngE P 0 999999999), .int .i64 (rngE D 1 999999999)] 30)).drew ∧ Below w1.heap.size w1 w4 ∧ w4.cell? ⟨w.heap.size, 0, none⟩ = some (.int .i64 P) ∧ w4.cell? ⟨w.heap.size, 1, none⟩ = some (.int .i64 D) := by
        have hb : Below w1.heap.size w1 (w1.alloc (.cells #[.int .i64 (rngE P 0 999999999), .int .i64 (rngE D 1 999999999)] 30)).drew := below_drew ((Below.refl _ _).alloc (Nat.le_refl _) _)
        exact ⟨_, rfl, hb, (hb.cell (p := ⟨w.heap.size, 0, none⟩) hz1).trans p0, (hb.cell (p := ⟨w.heap.size, 1, none⟩) hz1).trans p1⟩
      rw [← hw4]
      clear hw4
      go_wp2_with fail
      refine (tpDivisor P D _ (by omega) (by omega)).mono ?_
      rintro e w5 ⟨rfl, hb5⟩
      rw [HG.out]
      go_wp2
      go_ret
      have hb14 := hb1.trans (hb4.mono hb1.size)
      exact ⟨rfl, hb14.trans (hb5.mono hb14.size)⟩
    · have hgi : ¬ (1 : Int) < (g : Int) := by omega
      rw [if_neg hg1]
      go_enter Tryz.func69, Tryz.ntmps69
      go_wp2_with fail
      rw [← HW1.out]
      go_wp2_with fail
      refine wp_region_still_tail 6 (by kernel_rfl) (by kernel_rfl) ?_
      simp only [List.take_succ_cons, List.take_zero, List.drop_succ_cons, List.drop_zero]
      still_step
      still_step
      still_call (Calls.mono (tpRng _ _ _ _) fun _ _ h => ⟨h.1, h.2.symm⟩)
      still_step
      still_step
      still_call (Calls.mono (tpRng _ _ _ _) fun _ _ h => ⟨h.1, h.2.symm⟩)
      refine wpStill_nil ?_
      change wpList _ _ _ _ _ w1.drew
      go_wp2_with fail
      refine (tpFirst2 _ _ _ _ 30 _ (by exact heap_alloc_new _ _)).mono ?_
      rintro e w3 ⟨rfl, rfl⟩
      rw [HE0.out, HZ.out]
      obtain ⟨w4, hw4, hb4, e0, e1⟩ : ∃ w4, w4 = (w1.alloc (.cells #[.int .i64 (rngE P 0 999999999), .int .i64 (rngE D 1 999999999)] 30)).drew ∧ Below w1.heap.size w1 w4 ∧ w4.cell? ⟨w.heap.size, 0, none⟩ = some (.int .i64 P) ∧ w4.cell? ⟨w.heap.size, 1, none⟩ = some (.int .i64 D) := by
        have hb : Below w1.heap.size w1 (w1.alloc (.cells #[.int .i64 (rngE P 0 999999999), .int .i64 (rngE D 1 999999999)] 30)).drew := below_drew ((Below.refl _ _).alloc (Nat.le_refl _) _)
        exact ⟨_, rfl, hb, (hb.cell (p := ⟨w.heap.size, 0, none⟩) hz1).trans p0, (hb.cell (p := ⟨w.heap.size, 1, none⟩) hz1).trans p1⟩
      rw [← hw4]
      clear hw4
      go_wp2_with fail
      refine (tpDivisor P D _ (by omega) (by omega)).mono ?_
      rintro e w5 ⟨rfl, hb5⟩
      rw [HG.out]
      go_wp2
      go_ret
      have hb14 := hb1.trans (hb4.mono hb1.size)
      exact ⟨rfl, hb14.trans (hb5.mono hb14.size)⟩
  · rw [if_neg hz] at HE
    rw [HE.out]
    obtain ⟨E, hE⟩ : ∃ E, rat0 a b = E := ⟨_, rfl⟩
    rw [hE] at hz HE0 ⊢
    have hne := neE hz
    clear hE HE hz
    go_enter Tryz.func69, Tryz.ntmps69
    go_wp2_with fail
    rw [← HW1.out]
    go_wp2_with fail
    refine wp_region_still_tail 6 (by kernel_rfl) (by kernel_rfl) ?_
    simp only [List.take_succ_cons, List.take_zero, List.drop_succ_cons, List.drop_zero]
    still_step
    still_step
    still_call (Calls.mono (tpRng _ _ _ _) fun _ _ h => ⟨h.1, h.2.symm⟩)
    still_step
    still_step
    still_call (Calls.mono (tpRng _ _ _ _) fun _ _ h => ⟨h.1, h.2.symm⟩)
    refine wpStill_nil ?_
    change wpList _ _ _ _ _ w1.drew
    go_wp2_with fail
    refine (tpFirst2 _ _ _ _ 30 _ (by exact heap_alloc_new _ _)).mono ?_
    rintro e w3 ⟨rfl, rfl⟩
    rw [HE0.out]
    go_wp2
    go_ret
    exact ⟨rfl, below_drew (hb1.alloc hb1.size _)⟩
def tgtE (a b n : Int) : Int := firstE [ratE a b, rngE n 1 64]
set_option maxHeartbeats 2000000 in
set_option maxRecDepth 100000 in
theorem tpCheckTarget (a b n : Int) (w : World) :
    Calls Tryz.prog 43 #[.agg #[.int .i64 a, .int .i64 b], .int .i64 n] w fun e w' => e = .returned (.int .i64 (tgtE a b n)) ∧ Below w.heap.size w w' := by
  obtain ⟨w1, hw1, h0, hb1, hz1⟩ := boxH2 w (.int .i64 a) (.int .i64 b) 23
  obtain ⟨p0, p1, -, -⟩ := two_cell h0
  have HW1 := Lib.hid hw1
  have HE := Lib.hid (show firstE [ratE a b, rngE n 1 64] = tgtE a b n from rfl)
  clear hw1 h0
  go_enter Tryz.func43, Tryz.ntmps43
  go_wp2_with fail
  rw [← HW1.out]
  go_wp2_with fail
  refine (tpCheckRatioE a b _).mono ?_
  rintro e w2 ⟨rfl, hb2⟩
  have B2 := hb1.trans (hb2.mono hb1.size)
  go_wp2_with fail
  refine (tpRng _ _ _ _).mono ?_
  rintro e w3 ⟨rfl, rfl⟩
  go_wp2_with fail
  refine (tpFirst2 _ _ _ _ 30 _ (by exact heap_alloc_new _ _)).mono ?_
  rintro e w4 ⟨rfl, rfl⟩
  rw [HE.out]
  go_wp2
  go_ret
  exact ⟨rfl, B2.alloc B2.size _⟩
end Go.Proofs.YtfmfpnnglogkmaaGreatDoor

/- Share, Exact and Neighbours of taper at all arguments. -/
namespace Go.Proofs.YtfmfpnnglogkmaaGreatDoor
open Go.RowKit Ck

theorem shareL_pos {P D : Nat} (hD : 1 ≤ D) : 1 ≤ shareL P D ∧ shareL P D ≤ P + D ∧ shareB P D ≤ shareL P D := shareL_le hD
set_option maxHeartbeats 2000000 in
set_option maxRecDepth 100000 in
theorem tpShareOk (P D : Nat) (w : World) (h : ratE (P : Int) (D : Int) = 0) (hm : shareL P D ≤ 999999999) :
    Calls Tryz.prog 42 #[.agg #[.int .i64 P, .int .i64 D]] w fun e w' => e = .returned (.tuple #[.agg #[.int .i64 (shareB P D), .int .i64 (shareL P D)], .int .i64 0]) ∧ Below w.heap.size w w' := by
  obtain ⟨P', D', hP, hD, g1, g2, g3, g4⟩ := ratE_zero h
  have eP : P' = P := by omega
  have eD : D' = D := by omega
  rw [eP] at g1
  rw [eD] at g2 g3
  have HE := Lib.hid h
  obtain ⟨s1, s2, s3⟩ := shareL_pos (P := P) g2
  obtain ⟨B, hB⟩ : ∃ B, shareB P D = B := ⟨_, rfl⟩
  obtain ⟨L, hL⟩ : ∃ L, shareL P D = L := ⟨_, rfl⟩
  rw [hB] at s3
  rw [hL] at s1 s2 s3 hm
  have HB := Lib.hid hB
  have HL := Lib.hid hL
  obtain ⟨w1, hw1, h0, h1, hb1, hz1⟩ := boxH22 w (.int .i64 P) (.int .i64 D) (.int .i64 0) (.int .i64 0) 23 23
  have HW1 := Lib.hid hw1
  obtain ⟨p0, p1, -, -⟩ := two_cell h0
  rw [hB, hL]
  clear hw1 h hP hD eP eD hB hL
  go_enter Tryz.func42, Tryz.ntmps42
  go_wp2_with fail
  rw [← HW1.out]
  go_wp2_with fail
  refine (tpCheckRatioE _ _ _).mono ?_
  rintro e w2 ⟨rfl, hb2⟩
  rw [HE.out]
  have k0 := (hb2.block _ (Array.getElem?_eq_some_iff.1 h0).1).trans h0
  have k1 := (hb2.block _ (Array.getElem?_eq_some_iff.1 h1).1).trans h1
  have B2 := hb1.trans (hb2.mono hb1.size)
  clear p0 p1 h0 h1 hb1 hb2
  obtain ⟨p0, p1, -, -⟩ := two_cell k0
  go_wp2_with fail
  refine (tpShareOf P D _ g2 (by omega) (by omega)).mono ?_
  rintro e w3 ⟨rfl, hb3⟩
  rw [HB.out, HL.out]
  have m1 := (hb3.block _ (Array.getElem?_eq_some_iff.1 k1).1).trans k1
  have B3 := B2.trans (hb3.mono B2.size)
  clear p0 p1 k0 k1 hb3
  obtain ⟨w4, hw4, n2, hb4, hz4⟩ := boxH2 w3 (.int .i64 B) (.int .i64 L) 23
  have HW4 := Lib.hid hw4
  have n1 := (hb4.block _ (Array.getElem?_eq_some_iff.1 m1).1).trans m1
  have B4 := B3.trans (hb4.mono B3.size)
  obtain ⟨q0, q1, -, -⟩ := two_cell n2
  obtain ⟨r0, r1, r2, r3⟩ := two_cell n1
  obtain ⟨s5, s6⟩ := two_set n1 (.int .i64 B) (.int .i64 L)
  obtain ⟨t0, t1, -, -⟩ := two_cell s5
  have hbf := B4.grown s6 B4.size (fun j e => by cases e; omega)
  have hmx : ¬ (999999999 : Int) < max (B : Int) (L : Int) := by omega
  have hmx2 : max (B : Int) (L : Int) = (L : Int) := by omega
  have hmi : (L : Int) ≤ 999999999 := by omega
  have hw4' := hw4.symm
  clear hw4 m1 n1 n2 s5 s6 hb4 hz4 B3
  go_wp2
  exact bodyPost_ret (v := .tuple #[.agg #[.int .i64 B, .int .i64 L], .int .i64 0]) (by simp [results, Tryz.results42, go_sem, t0, t1]) rfl ⟨rfl, hbf⟩
set_option maxHeartbeats 2000000 in
set_option maxRecDepth 100000 in
theorem tpShareBig (P D : Nat) (w : World) (h : ratE (P : Int) (D : Int) = 0) (hm : 999999999 < shareL P D) :
    Calls Tryz.prog 42 #[.agg #[.int .i64 P, .int .i64 D]] w fun e w' => e = .returned (.tuple #[.agg #[.int .i64 0, .int .i64 0], .int .i64 4]) ∧ Below w.heap.size w w' := by
  obtain ⟨P', D', hP, hD, g1, g2, g3, g4⟩ := ratE_zero h
  have eP : P' = P := by omega
  have eD : D' = D := by omega
  rw [eP] at g1
  rw [eD] at g2 g3
  have HE := Lib.hid h
  obtain ⟨s1, s2, s3⟩ := shareL_pos (P := P) g2
  obtain ⟨B, hB⟩ : ∃ B, shareB P D = B := ⟨_, rfl⟩
  obtain ⟨L, hL⟩ : ∃ L, shareL P D = L := ⟨_, rfl⟩
  rw [hB] at s3
  rw [hL] at s1 s2 s3 hm
  have HB := Lib.hid hB
  have HL := Lib.hid hL
  obtain ⟨w1, hw1, h0, h1, hb1, hz1⟩ := boxH22 w (.int .i64 P) (.int .i64 D) (.int .i64 0) (.int .i64 0) 23 23
  have HW1 := Lib.hid hw1
  obtain ⟨p0, p1, -, -⟩ := two_cell h0
  clear hw1 h hP hD eP eD hB hL
  go_enter Tryz.func42, Tryz.ntmps42
  go_wp2_with fail
  rw [← HW1.out]
  go_wp2_with fail
  refine (tpCheckRatioE _ _ _).mono ?_
  rintro e w2 ⟨rfl, hb2⟩
  rw [HE.out]
  have k0 := (hb2.block _ (Array.getElem?_eq_some_iff.1 h0).1).trans h0
  have k1 := (hb2.block _ (Array.getElem?_eq_some_iff.1 h1).1).trans h1
  have B2 := hb1.trans (hb2.mono hb1.size)
  clear p0 p1 h0 h1 hb1 hb2
  obtain ⟨p0, p1, -, -⟩ := two_cell k0
  go_wp2_with fail
  refine (tpShareOf P D _ g2 (by omega) (by omega)).mono ?_
  rintro e w3 ⟨rfl, hb3⟩
  rw [HB.out, HL.out]
  have m1 := (hb3.block _ (Array.getElem?_eq_some_iff.1 k1).1).trans k1
  have B3 := B2.trans (hb3.mono B2.size)
  clear p0 p1 k0 k1 hb3
  obtain ⟨w4, hw4, n2, hb4, hz4⟩ := boxH2 w3 (.int .i64 B) (.int .i64 L) 23
  have HW4 := Lib.hid hw4
  have n1 := (hb4.block _ (Array.getElem?_eq_some_iff.1 m1).1).trans m1
  have B4 := B3.trans (hb4.mono B3.size)
  obtain ⟨q0, q1, -, -⟩ := two_cell n2
  obtain ⟨r0, r1, r2, r3⟩ := two_cell n1
  obtain ⟨s5, s6⟩ := two_set n1 (.int .i64 0) (.int .i64 0)
  obtain ⟨t0, t1, -, -⟩ := two_cell s5
  have hbf := B4.grown s6 B4.size (fun j e => by cases e; omega)
  have hmx : (999999999 : Int) < max (B : Int) (L : Int) := by omega
  have hmx2 : max (B : Int) (L : Int) = (L : Int) := by omega
  have hmi : (999999999 : Int) < (L : Int) := by omega
  have hw4' := hw4.symm
  clear hw4 m1 n1 n2 s5 s6 hb4 hz4 B3
  go_wp2
  exact bodyPost_ret (v := .tuple #[.agg #[.int .i64 0, .int .i64 0], .int .i64 4]) (by simp [results, Tryz.results42, go_sem, t0, t1]) rfl ⟨rfl, hbf⟩
set_option maxHeartbeats 2000000 in
set_option maxRecDepth 100000 in
theorem tpShareNo (a b E : Int) (w : World) (hE : ratE a b = E) (h0 : E ≠ 0) :
    Calls Tryz.prog 42 #[.agg #[.int .i64 a, .int .i64 b]] w fun e w' => e = .returned (.tuple #[.agg #[.int .i64 0, .int .i64 0], .int .i64 E]) ∧ Below w.heap.size w w' := by
  have HE := Lib.hid hE
  have hne := neE h0
  obtain ⟨w1, hw1, k0, k1, hb1, hz1⟩ := boxH22 w (.int .i64 a) (.int .i64 b) (.int .i64 0) (.int .i64 0) 23 23
  have HW1 := Lib.hid hw1
  obtain ⟨p0, p1, -, -⟩ := two_cell k0
  clear hw1 hE h0
  go_enter Tryz.func42, Tryz.ntmps42
  go_wp2_with fail
  rw [← HW1.out]
  go_wp2_with fail
  refine (tpCheckRatioE _ _ _).mono ?_
  rintro e w2 ⟨rfl, hb2⟩
  rw [HE.out]
  have n1 := (hb2.block _ (Array.getElem?_eq_some_iff.1 k1).1).trans k1
  have B2 := hb1.trans (hb2.mono hb1.size)
  obtain ⟨r0, r1, r2, r3⟩ := two_cell n1
  obtain ⟨s5, s6⟩ := two_set n1 (.int .i64 0) (.int .i64 0)
  obtain ⟨t0, t1, -, -⟩ := two_cell s5
  have hbf := B2.grown s6 B2.size (fun j e => by cases e; omega)
  clear k0 k1 p0 p1 hb1 hb2 n1 s5 s6
  go_wp2
  exact bodyPost_ret (v := .tuple #[.agg #[.int .i64 0, .int .i64 0], .int .i64 E]) (by simp [results, Tryz.results42, go_sem, t0, t1]) rfl ⟨rfl, hbf⟩
/-! ### Exact -/
set_option maxHeartbeats 2000000 in
set_option maxRecDepth 100000 in
theorem tpExactNo (a b E : Int) (w : World) (hE : ratE a b = E) (h0 : E ≠ 0) :
    Calls Tryz.prog 32 #[.agg #[.int .i64 a, .int .i64 b]] w fun e w' => e = .returned (.tuple #[.string ⟨#[]⟩, .int .i64 E]) ∧ Below w.heap.size w w' := by
  have HE := Lib.hid hE
  have hne := neE h0
  obtain ⟨w1, hw1, k0, hb1, hz1⟩ := boxH2 w (.int .i64 a) (.int .i64 b) 23
  have HW1 := Lib.hid hw1
  obtain ⟨p0, p1, -, -⟩ := two_cell k0
  clear hw1 hE h0 k0
  go_enter Tryz.func32, Tryz.ntmps32
  go_wp2_with fail
  rw [← HW1.out]
  go_wp2_with fail
  refine (tpCheckRatioE _ _ _).mono ?_
  rintro e w2 ⟨rfl, hb2⟩
  rw [HE.out]
  go_wp2
  go_ret2
  exact ⟨rfl, hb1.trans (hb2.mono hb1.size)⟩
set_option maxHeartbeats 2000000 in
set_option maxRecDepth 100000 in
theorem tpExactOk (P D : Nat) (w : World) (h : ratE (P : Int) (D : Int) = 0) (hm : shareL P D ≤ 64) :
    Calls Tryz.prog 32 #[.agg #[.int .i64 P, .int .i64 D]] w fun e w' => e = .returned (.tuple #[.string (slB P D), .int .i64 0]) ∧ Below w.heap.size w w' := by
  obtain ⟨P', D', hP, hD, g1, g2, g3, g4⟩ := ratE_zero h
  have eP : P' = P := by omega
  have eD : D' = D := by omega
  rw [eP] at g1
  rw [eD] at g2 g3
  have HE := Lib.hid h
  obtain ⟨s1, s2, l3⟩ := shareL_pos (P := P) g2
  obtain ⟨w1, hw1, p0, p1, hb1, hz1⟩ := box2 w (.int .i64 P) (.int .i64 D) 23
  have HW1 := Lib.hid hw1
  have HSW := Lib.hid (show (⟨(spreadL [66] (shareB P D) [otherC P D] (shareL P D - shareB P D) (shareL P D)).toArray⟩ : ByteArray) = slB P D from rfl)
  obtain ⟨B, hB⟩ : ∃ B, shareB P D = B := ⟨_, rfl⟩
  obtain ⟨L, hL⟩ : ∃ L, shareL P D = L := ⟨_, rfl⟩
  rw [hB, hL] at HSW
  rw [hB] at l3
  rw [hL] at s1 s2 l3 hm
  have HB := Lib.hid hB
  have HL := Lib.hid hL
  clear hw1 h hP hD eP eD hB hL
  go_enter Tryz.func32, Tryz.ntmps32
  go_wp2_with fail
  rw [← HW1.out]
  go_wp2_with fail
  refine (tpCheckRatioE _ _ _).mono ?_
  rintro e w2 ⟨rfl, hb2⟩
  rw [HE.out]
  have p2 := (hb2.cell (p := ⟨w.heap.size, 0, none⟩) hz1).trans p0
  have p3 := (hb2.cell (p := ⟨w.heap.size, 1, none⟩) hz1).trans p1
  have hz2 := hb2.size
  have b2 := hb1.trans (hb2.mono hb1.size)
  go_wp2_with fail
  refine (tpShareOf P D _ g2 (by omega) (by omega)).mono ?_
  rintro e w3 ⟨rfl, hb3⟩
  rw [HB.out, HL.out]
  have p4 := (hb3.cell (p := ⟨w.heap.size, 0, none⟩) (by show w.heap.size < _; omega)).trans p2
  have p5 := (hb3.cell (p := ⟨w.heap.size, 1, none⟩) (by show w.heap.size < _; omega)).trans p3
  have hz3 := hb3.size
  have b3 := b2.trans (hb3.mono b2.size)
  clear p0 p1 p2 p3
  obtain ⟨w4, hw4, q0, q1, hb4, hz4⟩ := box2 w3 (.int .i64 B) (.int .i64 L) 23
  have p6 := (hb4.cell (p := ⟨w.heap.size, 0, none⟩) (by show w.heap.size < _; omega)).trans p4
  have p7 := (hb4.cell (p := ⟨w.heap.size, 1, none⟩) (by show w.heap.size < _; omega)).trans p5
  have HW4 := Lib.hid hw4
  have hL64 : (L : Int) ≤ 64 := by omega
  have b4 := b3.trans (hb4.mono b3.size)
  clear hw4 p4 p5
  go_wp2_with fail
  rw [← HW4.out]
  go_wp2_with fail
  refine (tpCheckLength _ _ hL64).mono ?_
  rintro e w5 ⟨rfl, rfl⟩
  go_wp2_with fail
  refine (tpSpreadWord P D B L _ l3 (by omega) (by omega) (by omega)).mono ?_
  rintro e w6 ⟨rfl, hb6⟩
  rw [HSW.out]
  go_wp2
  go_ret2
  exact ⟨rfl, b4.trans (hb6.mono b4.size)⟩
set_option maxHeartbeats 2000000 in
set_option maxRecDepth 100000 in
theorem tpExactLong (P D : Nat) (w : World) (h : ratE (P : Int) (D : Int) = 0) (hm : 64 < shareL P D) :
    Calls Tryz.prog 32 #[.agg #[.int .i64 P, .int .i64 D]] w fun e w' => e = .returned (.tuple #[.string ⟨#[]⟩, .int .i64 26]) ∧ Below w.heap.size w w' := by
  obtain ⟨P', D', hP, hD, g1, g2, g3, g4⟩ := ratE_zero h
  have eP : P' = P := by omega
  have eD : D' = D := by omega
  rw [eP] at g1
  rw [eD] at g2 g3
  have HE := Lib.hid h
  obtain ⟨s1, s2, l3⟩ := shareL_pos (P := P) g2
  obtain ⟨w1, hw1, p0, p1, hb1, hz1⟩ := box2 w (.int .i64 P) (.int .i64 D) 23
  have HW1 := Lib.hid hw1
  obtain ⟨B, hB⟩ : ∃ B, shareB P D = B := ⟨_, rfl⟩
  obtain ⟨L, hL⟩ : ∃ L, shareL P D = L := ⟨_, rfl⟩
  rw [hB] at l3
  rw [hL] at s1 s2 l3 hm
  have HB := Lib.hid hB
  have HL := Lib.hid hL
  have HLE := Lib.hid (show lenE (L : Int) = 26 by rw [lenE, if_pos]; omega)
  clear hw1 h hP hD eP eD hB hL
  go_enter Tryz.func32, Tryz.ntmps32
  go_wp2_with fail
  rw [← HW1.out]
  go_wp2_with fail
  refine (tpCheckRatioE _ _ _).mono ?_
  rintro e w2 ⟨rfl, hb2⟩
  rw [HE.out]
  have p2 := (hb2.cell (p := ⟨w.heap.size, 0, none⟩) hz1).trans p0
  have p3 := (hb2.cell (p := ⟨w.heap.size, 1, none⟩) hz1).trans p1
  have b2 := hb1.trans (hb2.mono hb1.size)
  go_wp2_with fail
  refine (tpShareOf P D _ g2 (by omega) (by omega)).mono ?_
  rintro e w3 ⟨rfl, hb3⟩
  rw [HB.out, HL.out]
  have b3 := b2.trans (hb3.mono b2.size)
  clear p0 p1 p2 p3
  obtain ⟨w4, hw4, q0, q1, hb4, hz4⟩ := box2 w3 (.int .i64 B) (.int .i64 L) 23
  have HW4 := Lib.hid hw4
  have b4 := b3.trans (hb4.mono b3.size)
  clear hw4
  go_wp2_with fail
  rw [← HW4.out]
  go_wp2_with fail
  refine (tpCheckLengthE _ _).mono ?_
  rintro e w5 ⟨rfl, rfl⟩
  rw [HLE.out]
  go_wp2
  go_ret2
  exact ⟨rfl, b4⟩
/-! ### Neighbours -/
theorem share_le {P D : Nat} (hD : 1 ≤ D) : shareB P D ≤ shareL P D := (shareL_pos hD).2.2
set_option maxHeartbeats 2000000 in
set_option maxRecDepth 100000 in
theorem tpNeighbours (P D n a b c d : Nat) (w : World) (h : ratE (P : Int) (D : Int) = 0) (hn : 1 ≤ n) (hn2 : n ≤ 64) (hR : nbF (shareB P D) (shareL P D) n n 0 1 1 1 = (a, b, c, d)) :
    Calls Tryz.prog 8 #[.agg #[.int .i64 P, .int .i64 D], .int .i64 n] w fun e w' => e = .returned (.tuple #[.agg #[.int .i64 a, .int .i64 b, .int .i64 c, .int .i64 d], .int .i64 0]) ∧ Below w.heap.size w w' := by
  obtain ⟨P', D', hP, hD, g1, g2, g3, g4⟩ := ratE_zero h
  have eP : P' = P := by omega
  have eD : D' = D := by omega
  rw [eP] at g1
  rw [eD] at g2 g3
  have HE := Lib.hid (show tgtE (P : Int) (D : Int) (n : Int) = 0 by
    rw [tgtE, h, rngE, if_neg (by omega)]
    rfl)
  obtain ⟨s1, s2, s3⟩ := shareL_pos (P := P) g2
  obtain ⟨B, hB⟩ : ∃ B, shareB P D = B := ⟨_, rfl⟩
  obtain ⟨L, hL⟩ : ∃ L, shareL P D = L := ⟨_, rfl⟩
  rw [hB] at s3
  rw [hL] at s1 s2 s3
  rw [hB, hL] at hR
  have HB := Lib.hid hB
  have HL := Lib.hid hL
  have HR := Lib.hid hR
  obtain ⟨w1, hw1, h0, h1, hb1⟩ : ∃ w1, w1 = (w.alloc (.cells #[.int .i64 P, .int .i64 D] 23)).alloc (.cells #[.int .i64 0, .int .i64 0, .int .i64 0, .int .i64 0] 29) ∧ w1.heap[w.heap.size]? = some (.cells #[.int .i64 P, .int .i64 D] 23 (0, 0)) ∧ w1.heap[w.heap.size + 1]? = some (.cells #[.int .i64 0, .int .i64 0, .int .i64 0, .int .i64 0] 29 (0, 0)) ∧ Below w.heap.size w w1 := by
    refine ⟨_, rfl, ?_, ?_, ((Below.refl _ _).alloc (Nat.le_refl _) _).alloc (by simp) _⟩
    · rw [Below.heap_alloc _ _ _ (by simp)]
      exact heap_alloc_new _ _
    · have := heap_alloc_new (w.alloc (.cells #[.int .i64 P, .int .i64 D] 23)) (.cells #[.int .i64 0, .int .i64 0, .int .i64 0, .int .i64 0] 29)
      rwa [World.size_alloc] at this
  have HW1 := Lib.hid hw1
  obtain ⟨p0, p1, -, -⟩ := two_cell h0
  clear hw1 h hP hD eP eD hB hL hR
  go_enter Tryz.func8, Tryz.ntmps8
  go_wp2_with fail
  rw [← HW1.out]
  go_wp2_with fail
  refine (tpCheckTarget _ _ _ _).mono ?_
  rintro e w2 ⟨rfl, hb2⟩
  rw [HE.out]
  have k0 := (hb2.block _ (Array.getElem?_eq_some_iff.1 h0).1).trans h0
  have k1 := (hb2.block _ (Array.getElem?_eq_some_iff.1 h1).1).trans h1
  have B2 := hb1.trans (hb2.mono hb1.size)
  clear p0 p1 h0 h1 hb1 hb2
  obtain ⟨p0, p1, -, -⟩ := two_cell k0
  go_wp2_with fail
  refine (tpShareOf P D _ g2 (by omega) (by omega)).mono ?_
  rintro e w3 ⟨rfl, hb3⟩
  rw [HB.out, HL.out]
  have m1 := (hb3.block _ (Array.getElem?_eq_some_iff.1 k1).1).trans k1
  have B3 := B2.trans (hb3.mono B2.size)
  clear p0 p1 k0 k1 hb3
  go_wp2_with fail
  refine (tpNeighboursOf B L n a b c d _ s3 (by omega) hn hn2 HR.out).mono ?_
  rintro e w4 ⟨rfl, hb4⟩
  have n1 := (hb4.block _ (Array.getElem?_eq_some_iff.1 m1).1).trans m1
  have B4 := B3.trans (hb4.mono B3.size)
  obtain ⟨⟨r0, r1, r2, r3⟩, f0, f1, f2, f3⟩ := four_cell n1
  obtain ⟨s5, s6⟩ := four_set n1 (.int .i64 a) (.int .i64 b) (.int .i64 c) (.int .i64 d)
  obtain ⟨⟨t0, t1, t2, t3⟩, -, -, -, -⟩ := four_cell s5
  have hbf := B4.grown s6 B4.size (fun j e => by cases e; omega)
  clear m1 n1 s5 s6 hb4
  go_wp2
  exact bodyPost_ret (v := .tuple #[.agg #[.int .i64 a, .int .i64 b, .int .i64 c, .int .i64 d], .int .i64 0]) (by simp [results, Tryz.results8, go_sem, t0, t1, t2, t3]) rfl ⟨rfl, hbf⟩
set_option maxHeartbeats 2000000 in
set_option maxRecDepth 100000 in
theorem tpNeighboursNo (x y n E : Int) (w : World) (hE : tgtE x y n = E) (hz : E ≠ 0) :
    Calls Tryz.prog 8 #[.agg #[.int .i64 x, .int .i64 y], .int .i64 n] w fun e w' => e = .returned (.tuple #[.agg #[.int .i64 0, .int .i64 0, .int .i64 0, .int .i64 0], .int .i64 E]) ∧ Below w.heap.size w w' := by
  have HE := Lib.hid hE
  have hne := neE hz
  obtain ⟨w1, hw1, h0, h1, hb1⟩ : ∃ w1, w1 = (w.alloc (.cells #[.int .i64 x, .int .i64 y] 23)).alloc (.cells #[.int .i64 0, .int .i64 0, .int .i64 0, .int .i64 0] 29) ∧ w1.heap[w.heap.size]? = some (.cells #[.int .i64 x, .int .i64 y] 23 (0, 0)) ∧ w1.heap[w.heap.size + 1]? = some (.cells #[.int .i64 0, .int .i64 0, .int .i64 0, .int .i64 0] 29 (0, 0)) ∧ Below w.heap.size w w1 := by
    refine ⟨_, rfl, ?_, ?_, ((Below.refl _ _).alloc (Nat.le_refl _) _).alloc (by simp) _⟩
    · rw [Below.heap_alloc _ _ _ (by simp)]
      exact heap_alloc_new _ _
    · have := heap_alloc_new (w.alloc (.cells #[.int .i64 x, .int .i64 y] 23)) (.cells #[.int .i64 0, .int .i64 0, .int .i64 0, .int .i64 0] 29)
      rwa [World.size_alloc] at this
  have HW1 := Lib.hid hw1
  obtain ⟨p0, p1, -, -⟩ := two_cell h0
  clear hw1 hE hz
  go_enter Tryz.func8, Tryz.ntmps8
  go_wp2_with fail
  rw [← HW1.out]
  go_wp2_with fail
  refine (tpCheckTarget _ _ _ _).mono ?_
  rintro e w2 ⟨rfl, hb2⟩
  rw [HE.out]
  have n1 := (hb2.block _ (Array.getElem?_eq_some_iff.1 h1).1).trans h1
  have B2 := hb1.trans (hb2.mono hb1.size)
  obtain ⟨⟨r0, r1, r2, r3⟩, f0, f1, f2, f3⟩ := four_cell n1
  obtain ⟨s5, s6⟩ := four_set n1 (.int .i64 0) (.int .i64 0) (.int .i64 0) (.int .i64 0)
  obtain ⟨⟨t0, t1, t2, t3⟩, -, -, -, -⟩ := four_cell s5
  have hbf := B2.grown s6 B2.size (fun j e => by cases e; omega)
  clear h0 h1 p0 p1 hb1 hb2 n1 s5 s6
  go_wp2
  exact bodyPost_ret (v := .tuple #[.agg #[.int .i64 0, .int .i64 0, .int .i64 0, .int .i64 0], .int .i64 E]) (by simp [results, Tryz.results8, go_sem, t0, t1, t2, t3]) rfl ⟨rfl, hbf⟩
end Go.Proofs.YtfmfpnnglogkmaaGreatDoor

/- candidates of taper. -/
namespace Go.Proofs.YtfmfpnnglogkmaaGreatDoor
open Go.RowKit Ck

theorem one_newS (w : World) (a : Value) (t : TypeId) : ∀ (j : Nat) (u : Value), [a][j]? = some u → (w.alloc (.cells #[a] t)).cell? ((⟨w.heap.size, 0, none⟩ : Addr).add j) = some u :=
  World.news_of_block (heap_alloc_new _ _)
def nearWord (P D p q : Nat) : ByteArray := ⟨(spreadL [66] p [otherC P D] (q - p) q).toArray⟩
theorem nearWord_word {P D p q : Nat} (hq : 1 ≤ q) (hq2 : q ≤ 64) : Word (nearWord P D p q) := by
  have hl : (spreadL [66] p [otherC P D] (q - p) q).length = q := spreadL_len q
  have hs : (nearWord P D p q).size = q := by show (spreadL [66] p [otherC P D] (q - p) q).toArray.size = q; rw [List.size_toArray, hl]
  refine ⟨fun c hc => ?_, by omega, by omega⟩
  have hm : ∀ k, ∀ c ∈ spreadL [66] p [otherC P D] (q - p) k, isL c := by
    intro k
    induction k with
    | zero => intro c h; simp [spreadL] at h
    | succ k ih =>
      intro c h
      rw [spreadL, List.mem_append] at h
      rcases h with h | h
      · exact ih c h
      · split at h
        · simp at h; subst h; simp [isL]
        · simp at h; subst h; exact otherC_isL P D
  exact hm q c hc
/-- The words of the first parts that have a rate. -/
def candW (P D p q : Nat) : List ByteArray := if rowsB (nearWord P D p q) = true then [nearWord P D p q] else []
def candJ (P D a b c d : Nat) (j : Nat) : List ByteArray := if j = 0 then [] else if j = 1 then candW P D a b else candW P D a b ++ candW P D c d
def scells (l : List ByteArray) : List Value := l.map Value.string
theorem candJ_succ {P D a b c d p q j : Nat} (hj : j < 2) (hp : (j = 0 ∧ p = a ∧ q = b) ∨ (j = 1 ∧ p = c ∧ q = d)) : candJ P D a b c d (j + 1) = candJ P D a b c d j ++ candW P D p q := by
  rcases hp with ⟨rfl, rfl, rfl⟩ | ⟨rfl, rfl, rfl⟩ <;> simp [candJ]
theorem candJ_len (P D a b c d j : Nat) : (candJ P D a b c d j).length ≤ 2 := by
  have h : ∀ p q, (candW P D p q).length ≤ 1 := fun p q => by unfold candW; split <;> simp
  have := h a b
  have := h c d
  unfold candJ
  split
  · simp
  · split
    · omega
    · rw [List.length_append]; omega
theorem part_ix0 (a b c d : Value) (w : World) : (Instr.index 29 (.agg #[a, b, c, d]) (.int .i64 0)).run Tryz.prog w = .ok (.agg #[a, b]) w := by kernel_rfl
theorem part_ix1 (a b c d : Value) (w : World) : (Instr.index 29 (.agg #[a, b, c, d]) (.int .i64 1)).run Tryz.prog w = .ok (.agg #[c, d]) w := by kernel_rfl
theorem infoS : (Tryz.prog.info? 9).map (fun i => (i.zero, i.size, i.bytes)) = some (some (.string ⟨#[]⟩), 1, 16) := by kernel_rfl
/-- What is returned: a slice that reads as these strings, in memory of the call's own. -/
def StrsPost (l : List ByteArray) (w : World) (e : Ending) (w' : World) : Prop := ∃ v, e = .returned v ∧ w'.ownsRow w.heap.size 9 1 v l.length (scells l) ∧ Below w.heap.size w w'
set_option maxHeartbeats 4000000 in
set_option maxRecDepth 100000 in
theorem tpCandidates (P D n a b c d : Nat) (w : World) (hD1 : 1 ≤ D) (hP : P ≤ 999999999) (hD : D ≤ 999999999) (hn : 1 ≤ n) (hn2 : n ≤ 64) (hR : nbF (shareB P D) (shareL P D) n n 0 1 1 1 = (a, b, c, d)) :
    Calls Tryz.prog 48 #[.agg #[.int .i64 P, .int .i64 D], .int .i64 n] w (StrsPost (candJ P D a b c d 2) w) := by
  obtain ⟨s1, s2, s3⟩ := shareL_pos (P := P) hD1
  have hE := nb_end hn s3 hR
  obtain ⟨e1, e2, e3, e4, e5, e6⟩ : 1 ≤ b ∧ 1 ≤ d ∧ b ≤ n ∧ d ≤ n ∧ a ≤ b ∧ c ≤ d := ⟨hE.b1, hE.d1, hE.bn, hE.dn, hE.ab, hE.cd⟩
  obtain ⟨B, hB⟩ : ∃ B, shareB P D = B := ⟨_, rfl⟩
  obtain ⟨L, hL⟩ : ∃ L, shareL P D = L := ⟨_, rfl⟩
  rw [hB] at s3
  rw [hL] at s1 s2 s3
  rw [hB, hL] at hR
  have HB := Lib.hid hB
  have HL := Lib.hid hL
  have HR := Lib.hid hR
  obtain ⟨i0, hi, hz0, hz1, hz2⟩ := info_parts infoS
  have HI := Lib.hid hi
  have HZ0 := Lib.hid hz0
  have HZ1 := Lib.hid hz1
  have HZ2 := Lib.hid hz2
  obtain ⟨w1, hw1, h0, hb1, hz1'⟩ := boxH2 w (.int .i64 P) (.int .i64 D) 23
  have HW1 := Lib.hid hw1
  obtain ⟨p0, p1, -, -⟩ := two_cell h0
  clear hw1 hB hL hR hE hi hz0 hz1 hz2
  go_enter Tryz.func48, Tryz.ntmps48
  go_wp2_with fail
  rw [← HW1.out]
  go_wp2_with fail
  refine (tpShareOf P D _ hD1 (by omega) (by omega)).mono ?_
  rintro e w2 ⟨rfl, hb2⟩
  rw [HB.out, HL.out]
  have k0 := (hb2.block _ (Array.getElem?_eq_some_iff.1 h0).1).trans h0
  have B2 := hb1.trans (hb2.mono hb1.size)
  clear p0 p1 h0 hb1 hb2
  go_wp2_with fail
  refine (tpNeighboursOf B L n a b c d _ s3 (by omega) hn hn2 HR.out).mono ?_
  rintro e w3 ⟨rfl, hb3⟩
  have m0 := (hb3.block _ (Array.getElem?_eq_some_iff.1 k0).1).trans k0
  have B3 := B2.trans (hb3.mono B2.size)
  clear k0 hb3 B2
  go_wp2_with fail
  go_loopg [5, 13] 2 (fun g v j wi => ∃ i : Nat, i ≤ 2 ∧ g = 2 - i ∧ j = .int .i64 i ∧ wi.heap[w.heap.size]? = some (.cells #[.int .i64 P, .int .i64 D] 23 (0, 0)) ∧ Hid (wi.ownsRow w.heap.size 9 1 v (candJ P D a b c d i).length (scells (candJ P D a b c d i))) ∧ Below w.heap.size w wi)
  case atStart => exact ⟨0, by omega, rfl, rfl, m0, Lib.hid (World.ownsRow_nil _ _ _ _), B3⟩
  case round =>
    obtain ⟨i, hi, hg, rfl, hh, hown, hb⟩ := hrel
    clear m0 B3
    by_cases hlt : i < 2
    · obtain ⟨p, q, hpq, hix, q1, q2, q3⟩ : ∃ p q : Nat, ((i = 0 ∧ p = a ∧ q = b) ∨ (i = 1 ∧ p = c ∧ q = d)) ∧ (∀ w, (Instr.index 29 (.agg #[.int .i64 a, .int .i64 b, .int .i64 c, .int .i64 d]) (.int .i64 (i : Int))).run Tryz.prog w = .ok (.agg #[.int .i64 p, .int .i64 q]) w) ∧ 1 ≤ q ∧ q ≤ n ∧ p ≤ q := by
        have : i = 0 ∨ i = 1 := by omega
        rcases this with rfl | rfl
        · exact ⟨a, b, .inl ⟨rfl, rfl, rfl⟩, part_ix0 _ _ _ _, e1, e3, e5⟩
        · exact ⟨c, d, .inr ⟨rfl, rfl, rfl⟩, part_ix1 _ _ _ _, e2, e4, e6⟩
      have HS := Lib.hid (candJ_succ (P := P) (D := D) hlt hpq)
      have HWW := Lib.hid (nearWord_word (P := P) (D := D) (p := p) q1 (by omega))
      have HNW := Lib.hid (show (⟨(spreadL [66] p [otherC P D] (q - p) q).toArray⟩ : ByteArray) = nearWord P D p q from rfl)
      have HCW := Lib.hid (show candW P D p q = if rowsB (nearWord P D p q) = true then [nearWord P D p q] else [] from rfl)
      have hlen := candJ_len P D a b c d i
      obtain ⟨N, hN⟩ : ∃ N, nearWord P D p q = N := ⟨_, rfl⟩
      rw [hN] at HWW HNW HCW
      clear hN hpq
      obtain ⟨w4, hw4, k1, hb4, hz4⟩ := boxH2 wr (.int .i64 p) (.int .i64 q) 28
      have HW4 := Lib.hid hw4
      have k0 := (hb4.block _ (Array.getElem?_eq_some_iff.1 hh).1).trans hh
      have B4 := hb.trans (hb4.mono hb.size)
      have HO4 := Lib.hid (ownsRow_below hown.out hb4)
      obtain ⟨u0, u1, -, -⟩ := two_cell hh
      obtain ⟨c0, c1, -, -⟩ := two_cell k0
      obtain ⟨d0, d1, -, -⟩ := two_cell k1
      have hd2 : decide ((i : Int) < 2) = true := by rw [decide_eq_true_eq]; omega
      have hw4' := hw4.symm
      clear hw4 HW4 hh hown hb hb4 k1
      go_wp2_with fail
      refine (tpSpreadWord P D p q _ q3 (by omega) (by omega) (by omega)).mono ?_
      rintro e w5 ⟨rfl, hb5⟩
      rw [HNW.out]
      have k5 := (hb5.block _ (Array.getElem?_eq_some_iff.1 k0).1).trans k0
      have HO5 := Lib.hid (ownsRow_below HO4.out hb5)
      have B5 := B4.trans (hb5.mono B4.size)
      clear hw4' c0 c1 d0 d1 u0 u1 k0 HO4 hb5 B4
      go_wp2_with fail
      refine (tpHasRate N _ HWW.out).mono ?_
      rintro e w6 ⟨rfl, hb6⟩
      have k6 := (hb6.block _ (Array.getElem?_eq_some_iff.1 k5).1).trans k5
      have HO6 := Lib.hid (ownsRow_below HO5.out hb6)
      have B6 := B5.trans (hb6.mono B5.size)
      have hz6 := B6.size
      clear k5 HO5 hb6 B5
      obtain ⟨r, hr⟩ : ∃ r, rowsB N = r := ⟨_, rfl⟩
      rw [hr] at HCW ⊢
      clear hr
      cases r
      · rw [if_neg (by decide)] at HCW
        have HN := Lib.hid (show candJ P D a b c d (i + 1) = candJ P D a b c d i by rw [HS.out, HCW.out, List.append_nil])
        go_wp2
        go_roundg (1 - i)
        case rel => exact ⟨i + 1, by omega, by omega, by go_num, k6, Lib.hid (by rw [HN.out]; exact HO6.out), B6⟩
        case measure => omega
      · rw [if_pos rfl] at HCW
        have HN := Lib.hid (show candJ P D a b c d (i + 1) = candJ P D a b c d i ++ [N] by rw [HS.out, HCW.out])
        go_wp2_with (at_builtin; refine wpList_append_own _ rfl _ _ 90 rfl w.heap.size 9 i0 (.string ⟨#[]⟩) 1 16 Tryz.underlying90 HI.out HZ0.out HZ1.out HZ2.out rfl (by decide) _ _ _ rfl (HO6.out.alloc _) ⟨w6.heap.size, 0, none⟩ 1 1 [.string N] rfl rfl (one_newS _ _ _) ?c2 ?c3 ?c4 ?c5 ?_)
        case c2 => intro u hu; simp at hu; subst hu; rfl
        case c3 => unfold maxLen; omega
        case c4 => omega
        case c5 => simp; omega
        intro v' w7 hown7 hgrow7 _
        have B7 : Below w.heap.size w w7 := (B6.alloc hz6 (.cells #[.string N] 9)).grown hgrow7 (by simp; omega) (ownsRow_base HO6.out)
        have k7 : w7.heap[w.heap.size]? = some (.cells #[.int .i64 P, .int .i64 D] 23 (0, 0)) := by
          have hne : u5.ownBlock ≠ some w.heap.size := own_block_ne HO6.out k6 (by decide)
          have z6 := (Array.getElem?_eq_some_iff.1 k6).1
          exact (hgrow7.block _ (by simp; omega) (fun h => hne h.symm)).trans ((Below.heap_alloc _ _ _ z6).trans k6)
        have HO7 := Lib.hid hown7
        clear hown7 hgrow7 k6 HO6 B6
        go_wp2
        go_roundg (1 - i)
        case rel => exact ⟨i + 1, by omega, by omega, by go_num, k7, Lib.hid (by rw [HN.out]; unfold scells; rw [List.map_append, List.length_append]; exact HO7.out), B7⟩
        case measure => omega
    · obtain rfl : i = 2 := by omega
      go_wp2
      go_ret
      exact ⟨_, rfl, hown.out, hb⟩
end Go.Proofs.YtfmfpnnglogkmaaGreatDoor

/- gap, compareGaps, cmp.Or, slices.MinFunc and Nearest of taper. -/
namespace Go.Proofs.YtfmfpnnglogkmaaGreatDoor
open Go.RowKit Ck

/-- By how much the rate of a vector differs from a ratio, times both denominators. -/
def gapZ (P D : Nat) (v : Int × Int) : Int := max (v.1 * D - P * v.2) (-(v.1 * D - P * v.2))
theorem gap_bounds {P D : Nat} {x y : Int} (hP : P ≤ 1000000000) (hD : D ≤ 1000000000) (hx0 : 0 ≤ x) (hx : x ≤ 128) (hy0 : 0 ≤ y) (hy : y ≤ 128) :
    (0 ≤ x * D ∧ x * D ≤ 128000000000) ∧ (0 ≤ P * y ∧ P * y ≤ 128000000000) := by
  refine ⟨⟨Int.mul_nonneg hx0 (by omega), ?_⟩, ⟨Int.mul_nonneg (by omega) hy0, ?_⟩⟩
  · exact Int.le_trans (Int.mul_le_mul hx (show (D : Int) ≤ 1000000000 by omega) (by omega) (by omega)) (by decide)
  · exact Int.le_trans (Int.mul_le_mul (show (P : Int) ≤ 1000000000 by omega) hy hy0 (by omega)) (by decide)
set_option maxHeartbeats 2000000 in
set_option maxRecDepth 100000 in
theorem tpGap (P D : Nat) (x y : Int) (w : World) (hP : P ≤ 1000000000) (hD : D ≤ 1000000000) (hx0 : 0 ≤ x) (hx : x ≤ 128) (hy0 : 0 ≤ y) (hy : y ≤ 128) :
    Calls Tryz.prog 95 #[.agg #[.int .i64 P, .int .i64 D], .agg #[.int .i64 x, .int .i64 y]] w fun e w' => e = .returned (.int .i64 (gapZ P D (x, y))) ∧ Below w.heap.size w w' := by
  obtain ⟨⟨g1, g2⟩, g3, g4⟩ := gap_bounds hP hD hx0 hx hy0 hy
  obtain ⟨w1, hw1, h0, h1, hb1, hz1⟩ := boxH22 w (.int .i64 P) (.int .i64 D) (.int .i64 x) (.int .i64 y) 23 66
  obtain ⟨p0, p1, -, -⟩ := two_cell h0
  obtain ⟨q0, q1, -, -⟩ := two_cell h1
  have HW1 := Lib.hid hw1
  have HG := Lib.hid (show gapZ P D (x, y) = max (x * D - P * y) (-(x * D - P * y)) from rfl)
  clear hw1 h0 h1
  go_enter Tryz.func95, Tryz.ntmps95
  go_wp2_with fail
  rw [← HW1.out]
  go_wp2
  go_ret
  exact ⟨ret_i (by rw [HG.out]), hb1⟩
theorem gapZ_bounds {P D : Nat} {x y : Int} (hP : P ≤ 1000000000) (hD : D ≤ 1000000000) (hx0 : 0 ≤ x) (hx : x ≤ 128) (hy0 : 0 ≤ y) (hy : y ≤ 128) : 0 ≤ gapZ P D (x, y) ∧ gapZ P D (x, y) ≤ 128000000000 := by
  obtain ⟨⟨g1, g2⟩, g3, g4⟩ := gap_bounds hP hD hx0 hx hy0 hy
  unfold gapZ
  simp only
  omega
/-- Which vector's rate differs less: -1, 0 or 1. -/
def cmpG (P D : Nat) (a b : List UInt8) : Int := cmpI (gapZ P D (vecL a) * (vecL b).2) (gapZ P D (vecL b) * (vecL a).2)
theorem keepG {W w1 w2 : World} {g h k : Nat} {a b c d x y : Value}
    (hh : (w1.cell? ⟨g, 0, none⟩ = some a ∧ w1.cell? ⟨g, 1, none⟩ = some b) ∧ (w1.cell? ⟨h, 0, none⟩ = some c ∧ w1.cell? ⟨h, 1, none⟩ = some d) ∧ (w1.cell? ⟨k, 0, none⟩ = some x ∧ w1.cell? ⟨k, 1, none⟩ = some y) ∧ (g < w1.heap.size ∧ h < w1.heap.size ∧ k < w1.heap.size) ∧ Below W.heap.size W w1)
    (hb : Below w1.heap.size w1 w2) : (w2.cell? ⟨g, 0, none⟩ = some a ∧ w2.cell? ⟨g, 1, none⟩ = some b) ∧ (w2.cell? ⟨h, 0, none⟩ = some c ∧ w2.cell? ⟨h, 1, none⟩ = some d) ∧ (w2.cell? ⟨k, 0, none⟩ = some x ∧ w2.cell? ⟨k, 1, none⟩ = some y) ∧ (g < w2.heap.size ∧ h < w2.heap.size ∧ k < w2.heap.size) ∧ Below W.heap.size W w2 := by
  obtain ⟨⟨a0, a1⟩, ⟨b0, b1⟩, ⟨c0, c1⟩, ⟨d0, d1, d2⟩, e⟩ := hh
  have hz := hb.size
  exact ⟨⟨(hb.cell (p := ⟨g, 0, none⟩) d0).trans a0, (hb.cell (p := ⟨g, 1, none⟩) d0).trans a1⟩, ⟨(hb.cell (p := ⟨h, 0, none⟩) d1).trans b0, (hb.cell (p := ⟨h, 1, none⟩) d1).trans b1⟩, ⟨(hb.cell (p := ⟨k, 0, none⟩) d2).trans c0, (hb.cell (p := ⟨k, 1, none⟩) d2).trans c1⟩, ⟨by omega, by omega, by omega⟩, e.trans (hb.mono e.size)⟩
theorem keepG1 {W w1 : World} {g h k : Nat} {a b c d x y : Value}
    (hh : (w1.cell? ⟨g, 0, none⟩ = some a ∧ w1.cell? ⟨g, 1, none⟩ = some b) ∧ (w1.cell? ⟨h, 0, none⟩ = some c ∧ w1.cell? ⟨h, 1, none⟩ = some d) ∧ (w1.cell? ⟨k, 0, none⟩ = some x ∧ w1.cell? ⟨k, 1, none⟩ = some y) ∧ (g < w1.heap.size ∧ h < w1.heap.size ∧ k < w1.heap.size) ∧ Below W.heap.size W w1) : Below W.heap.size W w1 := hh.2.2.2.2
set_option maxHeartbeats 4000000 in
set_option maxRecDepth 100000 in
theorem tpCompareGaps (P D : Nat) (a b : ByteArray) (w : World) (hP : P ≤ 1000000000) (hD : D ≤ 1000000000) (ha : Word a) (hb : Word b) :
    Calls Tryz.prog 51 #[.agg #[.int .i64 P, .int .i64 D], .string a, .string b] w fun e w' => e = .returned (.int .i64 (cmpG P D a.data.toList b.data.toList)) ∧ Below w.heap.size w w' := by
  have na := vecL_near a.data.toList
  have nb := vecL_near b.data.toList
  have la : (a.data.toList.length : Int) ≤ 64 := by have := ha.2.2; have := Lib.size_eq a; omega
  have lb : (b.data.toList.length : Int) ≤ 64 := by have := hb.2.2; have := Lib.size_eq b; omega
  unfold cmpG
  obtain ⟨u, hu⟩ : ∃ u, vecL a.data.toList = u := ⟨_, rfl⟩
  obtain ⟨v, hv⟩ : ∃ v, vecL b.data.toList = v := ⟨_, rfl⟩
  rw [hu] at na
  rw [hv] at nb
  have HA := Lib.hid hu
  have HB := Lib.hid hv
  rw [hu, hv]
  clear hu hv
  obtain ⟨u1, u2⟩ := u
  obtain ⟨v1, v2⟩ := v
  simp only at na nb ⊢
  have a1 : 0 ≤ u1 ∧ u1 ≤ 128 ∧ 0 ≤ u2 ∧ u2 ≤ 128 := by omega
  have b1 : 0 ≤ v1 ∧ v1 ≤ 128 ∧ 0 ≤ v2 ∧ v2 ≤ 128 := by omega
  obtain ⟨a1, a2, a3, a4⟩ := a1
  obtain ⟨b1, b2, b3, b4⟩ := b1
  obtain ⟨g1, g2⟩ := gapZ_bounds hP hD a1 a2 a3 a4
  obtain ⟨g3, g4⟩ := gapZ_bounds hP hD b1 b2 b3 b4
  obtain ⟨ga, hga⟩ : ∃ g, gapZ P D (u1, u2) = g := ⟨_, rfl⟩
  obtain ⟨gb, hgb⟩ : ∃ g, gapZ P D (v1, v2) = g := ⟨_, rfl⟩
  have HGA := Lib.hid hga
  have HGB := Lib.hid hgb
  rw [hga] at g1 g2
  rw [hgb] at g3 g4
  rw [hga, hgb]
  have y1 : 0 ≤ ga * v2 ∧ ga * v2 ≤ 128000000000 * 128 := ⟨Int.mul_nonneg g1 b3, Int.mul_le_mul g2 b4 b3 (by omega)⟩
  have y2 : 0 ≤ gb * u2 ∧ gb * u2 ≤ 128000000000 * 128 := ⟨Int.mul_nonneg g3 a3, Int.mul_le_mul g4 a4 a3 (by omega)⟩
  obtain ⟨y3, y4⟩ := y1
  obtain ⟨y5, y6⟩ := y2
  have z1 : IntKind.i64.wrap (ga * v2) = ga * v2 := by rw [IntKind.wrap_i64]; omega
  have z2 : IntKind.i64.wrap (gb * u2) = gb * u2 := by rw [IntKind.wrap_i64]; omega
  have gAll : ∀ (x y G : Int) (W : World), gapZ P D (x, y) = G → 0 ≤ x → x ≤ 128 → 0 ≤ y → y ≤ 128 → Calls Tryz.prog 95 #[.agg #[.int .i64 P, .int .i64 D], .agg #[.int .i64 x, .int .i64 y]] W fun e w' => e = .returned (.int .i64 G) ∧ Below W.heap.size W w' := by
    intro x y G W hG k1 k2 k3 k4
    subst hG
    exact tpGap P D x y W hP hD k1 k2 k3 k4
  have HGALL := Lib.hid gAll
  obtain ⟨w1, hw1, k0, hb1, hz1⟩ := boxH2 w (.int .i64 P) (.int .i64 D) 23
  have HW1 := Lib.hid hw1
  clear la lb hga hgb hw1 gAll na nb
  go_enter Tryz.func51, Tryz.ntmps51
  go_wp2_with fail
  rw [← HW1.out]
  go_wp2_with fail
  refine (tpVectorOf a _ ha).mono ?_
  rintro e w2 ⟨rfl, hb2⟩
  rw [HA.out]
  go_wp2_with fail
  refine (tpVectorOf b _ hb).mono ?_
  rintro e w3 ⟨rfl, hb3⟩
  rw [HB.out]
  have k2 := (hb2.block _ (Array.getElem?_eq_some_iff.1 k0).1).trans k0
  have k3 := (hb3.block _ (Array.getElem?_eq_some_iff.1 k2).1).trans k2
  have B2 := hb1.trans (hb2.mono hb1.size)
  have B3 := B2.trans (hb3.mono B2.size)
  obtain ⟨w4, hw4, m0, m1, hb4, hz4⟩ := boxH22 w3 (.int .i64 u1) (.int .i64 u2) (.int .i64 v1) (.int .i64 v2) 66 66
  have k4 := (hb4.block _ (Array.getElem?_eq_some_iff.1 k3).1).trans k3
  have B4 := B3.trans (hb4.mono B3.size)
  obtain ⟨c0, c1, -, -⟩ := two_cell k4
  obtain ⟨d0, d1, -, -⟩ := two_cell m0
  obtain ⟨e0, e1, -, -⟩ := two_cell m1
  have z4a := (Array.getElem?_eq_some_iff.1 k4).1
  have z4b := (Array.getElem?_eq_some_iff.1 m0).1
  have z4c := (Array.getElem?_eq_some_iff.1 m1).1
  have HW4 := Lib.hid hw4
  clear hw4 hz4 k0 k2 k3 k4 m0 m1 hb1 hb2 hb3 hb4 B2 B3 HA HB
  go_wp2_with fail
  rw [← HW4.out]
  go_region_held3 (fun w' => (w'.cell? ⟨w.heap.size, 0, none⟩ = some (.int .i64 P) ∧ w'.cell? ⟨w.heap.size, 1, none⟩ = some (.int .i64 D)) ∧ (w'.cell? ⟨w3.heap.size, 0, none⟩ = some (.int .i64 u1) ∧ w'.cell? ⟨w3.heap.size, 1, none⟩ = some (.int .i64 u2)) ∧ (w'.cell? ⟨w3.heap.size + 1, 0, none⟩ = some (.int .i64 v1) ∧ w'.cell? ⟨w3.heap.size + 1, 1, none⟩ = some (.int .i64 v2)) ∧ (w.heap.size < w'.heap.size ∧ w3.heap.size < w'.heap.size ∧ w3.heap.size + 1 < w'.heap.size) ∧ Below w.heap.size w w')
    (first | exact ⟨⟨c0, c1⟩, ⟨d0, d1⟩, ⟨e0, e1⟩, ⟨z4a, z4b, z4c⟩, below_drew B4⟩ | exact keepG (by assumption) (by assumption) | assumption | go_keep)
    (first
      | (go_at_call 95; refine (HGALL.out _ _ _ _ (by first | exact HGA.out | exact HGB.out) (by assumption) (by assumption) (by assumption) (by assumption)).mono ?_; rintro e w' ⟨rfl, hbq⟩)
      | (go_at_call 52; refine (cmpInt _ _ _).mono ?_; rintro e w' ⟨rfl, rfl⟩))
  all_goals go_wp2
  all_goals go_ret
  all_goals exact ⟨rfl, keepG1 (by assumption)⟩
end Go.Proofs.YtfmfpnnglogkmaaGreatDoor

/- cmp.Or, slices.MinFunc and Nearest of taper. -/
namespace Go.Proofs.YtfmfpnnglogkmaaGreatDoor
open Go.RowKit Ck

/-- The order in which Nearest takes the words. -/
def nrCmp (P D : Nat) (a b : ByteArray) : Int := firstE [cmpG P D a.data.toList b.data.toList, cmpI a.size b.size, cmpV a.data.toList b.data.toList]
set_option maxHeartbeats 2000000 in
set_option maxRecDepth 100000 in
theorem tpNearCmp (P D g : Nat) (a b : ByteArray) (w : World) (hP : P ≤ 1000000000) (hD : D ≤ 1000000000) (ha : Word a) (hb : Word b) (hg : w.heap[g]? = some (.cells #[.int .i64 P, .int .i64 D] 23 (0, 0))) :
    Calls Tryz.prog 49 #[.string a, .string b, .pointer (some ⟨g, 0, none⟩)] w fun e w' => e = .returned (.int .i64 (nrCmp P D a b)) ∧ Below w.heap.size w w' := by
  obtain ⟨c0, c1, -, -⟩ := two_cell hg
  have HN := Lib.hid (show firstE [cmpG P D a.data.toList b.data.toList, cmpI a.size b.size, cmpV a.data.toList b.data.toList] = nrCmp P D a b from rfl)
  clear hg
  go_enter Tryz.func49, Tryz.ntmps49
  go_wp2_with fail
  refine (tpCompareGaps P D a b _ hP hD ha hb).mono ?_
  rintro e w1 ⟨rfl, hb1⟩
  go_wp2_with fail
  refine (cmpInt _ _ _).mono ?_
  rintro e w2 ⟨rfl, rfl⟩
  go_wp2_with fail
  refine (tpCompareRates a b _ ha hb).mono ?_
  rintro e w3 ⟨rfl, hb3⟩
  have B3 := hb1.trans (hb3.mono hb1.size)
  go_wp2_with fail
  refine (cmpOr3 _ _ _ _ _ 3 _ (by exact heap_alloc_new _ _)).mono ?_
  rintro e w4 ⟨rfl, rfl⟩
  rw [HN.out]
  go_wp2
  go_ret
  exact ⟨rfl, B3.alloc B3.size _⟩
/-- The least of some words. -/
def minS (P D : Nat) : ByteArray → List ByteArray → ByteArray
  | m, [] => m
  | m, x :: r => minS P D (if nrCmp P D x m < 0 then x else m) r
theorem minS_snoc (P D : Nat) : ∀ (l : List ByteArray) (m x : ByteArray), minS P D m (l ++ [x]) = if nrCmp P D x (minS P D m l) < 0 then x else minS P D m l
  | [], m, x => by
    simp only [List.nil_append, minS]
    rfl
  | a :: r, m, x => by
    rw [List.cons_append, minS, minS_snoc P D r]
    rfl
theorem minS_mem (P D : Nat) : ∀ (l : List ByteArray) (m : ByteArray), minS P D m l ∈ m :: l
  | [], m => by simp [minS]
  | x :: r, m => by
    have := minS_mem P D r (if nrCmp P D x m < 0 then x else m)
    rw [minS]
    simp only [List.mem_cons] at this ⊢
    rcases this with h | h
    · rw [h]
      split
      · exact .inr (.inl rfl)
      · exact .inl rfl
    · exact .inr (.inr h)
set_option maxHeartbeats 2000000 in
set_option maxRecDepth 100000 in
theorem minFunc (P D g q c : Nat) (x : ByteArray) (l : List ByteArray) (w : World) (hP : P ≤ 1000000000) (hD : D ≤ 1000000000) (hl : l.length ≤ 2) (hw : ∀ y ∈ x :: l, Word y) (hg : w.heap[g]? = some (.cells #[.int .i64 P, .int .i64 D] 23 (0, 0)))
    (hq : q < w.heap.size) (hc : ∀ i (h : i < (x :: l).length), w.cell? ⟨q, i, none⟩ = some (.string (x :: l)[i])) :
    Calls Tryz.prog 47 #[.slice (some ⟨q, 0, none⟩) (l.length + 1) c, .func (.func 49) #[] #[.pointer (some ⟨g, 0, none⟩)]] w fun e w' => e = .returned (.string (minS P D x l)) ∧ Below w.heap.size w w' := by
  have HC := Lib.hid hc
  have HWD := Lib.hid hw
  have c0 : w.cell? ⟨q, 0, none⟩ = some (.string x) := hc 0 (by simp)
  have hl1 : (1 : Int) ≤ (l.length : Int) + 1 := by omega
  have hl2 : ¬ (l.length : Int) + 1 < 1 := by omega
  have hl3 : (0 : Int) < (l.length : Int) + 1 := by omega
  obtain ⟨R, hR⟩ : ∃ R, minS P D x l = R := ⟨_, rfl⟩
  rw [hR]
  have HR := Lib.hid hR
  clear hc hw hR
  go_enter Tryz.func47, Tryz.ntmps47
  go_wp2_with fail
  go_loopw [5, 6] (fun m iv wr => ∃ i : Nat, 1 ≤ i ∧ i ≤ l.length + 1 ∧ iv = .int .i64 i ∧ m = .string (minS P D x (l.take (i - 1))) ∧ wr.heap[g]? = some (.cells #[.int .i64 P, .int .i64 D] 23 (0, 0)) ∧ q < wr.heap.size ∧ Hid (∀ i (h : i < (x :: l).length), wr.cell? ⟨q, i, none⟩ = some (.string (x :: l)[i])) ∧ Below w.heap.size w wr) (fun _ iv _ => l.length + 1 - (intOf iv).toNat)
  case atStart => exact ⟨1, Nat.le_refl _, by omega, rfl, rfl, hg, hq, HC, Below.refl _ _⟩
  case round =>
    obtain ⟨i, hi1, hi2, rfl, rfl, hh, hqq, hcc, hb⟩ := hrel
    clear hg hq c0
    by_cases hlt : i < l.length + 1
    · have hil : i < (x :: l).length := by simpa using hlt
      have hc1 := hcc.out i hil
      have hwy : Word (x :: l)[i] := HWD.out _ (List.getElem_mem hil)
      have hwm : Word (minS P D x (l.take (i - 1))) := HWD.out _ (by
        have := minS_mem P D (l.take (i - 1)) x
        simp only [List.mem_cons] at this ⊢
        exact this.imp id List.mem_of_mem_take)
      have HS := Lib.hid (show minS P D x (l.take (i + 1 - 1)) = if nrCmp P D (x :: l)[i] (minS P D x (l.take (i - 1))) < 0 then (x :: l)[i] else minS P D x (l.take (i - 1)) by
        have hi3 : i - 1 < l.length := by omega
        have e : l.take (i + 1 - 1) = l.take (i - 1) ++ [l[i - 1]] := by
          rw [show i + 1 - 1 = (i - 1) + 1 by omega]
          exact List.take_succ_eq_append_getElem hi3
        have e2 : (x :: l)[i] = l[i - 1] := by
          rw [List.getElem_cons]
          rw [dif_neg (by omega)]
        rw [e, minS_snoc, e2])
      have hii : (i : Int) < (l.length : Int) + 1 := by omega
      generalize (x :: l)[i] = y at *
      generalize minS P D x (l.take (i - 1)) = m at *
      obtain ⟨v, hv⟩ : ∃ v, nrCmp P D y m = v := ⟨_, rfl⟩
      rw [hv] at HS
      have HV := Lib.hid hv
      clear hv
      go_wp2_with fail
      refine (tpNearCmp P D g y m _ hP hD hwy hwm hh).mono ?_
      rintro e w1 ⟨rfl, hb1⟩
      rw [HV.out]
      have h2 := (hb1.block _ (Array.getElem?_eq_some_iff.1 hh).1).trans hh
      have B1 := hb.trans (hb1.mono hb.size)
      have hq2 : q < w1.heap.size := Nat.lt_of_lt_of_le hqq hb1.size
      have hc2 := Lib.hid (show ∀ i (h : i < (x :: l).length), w1.cell? ⟨q, i, none⟩ = some (.string (x :: l)[i]) from fun i h => (hb1.cell (p := ⟨q, i, none⟩) hqq).trans (hcc.out i h))
      have hc3 := (hb1.cell (p := ⟨q, i, none⟩) hqq).trans hc1
      clear hh hqq hcc hb hc1 hb1
      by_cases hneg : v < 0
      · rw [if_pos hneg] at HS
        go_wp2
        go_roundw
        case rel => exact ⟨i + 1, by omega, by omega, by go_num, by rw [HS.out], h2, hq2, hc2, B1⟩
        case measure => simp [intOf]; omega
      · rw [if_neg hneg] at HS
        go_wp2
        go_roundw
        case rel => exact ⟨i + 1, by omega, by omega, by go_num, by rw [HS.out], h2, hq2, hc2, B1⟩
        case measure => simp [intOf]; omega
    · obtain rfl : i = l.length + 1 := by omega
      have HS := Lib.hid (show minS P D x (l.take (l.length + 1 - 1)) = R by rw [Nat.add_sub_cancel, List.take_length]; exact HR.out)
      rw [HS.out]
      go_wp2
      go_ret
      exact ⟨rfl, hb⟩
theorem own_strs {w : World} {base : Nat} {v : Value} {l : List ByteArray} (h : w.ownsRow base 9 1 v l.length (scells l)) (hn : 0 < l.length) : ∃ g c, v = .slice (some ⟨g, 0, none⟩) l.length c ∧ g < w.heap.size ∧ l.length ≤ c ∧ c ≤ maxLen ∧ ∀ i (hi : i < l.length), w.cell? ⟨g, i, none⟩ = some (.string l[i]) := by
  rcases h.2 with ⟨rfl, hz⟩ | ⟨g, cap, cur, rfl, _, hgb, h1, h2, _⟩
  · omega
  · refine ⟨g, cap, rfl, (Array.getElem?_eq_some_iff.1 hgb).1, h1, h2, fun j hj => ?_⟩
    have hc := h.cells (g := g) rfl
    have := hc j (.string l[j]) (by simp [scells, hj])
    rw [add0] at this
    exact this
/-- The word that Nearest returns. -/
def nearB (P D a b c d : Nat) : ByteArray := match candJ P D a b c d 2 with
  | [] => ⟨#[]⟩
  | x :: l => minS P D x l
set_option maxHeartbeats 2000000 in
set_option maxRecDepth 100000 in
theorem tpNearest (P D n a b c d : Nat) (w : World) (h : ratE (P : Int) (D : Int) = 0) (hn : 1 ≤ n) (hn2 : n ≤ 64) (hR : nbF (shareB P D) (shareL P D) n n 0 1 1 1 = (a, b, c, d)) (hne : candJ P D a b c d 2 ≠ []) :
    Calls Tryz.prog 10 #[.agg #[.int .i64 P, .int .i64 D], .int .i64 n] w fun e w' => e = .returned (.tuple #[.string (nearB P D a b c d), .int .i64 0]) ∧ Below w.heap.size w w' := by
  obtain ⟨P', D', hP, hD, g1, g2, g3, g4⟩ := ratE_zero h
  have eP : P' = P := by omega
  have eD : D' = D := by omega
  rw [eP] at g1
  rw [eD] at g2 g3
  have HE := Lib.hid (show tgtE (P : Int) (D : Int) (n : Int) = 0 by
    rw [tgtE, h, rngE, if_neg (by omega)]
    rfl)
  have HR := Lib.hid hR
  obtain ⟨s1, s2, s3⟩ := shareL_pos (P := P) g2
  have hEE := nb_end hn s3 hR
  have hwords : ∀ y ∈ candJ P D a b c d 2, Word y := by
    intro y hy
    have k : ∀ p q, 1 ≤ q → q ≤ n → ∀ y ∈ candW P D p q, Word y := fun p q h1 h2 y hy => by
      unfold candW at hy
      split at hy
      · simp at hy
        subst hy
        exact nearWord_word h1 (by omega)
      · simp at hy
    simp only [candJ] at hy
    simp at hy
    rcases hy with hy | hy
    · exact k a b hEE.b1 hEE.bn y hy
    · exact k c d hEE.d1 hEE.dn y hy
  have hlen := candJ_len P D a b c d 2
  obtain ⟨x, l, hxl⟩ : ∃ x l, candJ P D a b c d 2 = x :: l := by
    cases hh : candJ P D a b c d 2 with
    | nil => exact absurd hh hne
    | cons x l => exact ⟨x, l, rfl⟩
  have HN := Lib.hid (show nearB P D a b c d = minS P D x l by unfold nearB; rw [hxl])
  rw [hxl] at hwords hlen
  have HXL := Lib.hid hxl
  have HWD := Lib.hid hwords
  obtain ⟨w1, hw1, k0, hb1, hz1⟩ := boxH2 w (.int .i64 P) (.int .i64 D) 23
  have HW1 := Lib.hid hw1
  obtain ⟨p0, p1, -, -⟩ := two_cell k0
  rw [HN.out]
  simp only [List.length_cons] at hlen
  clear hw1 h hP hD eP eD hR hEE hwords hxl hne HN s1 s2 s3 g4
  go_enter Tryz.func10, Tryz.ntmps10
  go_wp2_with fail
  rw [← HW1.out]
  go_wp2_with fail
  refine (tpCheckTarget _ _ _ _).mono ?_
  rintro e w2 ⟨rfl, hb2⟩
  rw [HE.out]
  have k2 := (hb2.block _ (Array.getElem?_eq_some_iff.1 k0).1).trans k0
  have B2 := hb1.trans (hb2.mono hb1.size)
  clear p0 p1 k0 hb1 hb2
  obtain ⟨p0, p1, -, -⟩ := two_cell k2
  go_wp2_with fail
  refine (tpCandidates P D n a b c d _ g2 g1 g3 hn hn2 HR.out).mono ?_
  rintro e w3 ⟨v, rfl, hrow, hb3⟩
  have k3 := (hb3.block _ (Array.getElem?_eq_some_iff.1 k2).1).trans k2
  have B3 := B2.trans (hb3.mono B2.size)
  rw [HXL.out] at hrow
  obtain ⟨q, cp, rfl, hq, hc1, hc2, hcells⟩ := own_strs hrow (by simp)
  clear hrow hb3 B2 k2 p0 p1
  have HCE := Lib.hid hcells
  clear hcells
  rw [List.length_cons]
  go_wp2_with fail
  refine (minFunc P D w.heap.size q cp x l _ (by omega) (by omega) (by omega) HWD.out k3 hq HCE.out).mono ?_
  rintro e w4 ⟨rfl, hb4⟩
  go_wp2
  go_ret2
  exact ⟨rfl, B3.trans (hb4.mono B3.size)⟩
set_option maxHeartbeats 2000000 in
set_option maxRecDepth 100000 in
theorem tpNearestNo (x y n E : Int) (w : World) (hE : tgtE x y n = E) (hz : E ≠ 0) :
    Calls Tryz.prog 10 #[.agg #[.int .i64 x, .int .i64 y], .int .i64 n] w fun e w' => e = .returned (.tuple #[.string ⟨#[]⟩, .int .i64 E]) ∧ Below w.heap.size w w' := by
  have HE := Lib.hid hE
  have hne := neE hz
  obtain ⟨w1, hw1, k0, hb1, hz1⟩ := boxH2 w (.int .i64 x) (.int .i64 y) 23
  have HW1 := Lib.hid hw1
  obtain ⟨p0, p1, -, -⟩ := two_cell k0
  clear hw1 hE hz k0
  go_enter Tryz.func10, Tryz.ntmps10
  go_wp2_with fail
  rw [← HW1.out]
  go_wp2_with fail
  refine (tpCheckTarget _ _ _ _).mono ?_
  rintro e w2 ⟨rfl, hb2⟩
  rw [HE.out]
  go_wp2
  go_ret2
  exact ⟨rfl, hb1.trans (hb2.mono hb1.size)⟩
end Go.Proofs.YtfmfpnnglogkmaaGreatDoor

/- readRun and Parse of taper. -/
namespace Go.Proofs.YtfmfpnnglogkmaaGreatDoor
open Go.RowKit Go.Shelf

def digC (c : UInt8) : Bool := decide (48 ≤ c.toNat) && decide (c.toNat ≤ 57)
/-- A run at the beginning of a string: i bytes of it were digits, of the value n. -/
def readF : Nat → Nat → List UInt8 → Option (UInt8 × Nat × Nat)
  | _, _, [] => none
  | i, n, c :: r => if 0 < i ∧ okC c = true then some (c, n, i + 1) else if i = 2 ∨ digC c = false ∨ (i = 0 ∧ c = 48) then none else readF (i + 1) (10 * n + (c.toNat - 48)) r
def runV : Option (UInt8 × Nat × Nat) → Value
  | none => .tuple #[.agg #[.string ⟨#[]⟩, .int .i64 0, .int .i64 0], .bool false]
  | some (c, n, k) => .tuple #[.agg #[.string ⟨#[c]⟩, .int .i64 n, .int .i64 k], .bool true]
theorem tpIsDigit (r : Int) (w : World) : Calls Tryz.prog 111 #[.int .i32 r] w fun e w' => e = .returned (.bool (decide (48 ≤ r ∧ r ≤ 57))) ∧ w = w' := by
  by_cases h1 : 48 ≤ r
  · by_cases h2 : r ≤ 57
    all_goals
      go_enter Tryz.func111, Tryz.ntmps111
      go_wp2
      go_ret
      simp [h1, h2]
  · go_enter Tryz.func111, Tryz.ntmps111
    go_wp2
    go_ret
    simp
    omega
theorem tpIsDigitB (r : Int) (b : Bool) (w : World) (hb : decide (48 ≤ r ∧ r ≤ 57) = b) : Calls Tryz.prog 111 #[.int .i32 r] w fun e w' => e = .returned (.bool b) ∧ w = w' := by
  subst hb
  exact tpIsDigit r w
theorem rune_str {c : UInt8} (h : isL c) (w : World) : (convert 21 9 (.int .i32 (c.toNat : Int))).run Tryz.prog w = .ok (.string ⟨#[c]⟩) w := by
  rcases h with rfl | rfl | rfl
  · exact (show ∀ w, (convert 21 9 (.int .i32 78)).run Tryz.prog w = .ok (.string ⟨#[78]⟩) w from fun w => by kernel_rfl) w
  · exact (show ∀ w, (convert 21 9 (.int .i32 66)).run Tryz.prog w = .ok (.string ⟨#[66]⟩) w from fun w => by kernel_rfl) w
  · exact (show ∀ w, (convert 21 9 (.int .i32 84)).run Tryz.prog w = .ok (.string ⟨#[84]⟩) w from fun w => by kernel_rfl) w
theorem three_cell {W : World} {b : Nat} {u v x : Value} {t : TypeId} (h : W.heap[b]? = some (.cells #[u, v, x] t (0, 0))) : (W.cell? ⟨b, 0, none⟩ = some u ∧ W.cell? ⟨b, 1, none⟩ = some v ∧ W.cell? ⟨b, 2, none⟩ = some x) ∧ W.frozen? ⟨b, 0, none⟩ = false ∧ W.frozen? ⟨b, 1, none⟩ = false ∧ W.frozen? ⟨b, 2, none⟩ = false := by
  refine ⟨⟨?_, ?_, ?_⟩, ?_, ?_, ?_⟩ <;> simp [World.cell?, World.frozen?, h]
theorem three_set {W : World} {b : Nat} {u v x : Value} {t : TypeId} (h : W.heap[b]? = some (.cells #[u, v, x] t (0, 0))) (p q r : Value) :
    (((W.setCell ⟨b, 0, none⟩ p).setCell ⟨b, 1, none⟩ q).setCell ⟨b, 2, none⟩ r).heap[b]? = some (.cells #[p, q, r] t (0, 0)) ∧ W.grownBy (((W.setCell ⟨b, 0, none⟩ p).setCell ⟨b, 1, none⟩ q).setCell ⟨b, 2, none⟩ r) (some b) := by
  have f0 : (W.setCell ⟨b, 0, none⟩ p).heap[b]? = some (.cells #[p, v, x] t (0, 0)) := by
    simp only [World.setCell, Array.getElem?_modify, if_true, h, Option.map_some]
    rfl
  have f1 : ((W.setCell ⟨b, 0, none⟩ p).setCell ⟨b, 1, none⟩ q).heap[b]? = some (.cells #[p, q, x] t (0, 0)) := by
    generalize W.setCell ⟨b, 0, none⟩ p = X at *
    simp only [World.setCell, Array.getElem?_modify, if_true, f0, Option.map_some]
    rfl
  have f2 : (((W.setCell ⟨b, 0, none⟩ p).setCell ⟨b, 1, none⟩ q).setCell ⟨b, 2, none⟩ r).heap[b]? = some (.cells #[p, q, r] t (0, 0)) := by
    generalize (W.setCell ⟨b, 0, none⟩ p).setCell ⟨b, 1, none⟩ q = X at *
    simp only [World.setCell, Array.getElem?_modify, if_true, f1, Option.map_some]
    rfl
  refine ⟨f2, ⟨rfl, rfl, rfl, by simp [World.setCell], fun i _ hne => ?_⟩⟩
  have : i ≠ b := fun e => hne (by rw [e])
  exact ((Below.heap_setCell _ _ _ i this).trans (Below.heap_setCell _ _ _ i this)).trans (Below.heap_setCell _ _ _ i this)
def RunPost (R : Option (UInt8 × Nat × Nat)) (w : World) (e : Ending) (w' : World) : Prop := e = .returned (runV R) ∧ Below w.heap.size w w'
set_option maxHeartbeats 4000000 in
set_option maxRecDepth 100000 in
theorem tpReadRun (s : ByteArray) (w : World) : Calls Tryz.prog 82 #[.string s] w (RunPost (readF 0 0 s.data.toList) w) := by
  obtain ⟨w1, hw1, r1, it1, hb1⟩ : ∃ w1, w1 = (w.alloc (.cells #[.string ⟨#[]⟩, .int .i64 0, .int .i64 0] 132)).iter s 0 ∧ w1.heap[w.heap.size]? = some (.cells #[.string ⟨#[]⟩, .int .i64 0, .int .i64 0] 132 (0, 0)) ∧ w1.heap[w.heap.size + 1]? = some (.stringIter s 0) ∧ Below w.heap.size w w1 := by
    have hz : (w.alloc (.cells #[.string ⟨#[]⟩, .int .i64 0, .int .i64 0] 132)).heap.size = w.heap.size + 1 := by simp
    have hit := World.iter_heap (w.alloc (.cells #[.string ⟨#[]⟩, .int .i64 0, .int .i64 0] 132)) s 0
    rw [hz] at hit
    have b0 : Below w.heap.size w (w.alloc (.cells #[.string ⟨#[]⟩, .int .i64 0, .int .i64 0] 132)) := (Below.refl _ _).alloc (Nat.le_refl _) _
    have b1 := (Below.refl (w.alloc (.cells #[.string ⟨#[]⟩, .int .i64 0, .int .i64 0] 132)).heap.size (w.alloc (.cells #[.string ⟨#[]⟩, .int .i64 0, .int .i64 0] 132))).alloc (Nat.le_refl _) (.stringIter s 0)
    exact ⟨_, rfl, (b1.block _ (by omega)).trans (heap_alloc_new _ _), hit, b0.trans (b1.mono b0.size)⟩
  obtain ⟨L, hL⟩ : ∃ L, s.data.toList = L := ⟨_, rfl⟩
  have hz : L.length = s.size := by rw [← hL, ← Lib.size_eq]
  obtain ⟨R, hR⟩ : ∃ R, readF 0 0 L = R := ⟨_, rfl⟩
  rw [hL, hR]
  have HL := Lib.hid hL
  have HZ := Lib.hid hz
  have HR := Lib.hid hR
  have HW1 := Lib.hid hw1
  clear hL hz hR hw1
  go_enter Tryz.func82, Tryz.ntmps82
  go_wp2_with fail
  rw [← HW1.out]
  go_loopw [4] (fun cv wr => ∃ pos cnt : Nat, pos ≤ L.length ∧ ((pos = 0 ∧ cnt = 0) ∨ (pos = 1 ∧ cnt ≤ 9) ∨ (pos = 2 ∧ cnt ≤ 99)) ∧ cv = .int .i64 cnt ∧ wr.heap[w.heap.size]? = some (.cells #[.string ⟨#[]⟩, .int .i64 0, .int .i64 0] 132 (0, 0)) ∧ wr.heap[w.heap.size + 1]? = some (.stringIter s pos) ∧ Below w.heap.size w wr ∧ readF pos cnt (L.drop pos) = R) (fun _ wr => s.size - wr.iterPos (w.heap.size + 1))
  case atStart => exact ⟨0, 0, Nat.zero_le _, .inl ⟨rfl, rfl⟩, rfl, r1, it1, hb1, HR.out⟩
  case round =>
    obtain ⟨pos, cnt, hpos, hst, rfl, hr, hit, hb, hF⟩ := hrel
    have hln := HZ.out
    have HF := Lib.hid hF
    clear hF r1 it1 hb1
    by_cases hp : pos < s.size
    · have hpl : pos < L.length := by omega
      have hkl : pos < s.data.toList.length := by rw [HL.out]; exact hpl
      have hel : s[pos] = L[pos] := by rw [← byte_at s pos hp hkl]; simp only [HL.out]
      have hdr := List.drop_eq_getElem_cons hpl
      have hF := HF.out
      rw [hdr] at hF
      generalize L[pos] = c at *
      have HF2 := Lib.hid hF
      clear hF hdr HF
      have hmu : wr.iterPos (w.heap.size + 1) = pos := by simp [World.iterPos, hit]
      by_cases ha : c.toNat < 128
      · have hnext : ∀ ty, (Instr.next (.pointer (some ⟨w.heap.size + 1, 0, none⟩)) true ty).run Tryz.prog wr = _ := fun ty => Lib.run_next_ascii_at wr (w.heap.size + 1) s pos ty hit hp (by rw [hel]; exact ha)
        rw [hel] at hnext
        have hit1 := Lib.iterAt_heap wr (w.heap.size + 1) s pos (pos + 1) hit
        have hr1 := (Lib.iterAt_other wr (w.heap.size + 1) w.heap.size s (pos + 1) (by omega)).trans hr
        have hb1' : Below w.heap.size w (wr.iterAt (w.heap.size + 1) s (pos + 1)) := Lib.below_iterAt hb (by omega) s (pos + 1)
        generalize wr.iterAt (w.heap.size + 1) s (pos + 1) = W1 at hnext hit1 hr1 hb1'
        have hmu1 : W1.iterPos (w.heap.size + 1) = pos + 1 := by simp [World.iterPos, hit1]
        have p0 : (0 : Int) ≤ (pos : Int) := by omega
        have p2 : (pos : Int) ≤ 2 := by omega
        have q0 : (0 : Int) ≤ (cnt : Int) := by omega
        have q2 : (cnt : Int) ≤ 99 := by omega
        have d0 : (0 : Int) ≤ (c.toNat : Int) := by omega
        have d1 : (c.toNat : Int) < 128 := by omega
        clear hel hr hit hb
        by_cases hz0 : pos = 0
        · have hg0 : decide (0 < pos) = false := by rw [decide_eq_false_iff_not]; omega
          have hg2 : ((pos : Int) == 2) = false := by rw [beq_eq_false_iff_ne]; omega
          have hg3 : ((pos : Int) == 0) = true := by rw [beq_iff_eq]; omega
          by_cases hd : digC c = true
          · have hdd : 48 ≤ c.toNat ∧ c.toNat ≤ 57 := by simpa [digC] using hd
            obtain ⟨hd1, hd2⟩ := hdd
            by_cases h48 : c = 48
            · have HN := Lib.hid (show (none : Option (UInt8 × Nat × Nat)) = R by
                rw [← HF2.out, readF, if_neg (by omega), if_pos (.inr (.inr ⟨hz0, h48⟩))])
              have hg4 : ((c.toNat : Int) == 48) = true := by rw [beq_iff_eq, h48]; rfl
              clear HF2 hd h48 hz0
              obtain ⟨s1, s2⟩ := three_set hr1 (.string ⟨#[]⟩) (.int .i64 0) (.int .i64 0)
              obtain ⟨⟨c0, c1, c2⟩, f0, f1, f2⟩ := three_cell hr1
              obtain ⟨⟨t0, t1, t2⟩, -, -, -⟩ := three_cell s1
              have hbf := hb1'.grown s2 hb1'.size (fun j e => by cases e; omega)
              clear s1 s2
              go_wp2_with fail
              refine (tpIsDigitB _ true _ (by rw [decide_eq_true_eq]; omega)).mono ?_
              rintro e W2 ⟨rfl, rfl⟩
              go_wp2
              exact bodyPost_ret (v := .tuple #[.agg #[.string ⟨#[]⟩, .int .i64 0, .int .i64 0], .bool false]) (by simp [results, Tryz.results82, go_sem, t0, t1, t2]) rfl ⟨by rw [← HN.out]; rfl, hbf⟩
            · have HN := Lib.hid (show readF (pos + 1) (10 * cnt + (c.toNat - 48)) (L.drop (pos + 1)) = R by
                rw [← HF2.out, readF, if_neg (by omega), if_neg]
                rintro (h | h | h)
                · omega
                · rw [hd] at h; cases h
                · exact h48 h.2)
              have hg4 : ((c.toNat : Int) == 48) = false := by
                rw [beq_eq_false_iff_ne]
                exact fun h => h48 (UInt8.toNat.inj (by show c.toNat = 48; omega))
              clear HF2 hd h48
              go_wp2_with fail
              refine (tpIsDigitB _ true _ (by rw [decide_eq_true_eq]; omega)).mono ?_
              rintro e W2 ⟨rfl, rfl⟩
              go_wp2
              go_roundw
              case rel => exact ⟨pos + 1, 10 * cnt + (c.toNat - 48), by omega, by omega, congrArg (Value.int .i64) (by omega), hr1, hit1, hb1', HN.out⟩
              case measure => rw [hmu, hmu1]; omega
          · have hd' : digC c = false := by simpa using hd
            have HN := Lib.hid (show (none : Option (UInt8 × Nat × Nat)) = R by
              rw [← HF2.out, readF, if_neg (by omega), if_pos (.inr (.inl hd'))])
            have hdn : ¬ (48 ≤ c.toNat ∧ c.toNat ≤ 57) := fun h => hd (by simp [digC, h.1, h.2])
            clear HF2 hd hd'
            obtain ⟨s1, s2⟩ := three_set hr1 (.string ⟨#[]⟩) (.int .i64 0) (.int .i64 0)
            obtain ⟨⟨c0, c1, c2⟩, f0, f1, f2⟩ := three_cell hr1
            obtain ⟨⟨t0, t1, t2⟩, -, -, -⟩ := three_cell s1
            have hbf := hb1'.grown s2 hb1'.size (fun j e => by cases e; omega)
            clear s1 s2
            go_wp2_with fail
            refine (tpIsDigitB _ false _ (by rw [decide_eq_false_iff_not]; omega)).mono ?_
            rintro e W2 ⟨rfl, rfl⟩
            go_wp2
            exact bodyPost_ret (v := .tuple #[.agg #[.string ⟨#[]⟩, .int .i64 0, .int .i64 0], .bool false]) (by simp [results, Tryz.results82, go_sem, t0, t1, t2]) rfl ⟨by rw [← HN.out]; rfl, hbf⟩
        · have hpp : 0 < pos := by omega
          have hg0 : decide (0 < pos) = true := by rw [decide_eq_true_eq]; omega
          have hg3 : ((pos : Int) == 0) = false := by rw [beq_eq_false_iff_ne]; omega
          by_cases hok : okC c = true
          · have hL := (okC_iff c).1 hok
            have HN := Lib.hid (show (some (c, cnt, pos + 1) : Option (UInt8 × Nat × Nat)) = R by
              rw [← HF2.out, readF, if_pos ⟨hpp, hok⟩])
            have hcv := rune_str hL
            obtain ⟨s1, s2⟩ := three_set hr1 (.string ⟨#[c]⟩) (.int .i64 cnt) (.int .i64 ((pos : Int) + 1))
            obtain ⟨⟨c0, c1, c2⟩, f0, f1, f2⟩ := three_cell hr1
            obtain ⟨⟨t0, t1, t2⟩, -, -, -⟩ := three_cell s1
            have hbf := hb1'.grown s2 hb1'.size (fun j e => by cases e; omega)
            clear s1 s2 HF2 hok hpp hz0
            go_wp2_with fail
            refine (tpIsLetter c _ hL).mono ?_
            rintro e W2 ⟨rfl, rfl⟩
            go_wp2
            exact bodyPost_ret (v := .tuple #[.agg #[.string ⟨#[c]⟩, .int .i64 cnt, .int .i64 ((pos : Int) + 1)], .bool true]) (by simp [results, Tryz.results82, go_sem, t0, t1, t2]) rfl ⟨by rw [← HN.out]; rfl, hbf⟩
          · have hnl : ¬ isL c := fun h => hok ((okC_iff c).2 h)
            have n0 : ¬ (c.toNat : Int) = 78 := fun e => hnl (.inl (UInt8.toNat.inj (by show c.toNat = 78; omega)))
            have n1 : ¬ (c.toNat : Int) = 66 := fun e => hnl (.inr (.inl (UInt8.toNat.inj (by show c.toNat = 66; omega))))
            have n2 : ¬ (c.toNat : Int) = 84 := fun e => hnl (.inr (.inr (UInt8.toNat.inj (by show c.toNat = 84; omega))))
            by_cases hp2 : pos = 2
            · have HN := Lib.hid (show (none : Option (UInt8 × Nat × Nat)) = R by
                rw [← HF2.out, readF, if_neg (fun h => hok h.2), if_pos (.inl hp2)])
              have hg2 : ((pos : Int) == 2) = true := by rw [beq_iff_eq]; omega
              clear HF2 hok hnl hp2 hz0 hpp
              obtain ⟨s1, s2⟩ := three_set hr1 (.string ⟨#[]⟩) (.int .i64 0) (.int .i64 0)
              obtain ⟨⟨c0, c1, c2⟩, f0, f1, f2⟩ := three_cell hr1
              obtain ⟨⟨t0, t1, t2⟩, -, -, -⟩ := three_cell s1
              have hbf := hb1'.grown s2 hb1'.size (fun j e => by cases e; omega)
              clear s1 s2
              go_wp2_with fail
              refine (tpIsLetterNo _ _ n0 n1 n2).mono ?_
              rintro e W2 ⟨rfl, rfl⟩
              go_wp2
              exact bodyPost_ret (v := .tuple #[.agg #[.string ⟨#[]⟩, .int .i64 0, .int .i64 0], .bool false]) (by simp [results, Tryz.results82, go_sem, t0, t1, t2]) rfl ⟨by rw [← HN.out]; rfl, hbf⟩
            · have hg2 : ((pos : Int) == 2) = false := by rw [beq_eq_false_iff_ne]; omega
              by_cases hd : digC c = true
              · have hdd : 48 ≤ c.toNat ∧ c.toNat ≤ 57 := by simpa [digC] using hd
                obtain ⟨hd1, hd2⟩ := hdd
                have HN := Lib.hid (show readF (pos + 1) (10 * cnt + (c.toNat - 48)) (L.drop (pos + 1)) = R by
                  rw [← HF2.out, readF, if_neg (fun h => hok h.2), if_neg]
                  rintro (h | h | h)
                  · omega
                  · rw [hd] at h; cases h
                  · omega)
                clear HF2 hd hok hnl
                go_wp2_with fail
                refine (tpIsLetterNo _ _ n0 n1 n2).mono ?_
                rintro e W2 ⟨rfl, rfl⟩
                go_wp2_with fail
                refine (tpIsDigitB _ true _ (by rw [decide_eq_true_eq]; omega)).mono ?_
                rintro e W2 ⟨rfl, rfl⟩
                go_wp2
                go_roundw
                case rel => exact ⟨pos + 1, 10 * cnt + (c.toNat - 48), by omega, by omega, congrArg (Value.int .i64) (by omega), hr1, hit1, hb1', HN.out⟩
                case measure => rw [hmu, hmu1]; omega
              · have hd' : digC c = false := by simpa using hd
                have HN := Lib.hid (show (none : Option (UInt8 × Nat × Nat)) = R by
                  rw [← HF2.out, readF, if_neg (fun h => hok h.2), if_pos (.inr (.inl hd'))])
                have hdn : ¬ (48 ≤ c.toNat ∧ c.toNat ≤ 57) := fun h => hd (by simp [digC, h.1, h.2])
                clear HF2 hd hd' hok hnl
                obtain ⟨s1, s2⟩ := three_set hr1 (.string ⟨#[]⟩) (.int .i64 0) (.int .i64 0)
                obtain ⟨⟨c0, c1, c2⟩, f0, f1, f2⟩ := three_cell hr1
                obtain ⟨⟨t0, t1, t2⟩, -, -, -⟩ := three_cell s1
                have hbf := hb1'.grown s2 hb1'.size (fun j e => by cases e; omega)
                clear s1 s2
                go_wp2_with fail
                refine (tpIsLetterNo _ _ n0 n1 n2).mono ?_
                rintro e W2 ⟨rfl, rfl⟩
                go_wp2_with fail
                refine (tpIsDigitB _ false _ (by rw [decide_eq_false_iff_not]; omega)).mono ?_
                rintro e W2 ⟨rfl, rfl⟩
                go_wp2
                exact bodyPost_ret (v := .tuple #[.agg #[.string ⟨#[]⟩, .int .i64 0, .int .i64 0], .bool false]) (by simp [results, Tryz.results82, go_sem, t0, t1, t2]) rfl ⟨by rw [← HN.out]; rfl, hbf⟩
      · have hok : ¬ okC c = true := fun h => ha (isL_small ((okC_iff c).1 h))
        have hd' : digC c = false := by
          have : ¬ c.toNat ≤ 57 := by omega
          simp [digC, this]
        have HN := Lib.hid (show (none : Option (UInt8 × Nat × Nat)) = R by
          rw [← HF2.out, readF, if_neg (fun h => hok h.2), if_pos (.inr (.inl hd'))])
        have hnext : ∀ ty, (Instr.next (.pointer (some ⟨w.heap.size + 1, 0, none⟩)) true ty).run Tryz.prog wr = _ := fun ty => Lib.run_next_any_at wr (w.heap.size + 1) s pos ty hit hp
        have hrn := (decode_high s pos hp (by rw [hel]; omega)).1
        have hit1 := Lib.iterAt_heap wr (w.heap.size + 1) s pos (pos + (Utf8.decode s pos).2) hit
        have hr1 := (Lib.iterAt_other wr (w.heap.size + 1) w.heap.size s (pos + (Utf8.decode s pos).2) (by omega)).trans hr
        have hb1' : Below w.heap.size w (wr.iterAt (w.heap.size + 1) s (pos + (Utf8.decode s pos).2)) := Lib.below_iterAt hb (by omega) s _
        generalize wr.iterAt (w.heap.size + 1) s (pos + (Utf8.decode s pos).2) = W1 at hnext hit1 hr1 hb1'
        generalize (Utf8.decode s pos).1 = rn at hnext hrn
        have n0 : ¬ (rn : Int) = 78 := by omega
        have n1 : ¬ (rn : Int) = 66 := by omega
        have n2 : ¬ (rn : Int) = 84 := by omega
        have p0 : (0 : Int) ≤ (pos : Int) := by omega
        clear hel hr hit hb HF2 hok hd' ha
        obtain ⟨s1, s2⟩ := three_set hr1 (.string ⟨#[]⟩) (.int .i64 0) (.int .i64 0)
        obtain ⟨⟨c0, c1, c2⟩, f0, f1, f2⟩ := three_cell hr1
        obtain ⟨⟨t0, t1, t2⟩, -, -, -⟩ := three_cell s1
        have hbf := hb1'.grown s2 hb1'.size (fun j e => by cases e; omega)
        clear s1 s2
        by_cases hz0 : pos = 0
        · have hg0 : decide (0 < pos) = false := by rw [decide_eq_false_iff_not]; omega
          have hg2 : ((pos : Int) == 2) = false := by rw [beq_eq_false_iff_ne]; omega
          go_wp2_with fail
          refine (tpIsDigitB _ false _ (by rw [decide_eq_false_iff_not]; omega)).mono ?_
          rintro e W2 ⟨rfl, rfl⟩
          go_wp2
          exact bodyPost_ret (v := .tuple #[.agg #[.string ⟨#[]⟩, .int .i64 0, .int .i64 0], .bool false]) (by simp [results, Tryz.results82, go_sem, t0, t1, t2]) rfl ⟨by rw [← HN.out]; rfl, hbf⟩
        · have hg0 : decide (0 < pos) = true := by rw [decide_eq_true_eq]; omega
          by_cases hp2 : pos = 2
          · have hg2 : ((pos : Int) == 2) = true := by rw [beq_iff_eq]; omega
            go_wp2_with fail
            refine (tpIsLetterNo _ _ n0 n1 n2).mono ?_
            rintro e W2 ⟨rfl, rfl⟩
            go_wp2
            exact bodyPost_ret (v := .tuple #[.agg #[.string ⟨#[]⟩, .int .i64 0, .int .i64 0], .bool false]) (by simp [results, Tryz.results82, go_sem, t0, t1, t2]) rfl ⟨by rw [← HN.out]; rfl, hbf⟩
          · have hg2 : ((pos : Int) == 2) = false := by rw [beq_eq_false_iff_ne]; omega
            go_wp2_with fail
            refine (tpIsLetterNo _ _ n0 n1 n2).mono ?_
            rintro e W2 ⟨rfl, rfl⟩
            go_wp2_with fail
            refine (tpIsDigitB _ false _ (by rw [decide_eq_false_iff_not]; omega)).mono ?_
            rintro e W2 ⟨rfl, rfl⟩
            go_wp2
            exact bodyPost_ret (v := .tuple #[.agg #[.string ⟨#[]⟩, .int .i64 0, .int .i64 0], .bool false]) (by simp [results, Tryz.results82, go_sem, t0, t1, t2]) rfl ⟨by rw [← HN.out]; rfl, hbf⟩
    · have hd : L.drop pos = [] := List.drop_of_length_le (by omega)
      have HN := Lib.hid (show (none : Option (UInt8 × Nat × Nat)) = R by rw [← HF.out, hd, readF])
      have hnext : ∀ ty, (Instr.next (.pointer (some ⟨w.heap.size + 1, 0, none⟩)) true ty).run Tryz.prog wr = _ := fun ty => Lib.run_next_end_at wr (w.heap.size + 1) s pos ty hit hp
      clear hd HF
      obtain ⟨s1, s2⟩ := three_set hr (.string ⟨#[]⟩) (.int .i64 0) (.int .i64 0)
      obtain ⟨⟨c0, c1, c2⟩, f0, f1, f2⟩ := three_cell hr
      obtain ⟨⟨t0, t1, t2⟩, -, -, -⟩ := three_cell s1
      have hbf := hb.grown s2 hb.size (fun j e => by cases e; omega)
      clear s1 s2
      go_wp2
      exact bodyPost_ret (v := .tuple #[.agg #[.string ⟨#[]⟩, .int .i64 0, .int .i64 0], .bool false]) (by simp [results, Tryz.results82, go_sem, t0, t1, t2]) rfl ⟨by rw [← HN.out]; rfl, hbf⟩
end Go.Proofs.YtfmfpnnglogkmaaGreatDoor

/- Parse of taper. -/
namespace Go.Proofs.YtfmfpnnglogkmaaGreatDoor
open Go.RowKit Go.Shelf

/-- What is parsed from place p on, where the word has so far the letters W. -/
def parseF : Nat → Nat → List UInt8 → List UInt8 → List UInt8 × Nat × Int
  | 0, p, _, _ => ([], p, 25)
  | k + 1, p, W, l => if l = [] then (W, 0, 0) else match readF 0 0 l with
    | none => ([], p, 25)
    | some (c, n, z) => if 64 < W.length + n then ([], p, 26) else parseF k (p + z) (W ++ Lib.repeatL [c] n) (l.drop z)
def parseL (L : List UInt8) : List UInt8 × Nat × Int := if L = [] then ([], 0, 12) else if 4096 < L.length then ([], 0, 26) else parseF (L.length + 1) 0 [] L
theorem readF_some : ∀ (l : List UInt8) (i n : Nat) (c : UInt8) (m z : Nat), readF i n l = some (c, m, z) → isL c ∧ i + 1 ≤ z ∧ z ≤ i + l.length ∧ (i = 0 → 2 ≤ z) ∧ ((i = 0 ∧ n = 0) ∨ (i = 1 ∧ n ≤ 9) ∨ (i = 2 ∧ n ≤ 99) → m ≤ 99)
  | [], _, _, _, _, _, h => by simp [readF] at h
  | a :: r, i, n, c, m, z, h => by
    unfold readF at h
    split at h
    · rename_i h1
      simp only [Option.some.injEq, Prod.mk.injEq] at h
      obtain ⟨rfl, rfl, rfl⟩ := h
      exact ⟨(okC_iff _).1 h1.2, Nat.le_refl _, by simp, by omega, by omega⟩
    · split at h
      · cases h
      · rename_i h1 h2
        obtain ⟨e1, e2, e3, e4, e5⟩ := readF_some r _ _ _ _ _ h
        have hd : digC a = true := by
          cases hh : digC a with
          | true => rfl
          | false => exact absurd (.inr (.inl hh)) h2
        have hdd : 48 ≤ a.toNat ∧ a.toNat ≤ 57 := by simpa [digC] using hd
        have hi2 : i ≠ 2 := fun h => h2 (.inl h)
        refine ⟨e1, by omega, by simp; omega, by omega, fun hc => e5 ?_⟩
        omega
def strA (l : List UInt8) : ByteArray := ⟨l.toArray⟩
theorem strA_cat (a b : List UInt8) : strA a ++ strA b = strA (a ++ b) := by
  have h : (strA a ++ strA b).data.toList = (strA (a ++ b)).data.toList := by simp [strA]
  exact congrArg (fun l => strA l) h
theorem strA_size (l : List UInt8) : (strA l).size = l.length := by simp [strA, ByteArray.size]
set_option maxHeartbeats 4000000 in
set_option maxRecDepth 100000 in
theorem tpParse (s : ByteArray) (w : World) (hs1 : 1 ≤ s.size) (hs : s.size ≤ 4096) :
    Calls Tryz.prog 36 #[.string s] w fun e w' => e = .returned (.tuple #[.string (strA (parseF (s.size + 1) 0 [] s.data.toList).1), .int .i64 (parseF (s.size + 1) 0 [] s.data.toList).2.1, .int .i64 (parseF (s.size + 1) 0 [] s.data.toList).2.2]) ∧ Below w.heap.size w w' := by
  obtain ⟨L, hL⟩ : ∃ L, s.data.toList = L := ⟨_, rfl⟩
  have hz : L.length = s.size := by rw [← hL, ← Lib.size_eq]
  have hne : s.toList.isEmpty = false := by
    rw [Lib.toList_data, hL]
    cases L with
    | nil => simp at hz; omega
    | cons a r => rfl
  have hlen : ¬ (4096 : Int) < (s.size : Int) := by omega
  obtain ⟨R, hR⟩ : ∃ R, parseF (s.size + 1) 0 [] L = R := ⟨_, rfl⟩
  rw [hL, hR]
  obtain ⟨RW, Rp, RE⟩ := R
  have HL := Lib.hid hL
  have HZ := Lib.hid hz
  have HR := Lib.hid hR
  clear hL hz hR
  go_enter Tryz.func36, Tryz.ntmps36
  go_wp2_with fail
  go_loopg [5, 6] (s.size + 1) (fun g wv pv wi => ∃ (p : Nat) (W : List UInt8), p ≤ s.size ∧ s.size + 1 ≤ g + p ∧ W.length ≤ 64 ∧ wv = .string (strA W) ∧ pv = .int .i64 p ∧ parseF g p W (L.drop p) = (RW, Rp, RE) ∧ Below w.heap.size w wi)
  case atStart => exact ⟨0, [], Nat.zero_le _, by omega, Nat.zero_le _, rfl, rfl, by rw [List.drop_zero]; exact HR.out, Below.refl _ _⟩
  case round =>
    obtain ⟨p, W, hp, hg, hW, rfl, rfl, hF, hb⟩ := hrel
    obtain ⟨g, rfl⟩ : ∃ g, gk = g + 1 := ⟨gk - 1, by omega⟩
    have hln := HZ.out
    have hWs := strA_size W
    by_cases hlt : p < s.size
    · have hdl : ¬ L.drop p = [] := fun h => by
        have := congrArg List.length h
        rw [List.length_drop, List.length_nil] at this
        omega
      rw [parseF, if_neg hdl] at hF
      have i0 : (0 : Int) ≤ (p : Int) := by omega
      have i1 : (p : Int) ≤ (s.size : Int) := by omega
      have he : (s.extract p s.size).data.toList = L.drop p := by rw [(ext_data s p hp).1, HL.out]
      have HE := Lib.hid he
      have HF := Lib.hid hF
      have HWS := Lib.hid hWs
      clear he hF hdl hWs
      go_wp2_with fail
      refine (tpReadRun _ _).mono ?_
      rintro e w1 ⟨rfl, hb1⟩
      rw [HE.out]
      have B1 := hb.trans (hb1.mono hb.size)
      clear hb1 hb
      obtain ⟨o, ho⟩ : ∃ o, readF 0 0 (L.drop p) = o := ⟨_, rfl⟩
      rw [ho]
      have hF := HF.out
      rw [ho] at hF
      clear HF
      cases o with
      | none =>
        simp only [Prod.mk.injEq] at hF
        obtain ⟨rfl, rfl, rfl⟩ := hF
        have hB : Below w.heap.size w (w1.alloc (.cells #[.string ⟨#[]⟩, .int .i64 0, .int .i64 0] 132)) := B1.alloc B1.size _
        unfold runV
        go_wp2
        go_ret3
        exact ⟨rfl, hB⟩
      | some q =>
        obtain ⟨c, n, z⟩ := q
        obtain ⟨hc, -, hz2, hz1, hn⟩ := readF_some _ _ _ _ _ _ ho
        have hn99 := hn (.inl ⟨rfl, rfl⟩)
        have hz0 := hz1 rfl
        rw [List.length_drop] at hz2
        clear ho hn hz1
        simp only at hF
        have hWs := HWS.out
        have n0 : (0 : Int) ≤ (n : Int) := by omega
        have n1 : (n : Int) ≤ 99 := by omega
        have z0 : (0 : Int) ≤ (z : Int) := by omega
        have z1 : (p : Int) + (z : Int) ≤ 4096 := by omega
        obtain ⟨w2, hw2, c0, c1, c2, hb2, hz3⟩ := box3 w1 (.string ⟨#[c]⟩) (.int .i64 n) (.int .i64 z) 132
        have HW2 := Lib.hid hw2
        have B2 := B1.trans (hb2.mono B1.size)
        clear hw2
        unfold runV
        by_cases hbig : 64 < W.length + n
        · rw [if_pos hbig] at hF
          simp only [Prod.mk.injEq] at hF
          obtain ⟨rfl, rfl, rfl⟩ := hF
          have HLE := Lib.hid (show lenE (((strA W).size : Int) + (n : Int)) = 26 by rw [lenE, if_pos]; omega)
          have hsz : ((strA W).size : Int) ≤ 64 := by omega
          clear hWs hbig
          go_wp2_with fail
          rw [← HW2.out]
          refine (tpCheckLengthE _ _).mono ?_
          rintro e w3 ⟨rfl, rfl⟩
          rw [HLE.out]
          go_wp2
          go_ret3
          exact ⟨rfl, B2⟩
        · rw [if_neg hbig] at hF
          have HF := Lib.hid hF
          have HLE := Lib.hid (show lenE (((strA W).size : Int) + (n : Int)) = 0 by rw [lenE, if_neg]; omega)
          have hsz : ((strA W).size : Int) ≤ 64 := by omega
          have hsz2 : (strA W).size ≤ 64 := by omega
          have HCAT := Lib.hid (show strA W ++ (⟨(Lib.repeatL [c] n).toArray⟩ : ByteArray) = strA (W ++ Lib.repeatL [c] n) from strA_cat _ _)
          have hrl : (⟨(Lib.repeatL [c] n).toArray⟩ : ByteArray).size ≤ 99 := by
            show (Lib.repeatL [c] n).toArray.size ≤ 99
            rw [List.size_toArray, Lib.repeatL_length]
            simp; omega
          have HNL := Lib.hid (show (W ++ Lib.repeatL [c] n).length ≤ 64 by rw [List.length_append, Lib.repeatL_length]; simp; omega)
          have HDR := Lib.hid (show (L.drop p).drop z = L.drop (p + z) from List.drop_drop)
          clear hWs hF
          go_wp2_with fail
          rw [← HW2.out]
          refine (tpCheckLengthE _ _).mono ?_
          rintro e w3 ⟨rfl, rfl⟩
          rw [HLE.out]
          go_wp2_with fail
          refine (tpRepeated _ n _ (by show (1 : Nat) ≤ 64; decide) (by omega)).mono ?_
          rintro e w4 ⟨rfl, hb4⟩
          have d2 := (hb4.cell (p := ⟨w1.heap.size, 2, none⟩) hz3).trans c2
          have B4 := B2.trans (hb4.mono B2.size)
          go_wp2
          go_roundg g
          case rel => exact ⟨p + z, W ++ Lib.repeatL [c] n, by omega, by omega, HNL.out, congrArg Value.string HCAT.out, by go_num, by rw [← HDR.out]; exact HF.out, B4⟩
          case measure => omega
    · obtain rfl : p = s.size := by omega
      have hdl : L.drop s.size = [] := List.drop_of_length_le (by omega)
      rw [parseF, if_pos hdl] at hF
      simp only [Prod.mk.injEq] at hF
      obtain ⟨rfl, rfl, rfl⟩ := hF
      clear hdl
      go_wp2
      go_ret3
      exact ⟨rfl, hb⟩
set_option maxHeartbeats 1000000 in
set_option maxRecDepth 100000 in
/-- Parse at all strings. -/
theorem tpParseAll (s : ByteArray) (w : World) :
    Calls Tryz.prog 36 #[.string s] w fun e w' => e = .returned (.tuple #[.string (strA (parseL s.data.toList).1), .int .i64 (parseL s.data.toList).2.1, .int .i64 (parseL s.data.toList).2.2]) ∧ Below w.heap.size w w' := by
  have hz := Lib.size_eq s
  by_cases h0 : s.data.toList = []
  · have he : s.toList.isEmpty = true := by rw [Lib.toList_data, h0]; rfl
    rw [parseL, if_pos h0]
    clear hz h0
    go_enter Tryz.func36, Tryz.ntmps36
    go_wp2
    go_ret3
    exact ⟨rfl, Below.refl _ _⟩
  · have h1 : 1 ≤ s.size := by
      rw [hz]
      cases hl : s.data.toList with
      | nil => exact absurd hl h0
      | cons a r => simp
    by_cases h2 : 4096 < s.size
    · have hne : s.toList.isEmpty = false := by
        rw [Lib.toList_data]
        cases hl : s.data.toList with
        | nil => exact absurd hl h0
        | cons a r => rfl
      have hlen : (4096 : Int) < (s.size : Int) := by omega
      rw [parseL, if_neg h0, if_pos (by omega)]
      clear hz h0
      go_enter Tryz.func36, Tryz.ntmps36
      go_wp2
      go_ret3
      exact ⟨rfl, Below.refl _ _⟩
    · have e : parseL s.data.toList = parseF (s.size + 1) 0 [] s.data.toList := by rw [parseL, if_neg h0, if_neg (by omega), ← hz]
      rw [e]
      exact tpParse s w h1 (by omega)
end Go.Proofs.YtfmfpnnglogkmaaGreatDoor
