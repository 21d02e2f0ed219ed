/- TaperChanges returns true for every string and int; the library's tables that its row lists are tied to the program's text. Conditions: none beside that. -/
import Derived.Test.YtgpgdjdababidaaGreatDoorM5
import Derived.Deep.QuietTactic
import Derived.BigQuiet
/- Power and Rotate of taper, at all arguments. -/
namespace Go.Proofs.YtgpgdjdababidaaGreatDoor
open Go.RowKit

def rotE (s : ByteArray) (n : Int) : Int := firstE [wordE s.data.toList, rngE n 0 999999999]
def rotS (s : ByteArray) (n : Int) : ByteArray := if rotE s n = 0 then ⟨(rotA s.data.toList (n.toNat % s.size)).toArray⟩ else ⟨#[]⟩
theorem first2_zero {a b : Int} (h : firstE [a, b] = 0) : a = 0 ∧ b = 0 := by
  simp only [firstE] at h
  repeat' split at h
  all_goals simp_all
set_option maxHeartbeats 2000000 in
set_option maxRecDepth 100000 in
theorem tpRotate (s : ByteArray) (n : Int) (w : World) :
    Calls Tryz.prog 33 #[.string s, .int .i64 n] w fun e w' => e = .returned (.tuple #[.string (rotS s n), .int .i64 (rotE s n)]) ∧ Below w.heap.size w w' := by
  by_cases h0 : rotE s n = 0
  · obtain ⟨hw0, hn0⟩ := first2_zero h0
    obtain ⟨n1, n2⟩ := rngE_zero hn0
    have hs := wordE_zero hw0
    rw [rotS, if_pos h0, h0]
    obtain ⟨N, rfl⟩ : ∃ N : Nat, n = (N : Int) := ⟨n.toNat, by omega⟩
    rw [Int.toNat_natCast]
    have h64 := hs.2.2
    have h1 := hs.2.1
    have hm := nat_tmod N s.size
    have hlt : N % s.size < s.size := Nat.mod_lt _ (by omega)
    obtain ⟨r, hr⟩ : ∃ r, N % s.size = r := ⟨_, rfl⟩
    rw [hr] at hm hlt ⊢
    have HV := Lib.hid hw0
    have HR := Lib.hid hn0
    have hzN : ¬ s.size = 0 := by omega
    clear hs hr h0 hw0 hn0
    go_enter Tryz.func33, Tryz.ntmps33
    go_wp2_with fail
    refine (tpCheckWordE s _).mono ?_
    rintro e w1 ⟨rfl, hb1⟩
    rw [HV.out]
    go_wp2_with fail
    refine (tpRng _ _ _ _).mono ?_
    rintro e w2 ⟨rfl, rfl⟩
    rw [HR.out]
    go_wp2_with fail
    refine (tpFirst2 _ _ _ _ 23 _ (by exact heap_alloc_new _ _)).mono ?_
    rintro e w3 ⟨rfl, rfl⟩
    rw [show firstE [0, 0] = 0 from rfl]
    have b3 : Below w.heap.size w (w1.alloc (.cells #[.int .i64 0, .int .i64 0] 23)) := hb1.alloc hb1.size _
    generalize World.alloc w1 _ = w4 at b3 ⊢
    go_wp2_with fail
    refine (tpRotated s r _ h64 hlt).mono ?_
    rintro e w5 ⟨rfl, hb5⟩
    go_wp2
    go_ret2
    exact ⟨rfl, b3.trans (hb5.mono b3.size)⟩
  · have hne := neE h0
    obtain ⟨E, hE⟩ : ∃ E, rotE s n = E := ⟨_, rfl⟩
    rw [rotS, if_neg h0, hE]
    rw [hE] at hne
    have HE := Lib.hid hE
    clear h0 hE
    go_enter Tryz.func33, Tryz.ntmps33
    go_wp2_with fail
    refine (tpCheckWordE s _).mono ?_
    rintro e w1 ⟨rfl, hb1⟩
    go_wp2_with fail
    refine (tpRng _ _ _ _).mono ?_
    rintro e w1' ⟨rfl, rfl⟩
    go_wp2_with fail
    refine (tpFirst2 _ _ _ _ 23 _ (by exact heap_alloc_new _ _)).mono ?_
    rintro e w3 ⟨rfl, rfl⟩
    rw [show firstE [wordE s.data.toList, rngE n 0 999999999] = E from HE.out]
    go_wp2
    go_ret2
    exact ⟨rfl, hb1.alloc hb1.size _⟩
def pow0 (s : ByteArray) (n : Int) : Int := firstE [wordE s.data.toList, rngE n 1 64]
def powE (s : ByteArray) (n : Int) : Int := if pow0 s n = 0 then lenE ((s.size : Int) * n) else pow0 s n
def powS (s : ByteArray) (n : Int) : ByteArray := if powE s n = 0 then ⟨(Lib.repeatL s.data.toList n.toNat).toArray⟩ else ⟨#[]⟩
set_option maxHeartbeats 2000000 in
set_option maxRecDepth 100000 in
theorem tpPower (s : ByteArray) (n : Int) (w : World) :
    Calls Tryz.prog 32 #[.string s, .int .i64 n] w fun e w' => e = .returned (.tuple #[.string (powS s n), .int .i64 (powE s n)]) ∧ Below w.heap.size w w' := by
  by_cases h0 : pow0 s n = 0
  · obtain ⟨hw0, hn0⟩ := first2_zero h0
    obtain ⟨n1, n2⟩ := rngE_zero hn0
    have hs := wordE_zero hw0
    have h64 := hs.2.2
    have h1 := hs.2.1
    obtain ⟨N, rfl⟩ : ∃ N : Nat, n = (N : Int) := ⟨n.toNat, by omega⟩
    have hm1 : 0 ≤ (s.size : Int) * (N : Int) := Int.mul_nonneg (by omega) (by omega)
    have hm2 : (s.size : Int) * (N : Int) ≤ 64 * 64 := Int.mul_le_mul (by omega) (by omega) (by omega) (by omega)
    have HV := Lib.hid hw0
    have HR := Lib.hid hn0
    by_cases hl : lenE ((s.size : Int) * (N : Int)) = 0
    · rw [powS, powE, if_pos h0, if_pos hl, hl, Int.toNat_natCast]
      have HL := Lib.hid hl
      clear hs h0 hw0 hn0 hl
      go_enter Tryz.func32, Tryz.ntmps32
      go_wp2_with fail
      refine (tpCheckWordE s _).mono ?_
      rintro e w1 ⟨rfl, hb1⟩
      rw [HV.out]
      go_wp2_with fail
      refine (tpRng _ _ _ _).mono ?_
      rintro e w2 ⟨rfl, rfl⟩
      rw [HR.out]
      go_wp2_with fail
      refine (tpFirst2 _ _ _ _ 23 _ (by exact heap_alloc_new _ _)).mono ?_
      rintro e w3 ⟨rfl, rfl⟩
      rw [show firstE [0, 0] = 0 from rfl]
      have b3 : Below w.heap.size w (w1.alloc (.cells #[.int .i64 0, .int .i64 0] 23)) := hb1.alloc hb1.size _
      generalize World.alloc w1 _ = w4 at b3 ⊢
      go_wp2_with fail
      refine (tpCheckLengthE _ _).mono ?_
      rintro e w5 ⟨rfl, rfl⟩
      rw [HL.out]
      go_wp2_with fail
      refine (tpRepeated s N _ h64 (by omega)).mono ?_
      rintro e w6 ⟨rfl, hb6⟩
      go_wp2
      go_ret2
      exact ⟨rfl, b3.trans (hb6.mono b3.size)⟩
    · have hne := neE hl
      obtain ⟨E, hE⟩ : ∃ E, lenE ((s.size : Int) * (N : Int)) = E := ⟨_, rfl⟩
      rw [powS, powE, if_pos h0, if_neg hl, hE]
      rw [hE] at hne
      have HL := Lib.hid hE
      clear hs h0 hw0 hn0 hl hE
      go_enter Tryz.func32, Tryz.ntmps32
      go_wp2_with fail
      refine (tpCheckWordE s _).mono ?_
      rintro e w1 ⟨rfl, hb1⟩
      rw [HV.out]
      go_wp2_with fail
      refine (tpRng _ _ _ _).mono ?_
      rintro e w2 ⟨rfl, rfl⟩
      rw [HR.out]
      go_wp2_with fail
      refine (tpFirst2 _ _ _ _ 23 _ (by exact heap_alloc_new _ _)).mono ?_
      rintro e w3 ⟨rfl, rfl⟩
      rw [show firstE [0, 0] = 0 from rfl]
      have b3 : Below w.heap.size w (w1.alloc (.cells #[.int .i64 0, .int .i64 0] 23)) := hb1.alloc hb1.size _
      generalize World.alloc w1 _ = w4 at b3 ⊢
      go_wp2_with fail
      refine (tpCheckLengthE _ _).mono ?_
      rintro e w5 ⟨rfl, rfl⟩
      rw [HL.out]
      go_wp2
      go_ret2
      exact ⟨rfl, b3⟩
  · have hne := neE h0
    obtain ⟨E, hE⟩ : ∃ E, pow0 s n = E := ⟨_, rfl⟩
    have hq : powE s n = E := by rw [powE, if_neg h0, hE]
    rw [powS, hq, if_neg (by rw [← hE]; exact h0)]
    rw [hE] at hne
    have HE := Lib.hid hE
    clear h0 hE hq
    go_enter Tryz.func32, Tryz.ntmps32
    go_wp2_with fail
    refine (tpCheckWordE s _).mono ?_
    rintro e w1 ⟨rfl, hb1⟩
    go_wp2_with fail
    refine (tpRng _ _ _ _).mono ?_
    rintro e w1' ⟨rfl, rfl⟩
    go_wp2_with fail
    refine (tpFirst2 _ _ _ _ 23 _ (by exact heap_alloc_new _ _)).mono ?_
    rintro e w3 ⟨rfl, rfl⟩
    rw [show firstE [wordE s.data.toList, rngE n 1 64] = E from HE.out]
    go_wp2
    go_ret2
    exact ⟨rfl, hb1.alloc hb1.size _⟩
end Go.Proofs.YtgpgdjdababidaaGreatDoor

/- Roots, rotations and least rotations of words: plain mathematics. -/
namespace Go.Proofs.YtgpgdjdababidaaGreatDoor
open Go.RowKit

theorem bl_cmp : ∀ a b : List UInt8, Lib.compareBytes a b < 0 ↔ Op.bytesLess a b = true
  | [], [] => by simp [Lib.compareBytes, Op.bytesLess]
  | [], _ :: _ => by simp [Lib.compareBytes, Op.bytesLess]
  | _ :: _, [] => by simp [Lib.compareBytes, Op.bytesLess]
  | x :: a, y :: b => by
    have ih := bl_cmp a b
    rw [Lib.compareBytes, Op.bytesLess]
    by_cases h1 : x < y
    · simp [h1]
    · by_cases h2 : y < x
      · have h3 : ¬ x = y := fun e => by rw [e] at h2; exact UInt8.lt_irrefl _ h2
        simp [h1, h2, h3]
      · have h3 : x = y := UInt8.le_antisymm (UInt8.not_lt.1 h2) (UInt8.not_lt.1 h1)
        rw [if_neg h1, if_neg h2, ih]
        simp [h3]
theorem bl_cons (x y : UInt8) (a b : List UInt8) : Op.bytesLess (x :: a) (y :: b) = true ↔ x.toNat < y.toNat ∨ (x.toNat = y.toNat ∧ Op.bytesLess a b = true) := by
  rw [Op.bytesLess, Bool.or_eq_true, Bool.and_eq_true, beq_iff_eq, decide_eq_true_eq, UInt8.lt_iff_toNat_lt]
  constructor
  · rintro (h | ⟨h, h'⟩)
    · exact .inl h
    · exact .inr ⟨by rw [h], h'⟩
  · rintro (h | ⟨h, h'⟩)
    · exact .inl h
    · exact .inr ⟨UInt8.toNat.inj h, h'⟩
/-- a is not behind b. -/
def bLe (a b : List UInt8) : Prop := Op.bytesLess b a = false
theorem bLe_refl : ∀ a : List UInt8, bLe a a
  | [] => rfl
  | x :: a => by
    have ih := bLe_refl a
    unfold bLe at ih ⊢
    rw [Bool.eq_false_iff] at ih ⊢
    intro h
    rcases (bl_cons _ _ _ _).1 h with h | ⟨_, h⟩
    · omega
    · exact ih h
theorem bLe_total : ∀ a b : List UInt8, bLe a b ∨ bLe b a
  | [], b => .inl (by cases b <;> rfl)
  | _ :: _, [] => .inr rfl
  | x :: a, y :: b => by
    have ih := bLe_total a b
    unfold bLe at ih ⊢
    rw [Bool.eq_false_iff, Bool.eq_false_iff] at ih ⊢
    simp only [ne_eq, bl_cons] at ih ⊢
    by_cases h1 : x.toNat < y.toNat
    · left; rintro (h | ⟨h, _⟩) <;> omega
    · by_cases h2 : y.toNat < x.toNat
      · right; rintro (h | ⟨h, _⟩) <;> omega
      · rcases ih with ih | ih
        · left; rintro (h | ⟨_, h⟩)
          · omega
          · exact ih h
        · right; rintro (h | ⟨_, h⟩)
          · omega
          · exact ih h
theorem bLe_trans : ∀ {a b c : List UInt8}, bLe a b → bLe b c → bLe a c
  | [], _, c => fun _ _ => by cases c <;> rfl
  | x :: a, [], _ => fun h _ => by simp [bLe, Op.bytesLess] at h
  | x :: a, y :: b, [] => fun _ h => by simp [bLe, Op.bytesLess] at h
  | x :: a, y :: b, z :: c => fun h1 h2 => by
    have ih := @bLe_trans a b c
    unfold bLe at ih h1 h2 ⊢
    rw [Bool.eq_false_iff] at h1 h2 ⊢
    simp only [ne_eq, bl_cons] at h1 h2 ⊢
    rintro (h | ⟨h, h'⟩)
    · by_cases g : y.toNat < x.toNat
      · exact h1 (.inl g)
      · exact h2 (.inl (by omega))
    · by_cases g : y.toNat < x.toNat
      · exact h1 (.inl g)
      · by_cases g2 : z.toNat < y.toNat
        · exact h2 (.inl g2)
        · have e1 : y.toNat = x.toNat := by omega
          have e2 : z.toNat = y.toNat := by omega
          have k1 : Op.bytesLess b a = false := Bool.eq_false_iff.2 fun k => h1 (.inr ⟨e1, k⟩)
          have k2 : Op.bytesLess c b = false := Bool.eq_false_iff.2 fun k => h2 (.inr ⟨e2, k⟩)
          rw [ih k1 k2] at h'
          cases h'
theorem bLe_antisymm : ∀ {a b : List UInt8}, bLe a b → bLe b a → a = b
  | [], [] => fun _ _ => rfl
  | [], _ :: _ => fun _ h => by simp [bLe, Op.bytesLess] at h
  | _ :: _, [] => fun h _ => by simp [bLe, Op.bytesLess] at h
  | x :: a, y :: b => fun h1 h2 => by
    have ih := @bLe_antisymm a b
    unfold bLe at ih h1 h2
    rw [Bool.eq_false_iff] at h1 h2
    simp only [ne_eq, bl_cons] at h1 h2
    have e : x.toNat = y.toNat := by
      by_cases g : y.toNat < x.toNat
      · exact absurd (.inl g) h1
      · by_cases g2 : x.toNat < y.toNat
        · exact absurd (.inl g2) h2
        · omega
    have k1 : Op.bytesLess b a = false := Bool.eq_false_iff.2 fun k => h1 (.inr ⟨e.symm, k⟩)
    have k2 : Op.bytesLess a b = false := Bool.eq_false_iff.2 fun k => h2 (.inr ⟨e, k⟩)
    rw [UInt8.toNat.inj e, ih k1 k2]
theorem bLe_gtr {a b : List UInt8} (h : bLe a b) : (!(Op.bytesLess a b || a == b)) = false := by
  by_cases hb : Op.bytesLess a b = true
  · rw [hb]; rfl
  · have : a = b := bLe_antisymm h (by rw [bLe]; exact Bool.eq_false_iff.2 hb)
    rw [this]
    simp
/-- The least rotation is not behind the others. -/
theorem lstF_le (L : List UInt8) : ∀ i j, j < i → bLe (rotA L (lstF L i)) (rotA L j)
  | 0, j, h => by omega
  | i + 1, j, h => by
    rw [lstF]
    by_cases hc : Lib.compareBytes (rotA L i) (rotA L (lstF L i)) < 0
    · rw [if_pos hc]
      have hl := (bl_cmp _ _).1 hc
      have hle : bLe (rotA L i) (rotA L (lstF L i)) := by
        rcases bLe_total (rotA L i) (rotA L (lstF L i)) with g | g
        · exact g
        · rw [bLe, hl] at g; cases g
      by_cases hj : j = i
      · rw [hj]; exact bLe_refl _
      · exact bLe_trans hle (lstF_le L i j (by omega))
    · rw [if_neg hc]
      by_cases hj : j = i
      · rw [hj]
        exact Bool.eq_false_iff.2 fun k => hc ((bl_cmp _ _).2 k)
      · exact lstF_le L i j (by omega)
theorem lstW_le {L : List UInt8} {j : Nat} (h : j < L.length) : bLe (lstW L) (rotA L j) := lstF_le L L.length j h
theorem lstW_is {L : List UInt8} (h : 0 < L.length) : ∃ i, i < L.length ∧ lstW L = rotA L i := ⟨lstF L L.length, by have := lstF_lt L L.length; omega, rfl⟩
theorem rotA_len {L : List UInt8} {a : Nat} (_ : a ≤ L.length) : (rotA L a).length = L.length := by
  rw [rotA, List.length_append, List.length_drop, List.length_take]
  omega
theorem rotA_zero (L : List UInt8) : rotA L 0 = L := by simp [rotA]
theorem rotA_rot {L : List UInt8} {a b : Nat} (ha : a < L.length) (hb : b < L.length) : rotA (rotA L a) b = rotA L (if a + b < L.length then a + b else a + b - L.length) := by
  split
  · rename_i h
    unfold rotA
    rw [List.drop_append_of_le_length (by rw [List.length_drop]; omega), List.take_append_of_le_length (by rw [List.length_drop]; omega), List.drop_drop, List.append_assoc, ← List.take_add]
  · rename_i h
    obtain ⟨c, hc⟩ : ∃ c, b = L.length - a + c := ⟨b - (L.length - a), by omega⟩
    have e : a + b - L.length = c := by omega
    rw [e]
    unfold rotA
    have hd : (L.drop a).length = L.length - a := List.length_drop
    rw [hc, ← hd, List.drop_length_add_append, List.take_length_add_append, List.drop_take, List.take_take]
    have e2 : min c a = c := by omega
    rw [e2]
    have : L.drop c = (L.drop c).take (a - c) ++ L.drop a := by
      conv => lhs; rw [← List.take_append_drop (a - c) (L.drop c), List.drop_drop]
      rw [show c + (a - c) = a by omega]
    rw [← List.append_assoc, ← this]
theorem rot_back {L : List UInt8} {a : Nat} (h : a < L.length) : rotA (rotA L a) ((L.length - a) % L.length) = L := by
  by_cases h0 : a = 0
  · subst h0
    rw [Nat.sub_zero, Nat.mod_self, rotA_zero, rotA_zero]
  · rw [Nat.mod_eq_of_lt (by omega), rotA_rot h (by omega), if_neg (by omega)]
    rw [show a + (L.length - a) - L.length = 0 by omega, rotA_zero]
theorem lst_rot {L : List UInt8} {a : Nat} (h : a < L.length) : lstW (rotA L a) = lstW L := by
  have hl := rotA_len (L := L) (a := a) (by omega)
  apply bLe_antisymm
  · obtain ⟨i, hi, e⟩ := lstW_is (L := L) (by omega)
    rw [e]
    have hj : ∃ j, j < L.length ∧ rotA (rotA L a) j = rotA L i := by
      by_cases g : a ≤ i
      · exact ⟨i - a, by omega, by rw [rotA_rot h (by omega), if_pos (by omega)]; rw [show a + (i - a) = i by omega]⟩
      · exact ⟨i + L.length - a, by omega, by rw [rotA_rot h (by omega), if_neg (by omega)]; rw [show a + (i + L.length - a) - L.length = i by omega]⟩
    obtain ⟨j, hj, e2⟩ := hj
    rw [← e2]
    exact lstW_le (by omega)
  · obtain ⟨i, hi, e⟩ := lstW_is (L := rotA L a) (by omega)
    rw [e, rotA_rot h (by omega)]
    exact lstW_le (by split <;> omega)
theorem lst_len {L : List UInt8} (h : 0 < L.length) : (lstW L).length = L.length := by
  obtain ⟨i, hi, e⟩ := lstW_is h
  rw [e, rotA_len (by omega)]
theorem lst_self {L : List UInt8} (h : 0 < L.length) : bLe (lstW L) L := by
  have := lstW_le (L := L) (j := 0) h
  rwa [rotA_zero] at this
theorem vecL_app (a b : List UInt8) : vecL (a ++ b) = ((vecL a).1 + (vecL b).1, (vecL a).2 + (vecL b).2) := by simp [vecL]
theorem vec_rot (L : List UInt8) (a : Nat) : vecL (rotA L a) = vecL L := by
  conv => rhs; rw [← List.take_append_drop a L]
  rw [rotA, vecL_app, vecL_app]
  exact Prod.ext (Int.add_comm _ _) (Int.add_comm _ _)
theorem vec_repeat (L : List UInt8) : ∀ k, vecL (Lib.repeatL L k) = ((k : Int) * (vecL L).1, (k : Int) * (vecL L).2)
  | 0 => by simp [Lib.repeatL, vecL]
  | k + 1 => by
    rw [Lib.repeatL, vecL_app, vec_repeat L k]
    refine Prod.ext ?_ ?_
    · show _ + (k : Int) * _ = ((k + 1 : Nat) : Int) * _
      push_cast
      grind
    · show _ + (k : Int) * _ = ((k + 1 : Nat) : Int) * _
      push_cast
      grind
/-! ### Roots -/
theorem leastF_pass {P : Nat → Bool} {G : Nat} : ∀ k n, n + k = G → leastF P G k n = G ∨ P (leastF P G k n) = true
  | 0, _, _ => .inl rfl
  | k + 1, n, h => by
    rw [leastF]
    split
    · right; assumption
    · exact leastF_pass k (n + 1) (by omega)
theorem leastF_low {P : Nat → Bool} {G : Nat} : ∀ k n m, n ≤ m → m < n + k → P m = true → leastF P G k n ≤ m
  | 0, _, _, h1, h2, _ => by omega
  | k + 1, n, m, h1, h2, h3 => by
    rw [leastF]
    split
    · exact h1
    · rename_i hp
      have : n ≠ m := fun e => hp (by rw [e]; exact h3)
      exact leastF_low k (n + 1) m (by omega) (by omega) h3
theorem leastN_low {P : Nat → Bool} {G m : Nat} (h1 : 1 ≤ m) (h2 : m < G) (h : P m = true) : leastN P G ≤ m := leastF_low _ _ _ h1 (by omega) h
theorem repeat_one (L : List UInt8) : Lib.repeatL L 1 = L := by simp [Lib.repeatL]
theorem root_facts {L : List UInt8} (h : 1 ≤ L.length) : 1 ≤ rootN L ∧ rootN L ≤ L.length ∧ L.length % rootN L = 0 ∧ L = Lib.repeatL (L.take (rootN L)) (L.length / rootN L) := by
  obtain ⟨h1, h2⟩ := leastN_range (powB L) h
  refine ⟨h1, h2, ?_⟩
  rcases leastF_pass (P := powB L) (G := L.length) (L.length - 1) 1 (by omega) with g | g
  · have e : rootN L = L.length := g
    rw [e, Nat.mod_self, Nat.div_self (by omega), List.take_length, repeat_one]
    exact ⟨rfl, rfl⟩
  · have g' : powB L (rootN L) = true := g
    unfold powB at g'
    rw [Bool.and_eq_true, decide_eq_true_eq, beq_iff_eq] at g'
    exact g'
theorem repeat_repeat (L : List UInt8) (m : Nat) : ∀ n, Lib.repeatL (Lib.repeatL L m) n = Lib.repeatL L (m * n)
  | 0 => by simp [Lib.repeatL]
  | n + 1 => by
    have add : ∀ a b, Lib.repeatL L (a + b) = Lib.repeatL L a ++ Lib.repeatL L b := by
      intro a b
      induction a with
      | zero => simp [Lib.repeatL]
      | succ a ih => rw [Nat.add_right_comm, Lib.repeatL, ih, Lib.repeatL, List.append_assoc]
    rw [Lib.repeatL, repeat_repeat L m n, Nat.mul_add, Nat.mul_one, Nat.add_comm, add]
theorem root_root {L : List UInt8} (h : 1 ≤ L.length) : rootN (L.take (rootN L)) = rootN L := by
  obtain ⟨h1, h2, h3, h4⟩ := root_facts h
  obtain ⟨n, hn⟩ : ∃ n, rootN L = n := ⟨_, rfl⟩
  rw [hn] at h1 h2 h3 h4 ⊢
  have hl : (L.take n).length = n := by rw [List.length_take]; omega
  obtain ⟨g1, g2, g3, g4⟩ := root_facts (L := L.take n) (by omega)
  obtain ⟨m, hm⟩ : ∃ m, rootN (L.take n) = m := ⟨_, rfl⟩
  rw [hm] at g1
  rw [hm, hl] at g2 g3 g4
  rw [hm]
  by_cases hlt : m < n
  · exfalso
    have d1 := Nat.dvd_of_mod_eq_zero g3
    have d2 := Nat.dvd_of_mod_eq_zero h3
    have hp : powB L m = true := by
      unfold powB
      rw [Bool.and_eq_true, decide_eq_true_eq, beq_iff_eq]
      refine ⟨Nat.mod_eq_zero_of_dvd (Nat.dvd_trans d1 d2), ?_⟩
      rw [List.take_take, Nat.min_eq_left (by omega)] at g4
      rw [g4, repeat_repeat] at h4
      have e : n / m * (L.length / n) = L.length / m := by
        obtain ⟨p, rfl⟩ := d1
        obtain ⟨q, hq⟩ := d2
        rw [hq, Nat.mul_div_cancel_left _ (by omega), Nat.mul_div_cancel_left _ (by omega), Nat.mul_assoc, Nat.mul_div_cancel_left _ (by omega)]
      rwa [e] at h4
    have := leastN_low (P := powB L) (G := L.length) g1 (by omega) hp
    have e : leastN (powB L) L.length = n := hn
    omega
  · omega
end Go.Proofs.YtgpgdjdababidaaGreatDoor

/- Rotate, Root, Least and count of the reference of chapter 2. -/
namespace Go.Proofs.YtgpgdjdababidaaGreatDoor
open Go.RowKit Go.Shelf Ck

theorem arr_back (s : ByteArray) : (⟨s.data.toList.toArray⟩ : ByteArray) = s := by rw [Array.toArray_toList]
theorem cat_arr (a b : ByteArray) (l m : List UInt8) (ha : a.data.toList = l) (hb : b.data.toList = m) : a ++ b = ⟨(l ++ m).toArray⟩ := by
  have h : (a ++ b).data.toList = (⟨(l ++ m).toArray⟩ : ByteArray).data.toList := by simp [ha, hb]
  have h2 : (a ++ b).data = (⟨(l ++ m).toArray⟩ : ByteArray).data := Array.toList_inj.1 h
  cases hh : a ++ b
  rw [hh] at h2
  exact congrArg ByteArray.mk h2
set_option maxHeartbeats 2000000 in
set_option maxRecDepth 100000 in
theorem rfRotate (s : ByteArray) (n : Nat) (w : World) (h1 : 1 ≤ s.size) (h64 : s.size ≤ 64) :
    Calls Tryz.prog 41 #[.string s, .int .i64 n] w fun e w' => e = .returned (.string ⟨(rotA s.data.toList (n % s.size)).toArray⟩) ∧ Below w.heap.size w w' := by
  have hm := nat_tmod n s.size
  have hm2 : (n : Int) % (s.size : Int) = ((n % s.size : Nat) : Int) := (Int.natCast_emod _ _).symm
  have hlt : n % s.size < s.size := Nat.mod_lt _ (by omega)
  obtain ⟨r, hr⟩ : ∃ r, n % s.size = r := ⟨_, rfl⟩
  rw [hr] at hm hm2 hlt ⊢
  have hzN : ¬ s.size = 0 := by omega
  have hz0 : ¬ (s.size : Int) = 0 := by omega
  have i0 : (0 : Int) ≤ (r : Int) := by omega
  have i1 : (r : Int) ≤ (s.size : Int) := by omega
  have HC := Lib.hid (show s.extract r s.size ++ s.extract 0 r = ⟨(rotA s.data.toList r).toArray⟩ from
    cat_arr _ _ _ _ (ext_data s r (by omega)).1 (ext_data s r (by omega)).2.1)
  have z1 : (s.extract r s.size).size = s.size - r := (ext_data s r (by omega)).2.2.1
  have z2 : (s.extract 0 r).size = r := (ext_data s r (by omega)).2.2.2
  clear hr
  go_enter Tryz.func41, Tryz.ntmps41
  go_wp2_with fail
  go_quiet (fail)
  go_wp2
  go_ret
  exact ⟨by rw [← HC.out]; rfl, below_drewN (Below.refl _ _) _⟩
set_option maxHeartbeats 2000000 in
set_option maxRecDepth 100000 in
theorem rfCount (s : ByteArray) (c : UInt8) (w : World) (h64 : s.size ≤ 1000) :
    Calls Tryz.prog 98 #[.string s, .int .u8 c.toNat] w fun e w' => e = .returned (.int .i64 (s.data.toList.count c : Nat)) ∧ w' = w := by
  have hz := Lib.size_eq s
  obtain ⟨L, hL⟩ : ∃ L, s.data.toList = L := ⟨_, rfl⟩
  have HL := Lib.hid hL
  rw [hL] at hz ⊢
  clear hL
  go_enter Tryz.func98, Tryz.ntmps98
  go_wp2_with fail
  go_loop [5, 6] (fun v i => ∃ k : Nat, k ≤ s.size ∧ i = .int .i64 k ∧ v = .int .i64 ((L.take k).count c : Nat)) (fun _ i => s.size - (intOf i).toNat)
  case atStart => exact ⟨0, Nat.zero_le _, rfl, by simp⟩
  case round =>
    obtain ⟨k, hk, rfl, rfl⟩ := hrel
    by_cases hlt : k < s.size
    · have k0 : (0 : Int) ≤ (k : Int) := by omega
      have k1 : (k : Int) < (s.size : Int) := by omega
      have hkL : k < L.length := by omega
      have hel : s[k] = L[k] := by
        rw [← byte_at s k hlt (by rw [HL.out]; exact hkL)]
        simp only [HL.out]
      have hcl : (L.take k).count c ≤ 1000 := Nat.le_trans List.count_le_length (by rw [List.length_take]; omega)
      have HN := Lib.hid (show (L.take (k + 1)).count c = (L.take k).count c + if L[k] = c then 1 else 0 by
        rw [List.take_succ_eq_append_getElem hkL, List.count_append]
        congr 1
        rw [List.count_singleton]
        simp only [beq_iff_eq])
      obtain ⟨v, hv⟩ : ∃ v, (L.take k).count c = v := ⟨_, rfl⟩
      rw [hv] at hcl HN ⊢
      clear hv
      by_cases hc : L[k] = c
      · have e1 : s[k].toNat = c.toNat := by rw [hel, hc]
        rw [if_pos hc] at HN
        clear hc hel
        go_wp2
        go_round
        case rel => exact ⟨k + 1, by omega, by go_num, by rw [HN.out]; go_num⟩
        case measure => simp [intOf]; omega
      · have e1 : ¬ s[k].toNat = c.toNat := fun e => hc (by rw [← hel]; exact UInt8.toNat.inj e)
        have e2 : ((s[k].toNat : Int) == (c.toNat : Int)) = false := by rw [beq_eq_false_iff_ne]; omega
        rw [if_neg hc] at HN
        clear hc hel e1
        go_wp2
        go_round
        case rel => exact ⟨k + 1, by omega, by go_num, by rw [HN.out]; rfl⟩
        case measure => simp [intOf]; omega
    · obtain rfl : k = s.size := by omega
      have HT := Lib.hid (show L.take s.size = L from List.take_of_length_le (by omega))
      go_wp2
      go_ret
      first | exact ⟨rfl, rfl⟩ | exact ⟨by rw [HT.out], rfl⟩
set_option maxHeartbeats 2000000 in
set_option maxRecDepth 100000 in
theorem rfLeast (s : ByteArray) (w : World) (h1 : 1 ≤ s.size) (h64 : s.size ≤ 64) :
    Calls Tryz.prog 38 #[.string s] w fun e w' => e = .returned (.string ⟨(lstW s.data.toList).toArray⟩) ∧ Below w.heap.size w w' := by
  have hz := Lib.size_eq s
  have HL := Lib.hid (show lstW s.data.toList = rotA s.data.toList (lstF s.data.toList s.size) by rw [lstW, hz])
  have HS := Lib.hid (show lstF s.data.toList 1 = 0 by rw [lstF]; split <;> rfl)
  have HS0 := Lib.hid (show (⟨(rotA s.data.toList 0).toArray⟩ : ByteArray) = s by rw [rotA_zero, Array.toArray_toList])
  clear hz
  go_enter Tryz.func38, Tryz.ntmps38
  go_wp2_with fail
  go_loopg [3, 4, 5] (s.size - 1) (fun g v i _ wi => ∃ k : Nat, g = s.size - k ∧ 1 ≤ k ∧ k ≤ s.size ∧ i = .int .i64 k ∧ v = .string ⟨(rotA s.data.toList (lstF s.data.toList k)).toArray⟩ ∧ Below w.heap.size w wi)
  case atStart => exact ⟨1, rfl, Nat.le_refl _, h1, rfl, by rw [HS.out, HS0.out], Below.refl _ _⟩
  case round =>
    obtain ⟨k, hg, hk1, hk, rfl, rfl, hbi⟩ := hrel
    by_cases hlt : k < s.size
    · have HN := Lib.hid (show lstF s.data.toList (k + 1) = if Lib.compareBytes (rotA s.data.toList k) (rotA s.data.toList (lstF s.data.toList k)) < 0 then k else lstF s.data.toList k from rfl)
      have HM := Lib.hid (Nat.mod_eq_of_lt hlt)
      obtain ⟨o, ho⟩ : ∃ o, lstF s.data.toList k = o := ⟨_, rfl⟩
      rw [ho] at HN ⊢
      clear ho
      obtain ⟨A, hA⟩ : ∃ A, (⟨(rotA s.data.toList k).toArray⟩ : ByteArray) = A := ⟨_, rfl⟩
      obtain ⟨B, hB⟩ : ∃ B, (⟨(rotA s.data.toList o).toArray⟩ : ByteArray) = B := ⟨_, rfl⟩
      have hAd : A.toList = rotA s.data.toList k := by rw [← hA, Lib.toList_data]
      have hBd : B.toList = rotA s.data.toList o := by rw [← hB, Lib.toList_data]
      have HA := Lib.hid hA
      have HB := Lib.hid hB
      rw [hB]
      clear hA hB
      go_wp2_with fail
      refine (rfRotate s k _ h1 h64).mono ?_
      rintro e w2 ⟨rfl, hb2⟩
      rw [HM.out, HA.out]
      have B2 := hbi.trans (hb2.mono hbi.size)
      clear hbi hb2
      have hq := bl_cmp (rotA s.data.toList k) (rotA s.data.toList o)
      by_cases hc : Lib.compareBytes (rotA s.data.toList k) (rotA s.data.toList o) < 0
      · have hb : Op.bytesLess A.toList B.toList = true := by
          rw [hAd, hBd]
          exact hq.1 hc
        have HN2 := Lib.hid (show lstF s.data.toList (k + 1) = k by rw [HN.out, if_pos hc])
        clear hq hc HN hAd hBd
        go_wp2
        go_roundg (s.size - (k + 1))
        case rel => exact ⟨k + 1, by omega, by omega, by omega, by go_num, by rw [HN2.out, HA.out], B2⟩
        case measure => omega
      · have hb : Op.bytesLess A.toList B.toList = false := by
          rw [hAd, hBd]
          exact Bool.eq_false_iff.2 fun h => hc (hq.2 h)
        have HN2 := Lib.hid (show lstF s.data.toList (k + 1) = o by rw [HN.out, if_neg hc])
        clear hq hc HN hAd hBd
        go_wp2
        go_roundg (s.size - (k + 1))
        case rel => exact ⟨k + 1, by omega, by omega, by omega, by go_num, by rw [HN2.out, HB.out], B2⟩
        case measure => omega
    · obtain rfl : k = s.size := by omega
      go_wp2
      go_ret
      exact ⟨by rw [HL.out]; rfl, hbi⟩
theorem refPowerQ (s R : ByteArray) (c : Nat) (w : World) (hc : c ≤ 256) (hs : s.size ≤ 64) (hR : strL (Lib.repeatL s.data.toList c) = R) :
    Calls Tryz.prog 40 #[.string s, .int .i64 c] w fun e w' => e = .returned (.string R) ∧ w' = w :=
  (refPower s c w hc hs).mono fun _ _ ⟨h, h'⟩ => ⟨by rw [h, hR], h'.symm⟩
set_option maxHeartbeats 2000000 in
set_option maxRecDepth 100000 in
theorem rfRoot (s : ByteArray) (w : World) (h1 : 1 ≤ s.size) (h64 : s.size ≤ 64) :
    Calls Tryz.prog 37 #[.string s] w fun e w' => e = .returned (.tuple #[.string (s.extract 0 (rootN s.data.toList)), .int .i64 (s.size / rootN s.data.toList : Nat)]) ∧ Below w.heap.size w w' := by
  have hz := Lib.size_eq s
  obtain ⟨R, hR⟩ : ∃ R, rootN s.data.toList = R := ⟨_, rfl⟩
  have HR := Lib.hid (show leastF (powB s.data.toList) s.size (s.size - 1) 1 = R by rw [← hR, rootN, leastN, hz])
  rw [hR]
  clear hR
  go_enter Tryz.func37, Tryz.ntmps37
  go_wp2_with fail
  go_loopg [4] (s.size - 1) (fun g i wi => ∃ n : Nat, g = s.size - n ∧ 1 ≤ n ∧ n ≤ s.size ∧ i = .int .i64 n ∧ leastF (powB s.data.toList) s.size (s.size - n) n = R ∧ Below w.heap.size w wi)
  case atStart => exact ⟨1, rfl, Nat.le_refl _, h1, rfl, HR.out, Below.refl _ _⟩
  case round =>
    obtain ⟨n, hg, hn1, hn, rfl, hl, hbi⟩ := hrel
    have HLF := Lib.hid hl
    clear hl HR
    by_cases hlt : n < s.size
    · have hsub : s.size - n = (s.size - (n + 1)) + 1 := by omega
      have ht := nat_tmod s.size n
      have ht2 : (s.size : Int) % (n : Int) = ((s.size % n : Nat) : Int) := (Int.natCast_emod _ _).symm
      have hd := nat_tdiv s.size n
      have hd2 : (s.size : Int) / (n : Int) = ((s.size / n : Nat) : Int) := (Int.natCast_ediv _ _).symm
      have hq : s.size / n ≤ 64 := Nat.le_trans (Nat.div_le_self _ _) h64
      have HE : powB s.data.toList n = (decide (s.size % n = 0) && (s.data.toList == Lib.repeatL (s.data.toList.take n) (s.size / n))) := by rw [powB, hz]
      have he1 : (s.extract 0 n).data.toList = s.data.toList.take n := (ext_data s n (by omega)).2.1
      have he2 : (s.extract 0 n).size = n := (ext_data s n (by omega)).2.2.2
      obtain ⟨q, hqq⟩ : ∃ q, s.size / n = q := ⟨_, rfl⟩
      rw [hqq] at hd hd2 hq HE
      have hwq : IntKind.i64.wrap (q : Int) = (q : Int) := by rw [IntKind.wrap_i64]; omega
      obtain ⟨m, hm⟩ : ∃ m, s.size % n = m := ⟨_, rfl⟩
      rw [hm] at ht ht2 HE
      have hzN : ¬ n = 0 := by omega
      have hz0 : ¬ (n : Int) = 0 := by omega
      have i0 : (0 : Int) ≤ (n : Int) := by omega
      have i1 : (n : Int) ≤ (s.size : Int) := by omega
      obtain ⟨P, hP⟩ : ∃ P, strL (Lib.repeatL (s.extract 0 n).data.toList q) = P := ⟨_, rfl⟩
      have hPl : P.data.toList = Lib.repeatL (s.data.toList.take n) q := by rw [← hP, ← he1]; rfl
      have HPP := Lib.hid hP
      have HQQ := Lib.hid hqq
      clear hqq hm hP
      by_cases hm0 : m = 0
      · subst hm0
        rw [decide_eq_true rfl, Bool.true_and, ← hPl] at HE
        by_cases hp : s.data.toList = P.data.toList
        · have hps : (P.toList == s.toList) = true := by rw [Lib.toList_data, Lib.toList_data, beq_iff_eq]; exact hp.symm
          have HN := Lib.hid (show n = R by rw [← HLF.out, hsub, leastF, if_pos (by rw [HE, beq_iff_eq]; exact hp)])
          clear HE hp hPl hsub hz he1
          go_wp2_with fail
          go_quiet (first | (go_at_call 40; exact Calls.quiet_of_same (refPowerQ (s.extract 0 n) P q _ (by omega) (by omega) HPP.out)))
          go_wp2_with fail
          go_quiet (fail)
          go_wp2
          go_ret2
          exact ⟨by rw [← HN.out, HQQ.out]; rfl, below_drewN (below_drewN hbi _) _⟩
        · have hps : (P.toList == s.toList) = false := by rw [Lib.toList_data, Lib.toList_data, beq_eq_false_iff_ne]; exact fun h => hp h.symm
          have HN := Lib.hid (show leastF (powB s.data.toList) s.size (s.size - (n + 1)) (n + 1) = R by rw [← HLF.out, hsub, leastF, if_neg (by rw [HE, beq_iff_eq]; exact hp)])
          clear HE hp hPl hsub hz he1
          go_wp2_with fail
          go_quiet (first | (go_at_call 40; exact Calls.quiet_of_same (refPowerQ (s.extract 0 n) P q _ (by omega) (by omega) HPP.out)))
          go_wp2
          go_roundg (s.size - (n + 1))
          case rel => exact ⟨n + 1, by omega, by omega, by omega, by go_num, HN.out, below_drewN hbi _⟩
          case measure => omega
      · have hmb : ((m : Int) == 0) = false := by rw [beq_eq_false_iff_ne]; omega
        have HN := Lib.hid (show leastF (powB s.data.toList) s.size (s.size - (n + 1)) (n + 1) = R by rw [← HLF.out, hsub, leastF, if_neg (by rw [HE, decide_eq_false hm0]; simp)])
        clear HE hPl hsub hz he1 hm0
        go_wp2_with fail
        go_quiet (fail)
        go_wp2
        go_roundg (s.size - (n + 1))
        case rel => exact ⟨n + 1, by omega, by omega, by omega, by go_num, HN.out, below_drewN hbi _⟩
        case measure => omega
    · obtain rfl : n = s.size := by omega
      have HRN := Lib.hid (show s.size = R by have := HLF.out; rwa [Nat.sub_self, leastF] at this)
      clear hz HLF
      go_wp2_with fail
      go_ret2
      have e1 : s.extract 0 R = s := by
        rw [← HRN.out]
        have h := (ext_data s s.size (Nat.le_refl _)).2.1
        rw [List.take_of_length_le (by rw [← Lib.size_eq]; exact Nat.le_refl _)] at h
        rw [← arr_back (s.extract 0 s.size), h, arr_back]
      exact ⟨by rw [e1, ← HRN.out, Nat.div_self (by omega)]; rfl, hbi⟩
end Go.Proofs.YtgpgdjdababidaaGreatDoor

/- Every rotation of a spread of two letters is balanced; the spread of both letters exchanged is it read backwards: plain mathematics. -/
namespace Go.Proofs.YtgpgdjdababidaaGreatDoor
open Go.RowKit

theorem leastF_all {P : Nat → Bool} {G : Nat} : ∀ k n, (∀ i, n ≤ i → i < n + k → P i = false) → leastF P G k n = G
  | 0, _, _ => rfl
  | k + 1, n, h => by
    rw [leastF, if_neg (by rw [h n (by omega) (by omega)]; decide)]
    exact leastF_all k (n + 1) fun i h1 h2 => h i (by omega) (by omega)
theorem mmF_within {C : ByteArray} {k q : Nat} {c : UInt8} {N : Nat} (hq : q ≤ k) (h : ∀ i, i < N → q ≤ cntW C k c i ∧ cntW C k c i ≤ q + 1) : ∀ i, i ≤ N → q ≤ (mmF C k c i).1 ∧ (mmF C k c i).2 ≤ q + 1
  | 0, _ => by
    rw [mmF]
    exact ⟨hq, by show 0 ≤ q + 1; omega⟩
  | i + 1, hi => by
    have ih := mmF_within hq h i (by omega)
    have hh := h i (by omega)
    rw [mmF]
    show q ≤ min _ _ ∧ max _ _ ≤ q + 1
    omega
theorem balB_within {s : ByteArray} (h : ∀ k, 1 ≤ k → k < s.size → ∀ c, c = 78 ∨ c = 66 ∨ c = 84 → ∃ q, q ≤ k ∧ ∀ i, i < s.size → q ≤ cntW (circB s) k c i ∧ cntW (circB s) k c i ≤ q + 1) : balB s = true := by
  have hu : ∀ k, 1 ≤ k → k < s.size → ∀ c, c = 78 ∨ c = 66 ∨ c = 84 → unevL (circB s) s.size k c = false := by
    intro k h1 h2 c hc
    obtain ⟨q, hq, hh⟩ := h k h1 h2 c hc
    have := mmF_within hq hh s.size (Nat.le_refl _)
    unfold unevL
    rw [decide_eq_false]
    omega
  unfold balB leastN
  rw [leastF_all]
  · exact decide_eq_true rfl
  · intro i h1 h2
    have h3 : i < s.size := by omega
    unfold unevB
    rw [hu i h1 h3 78 (by simp), hu i h1 h3 66 (by simp), hu i h1 h3 84 (by simp)]
    rfl
theorem floor_gap {a S : Nat} (hS : 0 < S) (i k : Nat) : k * a / S ≤ (i + k) * a / S - i * a / S ∧ (i + k) * a / S - i * a / S ≤ k * a / S + 1 ∧ i * a / S ≤ (i + k) * a / S := by
  have e : (i + k) * a = i * a + k * a := Nat.add_mul _ _ _
  rw [e]
  generalize i * a = x
  generalize k * a = y
  have hx := Nat.div_add_mod x S
  have hy := Nat.div_add_mod y S
  have hxm := Nat.mod_lt x hS
  have hym := Nat.mod_lt y hS
  have h1 : x / S + y / S ≤ (x + y) / S := by
    rw [Nat.le_div_iff_mul_le hS, Nat.add_mul, Nat.mul_comm _ S, Nat.mul_comm _ S]
    omega
  have h2 : (x + y) / S < x / S + y / S + 2 := by
    rw [Nat.div_lt_iff_lt_mul hS, Nat.add_mul, Nat.add_mul, Nat.mul_comm _ S, Nat.mul_comm _ S]
    omega
  generalize (x + y) / S = r at h1 h2 ⊢
  generalize x / S = p at h1 h2 ⊢
  generalize y / S = q at h1 h2 ⊢
  omega
/-- The circle of a rotation is a part of the endless spread. -/
theorem circ_rot {a b : Nat} (h : 0 < a + b) {t : Nat} (ht : t ≤ a + b) :
    (circB ⟨(rotA (spreadL [66] a [78] b (a + b)) t).toArray⟩).data.toList = (spreadL [66] a [78] b (a + b + (a + b + t))).drop t := by
  have hz : (spreadL [66] a [78] b (a + b)).length = a + b := spreadL_len _
  have e1 : (spreadL [66] a [78] b (a + b)).take t = spreadL [66] a [78] b t := spreadL_take _ _ ht
  rw [spreadL_period h, spreadL_period h, ← e1]
  unfold circB rotA
  generalize spreadL [66] a [78] b (a + b) = W at hz ⊢
  show Lib.repeatL (W.drop t ++ W.take t) 2 = _
  rw [List.drop_append_of_le_length (by omega)]
  simp only [Lib.repeatL, List.append_nil, List.append_assoc]
  rw [← List.append_assoc (W.take t), List.take_append_drop]
theorem cnt_rot {a b : Nat} (h : 0 < a + b) {t i k : Nat} (ht : t ≤ a + b) (hik : i + k ≤ a + b + (a + b)) (c : UInt8) :
    cntW (circB ⟨(rotA (spreadL [66] a [78] b (a + b)) t).toArray⟩) k c i = (spreadL [66] a [78] b (t + i + k)).count c - (spreadL [66] a [78] b (t + i)).count c := by
  have e : ((circB ⟨(rotA (spreadL [66] a [78] b (a + b)) t).toArray⟩).extract i (i + k)).data.toList = (spreadL [66] a [78] b (t + i + k)).drop (t + i) := by
    have e0 : ((circB ⟨(rotA (spreadL [66] a [78] b (a + b)) t).toArray⟩).extract i (i + k)).data.toList = (((circB ⟨(rotA (spreadL [66] a [78] b (a + b)) t).toArray⟩).data.toList).drop i).take k := by
      simp [ByteArray.data_extract]
    rw [e0, circ_rot h ht, List.drop_drop, List.take_drop, spreadL_take _ _ (by omega), Nat.add_assoc]
  have e2 : (spreadL [66] a [78] b (t + i + k)).take (t + i) = spreadL [66] a [78] b (t + i) := spreadL_take _ _ (by omega)
  unfold cntW
  rw [e, ← e2]
  conv => rhs; rw [← List.take_append_drop (t + i) (spreadL [66] a [78] b (t + i + k))]
  rw [List.count_append, List.take_append_of_le_length (by rw [List.length_take, spreadL_len]; omega), List.take_take, Nat.min_self]
  omega
theorem count_bars {a b : Nat} (h : 0 < a + b) (k : Nat) : (spreadL [66] a [78] b k).count 66 = k * a / (a + b) := by
  rw [← spreadL_bars (b := 78) (by decide) h k]
  unfold barsN List.count
  exact List.countP_congr fun c _ => by simp
theorem count_sum : ∀ (l : List UInt8), (∀ c ∈ l, c = 66 ∨ c = 78) → l.count 66 + l.count 78 = l.length ∧ l.count 84 = 0
  | [], _ => by simp
  | c :: r, h => by
    have ih := count_sum r fun d hd => h d (List.mem_cons_of_mem _ hd)
    rcases h c (List.mem_cons_self ..) with rfl | rfl
    · rw [List.count_cons_self, List.count_cons_of_ne (by decide), List.count_cons_of_ne (by decide), List.length_cons]
      omega
    · rw [List.count_cons_self, List.count_cons_of_ne (by decide), List.count_cons_of_ne (by decide), List.length_cons]
      omega
theorem rot_len {a b t : Nat} (ht : t ≤ a + b) : (⟨(rotA (spreadL [66] a [78] b (a + b)) t).toArray⟩ : ByteArray).size = a + b := by
  show (rotA (spreadL [66] a [78] b (a + b)) t).toArray.size = _
  rw [List.size_toArray, rotA, List.length_append, List.length_drop, List.length_take, spreadL_len]
  omega
theorem bal_rot {a b : Nat} (h : 0 < a + b) {t : Nat} (ht : t ≤ a + b) : balB ⟨(rotA (spreadL [66] a [78] b (a + b)) t).toArray⟩ = true := by
  refine balB_within fun k h1 h2 c hc => ?_
  rw [rot_len ht] at h2
  rw [rot_len ht]
  have hcount : ∀ j, (spreadL [66] a [78] b j).count 66 + (spreadL [66] a [78] b j).count 78 = j ∧ (spreadL [66] a [78] b j).count 84 = 0 := fun j => by
    have := count_sum _ (spreadL_mem (a := 66) (b := 78) (m := a) (n := b) j)
    rw [spreadL_len] at this
    exact this
  have hkS : k * a / (a + b) ≤ k := by
    have : k * a ≤ k * (a + b) := Nat.mul_le_mul_left _ (by omega)
    exact Nat.div_le_of_le_mul (by rw [Nat.mul_comm (a + b)]; exact this)
  obtain ⟨Q, hQ⟩ : ∃ Q, k * a / (a + b) = Q := ⟨_, rfl⟩
  rw [hQ] at hkS
  rcases hc with rfl | rfl | rfl
  · by_cases hk0 : Q = k
    · refine ⟨0, by omega, fun i hi => ?_⟩
      rw [cnt_rot h ht (by omega)]
      have g := floor_gap (a := a) h (t + i) k
      have c1 := hcount (t + i + k)
      have c2 := hcount (t + i)
      have b1 := count_bars h (t + i + k)
      have b2 := count_bars h (t + i)
      rw [hQ] at g
      generalize (t + i + k) * a / (a + b) = X at g b1
      generalize (t + i) * a / (a + b) = Y at g b2
      omega
    · refine ⟨k - Q - 1, by omega, fun i hi => ?_⟩
      rw [cnt_rot h ht (by omega)]
      have g := floor_gap (a := a) h (t + i) k
      have c1 := hcount (t + i + k)
      have c2 := hcount (t + i)
      have b1 := count_bars h (t + i + k)
      have b2 := count_bars h (t + i)
      rw [hQ] at g
      generalize (t + i + k) * a / (a + b) = X at g b1
      generalize (t + i) * a / (a + b) = Y at g b2
      omega
  · refine ⟨Q, hkS, fun i hi => ?_⟩
    rw [cnt_rot h ht (by omega)]
    have g := floor_gap (a := a) h (t + i) k
    have b1 := count_bars h (t + i + k)
    have b2 := count_bars h (t + i)
    rw [hQ] at g
    generalize (t + i + k) * a / (a + b) = X at g b1
    generalize (t + i) * a / (a + b) = Y at g b2
    omega
  · refine ⟨0, by omega, fun i hi => ?_⟩
    rw [cnt_rot h ht (by omega)]
    have c1 := hcount (t + i + k)
    have c2 := hcount (t + i)
    omega
theorem bal_self {a b : Nat} (h : 0 < a + b) : balB ⟨(spreadL [66] a [78] b (a + b)).toArray⟩ = true := by
  have := bal_rot h (t := 0) (by omega)
  rwa [rotA, List.drop_zero, List.take_zero, List.append_nil] at this
/-- A letter of a spread. -/
theorem spreadL_at {a b : UInt8} {m n : Nat} {K i : Nat} (hi : i < K) : (spreadL [a] m [b] n K)[i]? = some (if i * m / (m + n) < (i + 1) * m / (m + n) then a else b) := by
  have e : (spreadL [a] m [b] n K)[i]? = (spreadL [a] m [b] n (i + 1))[i]? := by
    rw [← spreadL_take K (i + 1) (by omega), List.getElem?_take_of_lt (by omega)]
  rw [e, spreadL, List.getElem?_append_right (by rw [spreadL_len]; exact Nat.le_refl _), spreadL_len, Nat.sub_self]
  split <;> rfl
theorem floor_other {a b i : Nat} (h : 0 < a + b) (hi : i ≤ a + b) : (a + b - i) * b / (a + b) + i = b + i * a / (a + b) := by
  have e : (a + b - i) * b + (a + b) * i = i * a + (a + b) * b := by
    obtain ⟨j, hj⟩ : ∃ j, a + b = i + j := ⟨a + b - i, by omega⟩
    have e1 : a + b - i = j := by omega
    rw [e1]
    have hj' : (j : Int) = a + b - i := by omega
    have : ((j * b + (a + b) * i : Nat) : Int) = ((i * a + (a + b) * b : Nat) : Int) := by
      push_cast
      rw [hj']
      grind
    exact_mod_cast this
  have e2 := congrArg (· / (a + b)) e
  simp only [Nat.add_mul_div_left _ _ h] at e2
  omega
theorem spread_back {a b i : Nat} (h : 0 < a + b) (hi : i < a + b) : (spreadL [78] b [66] a (b + a))[a + b - 1 - i]? = (spreadL [66] a [78] b (a + b))[i]? := by
  rw [spreadL_at (by omega), spreadL_at hi]
  have e1 := floor_other h (i := i) (by omega)
  have e2 := floor_other h (i := i + 1) (by omega)
  have e3 : a + b - 1 - i = a + b - (i + 1) := by omega
  have e4 : a + b - 1 - i + 1 = a + b - i := by omega
  have e5 : b + a = a + b := Nat.add_comm _ _
  have hs := floor_step (m := a) (S := a + b) i (by omega) h
  rw [e4, e3, e5]
  split <;> split <;> first | rfl | (exfalso; omega)
end Go.Proofs.YtgpgdjdababidaaGreatDoor

/- Balanced of the reference of chapter 2. -/
namespace Go.Proofs.YtgpgdjdababidaaGreatDoor
open Go.RowKit Go.Shelf Ck

theorem nbt_ix0 (w : World) : (Instr.index 9 (.string ⟨#[78, 66, 84]⟩) (.int .i64 0)).run Tryz.prog w = .ok (.int .u8 78) w := by kernel_rfl
theorem nbt_ix1 (w : World) : (Instr.index 9 (.string ⟨#[78, 66, 84]⟩) (.int .i64 1)).run Tryz.prog w = .ok (.int .u8 66) w := by kernel_rfl
theorem nbt_ix2 (w : World) : (Instr.index 9 (.string ⟨#[78, 66, 84]⟩) (.int .i64 2)).run Tryz.prog w = .ok (.int .u8 84) w := by kernel_rfl
theorem nbt_index (j : Nat) (hj : j < 3) (w : World) : (Instr.index 9 (.string ⟨#[78, 66, 84]⟩) (.int .i64 (j : Int))).run Tryz.prog w = .ok (.int .u8 ((lett3 j).toNat : Int)) w := by
  have : j = 0 ∨ j = 1 ∨ j = 2 := by omega
  rcases this with rfl | rfl | rfl
  · exact nbt_ix0 w
  · exact nbt_ix1 w
  · exact nbt_ix2 w
theorem rfCountQ (s : ByteArray) (c : UInt8) (v : Nat) (w : World) (h64 : s.size ≤ 1000) (hv : s.data.toList.count c = v) :
    Calls Tryz.prog 98 #[.string s, .int .u8 c.toNat] w fun e w' => e = .returned (.int .i64 v) ∧ w' = w := by
  subst hv
  exact rfCount s c w h64
theorem circ_cat (s : ByteArray) : s ++ s = circB s := by
  rw [circB, cat_arr s s _ _ rfl rfl]
  simp [Lib.repeatL]
theorem balB_all {s : ByteArray} (h : ∀ i, 1 ≤ i → i < s.size → unevB (circB s) s.size i = false) (h1 : 1 ≤ s.size) : balB s = true := by
  rw [balB, leastN, leastF_all _ _ fun i a b => h i a (by omega)]
  exact decide_eq_true rfl
theorem balB_not {s : ByteArray} {k : Nat} (h1 : 1 ≤ k) (h2 : k < s.size) (h : unevB (circB s) s.size k = true) : balB s = false := by
  rw [balB, decide_eq_false]
  have := leastN_low (P := unevB (circB s) s.size) (G := s.size) h1 h2 h
  omega
set_option maxHeartbeats 4000000 in
set_option maxRecDepth 100000 in
theorem rfBalanced (s : ByteArray) (w : World) (h1 : 1 ≤ s.size) (h64 : s.size ≤ 64) :
    Calls Tryz.prog 39 #[.string s] w fun e w' => e = .returned (.bool (balB s)) ∧ Below w.heap.size w w' := by
  have hCz := circB_size s
  have HC := Lib.hid (circ_cat s)
  have HALL := Lib.hid (fun h => balB_all (s := s) h h1)
  have HNOT := Lib.hid (fun k a b c => balB_not (s := s) (k := k) a b c)
  obtain ⟨C, hC⟩ : ∃ C, circB s = C := ⟨_, rfl⟩
  rw [hC] at hCz HC HALL HNOT
  clear hC
  go_enter Tryz.func39, Tryz.ntmps39
  go_wp2_with fail
  rw [HC.out]
  go_loopg [5, 6, 7, 8, 9, 10] (s.size - 1) (fun g kv _ _ _ _ _ wi => ∃ k : Nat, g = s.size - k ∧ 1 ≤ k ∧ k ≤ s.size ∧ kv = .int .i64 k ∧ (∀ i, 1 ≤ i → i < k → unevB C s.size i = false) ∧ Below w.heap.size w wi)
  case atStart => exact ⟨1, rfl, Nat.le_refl _, h1, rfl, fun i a b => by omega, Below.refl _ _⟩
  case round =>
    obtain ⟨k, hg, hk1, hk, rfl, hall, hbi⟩ := hrel
    have HA := Lib.hid hall
    clear hall
    by_cases hlt : k < s.size
    · go_wp2_with fail
      go_loopg [6, 7, 8, 9, 10] 3 (fun g cv _ _ _ _ wi => ∃ n : Nat, g = 3 - n ∧ n ≤ 3 ∧ cv = .int .i64 n ∧ (∀ i, i < n → unevL C s.size k (lett3 i) = false) ∧ Below w.heap.size w wi)
      case atStart => exact ⟨0, rfl, by omega, rfl, fun i hi => by omega, hbi⟩
      case round =>
        obtain ⟨n, hg2, hn, rfl, hall, hbi2⟩ := hrel
        have HA2 := Lib.hid hall
        clear hall
        by_cases hn3 : n < 3
        · have hix := nbt_index n hn3
          have hd3 : decide ((n : Int) < 3) = true := by rw [decide_eq_true_eq]; omega
          obtain ⟨c, hc⟩ : ∃ c, lett3 n = c := ⟨_, rfl⟩
          rw [hc] at hix
          have HLC := Lib.hid hc
          clear hc
          go_wp2_with fail
          go_loopg [7, 8, 9, 10] s.size (fun g a b i _ wi => ∃ m : Nat, g = s.size - m ∧ m ≤ s.size ∧ i = .int .i64 m ∧ a = .int .i64 (mmF C k c m).1 ∧ b = .int .i64 (mmF C k c m).2 ∧ Below w.heap.size w wi)
          case atStart => exact ⟨0, rfl, Nat.zero_le _, rfl, rfl, rfl, hbi2⟩
          case round =>
            obtain ⟨m, hg3, hm, rfl, rfl, rfl, hbi3⟩ := hrel
            obtain ⟨l1, l2⟩ := mmF_le C k c m
            by_cases hml : m < s.size
            · have hcw := cntW_le C k c m
              have HM1 := Lib.hid (show (mmF C k c (m + 1)).1 = min (mmF C k c m).1 (cntW C k c m) from rfl)
              have HM2 := Lib.hid (show (mmF C k c (m + 1)).2 = max (mmF C k c m).2 (cntW C k c m) from rfl)
              have HCW := Lib.hid (show (C.extract m (m + k)).data.toList.count c = cntW C k c m from rfl)
              have s0 : (0 : Int) ≤ (m : Int) := by omega
              have s1 : (m : Int) ≤ (m : Int) + (k : Int) := by omega
              have s2 : (m : Int) + (k : Int) ≤ (C.size : Int) := by omega
              have s3 : ((m : Int) + (k : Int)).toNat = m + k := by omega
              have s4 : (C.extract m (m + k)).size ≤ 1000 := by rw [ByteArray.size_extract]; omega
              obtain ⟨v, hv⟩ : ∃ v, cntW C k c m = v := ⟨_, rfl⟩
              rw [hv] at hcw HM1 HM2 HCW
              obtain ⟨x, hx⟩ : ∃ x, (mmF C k c m).1 = x := ⟨_, rfl⟩
              obtain ⟨y, hy⟩ : ∃ y, (mmF C k c m).2 = y := ⟨_, rfl⟩
              rw [hx] at l1 HM1 ⊢
              rw [hy] at l2 HM2 ⊢
              have HS4 := Lib.hid s4
              clear hv hx hy s4
              go_wp2_with fail
              go_quiet (first | (go_at_call 98; exact Calls.quiet_of_same (rfCountQ (C.extract m (m + k)) c v _ HS4.out HCW.out)))
              go_wp2
              go_roundg (s.size - (m + 1))
              case rel => exact ⟨m + 1, by omega, by omega, by go_num, by rw [HM1.out]; exact congrArg (Value.int .i64) (by omega), by rw [HM2.out]; exact congrArg (Value.int .i64) (by omega), below_drewN hbi3 _⟩
              case measure => omega
            · obtain rfl : m = s.size := by omega
              have HU := Lib.hid (show unevL C s.size k c = decide ((mmF C k c s.size).1 + 1 < (mmF C k c s.size).2) from rfl)
              obtain ⟨x, hx⟩ : ∃ x, (mmF C k c s.size).1 = x := ⟨_, rfl⟩
              obtain ⟨y, hy⟩ : ∃ y, (mmF C k c s.size).2 = y := ⟨_, rfl⟩
              rw [hx] at l1 HU ⊢
              rw [hy] at l2 HU ⊢
              clear hx hy
              by_cases hxy : x + 1 < y
              · have hd : (1 : Int) < (y : Int) - (x : Int) := by omega
                have HB := Lib.hid (HNOT.out k hk1 hlt (unevB_some hn3 (by rw [HLC.out, HU.out]; simpa using hxy)))
                go_wp2
                go_ret
                exact ⟨ret_b HB.out.symm, hbi3⟩
              · have hd : ¬ (1 : Int) < (y : Int) - (x : Int) := by omega
                have HB := Lib.hid (show ∀ i, i < n + 1 → unevL C s.size k (lett3 i) = false from fun i hi => by
                  by_cases hi2 : i < n
                  · exact HA2.out i hi2
                  · obtain rfl : i = n := by omega
                    rw [HLC.out, HU.out]
                    simpa using hxy)
                go_wp2
                go_roundg (2 - n)
                case rel => exact ⟨n + 1, by omega, by omega, by go_num, HB.out, hbi3⟩
                case measure => omega
        · obtain rfl : n = 3 := by omega
          have HB := Lib.hid (show ∀ i, 1 ≤ i → i < k + 1 → unevB C s.size i = false from fun i a b => by
            by_cases hi : i < k
            · exact HA.out i a hi
            · obtain rfl : i = k := by omega
              exact unevB_none HA2.out)
          go_wp2
          go_roundg (s.size - (k + 1))
          case rel => exact ⟨k + 1, by omega, by omega, by omega, by go_num, HB.out, hbi2⟩
          case measure => omega
    · obtain rfl : k = s.size := by omega
      have HB := Lib.hid (HALL.out fun i a b => HA.out i a b)
      go_wp2
      go_ret
      exact ⟨ret_b HB.out.symm, hbi⟩
end Go.Proofs.YtgpgdjdababidaaGreatDoor

/- The walk of TaperChanges. -/
namespace Go.Proofs.YtgpgdjdababidaaGreatDoor
open Go.RowKit Go.Shelf Ck

theorem chPower (s P : ByteArray) (n E : Int) (w : World) (h1 : powS s n = P) (h2 : powE s n = E) :
    Calls Tryz.prog 32 #[.string s, .int .i64 n] w fun e w' => e = .returned (.tuple #[.string P, .int .i64 E]) ∧ Below w.heap.size w w' := by
  have h := tpPower s n w
  rwa [h1, h2] at h
theorem chRotate (s R : ByteArray) (n E : Int) (w : World) (h1 : rotS s n = R) (h2 : rotE s n = E) :
    Calls Tryz.prog 33 #[.string s, .int .i64 n] w fun e w' => e = .returned (.tuple #[.string R, .int .i64 E]) ∧ Below w.heap.size w w' := by
  have h := tpRotate s n w
  rwa [h1, h2] at h
theorem chRoot (s R : ByteArray) (k : Nat) (w : World) (hs : Word s) (h1 : s.extract 0 (rootN s.data.toList) = R) (h2 : s.size / rootN s.data.toList = k) :
    Calls Tryz.prog 34 #[.string s] w fun e w' => e = .returned (.tuple #[.string R, .int .i64 k, .int .i64 0]) ∧ Below w.heap.size w w' := by
  have h := tpRoot s w hs
  rwa [h1, h2] at h
theorem chRfRoot (s R : ByteArray) (k : Nat) (w : World) (hs : Word s) (h1 : s.extract 0 (rootN s.data.toList) = R) (h2 : s.size / rootN s.data.toList = k) :
    Calls Tryz.prog 37 #[.string s] w fun e w' => e = .returned (.tuple #[.string R, .int .i64 k]) ∧ Below w.heap.size w w' := by
  have h := rfRoot s w hs.2.1 hs.2.2
  rwa [h1, h2] at h
theorem chLeast (s M : ByteArray) (w : World) (hs : Word s) (h1 : (⟨(lstW s.data.toList).toArray⟩ : ByteArray) = M) :
    Calls Tryz.prog 35 #[.string s] w fun e w' => e = .returned (.tuple #[.string M, .int .i64 0]) ∧ Below w.heap.size w w' := by
  have h := tpLeast s w hs
  rwa [h1] at h
theorem chRfLeast (s M : ByteArray) (w : World) (hs : Word s) (h1 : (⟨(lstW s.data.toList).toArray⟩ : ByteArray) = M) :
    Calls Tryz.prog 38 #[.string s] w fun e w' => e = .returned (.string M) ∧ Below w.heap.size w w' := by
  have h := rfLeast s w hs.2.1 hs.2.2
  rwa [h1] at h
theorem chBal (s : ByteArray) (b : Bool) (w : World) (hs : Word s) (hb : balB s = b) :
    Calls Tryz.prog 36 #[.string s] w fun e w' => e = .returned (.tuple #[.bool b, .int .i64 0]) ∧ Below w.heap.size w w' := by
  have h := tpBalanced s w hs
  rwa [hb] at h
theorem chRfBal (s : ByteArray) (b : Bool) (w : World) (hs : Word s) (hb : balB s = b) :
    Calls Tryz.prog 39 #[.string s] w fun e w' => e = .returned (.bool b) ∧ Below w.heap.size w w' := by
  have h := rfBalanced s w hs.2.1 hs.2.2
  rwa [hb] at h
theorem chRfRotate (s R : ByteArray) (n : Nat) (w : World) (hs : Word s) (h : (⟨(rotA s.data.toList (n % s.size)).toArray⟩ : ByteArray) = R) :
    Calls Tryz.prog 41 #[.string s, .int .i64 n] w fun e w' => e = .returned (.string R) ∧ Below w.heap.size w w' := by
  have h' := rfRotate s n w hs.2.1 hs.2.2
  rwa [h] at h'
theorem chWordE {s : ByteArray} (h : Word s) : wordE s.data.toList = 0 := by
  have hz := Lib.size_eq s
  have h1 := h.2.1
  have h2 := h.2.2
  have h0 : ¬ s.data.toList = [] := fun e => by rw [e, List.length_nil] at hz; omega
  rw [wordE, if_neg h0, if_neg (show ¬ 64 < s.data.toList.length by omega), if_pos]
  rw [List.all_eq_true]
  exact fun c hc => (okC_iff c).2 (h.1 c hc)
theorem pow_bad {s : ByteArray} {n : Int} (hs : Word s) (h : n < 1 ∨ 64 < n) : powS s n = ⟨#[]⟩ ∧ powE s n = 3 := by
  have h0 : pow0 s n = 3 := by rw [pow0, chWordE hs, rngE, if_pos h]; rfl
  have hE : powE s n = 3 := by rw [powE, h0, if_neg (by decide)]
  exact ⟨by rw [powS, hE, if_neg (by decide)], hE⟩
theorem pow_ok {s : ByteArray} {n : Nat} (hs : Word s) (h1 : 1 ≤ n) (h2 : n ≤ 64) : (64 < n * s.size → powS s n = ⟨#[]⟩ ∧ powE s n = 26) ∧ (¬ 64 < n * s.size → powS s n = strL (Lib.repeatL s.data.toList n) ∧ powE s n = 0) := by
  have h0 : pow0 s n = 0 := by rw [pow0, chWordE hs, rngE, if_neg (by omega)]; rfl
  have e : (s.size : Int) * (n : Int) = ((n * s.size : Nat) : Int) := by push_cast; exact Int.mul_comm _ _
  have hE : powE s n = lenE ((n * s.size : Nat) : Int) := by rw [powE, h0, if_pos rfl, e]
  refine ⟨fun h => ?_, fun h => ?_⟩
  · have hE2 : powE s n = 26 := by rw [hE, lenE, if_pos (by omega)]
    exact ⟨by rw [powS, hE2, if_neg (by decide)], hE2⟩
  · have hE2 : powE s n = 0 := by rw [hE, lenE, if_neg (by omega)]
    exact ⟨by rw [powS, hE2, if_pos rfl, Int.toNat_natCast]; rfl, hE2⟩
theorem rot_bad {s : ByteArray} {n : Int} (hs : Word s) (h : n < 0 ∨ 999999999 < n) : rotS s n = ⟨#[]⟩ ∧ rotE s n = 3 := by
  have hE : rotE s n = 3 := by rw [rotE, chWordE hs, rngE, if_pos h]; rfl
  exact ⟨by rw [rotS, hE, if_neg (by decide)], hE⟩
theorem rot_ok {s : ByteArray} {n : Nat} (hs : Word s) (h : n ≤ 999999999) : rotS s n = ⟨(rotA s.data.toList (n % s.size)).toArray⟩ ∧ rotE s n = 0 := by
  have hE : rotE s n = 0 := by rw [rotE, chWordE hs, rngE, if_neg (by omega)]; rfl
  exact ⟨by rw [rotS, hE, if_pos rfl, Int.toNat_natCast], hE⟩
set_option maxHeartbeats 4000000 in
set_option maxRecDepth 100000 in
theorem lawChangesLo (s : ByteArray) (n : Int) (w : World) (hs : Word s) (h1 : n < 0) :
    Calls Tryz.prog 5 #[.string s, .int .i64 n] w fun e w' => e = .returned (.bool true) ∧ Below w.heap.size w w' := by
  obtain ⟨hp1, hp2⟩ := pow_bad hs (n := n) (by omega)
  obtain ⟨hq1, hq2⟩ := rot_bad hs (n := n) (by omega)
  have d1 : n < 1 := by omega
  have g1 : ¬ (70 : Int) < (s.size : Int) := by have := hs.2.2; omega
  obtain ⟨R, hR⟩ : ∃ R, s.extract 0 (rootN s.data.toList) = R := ⟨_, rfl⟩
  obtain ⟨k, hk⟩ : ∃ k, s.size / rootN s.data.toList = k := ⟨_, rfl⟩
  obtain ⟨M, hM⟩ : ∃ M, (⟨(lstW s.data.toList).toArray⟩ : ByteArray) = M := ⟨_, rfl⟩
  obtain ⟨b, hb⟩ : ∃ b, balB s = b := ⟨_, rfl⟩
  have HR := Lib.hid hR
  have HK := Lib.hid hk
  have HM := Lib.hid hM
  have HB := Lib.hid hb
  have HS := Lib.hid hs
  have HE := Lib.hid (chWordE hs)
  have HP1 := Lib.hid hp1
  have HP2 := Lib.hid hp2
  have HQ1 := Lib.hid hq1
  have HQ2 := Lib.hid hq2
  have hs64 := hs.2.2
  clear hR hk hM hb hs hp1 hp2 hq1 hq2
  go_enter Tryz.func5, Tryz.ntmps5
  go_wp2_with fail
  refine (awake2 _).mono ?_
  rintro e w1 ⟨rfl, hb1⟩
  go_wp2_with fail
  refine (chPower s _ _ _ _ HP1.out HP2.out).mono ?_
  rintro e w2 ⟨rfl, hb2⟩
  have B2 := hb1.trans (hb2.mono hb1.size)
  clear hb1 hb2
  go_wp2_with fail
  refine (chRotate s _ _ _ _ HQ1.out HQ2.out).mono ?_
  rintro e w3 ⟨rfl, hb3⟩
  have B3 := B2.trans (hb3.mono B2.size)
  clear B2 hb3
  go_wp2_with fail
  refine (chRoot s R k _ HS.out HR.out HK.out).mono ?_
  rintro e w4 ⟨rfl, hb4⟩
  have B4 := B3.trans (hb4.mono B3.size)
  clear B3 hb4
  go_wp2_with fail
  refine (chLeast s M _ HS.out HM.out).mono ?_
  rintro e w5 ⟨rfl, hb5⟩
  have B5 := B4.trans (hb5.mono B4.size)
  clear B4 hb5
  go_wp2_with fail
  refine (chBal s b _ HS.out HB.out).mono ?_
  rintro e w6 ⟨rfl, hb6⟩
  have B6 := B5.trans (hb6.mono B5.size)
  clear B5 hb6
  go_wp2_with fail
  refine (refCheckWord s _ (by omega)).mono ?_
  rintro e w7 ⟨rfl, rfl⟩
  rw [HE.out]
  go_wp2_with fail
  refine (chRfRoot s R k _ HS.out HR.out HK.out).mono ?_
  rintro e w7 ⟨rfl, hb7⟩
  have B7 := B6.trans (hb7.mono B6.size)
  clear B6 hb7
  go_wp2_with fail
  refine (chRfLeast s M _ HS.out HM.out).mono ?_
  rintro e w8 ⟨rfl, hb8⟩
  have B8 := B7.trans (hb8.mono B7.size)
  clear B7 hb8
  go_wp2_with fail
  refine (chRfBal s b _ HS.out HB.out).mono ?_
  rintro e w9 ⟨rfl, hb9⟩
  have B9 := B8.trans (hb9.mono B8.size)
  clear B8 hb9
  go_wp2_with fail
  refine (lawText ⟨#[]⟩ ⟨#[]⟩ 3 _ (fun _ => rfl) (fun _ => rfl)).mono ?_
  rintro e w12 ⟨rfl, rfl⟩
  go_wp2_with fail
  refine (lawText ⟨#[]⟩ ⟨#[]⟩ 3 _ (fun _ => rfl) (fun _ => rfl)).mono ?_
  rintro e w12 ⟨rfl, rfl⟩
  go_wp2_with fail
  refine (lawText M M 0 _ (fun h => absurd rfl h) (fun _ => rfl)).mono ?_
  rintro e w12 ⟨rfl, rfl⟩
  go_wp2
  go_ret
  exact ⟨rfl, B9⟩
set_option maxHeartbeats 4000000 in
set_option maxRecDepth 100000 in
theorem lawChangesHi (s : ByteArray) (n : Int) (w : World) (hs : Word s) (h1 : 999999999 < n) :
    Calls Tryz.prog 5 #[.string s, .int .i64 n] w fun e w' => e = .returned (.bool true) ∧ Below w.heap.size w w' := by
  obtain ⟨hp1, hp2⟩ := pow_bad hs (n := n) (by omega)
  obtain ⟨hq1, hq2⟩ := rot_bad hs (n := n) (by omega)
  have d1 : ¬ n < 1 := by omega
  have d2 : 64 < n := by omega
  have d3 : ¬ n < 0 := by omega
  have g1 : ¬ (70 : Int) < (s.size : Int) := by have := hs.2.2; omega
  obtain ⟨R, hR⟩ : ∃ R, s.extract 0 (rootN s.data.toList) = R := ⟨_, rfl⟩
  obtain ⟨k, hk⟩ : ∃ k, s.size / rootN s.data.toList = k := ⟨_, rfl⟩
  obtain ⟨M, hM⟩ : ∃ M, (⟨(lstW s.data.toList).toArray⟩ : ByteArray) = M := ⟨_, rfl⟩
  obtain ⟨b, hb⟩ : ∃ b, balB s = b := ⟨_, rfl⟩
  have HR := Lib.hid hR
  have HK := Lib.hid hk
  have HM := Lib.hid hM
  have HB := Lib.hid hb
  have HS := Lib.hid hs
  have HE := Lib.hid (chWordE hs)
  have HP1 := Lib.hid hp1
  have HP2 := Lib.hid hp2
  have HQ1 := Lib.hid hq1
  have HQ2 := Lib.hid hq2
  have hs64 := hs.2.2
  clear hR hk hM hb hs hp1 hp2 hq1 hq2
  go_enter Tryz.func5, Tryz.ntmps5
  go_wp2_with fail
  refine (awake2 _).mono ?_
  rintro e w1 ⟨rfl, hb1⟩
  go_wp2_with fail
  refine (chPower s _ _ _ _ HP1.out HP2.out).mono ?_
  rintro e w2 ⟨rfl, hb2⟩
  have B2 := hb1.trans (hb2.mono hb1.size)
  clear hb1 hb2
  go_wp2_with fail
  refine (chRotate s _ _ _ _ HQ1.out HQ2.out).mono ?_
  rintro e w3 ⟨rfl, hb3⟩
  have B3 := B2.trans (hb3.mono B2.size)
  clear B2 hb3
  go_wp2_with fail
  refine (chRoot s R k _ HS.out HR.out HK.out).mono ?_
  rintro e w4 ⟨rfl, hb4⟩
  have B4 := B3.trans (hb4.mono B3.size)
  clear B3 hb4
  go_wp2_with fail
  refine (chLeast s M _ HS.out HM.out).mono ?_
  rintro e w5 ⟨rfl, hb5⟩
  have B5 := B4.trans (hb5.mono B4.size)
  clear B4 hb5
  go_wp2_with fail
  refine (chBal s b _ HS.out HB.out).mono ?_
  rintro e w6 ⟨rfl, hb6⟩
  have B6 := B5.trans (hb6.mono B5.size)
  clear B5 hb6
  go_wp2_with fail
  refine (refCheckWord s _ (by omega)).mono ?_
  rintro e w7 ⟨rfl, rfl⟩
  rw [HE.out]
  go_wp2_with fail
  refine (chRfRoot s R k _ HS.out HR.out HK.out).mono ?_
  rintro e w7 ⟨rfl, hb7⟩
  have B7 := B6.trans (hb7.mono B6.size)
  clear B6 hb7
  go_wp2_with fail
  refine (chRfLeast s M _ HS.out HM.out).mono ?_
  rintro e w8 ⟨rfl, hb8⟩
  have B8 := B7.trans (hb8.mono B7.size)
  clear B7 hb8
  go_wp2_with fail
  refine (chRfBal s b _ HS.out HB.out).mono ?_
  rintro e w9 ⟨rfl, hb9⟩
  have B9 := B8.trans (hb9.mono B8.size)
  clear B8 hb9
  go_wp2_with fail
  refine (lawText ⟨#[]⟩ ⟨#[]⟩ 3 _ (fun _ => rfl) (fun _ => rfl)).mono ?_
  rintro e w12 ⟨rfl, rfl⟩
  go_wp2_with fail
  refine (lawText ⟨#[]⟩ ⟨#[]⟩ 3 _ (fun _ => rfl) (fun _ => rfl)).mono ?_
  rintro e w12 ⟨rfl, rfl⟩
  go_wp2_with fail
  refine (lawText M M 0 _ (fun h => absurd rfl h) (fun _ => rfl)).mono ?_
  rintro e w12 ⟨rfl, rfl⟩
  go_wp2
  go_ret
  exact ⟨rfl, B9⟩
set_option maxHeartbeats 4000000 in
set_option maxRecDepth 100000 in
theorem lawChangesZero (s : ByteArray) (n : Int) (w : World) (hs : Word s) (h1 : 0 ≤ n) (h2 : n < 1) :
    Calls Tryz.prog 5 #[.string s, .int .i64 n] w fun e w' => e = .returned (.bool true) ∧ Below w.heap.size w w' := by
  obtain ⟨N, rfl⟩ : ∃ N : Nat, n = (N : Int) := ⟨n.toNat, by omega⟩
  obtain ⟨hp1, hp2⟩ := pow_bad hs (n := (N : Int)) (by omega)
  have hq := rot_ok hs (n := N) (by omega)
  obtain ⟨Q, hQ⟩ : ∃ Q, (⟨(rotA s.data.toList (N % s.size)).toArray⟩ : ByteArray) = Q := ⟨_, rfl⟩
  have HQQ := Lib.hid hQ
  rw [hQ] at hq
  obtain ⟨hq1, hq2⟩ := hq
  clear hQ
  have d4 : ¬ (N : Int) < 0 := by omega
  have d5 : ¬ (999999999 : Int) < (N : Int) := by omega
  have g1 : ¬ (70 : Int) < (s.size : Int) := by have := hs.2.2; omega
  obtain ⟨R, hR⟩ : ∃ R, s.extract 0 (rootN s.data.toList) = R := ⟨_, rfl⟩
  obtain ⟨k, hk⟩ : ∃ k, s.size / rootN s.data.toList = k := ⟨_, rfl⟩
  obtain ⟨M, hM⟩ : ∃ M, (⟨(lstW s.data.toList).toArray⟩ : ByteArray) = M := ⟨_, rfl⟩
  obtain ⟨b, hb⟩ : ∃ b, balB s = b := ⟨_, rfl⟩
  have HR := Lib.hid hR
  have HK := Lib.hid hk
  have HM := Lib.hid hM
  have HB := Lib.hid hb
  have HS := Lib.hid hs
  have HE := Lib.hid (chWordE hs)
  have HP1 := Lib.hid hp1
  have HP2 := Lib.hid hp2
  have HQ1 := Lib.hid hq1
  have HQ2 := Lib.hid hq2
  have hs64 := hs.2.2
  clear hR hk hM hb hs hp1 hp2 hq1 hq2
  go_enter Tryz.func5, Tryz.ntmps5
  go_wp2_with fail
  refine (awake2 _).mono ?_
  rintro e w1 ⟨rfl, hb1⟩
  go_wp2_with fail
  refine (chPower s _ _ _ _ HP1.out HP2.out).mono ?_
  rintro e w2 ⟨rfl, hb2⟩
  have B2 := hb1.trans (hb2.mono hb1.size)
  clear hb1 hb2
  go_wp2_with fail
  refine (chRotate s _ _ _ _ HQ1.out HQ2.out).mono ?_
  rintro e w3 ⟨rfl, hb3⟩
  have B3 := B2.trans (hb3.mono B2.size)
  clear B2 hb3
  go_wp2_with fail
  refine (chRoot s R k _ HS.out HR.out HK.out).mono ?_
  rintro e w4 ⟨rfl, hb4⟩
  have B4 := B3.trans (hb4.mono B3.size)
  clear B3 hb4
  go_wp2_with fail
  refine (chLeast s M _ HS.out HM.out).mono ?_
  rintro e w5 ⟨rfl, hb5⟩
  have B5 := B4.trans (hb5.mono B4.size)
  clear B4 hb5
  go_wp2_with fail
  refine (chBal s b _ HS.out HB.out).mono ?_
  rintro e w6 ⟨rfl, hb6⟩
  have B6 := B5.trans (hb6.mono B5.size)
  clear B5 hb6
  go_wp2_with fail
  refine (refCheckWord s _ (by omega)).mono ?_
  rintro e w7 ⟨rfl, rfl⟩
  rw [HE.out]
  go_wp2_with fail
  refine (chRfRoot s R k _ HS.out HR.out HK.out).mono ?_
  rintro e w7 ⟨rfl, hb7⟩
  have B7 := B6.trans (hb7.mono B6.size)
  clear B6 hb7
  go_wp2_with fail
  refine (chRfLeast s M _ HS.out HM.out).mono ?_
  rintro e w8 ⟨rfl, hb8⟩
  have B8 := B7.trans (hb8.mono B7.size)
  clear B7 hb8
  go_wp2_with fail
  refine (chRfBal s b _ HS.out HB.out).mono ?_
  rintro e w9 ⟨rfl, hb9⟩
  have B9 := B8.trans (hb9.mono B8.size)
  clear B8 hb9
  go_wp2_with fail
  refine (chRfRotate s Q N _ HS.out HQQ.out).mono ?_
  rintro e w11 ⟨rfl, hb11⟩
  have B11 := B9.trans (hb11.mono B9.size)
  clear B9 hb11
  go_wp2_with fail
  refine (lawText ⟨#[]⟩ ⟨#[]⟩ 3 _ (fun _ => rfl) (fun _ => rfl)).mono ?_
  rintro e w12 ⟨rfl, rfl⟩
  go_wp2_with fail
  refine (lawText Q Q 0 _ (fun h => absurd rfl h) (fun _ => rfl)).mono ?_
  rintro e w12 ⟨rfl, rfl⟩
  go_wp2_with fail
  refine (lawText M M 0 _ (fun h => absurd rfl h) (fun _ => rfl)).mono ?_
  rintro e w12 ⟨rfl, rfl⟩
  go_wp2
  go_ret
  exact ⟨rfl, B11⟩
set_option maxHeartbeats 4000000 in
set_option maxRecDepth 100000 in
theorem lawChangesMid (s : ByteArray) (n : Int) (w : World) (hs : Word s) (h1 : 64 < n) (h2 : n ≤ 999999999) :
    Calls Tryz.prog 5 #[.string s, .int .i64 n] w fun e w' => e = .returned (.bool true) ∧ Below w.heap.size w w' := by
  obtain ⟨N, rfl⟩ : ∃ N : Nat, n = (N : Int) := ⟨n.toNat, by omega⟩
  obtain ⟨hp1, hp2⟩ := pow_bad hs (n := (N : Int)) (by omega)
  have hq := rot_ok hs (n := N) (by omega)
  obtain ⟨Q, hQ⟩ : ∃ Q, (⟨(rotA s.data.toList (N % s.size)).toArray⟩ : ByteArray) = Q := ⟨_, rfl⟩
  have HQQ := Lib.hid hQ
  rw [hQ] at hq
  obtain ⟨hq1, hq2⟩ := hq
  clear hQ
  have d4 : ¬ (N : Int) < 0 := by omega
  have d5 : ¬ (999999999 : Int) < (N : Int) := by omega
  have d1 : ¬ (N : Int) < 1 := by omega
  have g1 : ¬ (70 : Int) < (s.size : Int) := by have := hs.2.2; omega
  obtain ⟨R, hR⟩ : ∃ R, s.extract 0 (rootN s.data.toList) = R := ⟨_, rfl⟩
  obtain ⟨k, hk⟩ : ∃ k, s.size / rootN s.data.toList = k := ⟨_, rfl⟩
  obtain ⟨M, hM⟩ : ∃ M, (⟨(lstW s.data.toList).toArray⟩ : ByteArray) = M := ⟨_, rfl⟩
  obtain ⟨b, hb⟩ : ∃ b, balB s = b := ⟨_, rfl⟩
  have HR := Lib.hid hR
  have HK := Lib.hid hk
  have HM := Lib.hid hM
  have HB := Lib.hid hb
  have HS := Lib.hid hs
  have HE := Lib.hid (chWordE hs)
  have HP1 := Lib.hid hp1
  have HP2 := Lib.hid hp2
  have HQ1 := Lib.hid hq1
  have HQ2 := Lib.hid hq2
  have hs64 := hs.2.2
  clear hR hk hM hb hs hp1 hp2 hq1 hq2
  go_enter Tryz.func5, Tryz.ntmps5
  go_wp2_with fail
  refine (awake2 _).mono ?_
  rintro e w1 ⟨rfl, hb1⟩
  go_wp2_with fail
  refine (chPower s _ _ _ _ HP1.out HP2.out).mono ?_
  rintro e w2 ⟨rfl, hb2⟩
  have B2 := hb1.trans (hb2.mono hb1.size)
  clear hb1 hb2
  go_wp2_with fail
  refine (chRotate s _ _ _ _ HQ1.out HQ2.out).mono ?_
  rintro e w3 ⟨rfl, hb3⟩
  have B3 := B2.trans (hb3.mono B2.size)
  clear B2 hb3
  go_wp2_with fail
  refine (chRoot s R k _ HS.out HR.out HK.out).mono ?_
  rintro e w4 ⟨rfl, hb4⟩
  have B4 := B3.trans (hb4.mono B3.size)
  clear B3 hb4
  go_wp2_with fail
  refine (chLeast s M _ HS.out HM.out).mono ?_
  rintro e w5 ⟨rfl, hb5⟩
  have B5 := B4.trans (hb5.mono B4.size)
  clear B4 hb5
  go_wp2_with fail
  refine (chBal s b _ HS.out HB.out).mono ?_
  rintro e w6 ⟨rfl, hb6⟩
  have B6 := B5.trans (hb6.mono B5.size)
  clear B5 hb6
  go_wp2_with fail
  refine (refCheckWord s _ (by omega)).mono ?_
  rintro e w7 ⟨rfl, rfl⟩
  rw [HE.out]
  go_wp2_with fail
  refine (chRfRoot s R k _ HS.out HR.out HK.out).mono ?_
  rintro e w7 ⟨rfl, hb7⟩
  have B7 := B6.trans (hb7.mono B6.size)
  clear B6 hb7
  go_wp2_with fail
  refine (chRfLeast s M _ HS.out HM.out).mono ?_
  rintro e w8 ⟨rfl, hb8⟩
  have B8 := B7.trans (hb8.mono B7.size)
  clear B7 hb8
  go_wp2_with fail
  refine (chRfBal s b _ HS.out HB.out).mono ?_
  rintro e w9 ⟨rfl, hb9⟩
  have B9 := B8.trans (hb9.mono B8.size)
  clear B8 hb9
  go_wp2_with fail
  refine (chRfRotate s Q N _ HS.out HQQ.out).mono ?_
  rintro e w11 ⟨rfl, hb11⟩
  have B11 := B9.trans (hb11.mono B9.size)
  clear B9 hb11
  go_wp2_with fail
  refine (lawText ⟨#[]⟩ ⟨#[]⟩ 3 _ (fun _ => rfl) (fun _ => rfl)).mono ?_
  rintro e w12 ⟨rfl, rfl⟩
  go_wp2_with fail
  refine (lawText Q Q 0 _ (fun h => absurd rfl h) (fun _ => rfl)).mono ?_
  rintro e w12 ⟨rfl, rfl⟩
  go_wp2_with fail
  refine (lawText M M 0 _ (fun h => absurd rfl h) (fun _ => rfl)).mono ?_
  rintro e w12 ⟨rfl, rfl⟩
  go_wp2
  go_ret
  exact ⟨rfl, B11⟩
set_option maxHeartbeats 4000000 in
set_option maxRecDepth 100000 in
theorem lawChangesLong (s : ByteArray) (n : Int) (w : World) (hs : Word s) (h1 : 1 ≤ n) (h2 : n ≤ 64) (h3 : 64 < n * (s.size : Int)) :
    Calls Tryz.prog 5 #[.string s, .int .i64 n] w fun e w' => e = .returned (.bool true) ∧ Below w.heap.size w w' := by
  obtain ⟨N, rfl⟩ : ∃ N : Nat, n = (N : Int) := ⟨n.toNat, by omega⟩
  have hN1 : 1 ≤ N := by omega
  have hN2 : N ≤ 64 := by omega
  have hml : (N : Int) * (s.size : Int) = ((N * s.size : Nat) : Int) := by push_cast; rfl
  have hmb : N * s.size ≤ 64 * 64 := Nat.mul_le_mul hN2 hs.2.2
  have hq := rot_ok hs (n := N) (by omega)
  obtain ⟨Q, hQ⟩ : ∃ Q, (⟨(rotA s.data.toList (N % s.size)).toArray⟩ : ByteArray) = Q := ⟨_, rfl⟩
  have HQQ := Lib.hid hQ
  rw [hQ] at hq
  obtain ⟨hq1, hq2⟩ := hq
  clear hQ
  have d4 : ¬ (N : Int) < 0 := by omega
  have d5 : ¬ (999999999 : Int) < (N : Int) := by omega
  obtain ⟨hp1, hp2⟩ := (pow_ok hs hN1 hN2).1 (by omega)
  obtain ⟨p, hpp⟩ : ∃ p, N * s.size = p := ⟨_, rfl⟩
  rw [hpp] at hml hmb
  rw [hml] at h3
  clear hpp
  have d1 : ¬ (N : Int) < 1 := by omega
  have d2 : ¬ (64 : Int) < (N : Int) := by omega
  have g1 : ¬ (70 : Int) < (s.size : Int) := by have := hs.2.2; omega
  obtain ⟨R, hR⟩ : ∃ R, s.extract 0 (rootN s.data.toList) = R := ⟨_, rfl⟩
  obtain ⟨k, hk⟩ : ∃ k, s.size / rootN s.data.toList = k := ⟨_, rfl⟩
  obtain ⟨M, hM⟩ : ∃ M, (⟨(lstW s.data.toList).toArray⟩ : ByteArray) = M := ⟨_, rfl⟩
  obtain ⟨b, hb⟩ : ∃ b, balB s = b := ⟨_, rfl⟩
  have HR := Lib.hid hR
  have HK := Lib.hid hk
  have HM := Lib.hid hM
  have HB := Lib.hid hb
  have HS := Lib.hid hs
  have HE := Lib.hid (chWordE hs)
  have HP1 := Lib.hid hp1
  have HP2 := Lib.hid hp2
  have HQ1 := Lib.hid hq1
  have HQ2 := Lib.hid hq2
  have hs64 := hs.2.2
  clear hR hk hM hb hs hp1 hp2 hq1 hq2
  go_enter Tryz.func5, Tryz.ntmps5
  go_wp2_with fail
  refine (awake2 _).mono ?_
  rintro e w1 ⟨rfl, hb1⟩
  go_wp2_with fail
  refine (chPower s _ _ _ _ HP1.out HP2.out).mono ?_
  rintro e w2 ⟨rfl, hb2⟩
  have B2 := hb1.trans (hb2.mono hb1.size)
  clear hb1 hb2
  go_wp2_with fail
  refine (chRotate s _ _ _ _ HQ1.out HQ2.out).mono ?_
  rintro e w3 ⟨rfl, hb3⟩
  have B3 := B2.trans (hb3.mono B2.size)
  clear B2 hb3
  go_wp2_with fail
  refine (chRoot s R k _ HS.out HR.out HK.out).mono ?_
  rintro e w4 ⟨rfl, hb4⟩
  have B4 := B3.trans (hb4.mono B3.size)
  clear B3 hb4
  go_wp2_with fail
  refine (chLeast s M _ HS.out HM.out).mono ?_
  rintro e w5 ⟨rfl, hb5⟩
  have B5 := B4.trans (hb5.mono B4.size)
  clear B4 hb5
  go_wp2_with fail
  refine (chBal s b _ HS.out HB.out).mono ?_
  rintro e w6 ⟨rfl, hb6⟩
  have B6 := B5.trans (hb6.mono B5.size)
  clear B5 hb6
  go_wp2_with fail
  refine (refCheckWord s _ (by omega)).mono ?_
  rintro e w7 ⟨rfl, rfl⟩
  rw [HE.out]
  go_wp2_with fail
  refine (chRfRoot s R k _ HS.out HR.out HK.out).mono ?_
  rintro e w7 ⟨rfl, hb7⟩
  have B7 := B6.trans (hb7.mono B6.size)
  clear B6 hb7
  go_wp2_with fail
  refine (chRfLeast s M _ HS.out HM.out).mono ?_
  rintro e w8 ⟨rfl, hb8⟩
  have B8 := B7.trans (hb8.mono B7.size)
  clear B7 hb8
  go_wp2_with fail
  refine (chRfBal s b _ HS.out HB.out).mono ?_
  rintro e w9 ⟨rfl, hb9⟩
  have B9 := B8.trans (hb9.mono B8.size)
  clear B8 hb9
  go_wp2_with fail
  refine (chRfRotate s Q N _ HS.out HQQ.out).mono ?_
  rintro e w11 ⟨rfl, hb11⟩
  have B11 := B9.trans (hb11.mono B9.size)
  clear B9 hb11
  go_wp2_with fail
  refine (lawText ⟨#[]⟩ ⟨#[]⟩ 26 _ (fun _ => rfl) (fun _ => rfl)).mono ?_
  rintro e w12 ⟨rfl, rfl⟩
  go_wp2_with fail
  refine (lawText Q Q 0 _ (fun h => absurd rfl h) (fun _ => rfl)).mono ?_
  rintro e w12 ⟨rfl, rfl⟩
  go_wp2_with fail
  refine (lawText M M 0 _ (fun h => absurd rfl h) (fun _ => rfl)).mono ?_
  rintro e w12 ⟨rfl, rfl⟩
  go_wp2
  go_ret
  exact ⟨rfl, B11⟩
set_option maxHeartbeats 4000000 in
set_option maxRecDepth 100000 in
theorem lawChangesOk (s : ByteArray) (n : Int) (w : World) (hs : Word s) (h1 : 1 ≤ n) (h2 : n ≤ 64) (h3 : ¬ 64 < n * (s.size : Int)) :
    Calls Tryz.prog 5 #[.string s, .int .i64 n] w fun e w' => e = .returned (.bool true) ∧ Below w.heap.size w w' := by
  obtain ⟨N, rfl⟩ : ∃ N : Nat, n = (N : Int) := ⟨n.toNat, by omega⟩
  have hN1 : 1 ≤ N := by omega
  have hN2 : N ≤ 64 := by omega
  have hml : (N : Int) * (s.size : Int) = ((N * s.size : Nat) : Int) := by push_cast; rfl
  have hmb : N * s.size ≤ 64 * 64 := Nat.mul_le_mul hN2 hs.2.2
  have hq := rot_ok hs (n := N) (by omega)
  obtain ⟨Q, hQ⟩ : ∃ Q, (⟨(rotA s.data.toList (N % s.size)).toArray⟩ : ByteArray) = Q := ⟨_, rfl⟩
  have HQQ := Lib.hid hQ
  rw [hQ] at hq
  obtain ⟨hq1, hq2⟩ := hq
  clear hQ
  have d4 : ¬ (N : Int) < 0 := by omega
  have d5 : ¬ (999999999 : Int) < (N : Int) := by omega
  have hpk := (pow_ok hs hN1 hN2).2 (by omega)
  obtain ⟨P, hP⟩ : ∃ P, strL (Lib.repeatL s.data.toList N) = P := ⟨_, rfl⟩
  have HPP := Lib.hid hP
  rw [hP] at hpk
  obtain ⟨hp1, hp2⟩ := hpk
  clear hP
  obtain ⟨p, hpp⟩ : ∃ p, N * s.size = p := ⟨_, rfl⟩
  rw [hpp] at hml hmb
  rw [hml] at h3
  clear hpp
  have d1 : ¬ (N : Int) < 1 := by omega
  have d2 : ¬ (64 : Int) < (N : Int) := by omega
  have g1 : ¬ (70 : Int) < (s.size : Int) := by have := hs.2.2; omega
  obtain ⟨R, hR⟩ : ∃ R, s.extract 0 (rootN s.data.toList) = R := ⟨_, rfl⟩
  obtain ⟨k, hk⟩ : ∃ k, s.size / rootN s.data.toList = k := ⟨_, rfl⟩
  obtain ⟨M, hM⟩ : ∃ M, (⟨(lstW s.data.toList).toArray⟩ : ByteArray) = M := ⟨_, rfl⟩
  obtain ⟨b, hb⟩ : ∃ b, balB s = b := ⟨_, rfl⟩
  have HR := Lib.hid hR
  have HK := Lib.hid hk
  have HM := Lib.hid hM
  have HB := Lib.hid hb
  have HS := Lib.hid hs
  have HE := Lib.hid (chWordE hs)
  have HP1 := Lib.hid hp1
  have HP2 := Lib.hid hp2
  have HQ1 := Lib.hid hq1
  have HQ2 := Lib.hid hq2
  have hs64 := hs.2.2
  clear hR hk hM hb hs hp1 hp2 hq1 hq2
  go_enter Tryz.func5, Tryz.ntmps5
  go_wp2_with fail
  refine (awake2 _).mono ?_
  rintro e w1 ⟨rfl, hb1⟩
  go_wp2_with fail
  refine (chPower s _ _ _ _ HP1.out HP2.out).mono ?_
  rintro e w2 ⟨rfl, hb2⟩
  have B2 := hb1.trans (hb2.mono hb1.size)
  clear hb1 hb2
  go_wp2_with fail
  refine (chRotate s _ _ _ _ HQ1.out HQ2.out).mono ?_
  rintro e w3 ⟨rfl, hb3⟩
  have B3 := B2.trans (hb3.mono B2.size)
  clear B2 hb3
  go_wp2_with fail
  refine (chRoot s R k _ HS.out HR.out HK.out).mono ?_
  rintro e w4 ⟨rfl, hb4⟩
  have B4 := B3.trans (hb4.mono B3.size)
  clear B3 hb4
  go_wp2_with fail
  refine (chLeast s M _ HS.out HM.out).mono ?_
  rintro e w5 ⟨rfl, hb5⟩
  have B5 := B4.trans (hb5.mono B4.size)
  clear B4 hb5
  go_wp2_with fail
  refine (chBal s b _ HS.out HB.out).mono ?_
  rintro e w6 ⟨rfl, hb6⟩
  have B6 := B5.trans (hb6.mono B5.size)
  clear B5 hb6
  go_wp2_with fail
  refine (refCheckWord s _ (by omega)).mono ?_
  rintro e w7 ⟨rfl, rfl⟩
  rw [HE.out]
  go_wp2_with fail
  refine (chRfRoot s R k _ HS.out HR.out HK.out).mono ?_
  rintro e w7 ⟨rfl, hb7⟩
  have B7 := B6.trans (hb7.mono B6.size)
  clear B6 hb7
  go_wp2_with fail
  refine (chRfLeast s M _ HS.out HM.out).mono ?_
  rintro e w8 ⟨rfl, hb8⟩
  have B8 := B7.trans (hb8.mono B7.size)
  clear B7 hb8
  go_wp2_with fail
  refine (chRfBal s b _ HS.out HB.out).mono ?_
  rintro e w9 ⟨rfl, hb9⟩
  have B9 := B8.trans (hb9.mono B8.size)
  clear B8 hb9
  go_wp2_with fail
  refine (refPowerQ s P N _ (by omega) (by omega) HPP.out).mono ?_
  rintro e w10 ⟨rfl, rfl⟩
  go_wp2_with fail
  refine (chRfRotate s Q N _ HS.out HQQ.out).mono ?_
  rintro e w11 ⟨rfl, hb11⟩
  have B11 := B9.trans (hb11.mono B9.size)
  clear B9 hb11
  go_wp2_with fail
  refine (lawText P P 0 _ (fun h => absurd rfl h) (fun _ => rfl)).mono ?_
  rintro e w12 ⟨rfl, rfl⟩
  go_wp2_with fail
  refine (lawText Q Q 0 _ (fun h => absurd rfl h) (fun _ => rfl)).mono ?_
  rintro e w12 ⟨rfl, rfl⟩
  go_wp2_with fail
  refine (lawText M M 0 _ (fun h => absurd rfl h) (fun _ => rfl)).mono ?_
  rintro e w12 ⟨rfl, rfl⟩
  go_wp2
  go_ret
  exact ⟨rfl, B11⟩
set_option maxHeartbeats 4000000 in
set_option maxRecDepth 100000 in
theorem lawChangesBig (s : ByteArray) (n : Int) (w : World) (hs : 70 < s.size) :
    Calls Tryz.prog 5 #[.string s, .int .i64 n] w fun e w' => e = .returned (.bool true) ∧ Below w.heap.size w w' := by
  have g1 : (70 : Int) < (s.size : Int) := by omega
  go_enter Tryz.func5, Tryz.ntmps5
  go_wp2_with fail
  refine (awake2 _).mono ?_
  rintro e w1 ⟨rfl, hb1⟩
  go_wp2_with fail
  refine (awake2 _).mono ?_
  rintro e w2 ⟨rfl, hb2⟩
  have B2 := hb1.trans (hb2.mono hb1.size)
  clear hb1 hb2
  go_wp2
  go_ret
  exact ⟨rfl, B2⟩
set_option maxHeartbeats 4000000 in
set_option maxRecDepth 100000 in
theorem lawChangesNo (s : ByteArray) (n E : Int) (w : World) (hs : s.size ≤ 70) (hE : wordE s.data.toList = E) (h0 : E ≠ 0) :
    Calls Tryz.prog 5 #[.string s, .int .i64 n] w fun e w' => e = .returned (.bool true) ∧ Below w.heap.size w w' := by
  have g1 : ¬ (70 : Int) < (s.size : Int) := by omega
  have hq2 : rotE s n = E := by rw [rotE, hE]; simp [firstE, h0]
  have hq1 : rotS s n = ⟨#[]⟩ := by rw [rotS, hq2, if_neg h0]
  have hp0 : pow0 s n = E := by rw [pow0, hE]; simp [firstE, h0]
  have hp2 : powE s n = E := by rw [powE, hp0, if_neg h0]
  have hp1 : powS s n = ⟨#[]⟩ := by rw [powS, hp2, if_neg h0]
  have hne : (E == 0) = false := by rw [beq_eq_false_iff_ne]; exact h0
  have hee : (E == E) = true := by simp
  have HE := Lib.hid hE
  have HN := Lib.hid h0
  have HP1 := Lib.hid hp1
  have HP2 := Lib.hid hp2
  have HQ1 := Lib.hid hq1
  have HQ2 := Lib.hid hq2
  clear hE h0 hp0 hp1 hp2 hq1 hq2
  go_enter Tryz.func5, Tryz.ntmps5
  go_wp2_with fail
  refine (awake2 _).mono ?_
  rintro e w1 ⟨rfl, hb1⟩
  go_wp2_with fail
  refine (chPower s _ n _ _ HP1.out HP2.out).mono ?_
  rintro e w2 ⟨rfl, hb2⟩
  have B2 := hb1.trans (hb2.mono hb1.size)
  clear hb1 hb2
  go_wp2_with fail
  refine (chRotate s _ n _ _ HQ1.out HQ2.out).mono ?_
  rintro e w3 ⟨rfl, hb3⟩
  have B3 := B2.trans (hb3.mono B2.size)
  clear B2 hb3
  go_wp2_with fail
  refine (tpRootNo s _ E HE.out HN.out).mono ?_
  rintro e w4 ⟨rfl, hb4⟩
  have B4 := B3.trans (hb4.mono B3.size)
  clear B3 hb4
  go_wp2_with fail
  refine (tpLeastNo s _ E HE.out HN.out).mono ?_
  rintro e w5 ⟨rfl, hb5⟩
  have B5 := B4.trans (hb5.mono B4.size)
  clear B4 hb5
  go_wp2_with fail
  refine (tpBalancedNo s _ E HE.out HN.out).mono ?_
  rintro e w6 ⟨rfl, hb6⟩
  have B6 := B5.trans (hb6.mono B5.size)
  clear B5 hb6
  go_wp2_with fail
  refine (refCheckWord s _ (by omega)).mono ?_
  rintro e w7 ⟨rfl, rfl⟩
  rw [HE.out]
  go_wp2_with fail
  refine (lawText ⟨#[]⟩ ⟨#[]⟩ E _ (fun _ => rfl) (fun _ => rfl)).mono ?_
  rintro e w12 ⟨rfl, rfl⟩
  go_wp2_with fail
  refine (lawText ⟨#[]⟩ ⟨#[]⟩ E _ (fun _ => rfl) (fun _ => rfl)).mono ?_
  rintro e w12 ⟨rfl, rfl⟩
  go_wp2_with fail
  refine (lawText ⟨#[]⟩ ⟨#[]⟩ E _ (fun _ => rfl) (fun _ => rfl)).mono ?_
  rintro e w12 ⟨rfl, rfl⟩
  go_wp2
  go_ret
  exact ⟨rfl, B6⟩
theorem lawChanges (s : ByteArray) (n : Int) (w : World) (_ : -9223372036854775808 ≤ n) (_ : n ≤ 9223372036854775807) :
    Calls Tryz.prog 5 #[.string s, .int .i64 n] w fun e w' => e = .returned (.bool true) ∧ Below w.heap.size w w' := by
  by_cases h : s.size ≤ 70
  · by_cases h0 : wordE s.data.toList = 0
    · have hs := wordE_zero h0
      by_cases c1 : n < 0
      · exact lawChangesLo s n w hs c1
      · by_cases c2 : n < 1
        · exact lawChangesZero s n w hs (by omega) c2
        · by_cases c3 : 64 < n
          · by_cases c4 : n ≤ 999999999
            · exact lawChangesMid s n w hs c3 c4
            · exact lawChangesHi s n w hs (by omega)
          · by_cases c5 : 64 < n * (s.size : Int)
            · exact lawChangesLong s n w hs (by omega) (by omega) c5
            · exact lawChangesOk s n w hs (by omega) (by omega) c5
    · exact lawChangesNo s n _ w h rfl h0
  · exact lawChangesBig s n w (by omega)
end Go.Proofs.YtgpgdjdababidaaGreatDoor

namespace Go.Proofs.YtgpgdjdababidaaGreatDoor
open Go.ChangeShapes Go.WideShapes Go.ChangeAt Go.WideMaps Go.WideElems Go.RowKit

set_option maxRecDepth 100000 in
theorem changes_lifted (os : Os) (started : os.Started) (H : Type) (enc : TypeId × Value → H) :
    ReturnsInHanded {} Tryz.checked os 5 .any (fun w args => (Rows.taperChangesSpec.pre enc Tryz.prog Tryz.f5 [] false w args ∧ laidMetH Tryz.prog taLaid w) ∧ sizedMet enc Tryz.prog Tryz.f5 (OpenSpec.ofChange Rows.taperChangesSpec) false w args)
      (Rows.taperChangesSpec.post enc Tryz.prog Tryz.f5 false true false false) := by
  refine returnsInHanded_of_change_and (C := Tryz.checked) (X := fun w _ => laidMetH Tryz.prog taLaid w) (fun _ _ _ hh h => h.of_heap hh) Tryz.ownT started (by kernel_rfl) Tryz.func5
    (ChangeSpec.witness_shaped (enc := enc) (C := Tryz.checked) (os := os) (X := fun w _ => laidMetH Tryz.prog taLaid w) false (World.doorLaid Tryz.prog 400 os) #[.string ByteArray.empty, .int .i64 0] 8 rfl (World.shaped_of_RefB (by kernel_rfl) (by kernel_rfl)) (by kernel_rfl) (by kernel_rfl) (by kernel_rfl) (door_met os _)) ?_
  intro W base args ds gs before hval0 hW _ _ hL _
  have hval : ∀ (j : Nat) t v, Tryz.f5.params[j]? = some t → args[j]? = some v → Value.okWide Tryz.prog W .any base t v := hval0
  have hW' := hW
  obtain ⟨p, q, hA0, hV, rfl, hfz, hnd⟩ := hW
  have hA : DataW.TrodAll enc Tryz.prog W 0 (fun _ => true) true Tryz.f5.params.toList args.toList ds p := hA0
  rw [Tryz.params5] at hA hval
  obtain ⟨v0, v1, d0, d1, p0, p1, rfl, rfl, rfl, h0, h1⟩ := trodAll_two hA
  obtain ⟨rfl, rfl⟩ := trodVars_none hV
  clear hA0 hval0
  simp only [List.append_nil] at hW'
  have hlt : ∀ x ∈ p0 ++ p1, x.block < W.heap.size := fun x hx => by simpa using hW'.lt x hx
  obtain ⟨z00, rfl⟩ := open_strv (hval 0 9 v0 rfl rfl)
  obtain ⟨z10, rfl, b10, b11⟩ := open_intv (hval 1 3 v1 rfl rfl)
  have harg0 : ∀ (W' : World), Below W.heap.size W W' → DataW.Trod enc Tryz.prog W' 0 (fun b => decide (b < W.heap.size)) true 9 (.string z00) d0 p0 :=
    fun W' hn => Below.trod Tryz.laidOutT (by kernel_rfl) (of_decide_eq_true (by kernel_rfl)) h0 hn (fun x hx => hlt x (List.mem_append_left _ hx))
  have harg1 : ∀ (W' : World), Below W.heap.size W W' → DataW.Trod enc Tryz.prog W' 0 (fun b => decide (b < W.heap.size)) true 3 (.int .i64 z10) d1 p1 :=
    fun W' hn => Below.trod Tryz.laidOutT (by kernel_rfl) (of_decide_eq_true (by kernel_rfl)) h1 hn (fun x hx => hlt x (List.mem_append_right _ hx))
  refine (lawChanges z00 z10 W b10 b11).mono fun e W' ⟨he, hb⟩ => ?_
  subst he
  refine ⟨_, rfl, _, _, _, [], p0 ++ p1, [], hW', ?_, trodAll_mk2 (harg0 W' hb) (harg1 W' hb), rfl, hb.frame _, fun h => by cases h⟩
  exact trodAll_mk1 (shut_bool Tryz.underlying4 true)
theorem changes_holds : Rows.TaperChangesSaid :=
  OpenClaim.holds_of_wide 5 Tryz.f5 rfl rfl rfl rfl rfl rfl rfl ⟨rfl, rfl, rfl, rfl, rfl⟩ rfl rfl rfl rfl rfl (by kernel_rfl) Tryz.func5 (by kernel_rfl)
    (of_decide_eq_true (by kernel_rfl)) (by unfold Func.isWrapper; first | (rw [if_pos (by decide +kernel)]; kernel_rfl) | (rw [if_neg (by decide +kernel)]; exact ⟨rfl, rfl⟩))
    (fun os started H enc _ => changes_lifted os started H enc)
theorem changes_card : Rows.TaperChangesCardSaid :=
  Claim7.holds_tied_plain_at .later [] [.data, .data, .data] true (true, "b6e41887c4f920463a90685bca101cdc24d79fe0e4c7c6f96c088de150e08b9e") false
    changes_holds (fun _ h => by cases h) (by kernel_rfl) (fun _ h => by cases h) taperChanges_row_tie rfl ⟨rfl, rfl⟩ (by kernel_rfl) rfl
    (fun f fn hf hfn => by
      obtain rfl : f = 5 := Option.some.inj ((show Tryz.prog.funcNamed "codend/codendlaw02.TaperChanges" = some 5 by kernel_rfl).symm.trans hf) |>.symm
      obtain rfl : fn = Tryz.f5 := (Option.some.inj (Tryz.func5.symm.trans hfn)).symm
      exact ⟨by kernel_rfl, fun j t ht => by
        rw [Tryz.params5] at ht
        have hm : t ∈ [9, 3] := by simpa using Array.mem_of_getElem? ht
        have hall : ([9, 3].all fun u => !Tryz.prog.wantsStandIn u) = true := by kernel_rfl
        exact (show Tryz.prog.wantsStandIn t = false by simpa using List.all_eq_true.1 hall t hm)⟩)
    (by kernel_rfl)
#print axioms changes_card
end Go.Proofs.YtgpgdjdababidaaGreatDoor
