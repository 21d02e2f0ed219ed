/- TaperRoots returns true for every string and byte; the library's tables that its row lists are tied to the program's text. Conditions: none beside that. -/
import Derived.Test.YtgpgdjdababidaaGreatDoorM5
import Derived.BigQuiet
/- Power and Rotate of taper, at all arguments. -/
namespace Go.Proofs.YtgpgdjdababidaaGreatDoor
open Go.RowKit

def rotE (s : ByteArray) (n : Int) : Int := firstE [wordE s.data.toList, rngE n 0 999999999]
def rotS (s : ByteArray) (n : Int) : ByteArray := if rotE s n = 0 then ⟨(rotA s.data.toList (n.toNat % s.size)).toArray⟩ else ⟨#[]⟩
theorem first2_zero {a b : Int} (h : firstE [a, b] = 0) : a = 0 ∧ b = 0 := by
  simp only [firstE] at h
  repeat' split at h
  all_goals simp_all
set_option maxHeartbeats 2000000 in
set_option maxRecDepth 100000 in
theorem tpRotate (s : ByteArray) (n : Int) (w : World) :
    Calls Tryz.prog 33 #[.string s, .int .i64 n] w fun e w' => e = .returned (.tuple #[.string (rotS s n), .int .i64 (rotE s n)]) ∧ Below w.heap.size w w' := by
  by_cases h0 : rotE s n = 0
  · obtain ⟨hw0, hn0⟩ := first2_zero h0
    obtain ⟨n1, n2⟩ := rngE_zero hn0
    have hs := wordE_zero hw0
    rw [rotS, if_pos h0, h0]
    obtain ⟨N, rfl⟩ : ∃ N : Nat, n = (N : Int) := ⟨n.toNat, by omega⟩
    rw [Int.toNat_natCast]
    have h64 := hs.2.2
    have h1 := hs.2.1
    have hm := nat_tmod N s.size
    have hlt : N % s.size < s.size := Nat.mod_lt _ (by omega)
    obtain ⟨r, hr⟩ : ∃ r, N % s.size = r := ⟨_, rfl⟩
    rw [hr] at hm hlt ⊢
    have HV := Lib.hid hw0
    have HR := Lib.hid hn0
    have hzN : ¬ s.size = 0 := by omega
    clear hs hr h0 hw0 hn0
    go_enter Tryz.func33, Tryz.ntmps33
    go_wp2_with fail
    refine (tpCheckWordE s _).mono ?_
    rintro e w1 ⟨rfl, hb1⟩
    rw [HV.out]
    go_wp2_with fail
    refine (tpRng _ _ _ _).mono ?_
    rintro e w2 ⟨rfl, rfl⟩
    rw [HR.out]
    go_wp2_with fail
    refine (tpFirst2 _ _ _ _ 23 _ (by exact heap_alloc_new _ _)).mono ?_
    rintro e w3 ⟨rfl, rfl⟩
    rw [show firstE [0, 0] = 0 from rfl]
    have b3 : Below w.heap.size w (w1.alloc (.cells #[.int .i64 0, .int .i64 0] 23)) := hb1.alloc hb1.size _
    generalize World.alloc w1 _ = w4 at b3 ⊢
    go_wp2_with fail
    refine (tpRotated s r _ h64 hlt).mono ?_
    rintro e w5 ⟨rfl, hb5⟩
    go_wp2
    go_ret2
    exact ⟨rfl, b3.trans (hb5.mono b3.size)⟩
  · have hne := neE h0
    obtain ⟨E, hE⟩ : ∃ E, rotE s n = E := ⟨_, rfl⟩
    rw [rotS, if_neg h0, hE]
    rw [hE] at hne
    have HE := Lib.hid hE
    clear h0 hE
    go_enter Tryz.func33, Tryz.ntmps33
    go_wp2_with fail
    refine (tpCheckWordE s _).mono ?_
    rintro e w1 ⟨rfl, hb1⟩
    go_wp2_with fail
    refine (tpRng _ _ _ _).mono ?_
    rintro e w1' ⟨rfl, rfl⟩
    go_wp2_with fail
    refine (tpFirst2 _ _ _ _ 23 _ (by exact heap_alloc_new _ _)).mono ?_
    rintro e w3 ⟨rfl, rfl⟩
    rw [show firstE [wordE s.data.toList, rngE n 0 999999999] = E from HE.out]
    go_wp2
    go_ret2
    exact ⟨rfl, hb1.alloc hb1.size _⟩
def pow0 (s : ByteArray) (n : Int) : Int := firstE [wordE s.data.toList, rngE n 1 64]
def powE (s : ByteArray) (n : Int) : Int := if pow0 s n = 0 then lenE ((s.size : Int) * n) else pow0 s n
def powS (s : ByteArray) (n : Int) : ByteArray := if powE s n = 0 then ⟨(Lib.repeatL s.data.toList n.toNat).toArray⟩ else ⟨#[]⟩
set_option maxHeartbeats 2000000 in
set_option maxRecDepth 100000 in
theorem tpPower (s : ByteArray) (n : Int) (w : World) :
    Calls Tryz.prog 32 #[.string s, .int .i64 n] w fun e w' => e = .returned (.tuple #[.string (powS s n), .int .i64 (powE s n)]) ∧ Below w.heap.size w w' := by
  by_cases h0 : pow0 s n = 0
  · obtain ⟨hw0, hn0⟩ := first2_zero h0
    obtain ⟨n1, n2⟩ := rngE_zero hn0
    have hs := wordE_zero hw0
    have h64 := hs.2.2
    have h1 := hs.2.1
    obtain ⟨N, rfl⟩ : ∃ N : Nat, n = (N : Int) := ⟨n.toNat, by omega⟩
    have hm1 : 0 ≤ (s.size : Int) * (N : Int) := Int.mul_nonneg (by omega) (by omega)
    have hm2 : (s.size : Int) * (N : Int) ≤ 64 * 64 := Int.mul_le_mul (by omega) (by omega) (by omega) (by omega)
    have HV := Lib.hid hw0
    have HR := Lib.hid hn0
    by_cases hl : lenE ((s.size : Int) * (N : Int)) = 0
    · rw [powS, powE, if_pos h0, if_pos hl, hl, Int.toNat_natCast]
      have HL := Lib.hid hl
      clear hs h0 hw0 hn0 hl
      go_enter Tryz.func32, Tryz.ntmps32
      go_wp2_with fail
      refine (tpCheckWordE s _).mono ?_
      rintro e w1 ⟨rfl, hb1⟩
      rw [HV.out]
      go_wp2_with fail
      refine (tpRng _ _ _ _).mono ?_
      rintro e w2 ⟨rfl, rfl⟩
      rw [HR.out]
      go_wp2_with fail
      refine (tpFirst2 _ _ _ _ 23 _ (by exact heap_alloc_new _ _)).mono ?_
      rintro e w3 ⟨rfl, rfl⟩
      rw [show firstE [0, 0] = 0 from rfl]
      have b3 : Below w.heap.size w (w1.alloc (.cells #[.int .i64 0, .int .i64 0] 23)) := hb1.alloc hb1.size _
      generalize World.alloc w1 _ = w4 at b3 ⊢
      go_wp2_with fail
      refine (tpCheckLengthE _ _).mono ?_
      rintro e w5 ⟨rfl, rfl⟩
      rw [HL.out]
      go_wp2_with fail
      refine (tpRepeated s N _ h64 (by omega)).mono ?_
      rintro e w6 ⟨rfl, hb6⟩
      go_wp2
      go_ret2
      exact ⟨rfl, b3.trans (hb6.mono b3.size)⟩
    · have hne := neE hl
      obtain ⟨E, hE⟩ : ∃ E, lenE ((s.size : Int) * (N : Int)) = E := ⟨_, rfl⟩
      rw [powS, powE, if_pos h0, if_neg hl, hE]
      rw [hE] at hne
      have HL := Lib.hid hE
      clear hs h0 hw0 hn0 hl hE
      go_enter Tryz.func32, Tryz.ntmps32
      go_wp2_with fail
      refine (tpCheckWordE s _).mono ?_
      rintro e w1 ⟨rfl, hb1⟩
      rw [HV.out]
      go_wp2_with fail
      refine (tpRng _ _ _ _).mono ?_
      rintro e w2 ⟨rfl, rfl⟩
      rw [HR.out]
      go_wp2_with fail
      refine (tpFirst2 _ _ _ _ 23 _ (by exact heap_alloc_new _ _)).mono ?_
      rintro e w3 ⟨rfl, rfl⟩
      rw [show firstE [0, 0] = 0 from rfl]
      have b3 : Below w.heap.size w (w1.alloc (.cells #[.int .i64 0, .int .i64 0] 23)) := hb1.alloc hb1.size _
      generalize World.alloc w1 _ = w4 at b3 ⊢
      go_wp2_with fail
      refine (tpCheckLengthE _ _).mono ?_
      rintro e w5 ⟨rfl, rfl⟩
      rw [HL.out]
      go_wp2
      go_ret2
      exact ⟨rfl, b3⟩
  · have hne := neE h0
    obtain ⟨E, hE⟩ : ∃ E, pow0 s n = E := ⟨_, rfl⟩
    have hq : powE s n = E := by rw [powE, if_neg h0, hE]
    rw [powS, hq, if_neg (by rw [← hE]; exact h0)]
    rw [hE] at hne
    have HE := Lib.hid hE
    clear h0 hE hq
    go_enter Tryz.func32, Tryz.ntmps32
    go_wp2_with fail
    refine (tpCheckWordE s _).mono ?_
    rintro e w1 ⟨rfl, hb1⟩
    go_wp2_with fail
    refine (tpRng _ _ _ _).mono ?_
    rintro e w1' ⟨rfl, rfl⟩
    go_wp2_with fail
    refine (tpFirst2 _ _ _ _ 23 _ (by exact heap_alloc_new _ _)).mono ?_
    rintro e w3 ⟨rfl, rfl⟩
    rw [show firstE [wordE s.data.toList, rngE n 1 64] = E from HE.out]
    go_wp2
    go_ret2
    exact ⟨rfl, hb1.alloc hb1.size _⟩
end Go.Proofs.YtgpgdjdababidaaGreatDoor

/- Roots, rotations and least rotations of words: plain mathematics. -/
namespace Go.Proofs.YtgpgdjdababidaaGreatDoor
open Go.RowKit

theorem bl_cmp : ∀ a b : List UInt8, Lib.compareBytes a b < 0 ↔ Op.bytesLess a b = true
  | [], [] => by simp [Lib.compareBytes, Op.bytesLess]
  | [], _ :: _ => by simp [Lib.compareBytes, Op.bytesLess]
  | _ :: _, [] => by simp [Lib.compareBytes, Op.bytesLess]
  | x :: a, y :: b => by
    have ih := bl_cmp a b
    rw [Lib.compareBytes, Op.bytesLess]
    by_cases h1 : x < y
    · simp [h1]
    · by_cases h2 : y < x
      · have h3 : ¬ x = y := fun e => by rw [e] at h2; exact UInt8.lt_irrefl _ h2
        simp [h1, h2, h3]
      · have h3 : x = y := UInt8.le_antisymm (UInt8.not_lt.1 h2) (UInt8.not_lt.1 h1)
        rw [if_neg h1, if_neg h2, ih]
        simp [h3]
theorem bl_cons (x y : UInt8) (a b : List UInt8) : Op.bytesLess (x :: a) (y :: b) = true ↔ x.toNat < y.toNat ∨ (x.toNat = y.toNat ∧ Op.bytesLess a b = true) := by
  rw [Op.bytesLess, Bool.or_eq_true, Bool.and_eq_true, beq_iff_eq, decide_eq_true_eq, UInt8.lt_iff_toNat_lt]
  constructor
  · rintro (h | ⟨h, h'⟩)
    · exact .inl h
    · exact .inr ⟨by rw [h], h'⟩
  · rintro (h | ⟨h, h'⟩)
    · exact .inl h
    · exact .inr ⟨UInt8.toNat.inj h, h'⟩
/-- a is not behind b. -/
def bLe (a b : List UInt8) : Prop := Op.bytesLess b a = false
theorem bLe_refl : ∀ a : List UInt8, bLe a a
  | [] => rfl
  | x :: a => by
    have ih := bLe_refl a
    unfold bLe at ih ⊢
    rw [Bool.eq_false_iff] at ih ⊢
    intro h
    rcases (bl_cons _ _ _ _).1 h with h | ⟨_, h⟩
    · omega
    · exact ih h
theorem bLe_total : ∀ a b : List UInt8, bLe a b ∨ bLe b a
  | [], b => .inl (by cases b <;> rfl)
  | _ :: _, [] => .inr rfl
  | x :: a, y :: b => by
    have ih := bLe_total a b
    unfold bLe at ih ⊢
    rw [Bool.eq_false_iff, Bool.eq_false_iff] at ih ⊢
    simp only [ne_eq, bl_cons] at ih ⊢
    by_cases h1 : x.toNat < y.toNat
    · left; rintro (h | ⟨h, _⟩) <;> omega
    · by_cases h2 : y.toNat < x.toNat
      · right; rintro (h | ⟨h, _⟩) <;> omega
      · rcases ih with ih | ih
        · left; rintro (h | ⟨_, h⟩)
          · omega
          · exact ih h
        · right; rintro (h | ⟨_, h⟩)
          · omega
          · exact ih h
theorem bLe_trans : ∀ {a b c : List UInt8}, bLe a b → bLe b c → bLe a c
  | [], _, c => fun _ _ => by cases c <;> rfl
  | x :: a, [], _ => fun h _ => by simp [bLe, Op.bytesLess] at h
  | x :: a, y :: b, [] => fun _ h => by simp [bLe, Op.bytesLess] at h
  | x :: a, y :: b, z :: c => fun h1 h2 => by
    have ih := @bLe_trans a b c
    unfold bLe at ih h1 h2 ⊢
    rw [Bool.eq_false_iff] at h1 h2 ⊢
    simp only [ne_eq, bl_cons] at h1 h2 ⊢
    rintro (h | ⟨h, h'⟩)
    · by_cases g : y.toNat < x.toNat
      · exact h1 (.inl g)
      · exact h2 (.inl (by omega))
    · by_cases g : y.toNat < x.toNat
      · exact h1 (.inl g)
      · by_cases g2 : z.toNat < y.toNat
        · exact h2 (.inl g2)
        · have e1 : y.toNat = x.toNat := by omega
          have e2 : z.toNat = y.toNat := by omega
          have k1 : Op.bytesLess b a = false := Bool.eq_false_iff.2 fun k => h1 (.inr ⟨e1, k⟩)
          have k2 : Op.bytesLess c b = false := Bool.eq_false_iff.2 fun k => h2 (.inr ⟨e2, k⟩)
          rw [ih k1 k2] at h'
          cases h'
theorem bLe_antisymm : ∀ {a b : List UInt8}, bLe a b → bLe b a → a = b
  | [], [] => fun _ _ => rfl
  | [], _ :: _ => fun _ h => by simp [bLe, Op.bytesLess] at h
  | _ :: _, [] => fun h _ => by simp [bLe, Op.bytesLess] at h
  | x :: a, y :: b => fun h1 h2 => by
    have ih := @bLe_antisymm a b
    unfold bLe at ih h1 h2
    rw [Bool.eq_false_iff] at h1 h2
    simp only [ne_eq, bl_cons] at h1 h2
    have e : x.toNat = y.toNat := by
      by_cases g : y.toNat < x.toNat
      · exact absurd (.inl g) h1
      · by_cases g2 : x.toNat < y.toNat
        · exact absurd (.inl g2) h2
        · omega
    have k1 : Op.bytesLess b a = false := Bool.eq_false_iff.2 fun k => h1 (.inr ⟨e.symm, k⟩)
    have k2 : Op.bytesLess a b = false := Bool.eq_false_iff.2 fun k => h2 (.inr ⟨e, k⟩)
    rw [UInt8.toNat.inj e, ih k1 k2]
theorem bLe_gtr {a b : List UInt8} (h : bLe a b) : (!(Op.bytesLess a b || a == b)) = false := by
  by_cases hb : Op.bytesLess a b = true
  · rw [hb]; rfl
  · have : a = b := bLe_antisymm h (by rw [bLe]; exact Bool.eq_false_iff.2 hb)
    rw [this]
    simp
/-- The least rotation is not behind the others. -/
theorem lstF_le (L : List UInt8) : ∀ i j, j < i → bLe (rotA L (lstF L i)) (rotA L j)
  | 0, j, h => by omega
  | i + 1, j, h => by
    rw [lstF]
    by_cases hc : Lib.compareBytes (rotA L i) (rotA L (lstF L i)) < 0
    · rw [if_pos hc]
      have hl := (bl_cmp _ _).1 hc
      have hle : bLe (rotA L i) (rotA L (lstF L i)) := by
        rcases bLe_total (rotA L i) (rotA L (lstF L i)) with g | g
        · exact g
        · rw [bLe, hl] at g; cases g
      by_cases hj : j = i
      · rw [hj]; exact bLe_refl _
      · exact bLe_trans hle (lstF_le L i j (by omega))
    · rw [if_neg hc]
      by_cases hj : j = i
      · rw [hj]
        exact Bool.eq_false_iff.2 fun k => hc ((bl_cmp _ _).2 k)
      · exact lstF_le L i j (by omega)
theorem lstW_le {L : List UInt8} {j : Nat} (h : j < L.length) : bLe (lstW L) (rotA L j) := lstF_le L L.length j h
theorem lstW_is {L : List UInt8} (h : 0 < L.length) : ∃ i, i < L.length ∧ lstW L = rotA L i := ⟨lstF L L.length, by have := lstF_lt L L.length; omega, rfl⟩
theorem rotA_len {L : List UInt8} {a : Nat} (_ : a ≤ L.length) : (rotA L a).length = L.length := by
  rw [rotA, List.length_append, List.length_drop, List.length_take]
  omega
theorem rotA_zero (L : List UInt8) : rotA L 0 = L := by simp [rotA]
theorem rotA_rot {L : List UInt8} {a b : Nat} (ha : a < L.length) (hb : b < L.length) : rotA (rotA L a) b = rotA L (if a + b < L.length then a + b else a + b - L.length) := by
  split
  · rename_i h
    unfold rotA
    rw [List.drop_append_of_le_length (by rw [List.length_drop]; omega), List.take_append_of_le_length (by rw [List.length_drop]; omega), List.drop_drop, List.append_assoc, ← List.take_add]
  · rename_i h
    obtain ⟨c, hc⟩ : ∃ c, b = L.length - a + c := ⟨b - (L.length - a), by omega⟩
    have e : a + b - L.length = c := by omega
    rw [e]
    unfold rotA
    have hd : (L.drop a).length = L.length - a := List.length_drop
    rw [hc, ← hd, List.drop_length_add_append, List.take_length_add_append, List.drop_take, List.take_take]
    have e2 : min c a = c := by omega
    rw [e2]
    have : L.drop c = (L.drop c).take (a - c) ++ L.drop a := by
      conv => lhs; rw [← List.take_append_drop (a - c) (L.drop c), List.drop_drop]
      rw [show c + (a - c) = a by omega]
    rw [← List.append_assoc, ← this]
theorem rot_back {L : List UInt8} {a : Nat} (h : a < L.length) : rotA (rotA L a) ((L.length - a) % L.length) = L := by
  by_cases h0 : a = 0
  · subst h0
    rw [Nat.sub_zero, Nat.mod_self, rotA_zero, rotA_zero]
  · rw [Nat.mod_eq_of_lt (by omega), rotA_rot h (by omega), if_neg (by omega)]
    rw [show a + (L.length - a) - L.length = 0 by omega, rotA_zero]
theorem lst_rot {L : List UInt8} {a : Nat} (h : a < L.length) : lstW (rotA L a) = lstW L := by
  have hl := rotA_len (L := L) (a := a) (by omega)
  apply bLe_antisymm
  · obtain ⟨i, hi, e⟩ := lstW_is (L := L) (by omega)
    rw [e]
    have hj : ∃ j, j < L.length ∧ rotA (rotA L a) j = rotA L i := by
      by_cases g : a ≤ i
      · exact ⟨i - a, by omega, by rw [rotA_rot h (by omega), if_pos (by omega)]; rw [show a + (i - a) = i by omega]⟩
      · exact ⟨i + L.length - a, by omega, by rw [rotA_rot h (by omega), if_neg (by omega)]; rw [show a + (i + L.length - a) - L.length = i by omega]⟩
    obtain ⟨j, hj, e2⟩ := hj
    rw [← e2]
    exact lstW_le (by omega)
  · obtain ⟨i, hi, e⟩ := lstW_is (L := rotA L a) (by omega)
    rw [e, rotA_rot h (by omega)]
    exact lstW_le (by split <;> omega)
theorem lst_len {L : List UInt8} (h : 0 < L.length) : (lstW L).length = L.length := by
  obtain ⟨i, hi, e⟩ := lstW_is h
  rw [e, rotA_len (by omega)]
theorem lst_self {L : List UInt8} (h : 0 < L.length) : bLe (lstW L) L := by
  have := lstW_le (L := L) (j := 0) h
  rwa [rotA_zero] at this
theorem vecL_app (a b : List UInt8) : vecL (a ++ b) = ((vecL a).1 + (vecL b).1, (vecL a).2 + (vecL b).2) := by simp [vecL]
theorem vec_rot (L : List UInt8) (a : Nat) : vecL (rotA L a) = vecL L := by
  conv => rhs; rw [← List.take_append_drop a L]
  rw [rotA, vecL_app, vecL_app]
  exact Prod.ext (Int.add_comm _ _) (Int.add_comm _ _)
theorem vec_repeat (L : List UInt8) : ∀ k, vecL (Lib.repeatL L k) = ((k : Int) * (vecL L).1, (k : Int) * (vecL L).2)
  | 0 => by simp [Lib.repeatL, vecL]
  | k + 1 => by
    rw [Lib.repeatL, vecL_app, vec_repeat L k]
    refine Prod.ext ?_ ?_
    · show _ + (k : Int) * _ = ((k + 1 : Nat) : Int) * _
      push_cast
      grind
    · show _ + (k : Int) * _ = ((k + 1 : Nat) : Int) * _
      push_cast
      grind
/-! ### Roots -/
theorem leastF_pass {P : Nat → Bool} {G : Nat} : ∀ k n, n + k = G → leastF P G k n = G ∨ P (leastF P G k n) = true
  | 0, _, _ => .inl rfl
  | k + 1, n, h => by
    rw [leastF]
    split
    · right; assumption
    · exact leastF_pass k (n + 1) (by omega)
theorem leastF_low {P : Nat → Bool} {G : Nat} : ∀ k n m, n ≤ m → m < n + k → P m = true → leastF P G k n ≤ m
  | 0, _, _, h1, h2, _ => by omega
  | k + 1, n, m, h1, h2, h3 => by
    rw [leastF]
    split
    · exact h1
    · rename_i hp
      have : n ≠ m := fun e => hp (by rw [e]; exact h3)
      exact leastF_low k (n + 1) m (by omega) (by omega) h3
theorem leastN_low {P : Nat → Bool} {G m : Nat} (h1 : 1 ≤ m) (h2 : m < G) (h : P m = true) : leastN P G ≤ m := leastF_low _ _ _ h1 (by omega) h
theorem repeat_one (L : List UInt8) : Lib.repeatL L 1 = L := by simp [Lib.repeatL]
theorem root_facts {L : List UInt8} (h : 1 ≤ L.length) : 1 ≤ rootN L ∧ rootN L ≤ L.length ∧ L.length % rootN L = 0 ∧ L = Lib.repeatL (L.take (rootN L)) (L.length / rootN L) := by
  obtain ⟨h1, h2⟩ := leastN_range (powB L) h
  refine ⟨h1, h2, ?_⟩
  rcases leastF_pass (P := powB L) (G := L.length) (L.length - 1) 1 (by omega) with g | g
  · have e : rootN L = L.length := g
    rw [e, Nat.mod_self, Nat.div_self (by omega), List.take_length, repeat_one]
    exact ⟨rfl, rfl⟩
  · have g' : powB L (rootN L) = true := g
    unfold powB at g'
    rw [Bool.and_eq_true, decide_eq_true_eq, beq_iff_eq] at g'
    exact g'
theorem repeat_repeat (L : List UInt8) (m : Nat) : ∀ n, Lib.repeatL (Lib.repeatL L m) n = Lib.repeatL L (m * n)
  | 0 => by simp [Lib.repeatL]
  | n + 1 => by
    have add : ∀ a b, Lib.repeatL L (a + b) = Lib.repeatL L a ++ Lib.repeatL L b := by
      intro a b
      induction a with
      | zero => simp [Lib.repeatL]
      | succ a ih => rw [Nat.add_right_comm, Lib.repeatL, ih, Lib.repeatL, List.append_assoc]
    rw [Lib.repeatL, repeat_repeat L m n, Nat.mul_add, Nat.mul_one, Nat.add_comm, add]
theorem root_root {L : List UInt8} (h : 1 ≤ L.length) : rootN (L.take (rootN L)) = rootN L := by
  obtain ⟨h1, h2, h3, h4⟩ := root_facts h
  obtain ⟨n, hn⟩ : ∃ n, rootN L = n := ⟨_, rfl⟩
  rw [hn] at h1 h2 h3 h4 ⊢
  have hl : (L.take n).length = n := by rw [List.length_take]; omega
  obtain ⟨g1, g2, g3, g4⟩ := root_facts (L := L.take n) (by omega)
  obtain ⟨m, hm⟩ : ∃ m, rootN (L.take n) = m := ⟨_, rfl⟩
  rw [hm] at g1
  rw [hm, hl] at g2 g3 g4
  rw [hm]
  by_cases hlt : m < n
  · exfalso
    have d1 := Nat.dvd_of_mod_eq_zero g3
    have d2 := Nat.dvd_of_mod_eq_zero h3
    have hp : powB L m = true := by
      unfold powB
      rw [Bool.and_eq_true, decide_eq_true_eq, beq_iff_eq]
      refine ⟨Nat.mod_eq_zero_of_dvd (Nat.dvd_trans d1 d2), ?_⟩
      rw [List.take_take, Nat.min_eq_left (by omega)] at g4
      rw [g4, repeat_repeat] at h4
      have e : n / m * (L.length / n) = L.length / m := by
        obtain ⟨p, rfl⟩ := d1
        obtain ⟨q, hq⟩ := d2
        rw [hq, Nat.mul_div_cancel_left _ (by omega), Nat.mul_div_cancel_left _ (by omega), Nat.mul_assoc, Nat.mul_div_cancel_left _ (by omega)]
      rwa [e] at h4
    have := leastN_low (P := powB L) (G := L.length) g1 (by omega) hp
    have e : leastN (powB L) L.length = n := hn
    omega
  · omega
end Go.Proofs.YtgpgdjdababidaaGreatDoor

/- Every rotation of a spread of two letters is balanced; the spread of both letters exchanged is it read backwards: plain mathematics. -/
namespace Go.Proofs.YtgpgdjdababidaaGreatDoor
open Go.RowKit

theorem leastF_all {P : Nat → Bool} {G : Nat} : ∀ k n, (∀ i, n ≤ i → i < n + k → P i = false) → leastF P G k n = G
  | 0, _, _ => rfl
  | k + 1, n, h => by
    rw [leastF, if_neg (by rw [h n (by omega) (by omega)]; decide)]
    exact leastF_all k (n + 1) fun i h1 h2 => h i (by omega) (by omega)
theorem mmF_within {C : ByteArray} {k q : Nat} {c : UInt8} {N : Nat} (hq : q ≤ k) (h : ∀ i, i < N → q ≤ cntW C k c i ∧ cntW C k c i ≤ q + 1) : ∀ i, i ≤ N → q ≤ (mmF C k c i).1 ∧ (mmF C k c i).2 ≤ q + 1
  | 0, _ => by
    rw [mmF]
    exact ⟨hq, by show 0 ≤ q + 1; omega⟩
  | i + 1, hi => by
    have ih := mmF_within hq h i (by omega)
    have hh := h i (by omega)
    rw [mmF]
    show q ≤ min _ _ ∧ max _ _ ≤ q + 1
    omega
theorem balB_within {s : ByteArray} (h : ∀ k, 1 ≤ k → k < s.size → ∀ c, c = 78 ∨ c = 66 ∨ c = 84 → ∃ q, q ≤ k ∧ ∀ i, i < s.size → q ≤ cntW (circB s) k c i ∧ cntW (circB s) k c i ≤ q + 1) : balB s = true := by
  have hu : ∀ k, 1 ≤ k → k < s.size → ∀ c, c = 78 ∨ c = 66 ∨ c = 84 → unevL (circB s) s.size k c = false := by
    intro k h1 h2 c hc
    obtain ⟨q, hq, hh⟩ := h k h1 h2 c hc
    have := mmF_within hq hh s.size (Nat.le_refl _)
    unfold unevL
    rw [decide_eq_false]
    omega
  unfold balB leastN
  rw [leastF_all]
  · exact decide_eq_true rfl
  · intro i h1 h2
    have h3 : i < s.size := by omega
    unfold unevB
    rw [hu i h1 h3 78 (by simp), hu i h1 h3 66 (by simp), hu i h1 h3 84 (by simp)]
    rfl
theorem floor_gap {a S : Nat} (hS : 0 < S) (i k : Nat) : k * a / S ≤ (i + k) * a / S - i * a / S ∧ (i + k) * a / S - i * a / S ≤ k * a / S + 1 ∧ i * a / S ≤ (i + k) * a / S := by
  have e : (i + k) * a = i * a + k * a := Nat.add_mul _ _ _
  rw [e]
  generalize i * a = x
  generalize k * a = y
  have hx := Nat.div_add_mod x S
  have hy := Nat.div_add_mod y S
  have hxm := Nat.mod_lt x hS
  have hym := Nat.mod_lt y hS
  have h1 : x / S + y / S ≤ (x + y) / S := by
    rw [Nat.le_div_iff_mul_le hS, Nat.add_mul, Nat.mul_comm _ S, Nat.mul_comm _ S]
    omega
  have h2 : (x + y) / S < x / S + y / S + 2 := by
    rw [Nat.div_lt_iff_lt_mul hS, Nat.add_mul, Nat.add_mul, Nat.mul_comm _ S, Nat.mul_comm _ S]
    omega
  generalize (x + y) / S = r at h1 h2 ⊢
  generalize x / S = p at h1 h2 ⊢
  generalize y / S = q at h1 h2 ⊢
  omega
/-- The circle of a rotation is a part of the endless spread. -/
theorem circ_rot {a b : Nat} (h : 0 < a + b) {t : Nat} (ht : t ≤ a + b) :
    (circB ⟨(rotA (spreadL [66] a [78] b (a + b)) t).toArray⟩).data.toList = (spreadL [66] a [78] b (a + b + (a + b + t))).drop t := by
  have hz : (spreadL [66] a [78] b (a + b)).length = a + b := spreadL_len _
  have e1 : (spreadL [66] a [78] b (a + b)).take t = spreadL [66] a [78] b t := spreadL_take _ _ ht
  rw [spreadL_period h, spreadL_period h, ← e1]
  unfold circB rotA
  generalize spreadL [66] a [78] b (a + b) = W at hz ⊢
  show Lib.repeatL (W.drop t ++ W.take t) 2 = _
  rw [List.drop_append_of_le_length (by omega)]
  simp only [Lib.repeatL, List.append_nil, List.append_assoc]
  rw [← List.append_assoc (W.take t), List.take_append_drop]
theorem cnt_rot {a b : Nat} (h : 0 < a + b) {t i k : Nat} (ht : t ≤ a + b) (hik : i + k ≤ a + b + (a + b)) (c : UInt8) :
    cntW (circB ⟨(rotA (spreadL [66] a [78] b (a + b)) t).toArray⟩) k c i = (spreadL [66] a [78] b (t + i + k)).count c - (spreadL [66] a [78] b (t + i)).count c := by
  have e : ((circB ⟨(rotA (spreadL [66] a [78] b (a + b)) t).toArray⟩).extract i (i + k)).data.toList = (spreadL [66] a [78] b (t + i + k)).drop (t + i) := by
    have e0 : ((circB ⟨(rotA (spreadL [66] a [78] b (a + b)) t).toArray⟩).extract i (i + k)).data.toList = (((circB ⟨(rotA (spreadL [66] a [78] b (a + b)) t).toArray⟩).data.toList).drop i).take k := by
      simp [ByteArray.data_extract]
    rw [e0, circ_rot h ht, List.drop_drop, List.take_drop, spreadL_take _ _ (by omega), Nat.add_assoc]
  have e2 : (spreadL [66] a [78] b (t + i + k)).take (t + i) = spreadL [66] a [78] b (t + i) := spreadL_take _ _ (by omega)
  unfold cntW
  rw [e, ← e2]
  conv => rhs; rw [← List.take_append_drop (t + i) (spreadL [66] a [78] b (t + i + k))]
  rw [List.count_append, List.take_append_of_le_length (by rw [List.length_take, spreadL_len]; omega), List.take_take, Nat.min_self]
  omega
theorem count_bars {a b : Nat} (h : 0 < a + b) (k : Nat) : (spreadL [66] a [78] b k).count 66 = k * a / (a + b) := by
  rw [← spreadL_bars (b := 78) (by decide) h k]
  unfold barsN List.count
  exact List.countP_congr fun c _ => by simp
theorem count_sum : ∀ (l : List UInt8), (∀ c ∈ l, c = 66 ∨ c = 78) → l.count 66 + l.count 78 = l.length ∧ l.count 84 = 0
  | [], _ => by simp
  | c :: r, h => by
    have ih := count_sum r fun d hd => h d (List.mem_cons_of_mem _ hd)
    rcases h c (List.mem_cons_self ..) with rfl | rfl
    · rw [List.count_cons_self, List.count_cons_of_ne (by decide), List.count_cons_of_ne (by decide), List.length_cons]
      omega
    · rw [List.count_cons_self, List.count_cons_of_ne (by decide), List.count_cons_of_ne (by decide), List.length_cons]
      omega
theorem rot_len {a b t : Nat} (ht : t ≤ a + b) : (⟨(rotA (spreadL [66] a [78] b (a + b)) t).toArray⟩ : ByteArray).size = a + b := by
  show (rotA (spreadL [66] a [78] b (a + b)) t).toArray.size = _
  rw [List.size_toArray, rotA, List.length_append, List.length_drop, List.length_take, spreadL_len]
  omega
theorem bal_rot {a b : Nat} (h : 0 < a + b) {t : Nat} (ht : t ≤ a + b) : balB ⟨(rotA (spreadL [66] a [78] b (a + b)) t).toArray⟩ = true := by
  refine balB_within fun k h1 h2 c hc => ?_
  rw [rot_len ht] at h2
  rw [rot_len ht]
  have hcount : ∀ j, (spreadL [66] a [78] b j).count 66 + (spreadL [66] a [78] b j).count 78 = j ∧ (spreadL [66] a [78] b j).count 84 = 0 := fun j => by
    have := count_sum _ (spreadL_mem (a := 66) (b := 78) (m := a) (n := b) j)
    rw [spreadL_len] at this
    exact this
  have hkS : k * a / (a + b) ≤ k := by
    have : k * a ≤ k * (a + b) := Nat.mul_le_mul_left _ (by omega)
    exact Nat.div_le_of_le_mul (by rw [Nat.mul_comm (a + b)]; exact this)
  obtain ⟨Q, hQ⟩ : ∃ Q, k * a / (a + b) = Q := ⟨_, rfl⟩
  rw [hQ] at hkS
  rcases hc with rfl | rfl | rfl
  · by_cases hk0 : Q = k
    · refine ⟨0, by omega, fun i hi => ?_⟩
      rw [cnt_rot h ht (by omega)]
      have g := floor_gap (a := a) h (t + i) k
      have c1 := hcount (t + i + k)
      have c2 := hcount (t + i)
      have b1 := count_bars h (t + i + k)
      have b2 := count_bars h (t + i)
      rw [hQ] at g
      generalize (t + i + k) * a / (a + b) = X at g b1
      generalize (t + i) * a / (a + b) = Y at g b2
      omega
    · refine ⟨k - Q - 1, by omega, fun i hi => ?_⟩
      rw [cnt_rot h ht (by omega)]
      have g := floor_gap (a := a) h (t + i) k
      have c1 := hcount (t + i + k)
      have c2 := hcount (t + i)
      have b1 := count_bars h (t + i + k)
      have b2 := count_bars h (t + i)
      rw [hQ] at g
      generalize (t + i + k) * a / (a + b) = X at g b1
      generalize (t + i) * a / (a + b) = Y at g b2
      omega
  · refine ⟨Q, hkS, fun i hi => ?_⟩
    rw [cnt_rot h ht (by omega)]
    have g := floor_gap (a := a) h (t + i) k
    have b1 := count_bars h (t + i + k)
    have b2 := count_bars h (t + i)
    rw [hQ] at g
    generalize (t + i + k) * a / (a + b) = X at g b1
    generalize (t + i) * a / (a + b) = Y at g b2
    omega
  · refine ⟨0, by omega, fun i hi => ?_⟩
    rw [cnt_rot h ht (by omega)]
    have c1 := hcount (t + i + k)
    have c2 := hcount (t + i)
    omega
theorem bal_self {a b : Nat} (h : 0 < a + b) : balB ⟨(spreadL [66] a [78] b (a + b)).toArray⟩ = true := by
  have := bal_rot h (t := 0) (by omega)
  rwa [rotA, List.drop_zero, List.take_zero, List.append_nil] at this
/-- A letter of a spread. -/
theorem spreadL_at {a b : UInt8} {m n : Nat} {K i : Nat} (hi : i < K) : (spreadL [a] m [b] n K)[i]? = some (if i * m / (m + n) < (i + 1) * m / (m + n) then a else b) := by
  have e : (spreadL [a] m [b] n K)[i]? = (spreadL [a] m [b] n (i + 1))[i]? := by
    rw [← spreadL_take K (i + 1) (by omega), List.getElem?_take_of_lt (by omega)]
  rw [e, spreadL, List.getElem?_append_right (by rw [spreadL_len]; exact Nat.le_refl _), spreadL_len, Nat.sub_self]
  split <;> rfl
theorem floor_other {a b i : Nat} (h : 0 < a + b) (hi : i ≤ a + b) : (a + b - i) * b / (a + b) + i = b + i * a / (a + b) := by
  have e : (a + b - i) * b + (a + b) * i = i * a + (a + b) * b := by
    obtain ⟨j, hj⟩ : ∃ j, a + b = i + j := ⟨a + b - i, by omega⟩
    have e1 : a + b - i = j := by omega
    rw [e1]
    have hj' : (j : Int) = a + b - i := by omega
    have : ((j * b + (a + b) * i : Nat) : Int) = ((i * a + (a + b) * b : Nat) : Int) := by
      push_cast
      rw [hj']
      grind
    exact_mod_cast this
  have e2 := congrArg (· / (a + b)) e
  simp only [Nat.add_mul_div_left _ _ h] at e2
  omega
theorem spread_back {a b i : Nat} (h : 0 < a + b) (hi : i < a + b) : (spreadL [78] b [66] a (b + a))[a + b - 1 - i]? = (spreadL [66] a [78] b (a + b))[i]? := by
  rw [spreadL_at (by omega), spreadL_at hi]
  have e1 := floor_other h (i := i) (by omega)
  have e2 := floor_other h (i := i + 1) (by omega)
  have e3 : a + b - 1 - i = a + b - (i + 1) := by omega
  have e4 : a + b - 1 - i + 1 = a + b - i := by omega
  have e5 : b + a = a + b := Nat.add_comm _ _
  have hs := floor_step (m := a) (S := a + b) i (by omega) h
  rw [e4, e3, e5]
  split <;> split <;> first | rfl | (exfalso; omega)
end Go.Proofs.YtgpgdjdababidaaGreatDoor

/- The walk of TaperEven. -/
namespace Go.Proofs.YtgpgdjdababidaaGreatDoor
open Go.RowKit Go.Shelf Ck

theorem evWordE {s : ByteArray} (h : Word s) : wordE s.data.toList = 0 := by
  have hz := Lib.size_eq s
  have h1 := h.2.1
  have h2 := h.2.2
  have h0 : ¬ s.data.toList = [] := fun e => by rw [e, List.length_nil] at hz; omega
  rw [wordE, if_neg h0, if_neg (show ¬ 64 < s.data.toList.length by omega), if_pos]
  rw [List.all_eq_true]
  exact fun c hc => (okC_iff c).2 (h.1 c hc)
/-- What TaperEven asks of a spread and of the one with both letters exchanged. -/
structure EvF (a b : Nat) (W X : ByteArray) : Prop where
  sizeW : W.size = a + b
  sizeX : X.size = a + b
  spW : sprS ⟨#[66]⟩ a ⟨#[78]⟩ b = W
  spX : sprS ⟨#[78]⟩ b ⟨#[66]⟩ a = X
  seW : sprE ⟨#[66]⟩ a ⟨#[78]⟩ b = 0
  seX : sprE ⟨#[78]⟩ b ⟨#[66]⟩ a = 0
  word : Word W
  bal : balB W = true
  at_ : ∀ k (h : k < W.size), W[k].toNat = 66 ∧ (k + 1) * a / (a + b) = k * a / (a + b) + 1 ∨ W[k].toNat = 78 ∧ (k + 1) * a / (a + b) = k * a / (a + b)
  back : ∀ k (h : k < W.size) (h' : a + b - 1 - k < X.size), X[a + b - 1 - k].toNat = W[k].toNat
  rot : ∀ t : Nat, t ≤ 255 → rotE W t = 0 ∧ Word (rotS W t) ∧ balB (rotS W t) = true
theorem okC_spread {a b : UInt8} (ha : okC a = true) (hb : okC b = true) {m n K : Nat} : (spreadL [a] m [b] n K).all okC = true := by
  rw [List.all_eq_true]
  intro c hc
  rcases spreadL_mem K c hc with rfl | rfl <;> assumption
theorem spr_lett {a b : UInt8} (ha : okC a = true) (hb : okC b = true) (hab : a ≠ b) {m n : Nat} (hm : m ≤ 12) (hn : n ≤ 12) (h : 0 < m + n) :
    sprE ⟨#[a]⟩ m ⟨#[b]⟩ n = 0 ∧ sprS ⟨#[a]⟩ m ⟨#[b]⟩ n = ⟨(spreadL [a] m [b] n (m + n)).toArray⟩ := by
  have l1 : ∀ c, okC c = true → lettE ⟨#[c]⟩ = 0 := by
    intro c hc
    rw [lettE, if_pos (by rfl), letE, if_pos]
    simp [hc]
  have r1 : ∀ k : Nat, k ≤ 12 → rngE (k : Int) 0 64 = 0 := by
    intro k hk
    rw [rngE, if_neg]
    omega
  have h0 : spr0 ⟨#[a]⟩ m ⟨#[b]⟩ n = 0 := by
    rw [spr0, l1 a ha, l1 b hb, r1 m hm, r1 n hn]
    rfl
  have hne : ¬ (⟨#[a]⟩ : ByteArray).toList = (⟨#[b]⟩ : ByteArray).toList := by
    rw [Lib.toList_data, Lib.toList_data]
    simpa using hab
  have hs : spwE ⟨#[a]⟩ m ⟨#[b]⟩ n = 0 := by
    rw [spwE, if_neg (by omega), if_neg]
    show ¬ 64 < m * 1 + n * 1
    omega
  rw [sprE, sprS, if_pos h0, if_pos h0, if_neg hne, if_neg hne, Int.toNat_natCast, Int.toNat_natCast, spwS, if_pos hs]
  exact ⟨hs, rfl⟩
theorem word_list {l : List UInt8} (h : l.all okC = true) (h1 : 1 ≤ l.length) (h2 : l.length ≤ 64) : Word ⟨l.toArray⟩ := word_of l h h1 h2
theorem ev_facts {a b : Nat} (ha : a ≤ 12) (hb : b ≤ 12) (h : 0 < a + b) : EvF a b ⟨(spreadL [66] a [78] b (a + b)).toArray⟩ ⟨(spreadL [78] b [66] a (b + a)).toArray⟩ := by
  obtain ⟨e1, e2⟩ := spr_lett (a := 66) (b := 78) (by decide) (by decide) (by decide) ha hb h
  obtain ⟨e3, e4⟩ := spr_lett (a := 78) (b := 66) (by decide) (by decide) (by decide) hb ha (by omega)
  have zW : (⟨(spreadL [66] a [78] b (a + b)).toArray⟩ : ByteArray).size = a + b := by
    show (spreadL [66] a [78] b (a + b)).toArray.size = _
    rw [List.size_toArray, spreadL_len]
  have zX : (⟨(spreadL [78] b [66] a (b + a)).toArray⟩ : ByteArray).size = a + b := by
    show (spreadL [78] b [66] a (b + a)).toArray.size = _
    rw [List.size_toArray, spreadL_len]
    omega
  have hword : Word ⟨(spreadL [66] a [78] b (a + b)).toArray⟩ := word_list (okC_spread (by decide) (by decide)) (by rw [spreadL_len]; omega) (by rw [spreadL_len]; omega)
  have gW : ∀ k (hk : k < (⟨(spreadL [66] a [78] b (a + b)).toArray⟩ : ByteArray).size), some ((⟨(spreadL [66] a [78] b (a + b)).toArray⟩ : ByteArray)[k]) = (spreadL [66] a [78] b (a + b))[k]? := by
    intro k hk
    have hk' : k < (spreadL [66] a [78] b (a + b)).length := by rw [spreadL_len]; omega
    rw [List.getElem?_eq_getElem hk']
    rfl
  have gX : ∀ k (hk : k < (⟨(spreadL [78] b [66] a (b + a)).toArray⟩ : ByteArray).size), some ((⟨(spreadL [78] b [66] a (b + a)).toArray⟩ : ByteArray)[k]) = (spreadL [78] b [66] a (b + a))[k]? := by
    intro k hk
    have hk' : k < (spreadL [78] b [66] a (b + a)).length := by rw [spreadL_len]; omega
    rw [List.getElem?_eq_getElem hk']
    rfl
  refine ⟨zW, zX, e2, e4, e1, e3, hword, bal_self h, ?_, ?_, ?_⟩
  · intro k hk
    have g := gW k hk
    rw [spreadL_at (by omega)] at g
    have hs := floor_step (m := a) (S := a + b) k (by omega) h
    by_cases hc : k * a / (a + b) < (k + 1) * a / (a + b)
    · rw [if_pos hc] at g
      left
      refine ⟨by rw [Option.some.inj g]; rfl, by omega⟩
    · rw [if_neg hc] at g
      right
      refine ⟨by rw [Option.some.inj g]; rfl, by omega⟩
  · intro k hk hk'
    have g1 := gW k hk
    have g2 := gX _ hk'
    rw [spread_back h (by omega), ← g1] at g2
    rw [Option.some.inj g2]
  · intro t ht
    have h0 : rotE ⟨(spreadL [66] a [78] b (a + b)).toArray⟩ t = 0 := by
      rw [rotE, evWordE hword, rngE, if_neg (by omega)]
      rfl
    have hm : t % (a + b) < a + b := Nat.mod_lt _ h
    rw [rotS, if_pos h0, Int.toNat_natCast, zW]
    refine ⟨h0, word_list ?_ ?_ ?_, bal_rot h (by omega)⟩
    · show (rotA (spreadL [66] a [78] b (a + b)) (t % (a + b))).all okC = true
      have := okC_spread (a := 66) (b := 78) (by decide) (by decide) (m := a) (n := b) (K := a + b)
      rw [rotA, List.all_append, Bool.and_comm, ← List.all_append, List.take_append_drop]
      exact this
    · show 1 ≤ (rotA (spreadL [66] a [78] b (a + b)) (t % (a + b))).length
      rw [rotA, List.length_append, List.length_drop, List.length_take, spreadL_len]
      omega
    · show (rotA (spreadL [66] a [78] b (a + b)) (t % (a + b))).length ≤ 64
      rw [rotA, List.length_append, List.length_drop, List.length_take, spreadL_len]
      omega
theorem evLit (w : World) : Calls Tryz.prog 36 #[.string ⟨#[66, 66, 66, 78, 78]⟩] w fun e w' => e = .returned (.tuple #[.bool false, .int .i64 0]) ∧ Below w.heap.size w w' := by
  have h := tpBalanced ⟨#[66, 66, 66, 78, 78]⟩ w (word_of [66, 66, 66, 78, 78] (by decide) (by decide) (by decide))
  rwa [show balB ⟨#[66, 66, 66, 78, 78]⟩ = false by decide +kernel] at h
theorem evBal (s : ByteArray) (w : World) (hs : Word s) (hb : balB s = true) :
    Calls Tryz.prog 36 #[.string s] w fun e w' => e = .returned (.tuple #[.bool true, .int .i64 0]) ∧ Below w.heap.size w w' := by
  have h := tpBalanced s w hs
  rwa [hb] at h
theorem evSpread (v u S : ByteArray) (m n : Nat) (w : World) (hv : v.size ≤ 100) (hu : u.size ≤ 100) (hS : sprS v m u n = S) (hE : sprE v m u n = 0) :
    Calls Tryz.prog 42 #[.string v, .int .i64 m, .string u, .int .i64 n] w fun e w' => e = .returned (.tuple #[.string S, .int .i64 0]) ∧ Below w.heap.size w w' := by
  have h := tpSpreadAll v u m n w hv hu
  rwa [hS, hE] at h
theorem evRotate (s R : ByteArray) (t : Nat) (w : World) (hR : rotS s t = R) (hE : rotE s t = 0) :
    Calls Tryz.prog 33 #[.string s, .int .i64 t] w fun e w' => e = .returned (.tuple #[.string R, .int .i64 0]) ∧ Below w.heap.size w w' := by
  have h := tpRotate s t w
  rwa [hR, hE] at h
theorem ex20 (a b : Value) (w : World) : (Instr.extract (.tuple #[a, b]) 0).run Tryz.prog w = .ok a w := by kernel_rfl
theorem ex21 (a b : Value) (w : World) : (Instr.extract (.tuple #[a, b]) 1).run Tryz.prog w = .ok b w := by kernel_rfl
set_option maxHeartbeats 4000000 in
set_option maxRecDepth 100000 in
theorem lawEvenN (M N t a b : Nat) (W X : ByteArray) (w : World) (F : EvF a b W X) (hM : M ≤ 255) (hN : N ≤ 255) (ht : t ≤ 255) (ha : M % 13 = a) (hb : N % 13 = b) (h0 : 0 < a + b) :
    Calls Tryz.prog 12 #[.int .u8 M, .int .u8 N, .int .u8 t] w fun e w' => e = .returned (.bool true) ∧ Below w.heap.size w w' := by
  have e0 := ex20
  have e1 := ex21
  have m1 : (M : Int) % 13 = (a : Int) := by omega
  have m2 : (N : Int) % 13 = (b : Int) := by omega
  have a12 : a ≤ 12 := by omega
  have b12 : b ≤ 12 := by omega
  have HF := Lib.hid F
  have hab : (((a : Int) + (b : Int)) == 0) = false := by rw [beq_eq_false_iff_ne]; omega
  have zW := F.sizeW
  have zX := F.sizeX
  clear ha hb F
  go_enter Tryz.func12, Tryz.ntmps12
  go_wp2_with fail
  refine (awake2 _).mono ?_
  rintro e w1 ⟨rfl, hb1⟩
  go_wp2_with fail
  refine (evSpread ⟨#[66]⟩ ⟨#[78]⟩ W a b _ (by decide) (by decide) HF.out.spW HF.out.seW).mono ?_
  rintro e w2 ⟨rfl, hb2⟩
  have B2 := hb1.trans (hb2.mono hb1.size)
  clear hb1 hb2
  go_wp2_with fail
  refine (evSpread ⟨#[78]⟩ ⟨#[66]⟩ X b a _ (by decide) (by decide) HF.out.spX HF.out.seX).mono ?_
  rintro e w3 ⟨rfl, hb3⟩
  have B3 := B2.trans (hb3.mono B2.size)
  clear B2 hb3
  go_wp2_with fail
  refine (evBal W _ HF.out.word HF.out.bal).mono ?_
  rintro e w4 ⟨rfl, hb4⟩
  have B4 := B3.trans (hb4.mono B3.size)
  clear B3 hb4
  have q1 : ((W.size : Int) != (a : Int) + (b : Int)) = false := by rw [bne_eq_false_iff_eq, zW]; omega
  have q2 : ((X.size : Int) != (a : Int) + (b : Int)) = false := by rw [bne_eq_false_iff_eq, zX]; omega
  have s1 : (W.size : Int) ≤ 24 := by omega
  have s2 : (X.size : Int) ≤ 24 := by omega
  go_wp2_with fail
  go_loopg [15, 16, 87] (a + b) (fun g bv _ i wi => ∃ k : Nat, g = a + b - k ∧ k ≤ a + b ∧ i = .int .i64 k ∧ bv = .int .i64 (k * a / (a + b) : Nat) ∧ Below w.heap.size w wi)
  case atStart => exact ⟨0, rfl, Nat.zero_le _, rfl, by simp, B4⟩
  case round =>
    obtain ⟨k, hg, hk, rfl, rfl, hbi⟩ := hrel
    clear B4
    by_cases hlt : k < a + b
    · have hkW : k < W.size := by omega
      have hjX : a + b - 1 - k < X.size := by omega
      have hat := HF.out.at_ k hkW
      obtain ⟨j, hj, hjX, hback⟩ : ∃ j, a + b - 1 - k = j ∧ ∃ h : j < X.size, X[j].toNat = W[k].toNat := ⟨_, rfl, hjX, HF.out.back k hkW hjX⟩
      have hji : (a : Int) + (b : Int) - 1 - (k : Int) = (j : Int) := by omega
      have k0 : (0 : Int) ≤ (k : Int) := by omega
      have k1 : (k : Int) < (W.size : Int) := by omega
      have j0 : (0 : Int) ≤ (j : Int) := by omega
      have j1 : (j : Int) < (X.size : Int) := by omega
      obtain ⟨c, hc⟩ : ∃ c, k * a / (a + b) = c := ⟨_, rfl⟩
      obtain ⟨c', hc'⟩ : ∃ c', (k + 1) * a / (a + b) = c' := ⟨_, rfl⟩
      rw [hc, hc'] at hat
      have HC := Lib.hid hc'
      have hp : ((k : Int) + 1) * (a : Int) = (((k + 1) * a : Nat) : Int) := by push_cast; rfl
      have hp2 : (k + 1) * a ≤ 24 * 12 := Nat.mul_le_mul (by omega) (by omega)
      have hcle : c ≤ 24 := by
        rw [← hc]
        exact Nat.div_le_of_le_mul (by have : k * a ≤ 24 * (a + b) := Nat.mul_le_mul (by omega) (by omega); rw [Nat.mul_comm (a + b)]; exact this)
      have hd : ((((k + 1) * a : Nat) : Int)).tdiv ((a : Int) + (b : Int)) = (c' : Int) := by
        rw [← hc']
        exact nat_tdiv _ (a + b)
      obtain ⟨p, hpp⟩ : ∃ p, (k + 1) * a = p := ⟨_, rfl⟩
      rw [hpp] at hp hp2 hd
      rw [hc]
      clear hc hc' hpp hj
      rcases hat with ⟨hw, hcc⟩ | ⟨hw, hcc⟩
      · rw [hw] at hback
        subst hcc
        go_wp2_with fail
        go_quiet (fail)
        go_wp2
        go_roundg (a + b - (k + 1))
        case rel => exact ⟨k + 1, by omega, by omega, by go_num, by rw [HC.out]; go_num, below_drewN hbi _⟩
        case measure => omega
      · rw [hw] at hback
        subst hcc
        go_wp2_with fail
        go_quiet (fail)
        go_wp2
        go_roundg (a + b - (k + 1))
        case rel => exact ⟨k + 1, by omega, by omega, by go_num, by rw [HC.out], below_drewN hbi _⟩
        case measure => omega
    · obtain rfl : k = a + b := by omega
      obtain ⟨r1, r2, r3⟩ := HF.out.rot t ht
      obtain ⟨R, hR⟩ : ∃ R, rotS W t = R := ⟨_, rfl⟩
      rw [hR] at r2 r3
      have H1 := Lib.hid r1
      have H2 := Lib.hid r2
      have H3 := Lib.hid r3
      have HR := Lib.hid hR
      clear r1 r2 r3 hR
      go_wp2_with fail
      refine (evRotate W R t _ HR.out H1.out).mono ?_
      rintro e w5 ⟨rfl, hb5⟩
      have B5 := hbi.trans (hb5.mono hbi.size)
      clear hbi hb5
      go_wp2_with fail
      refine (evBal R _ H2.out H3.out).mono ?_
      rintro e w6 ⟨rfl, hb6⟩
      have B6 := B5.trans (hb6.mono B5.size)
      clear B5 hb6
      go_wp2_with fail
      refine (evLit _).mono ?_
      rintro e w7 ⟨rfl, hb7⟩
      have B7 := B6.trans (hb7.mono B6.size)
      clear B6 hb7
      go_wp2
      go_ret
      exact ⟨rfl, B7⟩
set_option maxHeartbeats 4000000 in
set_option maxRecDepth 100000 in
theorem lawEvenNo (M N t : Nat) (w : World) (ha : M % 13 = 0) (hb : N % 13 = 0) (hM : M ≤ 255) (hN : N ≤ 255) :
    Calls Tryz.prog 12 #[.int .u8 M, .int .u8 N, .int .u8 t] w fun e w' => e = .returned (.bool true) ∧ Below w.heap.size w w' := by
  have m1 : (M : Int) % 13 = 0 := by omega
  have m2 : (N : Int) % 13 = 0 := by omega
  clear ha hb
  go_enter Tryz.func12, Tryz.ntmps12
  go_wp2_with fail
  refine (awake2 _).mono ?_
  rintro e w1 ⟨rfl, hb1⟩
  go_wp2_with fail
  refine (awake2 _).mono ?_
  rintro e w2 ⟨rfl, hb2⟩
  have B2 := hb1.trans (hb2.mono hb1.size)
  clear hb1 hb2
  go_wp2
  go_ret
  exact ⟨rfl, B2⟩
theorem lawEven (m n t : Int) (w : World) (m1 : 0 ≤ m) (m2 : m < 256) (n1 : 0 ≤ n) (n2 : n < 256) (t1 : 0 ≤ t) (t2 : t < 256) :
    Calls Tryz.prog 12 #[.int .u8 m, .int .u8 n, .int .u8 t] w fun e w' => e = .returned (.bool true) ∧ Below w.heap.size w w' := by
  obtain ⟨M, rfl⟩ : ∃ M : Nat, m = (M : Int) := ⟨m.toNat, by omega⟩
  obtain ⟨N, rfl⟩ : ∃ N : Nat, n = (N : Int) := ⟨n.toNat, by omega⟩
  obtain ⟨T, rfl⟩ : ∃ T : Nat, t = (T : Int) := ⟨t.toNat, by omega⟩
  by_cases h : 0 < M % 13 + N % 13
  · exact lawEvenN M N T _ _ _ _ w (ev_facts (by omega) (by omega) h) (by omega) (by omega) (by omega) rfl rfl h
  · exact lawEvenNo M N T w (by omega) (by omega) (by omega) (by omega)
end Go.Proofs.YtgpgdjdababidaaGreatDoor

/- The walk of TaperRoots. -/
namespace Go.Proofs.YtgpgdjdababidaaGreatDoor
open Go.RowKit Go.Shelf Ck

/-- What TaperRoots asks of a word, its root and a rotation of it. -/
structure RoF (s R X M : ByteArray) (k a : Nat) (U V U' V' : Int) : Prop where
  word : Word s
  root : s.extract 0 (rootN s.data.toList) = R
  expo : s.size / rootN s.data.toList = k
  wordR : Word R
  pos : 1 ≤ k
  prod : k * R.size = s.size
  powE_ : powE R k = 0
  powS_ : powS R k = s
  rootR : R.extract 0 (rootN R.data.toList) = R
  expoR : R.size / rootN R.data.toList = 1
  alt : a < s.size
  rotE1 : rotE s a = 0
  rotS1 : rotS s a = X
  wordX : Word X
  rotE2 : rotE X (s.size - a : Nat) = 0
  rotS2 : rotS X (s.size - a : Nat) = s
  least : (⟨(lstW s.data.toList).toArray⟩ : ByteArray) = M
  leastX : (⟨(lstW X.data.toList).toArray⟩ : ByteArray) = M
  gtr : (!(Op.bytesLess M.toList s.toList || M.toList == s.toList)) = false
  gtrX : (!(Op.bytesLess M.toList X.toList || M.toList == X.toList)) = false
  sizeM : M.size = s.size
  vec1 : (vecL s.data.toList).1 = U
  vec2 : (vecL s.data.toList).2 = V
  vecX1 : (vecL X.data.toList).1 = U
  vecX2 : (vecL X.data.toList).2 = V
  vecR1 : (vecL R.data.toList).1 = U'
  vecR2 : (vecL R.data.toList).2 = V'
  mul1 : (k : Int) * U' = U
  mul2 : (k : Int) * V' = V
theorem word_mem {s : ByteArray} (h : Word s) {l : List UInt8} (hl : ∀ c ∈ l, c ∈ s.data.toList) (h1 : 1 ≤ l.length) (h2 : l.length ≤ 64) : Word ⟨l.toArray⟩ := by
  refine word_list ?_ h1 h2
  rw [List.all_eq_true]
  exact fun c hc => (okC_iff c).2 (h.1 c (hl c hc))
theorem toArr (s : ByteArray) : (⟨s.data.toList.toArray⟩ : ByteArray) = s := by rw [Array.toArray_toList]
theorem ro_facts {s : ByteArray} (hs : Word s) (t : Nat) :
    ∃ R X M k U V U' V', RoF s R X M k (t % s.size) U V U' V' := by
  have hz := Lib.size_eq s
  have h1 := hs.2.1
  have h2 := hs.2.2
  obtain ⟨r1, r2, r3, r4⟩ := root_facts (L := s.data.toList) (by omega)
  have ha : t % s.size < s.size := Nat.mod_lt _ (by omega)
  obtain ⟨a, haa⟩ : ∃ a, t % s.size = a := ⟨_, rfl⟩
  rw [haa] at ha ⊢
  have hrr := root_root (L := s.data.toList) (by omega)
  obtain ⟨r, hr⟩ : ∃ r, rootN s.data.toList = r := ⟨_, rfl⟩
  rw [hr] at r1 r2 r3 r4 hrr
  have hR : s.extract 0 r = ⟨(s.data.toList.take r).toArray⟩ := by
    rw [← (ext_data s r (by omega)).2.1]
  have hRl : (s.data.toList.take r).length = r := by rw [List.length_take]; omega
  have hRz : (⟨(s.data.toList.take r).toArray⟩ : ByteArray).size = r := hRl
  have hWR : Word ⟨(s.data.toList.take r).toArray⟩ := word_mem hs (fun c hc => List.mem_of_mem_take hc) (by omega) (by omega)
  have hk : s.size / r * r = s.size := Nat.div_mul_cancel (Nat.dvd_of_mod_eq_zero (by rw [hz]; exact r3))
  have hk1 : 1 ≤ s.size / r := Nat.div_pos (by omega) (by omega)
  have hk2 : s.size / r ≤ s.size := Nat.div_le_self _ _
  rw [← hz] at r4
  obtain ⟨k, hkk⟩ : ∃ k, s.size / r = k := ⟨_, rfl⟩
  rw [hkk] at hk hk1 hk2 r4
  have hp0 : pow0 ⟨(s.data.toList.take r).toArray⟩ k = 0 := by
    rw [pow0, evWordE hWR, rngE, if_neg (by omega)]
    rfl
  have hpE : powE ⟨(s.data.toList.take r).toArray⟩ k = 0 := by
    rw [powE, if_pos hp0, lenE, if_neg, ]
    rw [hRz]
    have : (r : Int) * (k : Int) = ((k * r : Nat) : Int) := by push_cast; exact Int.mul_comm _ _
    rw [this, hk]
    omega
  have hpS : powS ⟨(s.data.toList.take r).toArray⟩ k = s := by
    rw [powS, if_pos hpE, Int.toNat_natCast]
    show (⟨(Lib.repeatL (s.data.toList.take r) k).toArray⟩ : ByteArray) = s
    rw [← r4]
  have hq : ∀ b : Nat, b ≤ 64 → ∀ y : ByteArray, Word y → rotE y b = 0 := by
    intro b hb y hy
    rw [rotE, evWordE hy, rngE, if_neg (by omega)]
    rfl
  have hX : rotS s a = ⟨(rotA s.data.toList a).toArray⟩ := by
    rw [rotS, if_pos (hq a (by omega) s hs), Int.toNat_natCast, Nat.mod_eq_of_lt ha]
  have hXl : (rotA s.data.toList a).length = s.size := by rw [rotA_len (by omega), hz]
  have hWX : Word ⟨(rotA s.data.toList a).toArray⟩ := word_mem hs (fun c hc => by
    rw [rotA, List.mem_append] at hc
    rcases hc with hc | hc
    · exact List.mem_of_mem_drop hc
    · exact List.mem_of_mem_take hc) (by omega) (by omega)
  have hM : lstW (rotA s.data.toList a) = lstW s.data.toList := lst_rot (by omega)
  have hMl : (lstW s.data.toList).length = s.size := by rw [lst_len (by omega), hz]
  have hv := vec_rot s.data.toList a
  have hvr := vec_repeat (s.data.toList.take r) k
  rw [← r4] at hvr
  refine ⟨_, _, _, _, _, _, _, _, ⟨hs, by rw [hr]; exact hR, by rw [hr]; exact hkk, hWR, hk1, by rw [hRz]; exact hk, hpE, hpS, ?_, ?_, ha, hq a (by omega) s hs, hX, hWX, hq _ (by omega) _ hWX, ?_, rfl, ?_, ?_, ?_, hMl, rfl, rfl, congrArg Prod.fst hv, congrArg Prod.snd hv, rfl, rfl, (congrArg Prod.fst hvr).symm, (congrArg Prod.snd hvr).symm⟩⟩
  · show (⟨(s.data.toList.take r).toArray⟩ : ByteArray).extract 0 (rootN (s.data.toList.take r)) = _
    rw [hrr]
    have := (ext_data ⟨(s.data.toList.take r).toArray⟩ r (by omega)).2.1
    rw [← toArr (ByteArray.extract _ 0 r), this]
    show (⟨(List.take r (s.data.toList.take r)).toArray⟩ : ByteArray) = _
    rw [List.take_take, Nat.min_self]
  · show (⟨(s.data.toList.take r).toArray⟩ : ByteArray).size / rootN (s.data.toList.take r) = 1
    rw [hrr, hRz, Nat.div_self (by omega)]
  · rw [rotS, if_pos (hq _ (by omega) _ hWX), Int.toNat_natCast]
    show (⟨(rotA (rotA s.data.toList a) ((s.size - a) % (rotA s.data.toList a).length)).toArray⟩ : ByteArray) = s
    have := rot_back (L := s.data.toList) (a := a) (by omega)
    rw [hXl]
    rw [← hz] at this
    rw [this]
  · show (⟨(lstW (rotA s.data.toList a)).toArray⟩ : ByteArray) = _
    rw [hM]
  · rw [Lib.toList_data, Lib.toList_data]
    exact bLe_gtr (lst_self (by omega))
  · rw [Lib.toList_data, Lib.toList_data]
    have : bLe (lstW s.data.toList) (rotA s.data.toList a) := lstW_le (by omega)
    exact bLe_gtr this
theorem roRoot (s R : ByteArray) (k : Nat) (w : World) (hs : Word s) (h1 : s.extract 0 (rootN s.data.toList) = R) (h2 : s.size / rootN s.data.toList = k) :
    Calls Tryz.prog 34 #[.string s] w fun e w' => e = .returned (.tuple #[.string R, .int .i64 k, .int .i64 0]) ∧ Below w.heap.size w w' := by
  have h := tpRoot s w hs
  rwa [h1, h2] at h
theorem roPower (s P : ByteArray) (k : Nat) (w : World) (h1 : powS s k = P) (h2 : powE s k = 0) :
    Calls Tryz.prog 32 #[.string s, .int .i64 k] w fun e w' => e = .returned (.tuple #[.string P, .int .i64 0]) ∧ Below w.heap.size w w' := by
  have h := tpPower s k w
  rwa [h1, h2] at h
theorem roLeast (s M : ByteArray) (w : World) (hs : Word s) (h1 : (⟨(lstW s.data.toList).toArray⟩ : ByteArray) = M) :
    Calls Tryz.prog 35 #[.string s] w fun e w' => e = .returned (.tuple #[.string M, .int .i64 0]) ∧ Below w.heap.size w w' := by
  have h := tpLeast s w hs
  rwa [h1] at h
theorem roVector (s : ByteArray) (U V : Int) (w : World) (hs : Word s) (h1 : (vecL s.data.toList).1 = U) (h2 : (vecL s.data.toList).2 = V) :
    Calls Tryz.prog 23 #[.string s] w fun e w' => e = .returned (.tuple #[.agg #[.int .i64 U, .int .i64 V], .int .i64 0]) ∧ Below w.heap.size w w' := by
  have h := tpVectorOk s w hs
  rwa [h1, h2] at h
set_option maxHeartbeats 4000000 in
set_option maxRecDepth 100000 in
theorem lawRootsY (s R X M : ByteArray) (k t a : Nat) (U V U' V' : Int) (w : World) (F : RoF s R X M k a U V U' V') (hs : s.size ≤ 30) (ht : t ≤ 255) (ha : t % s.size = a) :
    Calls Tryz.prog 11 #[.string s, .int .u8 t] w fun e w' => e = .returned (.bool true) ∧ Below w.heap.size w w' := by
  have HF := Lib.hid F
  have g1 : ¬ (30 : Int) < (s.size : Int) := by omega
  have hs1 := F.word.2.1
  have hR1 := F.wordR.2.1
  have hR2 := F.wordR.2.2
  have hk1 := F.pos
  have hkp : (k : Int) * (R.size : Int) = (s.size : Int) := by have := F.prod; exact_mod_cast this
  have hk2 : k ≤ 30 := by
    have := F.prod
    have h2 : k * 1 ≤ k * R.size := Nat.mul_le_mul_left _ hR1
    omega
  have hE := Lib.hid (evWordE F.word)
  have hER := Lib.hid (evWordE F.wordR)
  have e20 := ex20
  have e21 := ex21
  clear F
  go_enter Tryz.func11, Tryz.ntmps11
  go_wp2_with fail
  refine (awake2 _).mono ?_
  rintro e w1 ⟨rfl, hb1⟩
  go_wp2_with fail
  refine (refCheckWord s _ (by omega)).mono ?_
  rintro e w2 ⟨rfl, rfl⟩
  rw [hE.out]
  go_wp2_with fail
  refine (roRoot s R k _ HF.out.word HF.out.root HF.out.expo).mono ?_
  rintro e w2 ⟨rfl, hb2⟩
  have B2 := hb1.trans (hb2.mono hb1.size)
  clear hb1 hb2
  go_wp2_with fail
  refine (refCheckWord R _ (by omega)).mono ?_
  rintro e w3 ⟨rfl, rfl⟩
  rw [hER.out]
  go_wp2_with fail
  refine (roPower R s k _ HF.out.powS_ HF.out.powE_).mono ?_
  rintro e w4 ⟨rfl, hb4⟩
  have B4 := B2.trans (hb4.mono B2.size)
  clear B2 hb4
  go_wp2_with fail
  refine (roRoot R R 1 _ HF.out.wordR HF.out.rootR HF.out.expoR).mono ?_
  rintro e w5 ⟨rfl, hb5⟩
  have B5 := B4.trans (hb5.mono B4.size)
  clear B4 hb5
  rw [show ((1 : Nat) : Int) = 1 from rfl]
  go_wp2_with fail
  have ha1 : (t : Int) % (s.size : Int) = (a : Int) := by rw [← ha]; exact (Int.natCast_emod _ _).symm
  have halt := HF.out.alt
  have hsub : (s.size : Int) - (a : Int) = ((s.size - a : Nat) : Int) := by omega
  have hz0 : ¬ (s.size : Int) = 0 := by omega
  have hzN : ¬ s.size = 0 := by omega
  go_quiet (fail)
  have B5' := below_drewN B5 nq
  generalize World.drewN w5 nq = w5' at B5' ⊢
  clear B5
  go_wp2_with fail
  refine (evRotate s X a _ HF.out.rotS1 HF.out.rotE1).mono ?_
  rintro e w6 ⟨rfl, hb6⟩
  have B6 := B5'.trans (hb6.mono B5'.size)
  clear B5' hb6
  go_wp2_with fail
  refine (evRotate X s (s.size - a) _ HF.out.rotS2 HF.out.rotE2).mono ?_
  rintro e w7 ⟨rfl, hb7⟩
  have B7 := B6.trans (hb7.mono B6.size)
  clear B6 hb7
  go_wp2_with fail
  refine (roLeast s M _ HF.out.word HF.out.least).mono ?_
  rintro e w8 ⟨rfl, hb8⟩
  have B8 := B7.trans (hb8.mono B7.size)
  clear B7 hb8
  go_wp2_with fail
  refine (roLeast X M _ HF.out.wordX HF.out.leastX).mono ?_
  rintro e w9 ⟨rfl, hb9⟩
  have B9 := B8.trans (hb9.mono B8.size)
  clear B8 hb9
  go_wp2_with fail
  refine (roVector s U V _ HF.out.word HF.out.vec1 HF.out.vec2).mono ?_
  rintro e w10 ⟨rfl, hb10⟩
  have B10 := B9.trans (hb10.mono B9.size)
  clear B9 hb10
  obtain ⟨x1, hx1, ka, hc1, -⟩ := boxH2 w10 (.int .i64 U) (.int .i64 V) 35
  have Bx := B10.trans (hc1.mono B10.size)
  have hx1' := hx1.symm
  clear hx1 hc1 B10
  go_wp2_with fail
  refine (roVector X U V _ HF.out.wordX HF.out.vecX1 HF.out.vecX2).mono ?_
  rintro e w11 ⟨rfl, hb11⟩
  have kb := (hb11.block _ (Array.getElem?_eq_some_iff.1 ka).1).trans ka
  have B11 := Bx.trans (hb11.mono Bx.size)
  clear ka hb11 Bx hx1'
  obtain ⟨x2, hx2, ma, hc2, -⟩ := boxH2 w11 (.int .i64 U) (.int .i64 V) 35
  have kc := (hc2.block _ (Array.getElem?_eq_some_iff.1 kb).1).trans kb
  have B12 := B11.trans (hc2.mono B11.size)
  have hx2' := hx2.symm
  clear hx2 kb hc2 B11
  obtain ⟨k0, k1, -, -⟩ := two_cell kc
  obtain ⟨m0, m1, -, -⟩ := two_cell ma
  have q1 := HF.out.gtr
  have q2 := HF.out.gtrX
  have q3 := HF.out.sizeM
  have q4 := eqPair U V U V true (by simp)
  go_wp2_with fail
  clear k0 k1 m0 m1 q1 q2 q3 hx2'
  clear ma
  refine (roVector R U' V' _ HF.out.wordR HF.out.vecR1 HF.out.vecR2).mono ?_
  rintro e w12 ⟨rfl, hb12⟩
  have kd := (hb12.block _ (Array.getElem?_eq_some_iff.1 kc).1).trans kc
  have B13 := B12.trans (hb12.mono B12.size)
  clear kc hb12 B12
  obtain ⟨x3, hx3, na, hc3, -⟩ := boxH2 w12 (.int .i64 U') (.int .i64 V') 35
  have ke := (hc3.block _ (Array.getElem?_eq_some_iff.1 kd).1).trans kd
  have B14 := B13.trans (hc3.mono B13.size)
  have hx3' := hx3.symm
  clear hx3 kd hc3 B13
  obtain ⟨k0, k1, -, -⟩ := two_cell ke
  obtain ⟨n0, n1, -, -⟩ := two_cell na
  have y1 := HF.out.mul1
  have y2 := HF.out.mul2
  have v1 := vecL_near R.data.toList
  rw [HF.out.vecR1, HF.out.vecR2] at v1
  have v2 := vecL_near s.data.toList
  rw [HF.out.vec1, HF.out.vec2, ← Lib.size_eq] at v2
  go_wp2
  go_ret
  exact ⟨rfl, B14⟩
set_option maxHeartbeats 4000000 in
set_option maxRecDepth 100000 in
theorem lawRootsBig (s : ByteArray) (t : Nat) (w : World) (hs : 30 < s.size) :
    Calls Tryz.prog 11 #[.string s, .int .u8 t] w fun e w' => e = .returned (.bool true) ∧ Below w.heap.size w w' := by
  have g1 : (30 : Int) < (s.size : Int) := by omega
  go_enter Tryz.func11, Tryz.ntmps11
  go_wp2_with fail
  refine (awake2 _).mono ?_
  rintro e w1 ⟨rfl, hb1⟩
  go_wp2_with fail
  refine (awake2 _).mono ?_
  rintro e w2 ⟨rfl, hb2⟩
  have B2 := hb1.trans (hb2.mono hb1.size)
  clear hb1 hb2
  go_wp2
  go_ret
  exact ⟨rfl, B2⟩
set_option maxHeartbeats 4000000 in
set_option maxRecDepth 100000 in
theorem lawRootsNo (s : ByteArray) (t : Nat) (E : Int) (w : World) (hs : s.size ≤ 30) (hE : wordE s.data.toList = E) (h0 : E ≠ 0) :
    Calls Tryz.prog 11 #[.string s, .int .u8 t] w fun e w' => e = .returned (.bool true) ∧ Below w.heap.size w w' := by
  have g1 : ¬ (30 : Int) < (s.size : Int) := by omega
  have HE := Lib.hid hE
  have hne : (E != 0) = true := by rw [bne_iff_ne]; exact h0
  clear hE h0
  go_enter Tryz.func11, Tryz.ntmps11
  go_wp2_with fail
  refine (awake2 _).mono ?_
  rintro e w1 ⟨rfl, hb1⟩
  go_wp2_with fail
  refine (refCheckWord s _ (by omega)).mono ?_
  rintro e w2 ⟨rfl, rfl⟩
  rw [HE.out]
  go_wp2_with fail
  refine (awake2 _).mono ?_
  rintro e w2 ⟨rfl, hb2⟩
  have B2 := hb1.trans (hb2.mono hb1.size)
  clear hb1 hb2
  go_wp2
  go_ret
  exact ⟨rfl, B2⟩
theorem lawRoots (s : ByteArray) (t : Int) (w : World) (t1 : 0 ≤ t) (t2 : t < 256) :
    Calls Tryz.prog 11 #[.string s, .int .u8 t] w fun e w' => e = .returned (.bool true) ∧ Below w.heap.size w w' := by
  obtain ⟨T, rfl⟩ : ∃ T : Nat, t = (T : Int) := ⟨t.toNat, by omega⟩
  by_cases h : s.size ≤ 30
  · by_cases h0 : wordE s.data.toList = 0
    · obtain ⟨R, X, M, k, U, V, U', V', F⟩ := ro_facts (wordE_zero h0) T
      exact lawRootsY s R X M k T _ U V U' V' w F h (by omega) rfl
    · exact lawRootsNo s T _ w h rfl h0
  · exact lawRootsBig s T w (by omega)
end Go.Proofs.YtgpgdjdababidaaGreatDoor

namespace Go.Proofs.YtgpgdjdababidaaGreatDoor
open Go.ChangeShapes Go.WideShapes Go.ChangeAt Go.WideMaps Go.WideElems Go.RowKit

set_option maxRecDepth 100000 in
theorem roots_lifted (os : Os) (started : os.Started) (H : Type) (enc : TypeId × Value → H) :
    ReturnsInHanded {} Tryz.checked os 11 .any (fun w args => (Rows.taperRootsSpec.pre enc Tryz.prog Tryz.f11 [] false w args ∧ laidMetH Tryz.prog taLaid w) ∧ sizedMet enc Tryz.prog Tryz.f11 (OpenSpec.ofChange Rows.taperRootsSpec) false w args)
      (Rows.taperRootsSpec.post enc Tryz.prog Tryz.f11 false true false false) := by
  refine returnsInHanded_of_change_and (C := Tryz.checked) (X := fun w _ => laidMetH Tryz.prog taLaid w) (fun _ _ _ hh h => h.of_heap hh) Tryz.ownT started (by kernel_rfl) Tryz.func11
    (ChangeSpec.witness_shaped (enc := enc) (C := Tryz.checked) (os := os) (X := fun w _ => laidMetH Tryz.prog taLaid w) false (World.doorLaid Tryz.prog 400 os) #[.string ByteArray.empty, .int .u8 0] 8 rfl (World.shaped_of_RefB (by kernel_rfl) (by kernel_rfl)) (by kernel_rfl) (by kernel_rfl) (by kernel_rfl) (door_met os _)) ?_
  intro W base args ds gs before hval0 hW _ _ hL _
  have hval : ∀ (j : Nat) t v, Tryz.f11.params[j]? = some t → args[j]? = some v → Value.okWide Tryz.prog W .any base t v := hval0
  have hW' := hW
  obtain ⟨p, q, hA0, hV, rfl, hfz, hnd⟩ := hW
  have hA : DataW.TrodAll enc Tryz.prog W 0 (fun _ => true) true Tryz.f11.params.toList args.toList ds p := hA0
  rw [Tryz.params11] at hA hval
  obtain ⟨v0, v1, d0, d1, p0, p1, rfl, rfl, rfl, h0, h1⟩ := trodAll_two hA
  obtain ⟨rfl, rfl⟩ := trodVars_none hV
  clear hA0 hval0
  simp only [List.append_nil] at hW'
  have hlt : ∀ x ∈ p0 ++ p1, x.block < W.heap.size := fun x hx => by simpa using hW'.lt x hx
  obtain ⟨z00, rfl⟩ := open_strv (hval 0 9 v0 rfl rfl)
  obtain ⟨z10, rfl, b10, b11⟩ := open_bytev (hval 1 5 v1 rfl rfl)
  have harg0 : ∀ (W' : World), Below W.heap.size W W' → DataW.Trod enc Tryz.prog W' 0 (fun b => decide (b < W.heap.size)) true 9 (.string z00) d0 p0 :=
    fun W' hn => Below.trod Tryz.laidOutT (by kernel_rfl) (of_decide_eq_true (by kernel_rfl)) h0 hn (fun x hx => hlt x (List.mem_append_left _ hx))
  have harg1 : ∀ (W' : World), Below W.heap.size W W' → DataW.Trod enc Tryz.prog W' 0 (fun b => decide (b < W.heap.size)) true 5 (.int .u8 z10) d1 p1 :=
    fun W' hn => Below.trod Tryz.laidOutT (by kernel_rfl) (of_decide_eq_true (by kernel_rfl)) h1 hn (fun x hx => hlt x (List.mem_append_right _ hx))
  refine (lawRoots z00 z10 W b10 b11).mono fun e W' ⟨he, hb⟩ => ?_
  subst he
  refine ⟨_, rfl, _, _, _, [], p0 ++ p1, [], hW', ?_, trodAll_mk2 (harg0 W' hb) (harg1 W' hb), rfl, hb.frame _, fun h => by cases h⟩
  exact trodAll_mk1 (shut_bool Tryz.underlying4 true)
theorem roots_holds : Rows.TaperRootsSaid :=
  OpenClaim.holds_of_wide 11 Tryz.f11 rfl rfl rfl rfl rfl rfl rfl ⟨rfl, rfl, rfl, rfl, rfl⟩ rfl rfl rfl rfl rfl (by kernel_rfl) Tryz.func11 (by kernel_rfl)
    (of_decide_eq_true (by kernel_rfl)) (by unfold Func.isWrapper; first | (rw [if_pos (by decide +kernel)]; kernel_rfl) | (rw [if_neg (by decide +kernel)]; exact ⟨rfl, rfl⟩))
    (fun os started H enc _ => roots_lifted os started H enc)
theorem roots_card : Rows.TaperRootsCardSaid :=
  Claim7.holds_tied_plain_at .later [] [.data, .data, .data] true (true, "b6e41887c4f920463a90685bca101cdc24d79fe0e4c7c6f96c088de150e08b9e") false
    roots_holds (fun _ h => by cases h) (by kernel_rfl) (fun _ h => by cases h) taperRoots_row_tie rfl ⟨rfl, rfl⟩ (by kernel_rfl) rfl
    (fun f fn hf hfn => by
      obtain rfl : f = 11 := Option.some.inj ((show Tryz.prog.funcNamed "codend/codendlaw02.TaperRoots" = some 11 by kernel_rfl).symm.trans hf) |>.symm
      obtain rfl : fn = Tryz.f11 := (Option.some.inj (Tryz.func11.symm.trans hfn)).symm
      exact ⟨by kernel_rfl, fun j t ht => by
        rw [Tryz.params11] at ht
        have hm : t ∈ [9, 5] := by simpa using Array.mem_of_getElem? ht
        have hall : ([9, 5].all fun u => !Tryz.prog.wantsStandIn u) = true := by kernel_rfl
        exact (show Tryz.prog.wantsStandIn t = false by simpa using List.all_eq_true.1 hall t hm)⟩)
    (by kernel_rfl)
#print axioms roots_card
end Go.Proofs.YtgpgdjdababidaaGreatDoor
