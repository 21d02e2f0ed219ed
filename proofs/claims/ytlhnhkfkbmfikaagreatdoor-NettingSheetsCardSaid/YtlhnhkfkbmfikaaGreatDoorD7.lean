/- NettingNames returns true for every string and two ints; the library's tables that its row lists are tied to the program's text. -/
import Derived.Test.YtlhnhkfkbmfikaaGreatDoorD6
import Derived.Laws.RangeAny
import Derived.BigQuiet
import Derived.Test.YtlhnhkfkbmfikaaGreatDoorCards
import Derived.Test.YtlhnhkfkbmfikaaGreatDoorTie
import Derived.ProofKit
import Derived.LaidMore
import Derived.LaidLaws
import Derived.OpenShut
import Derived.Stop.Joined
import Derived.SevenTiedAt
import Derived.HandedShaped
import Derived.Shelf.Vars
import Derived.Lay
/- IsName of the reference and of the program, at every string. -/
namespace Go.Proofs.YtlhnhkfkbmfikaaGreatDoor
open Go.RowKit Go.Shelf Ck

def nmC (z : Bool) (c : Nat) : Bool := (decide (65 ≤ c) && decide (c ≤ 90)) || (decide (97 ≤ c) && decide (c ≤ 122)) || (!z && ((decide (48 ≤ c) && decide (c ≤ 57)) || decide (c = 95)))
def nmG : Bool → List UInt8 → Bool
  | _, [] => true
  | z, c :: r => nmC z c.toNat && nmG false r
def nameB (s : ByteArray) : Bool := decide (1 ≤ s.size) && (decide (s.size ≤ 24) && nmG true s.data.toList)
theorem nm_cls (z : Bool) (d : Nat) : (97 ≤ d ∧ d ≤ 122 ∧ nmC z d = true) ∨ (65 ≤ d ∧ d ≤ 90 ∧ nmC z d = true) ∨ (d < 48 ∧ nmC z d = false) ∨ (48 ≤ d ∧ d ≤ 57 ∧ nmC z d = !z) ∨ (58 ≤ d ∧ d ≤ 64 ∧ nmC z d = false) ∨ (91 ≤ d ∧ d ≤ 96 ∧ d ≠ 95 ∧ nmC z d = false) ∨ (d = 95 ∧ nmC z d = !z) ∨ (122 < d ∧ nmC z d = false) := by
  have key : nmC z d = true ↔ (65 ≤ d ∧ d ≤ 90) ∨ (97 ≤ d ∧ d ≤ 122) ∨ (z = false ∧ ((48 ≤ d ∧ d ≤ 57) ∨ d = 95)) := by
    simp [nmC, or_assoc]
  have keyF : nmC z d = false ↔ ¬ ((65 ≤ d ∧ d ≤ 90) ∨ (97 ≤ d ∧ d ≤ 122) ∨ (z = false ∧ ((48 ≤ d ∧ d ≤ 57) ∨ d = 95))) := by
    rw [← key]; simp
  by_cases h1 : 97 ≤ d
  · by_cases h2 : d ≤ 122
    · exact .inl ⟨h1, h2, key.2 (.inr (.inl ⟨h1, h2⟩))⟩
    · exact .inr (.inr (.inr (.inr (.inr (.inr (.inr ⟨by omega, keyF.2 (by omega)⟩))))))
  · by_cases h3 : 65 ≤ d
    · by_cases h4 : d ≤ 90
      · exact .inr (.inl ⟨h3, h4, key.2 (.inl ⟨h3, h4⟩)⟩)
      · by_cases h5 : d = 95
        · refine .inr (.inr (.inr (.inr (.inr (.inr (.inl ⟨h5, ?_⟩))))))
          cases z
          · exact key.2 (.inr (.inr ⟨rfl, .inr h5⟩))
          · exact keyF.2 (by rintro (h | h | h) <;> first | omega | cases h.1)
        · exact .inr (.inr (.inr (.inr (.inr (.inl ⟨by omega, by omega, h5, keyF.2 (by omega)⟩)))))
    · by_cases h4 : d < 48
      · exact .inr (.inr (.inl ⟨h4, keyF.2 (by omega)⟩))
      · by_cases h5 : d ≤ 57
        · refine .inr (.inr (.inr (.inl ⟨by omega, h5, ?_⟩)))
          cases z
          · exact key.2 (.inr (.inr ⟨rfl, .inl ⟨by omega, h5⟩⟩))
          · exact keyF.2 (by rintro (h | h | h) <;> first | omega | cases h.1)
        · exact .inr (.inr (.inr (.inr (.inl ⟨by omega, by omega, keyF.2 (by omega)⟩))))
theorem nmG_step {z : Bool} {c : UInt8} {r : List UInt8} {R : Bool} (h : nmG z (c :: r) = R) (hc : nmC z c.toNat = true) : nmG false r = R := by
  rw [← h, nmG, hc]; rfl
theorem nmG_no {z : Bool} {c : UInt8} {r : List UInt8} {R : Bool} (h : nmG z (c :: r) = R) (hc : nmC z c.toNat = false) : false = R := by
  rw [← h, nmG, hc]; rfl
theorem netIsLetter (r : Int) (b : Bool) (w : World) (hb : ((65 ≤ r ∧ r ≤ 90) ∨ (97 ≤ r ∧ r ≤ 122)) ↔ b = true) : Calls Tryz.prog 35 #[.int .i32 r] w fun e w' => e = .returned (.bool b) ∧ w = w' := by
  by_cases h1 : 65 ≤ r <;> by_cases h2 : r ≤ 90 <;> by_cases h3 : 97 ≤ r <;> by_cases h4 : r ≤ 122
  all_goals first
    | (exfalso; omega)
    | (have hb' : b = true := hb.1 (by omega)
       subst hb'
       clear hb
       go_enter Tryz.func35, Tryz.ntmps35
       go_wp2
       go_ret
       simp)
    | (have hb' : b = false := by
         cases b
         · rfl
         · have := hb.2 rfl
           omega
       subst hb'
       clear hb
       go_enter Tryz.func35, Tryz.ntmps35
       go_wp2
       go_ret
       simp)
theorem netIsDigit (r : Int) (b : Bool) (w : World) (hb : (48 ≤ r ∧ r ≤ 57) ↔ b = true) : Calls Tryz.prog 36 #[.int .i32 r] w fun e w' => e = .returned (.bool b) ∧ w = w' := by
  by_cases h1 : 48 ≤ r <;> by_cases h2 : r ≤ 57
  all_goals first
    | (exfalso; omega)
    | (have hb' : b = true := hb.1 (by omega)
       subst hb'
       clear hb
       go_enter Tryz.func36, Tryz.ntmps36
       go_wp2
       go_ret
       simp)
    | (have hb' : b = false := by
         cases b
         · rfl
         · have := hb.2 rfl
           omega
       subst hb'
       clear hb
       go_enter Tryz.func36, Tryz.ntmps36
       go_wp2
       go_ret
       simp)
theorem nameB_zero {s : ByteArray} (h : s.size = 0) : nameB s = false := by simp [nameB, h]
theorem nameB_big {s : ByteArray} (h : 24 < s.size) : nameB s = false := by simp [nameB]; omega
theorem nameB_mid {s : ByteArray} (h1 : 1 ≤ s.size) (h2 : s.size ≤ 24) : nameB s = nmG true s.data.toList := by simp [nameB, h1, h2]

set_option maxHeartbeats 8000000 in
set_option maxRecDepth 100000 in
theorem refIsName (s : ByteArray) (w : World) : Calls Tryz.prog 10 #[.string s] w fun e w' => e = .returned (.bool (nameB s)) ∧ w = w' := by
  by_cases hz : s.size = 0
  · have h0 : ((s.size : Int) == 0) = true := by rw [beq_iff_eq]; omega
    rw [nameB_zero hz]
    go_enter Tryz.func10, Tryz.ntmps10
    go_wp2
    go_ret
    simp
  by_cases hb : 24 < s.size
  · have h0 : ((s.size : Int) == 0) = false := by rw [beq_eq_false_iff_ne]; omega
    have h1 : (24 : Int) < (s.size : Int) := by omega
    rw [nameB_big hb]
    go_enter Tryz.func10, Tryz.ntmps10
    go_wp2
    go_ret
    simp
  rw [nameB_mid (by omega) (by omega)]
  have h0 : ((s.size : Int) == 0) = false := by rw [beq_eq_false_iff_ne]; omega
  have h1 : ¬ (24 : Int) < (s.size : Int) := by omega
  obtain ⟨L, hL⟩ : ∃ L, s.data.toList = L := ⟨_, rfl⟩
  have hsz : L.length = s.size := by rw [← hL, ← Lib.size_eq]
  obtain ⟨R, hR⟩ : ∃ R, nmG true L = R := ⟨_, rfl⟩
  rw [hL, hR]
  have HL := Lib.hid hL
  have HZ := Lib.hid hsz
  have HR := Lib.hid hR
  clear hL hsz hR
  go_enter Tryz.func10, Tryz.ntmps10
  go_wp2_with fail
  go_loopw [3] (fun i wr => ∃ k : Nat, k ≤ s.size ∧ i = .int .i64 k ∧ nmG (decide (k = 0)) (L.drop k) = R ∧ w = wr) (fun i _ => s.size - (intOf i).toNat)
  case atStart => exact ⟨0, Nat.zero_le _, rfl, HR.out, rfl⟩
  case round =>
    obtain ⟨k, hk, rfl, hG, rfl⟩ := hrel
    by_cases hlt : k < s.size
    · have b0 : (0 : Int) ≤ (k : Int) := by omega
      have b1 : (k : Int) < (s.size : Int) := by omega
      have hkl : k < L.length := by have := HZ.out; omega
      have hel : s[k]'hlt = L[k]'hkl := by
        have hkd : k < s.data.toList.length := by rw [HL.out]; exact hkl
        rw [← show s.data.toList[k] = s[k] from by rw [Array.getElem_toList]; rfl]
        simp only [HL.out]
      rw [List.drop_eq_getElem_cons hkl] at hG
      obtain ⟨c, hc0⟩ : ∃ c, L[k] = c := ⟨_, rfl⟩
      rw [hc0] at hG hel
      have HG := Lib.hid hG
      clear hG hc0
      have kn : decide (k + 1 = 0) = false := by simp
      by_cases k0 : k = 0
      · have hz0 : ((k : Int) == 0) = true := by rw [beq_iff_eq]; omega
        rw [show decide (k = 0) = true by simp [k0]] at HG
        clear k0
        rcases nm_cls true c.toNat with ⟨x1, x2, hc⟩ | ⟨x1, x2, hc⟩ | ⟨x1, hc⟩ | ⟨x1, x2, hc⟩ | ⟨x1, x2, hc⟩ | ⟨x1, x2, x3, hc⟩ | ⟨x1, hc⟩ | ⟨x1, hc⟩
        · have g0 : (97 : Int) ≤ (c.toNat : Int) := by omega
          have g1 : (c.toNat : Int) ≤ 122 := by omega
          have HN := Lib.hid (nmG_step HG.out hc)
          clear HG hc
          go_wp2
          go_roundw
          case rel => exact ⟨k + 1, by omega, by go_num, by rw [kn]; exact HN.out, by first | rfl | trivial⟩
          case measure => simp [intOf]; omega
        · have g0 : ¬ (97 : Int) ≤ (c.toNat : Int) := by omega
          have g1 : (65 : Int) ≤ (c.toNat : Int) := by omega
          have g2 : (c.toNat : Int) ≤ 90 := by omega
          have HN := Lib.hid (nmG_step HG.out hc)
          clear HG hc
          go_wp2
          go_roundw
          case rel => exact ⟨k + 1, by omega, by go_num, by rw [kn]; exact HN.out, by first | rfl | trivial⟩
          case measure => simp [intOf]; omega
        · have g0 : ¬ (97 : Int) ≤ (c.toNat : Int) := by omega
          have g1 : ¬ (65 : Int) ≤ (c.toNat : Int) := by omega
          have gn : ((c.toNat : Int) != 95) = true := by rw [bne_iff_ne]; omega
          have gl : (c.toNat : Int) < 48 := by omega
          have HN := Lib.hid (nmG_no HG.out hc)
          clear HG hc
          go_wp2
          go_ret
          exact ⟨by rw [← HN.out]; rfl, rfl⟩
        · have g0 : ¬ (97 : Int) ≤ (c.toNat : Int) := by omega
          have g1 : ¬ (65 : Int) ≤ (c.toNat : Int) := by omega
          have gn : ((c.toNat : Int) != 95) = true := by rw [bne_iff_ne]; omega
          have gl : ¬ (c.toNat : Int) < 48 := by omega
          have gg : ¬ (57 : Int) < (c.toNat : Int) := by omega
          have HN := Lib.hid (nmG_no HG.out hc)
          clear HG hc
          go_wp2
          go_ret
          exact ⟨by rw [← HN.out]; rfl, rfl⟩
        · have g0 : ¬ (97 : Int) ≤ (c.toNat : Int) := by omega
          have g1 : ¬ (65 : Int) ≤ (c.toNat : Int) := by omega
          have gn : ((c.toNat : Int) != 95) = true := by rw [bne_iff_ne]; omega
          have gl : ¬ (c.toNat : Int) < 48 := by omega
          have gg : (57 : Int) < (c.toNat : Int) := by omega
          have HN := Lib.hid (nmG_no HG.out hc)
          clear HG hc
          go_wp2
          go_ret
          exact ⟨by rw [← HN.out]; rfl, rfl⟩
        · have g0 : ¬ (97 : Int) ≤ (c.toNat : Int) := by omega
          have g1 : (65 : Int) ≤ (c.toNat : Int) := by omega
          have g2 : ¬ (c.toNat : Int) ≤ 90 := by omega
          have gn : ((c.toNat : Int) != 95) = true := by rw [bne_iff_ne]; omega
          have gl : ¬ (c.toNat : Int) < 48 := by omega
          have gg : (57 : Int) < (c.toNat : Int) := by omega
          have HN := Lib.hid (nmG_no HG.out hc)
          clear HG hc
          go_wp2
          go_ret
          exact ⟨by rw [← HN.out]; rfl, rfl⟩
        · have g0 : ¬ (97 : Int) ≤ (c.toNat : Int) := by omega
          have g1 : (65 : Int) ≤ (c.toNat : Int) := by omega
          have g2 : ¬ (c.toNat : Int) ≤ 90 := by omega
          have gn : ((c.toNat : Int) != 95) = false := by simp; omega
          have HN := Lib.hid (nmG_no HG.out hc)
          clear HG hc
          go_wp2
          go_ret
          exact ⟨by rw [← HN.out]; rfl, rfl⟩
        · have g0 : (97 : Int) ≤ (c.toNat : Int) := by omega
          have g1 : ¬ (c.toNat : Int) ≤ 122 := by omega
          have g2 : (65 : Int) ≤ (c.toNat : Int) := by omega
          have g3 : ¬ (c.toNat : Int) ≤ 90 := by omega
          have gn : ((c.toNat : Int) != 95) = true := by rw [bne_iff_ne]; omega
          have gl : ¬ (c.toNat : Int) < 48 := by omega
          have gg : (57 : Int) < (c.toNat : Int) := by omega
          have HN := Lib.hid (nmG_no HG.out hc)
          clear HG hc
          go_wp2
          go_ret
          exact ⟨by rw [← HN.out]; rfl, rfl⟩
      · have hz0 : ((k : Int) == 0) = false := by rw [beq_eq_false_iff_ne]; omega
        rw [show decide (k = 0) = false by simp [k0]] at HG
        rcases nm_cls false c.toNat with ⟨x1, x2, hc⟩ | ⟨x1, x2, hc⟩ | ⟨x1, hc⟩ | ⟨x1, x2, hc⟩ | ⟨x1, x2, hc⟩ | ⟨x1, x2, x3, hc⟩ | ⟨x1, hc⟩ | ⟨x1, hc⟩
        · have g0 : (97 : Int) ≤ (c.toNat : Int) := by omega
          have g1 : (c.toNat : Int) ≤ 122 := by omega
          have HN := Lib.hid (nmG_step HG.out hc)
          clear HG hc
          go_wp2
          go_roundw
          case rel => exact ⟨k + 1, by omega, by go_num, by rw [kn]; exact HN.out, by first | rfl | trivial⟩
          case measure => simp [intOf]; omega
        · have g0 : ¬ (97 : Int) ≤ (c.toNat : Int) := by omega
          have g1 : (65 : Int) ≤ (c.toNat : Int) := by omega
          have g2 : (c.toNat : Int) ≤ 90 := by omega
          have HN := Lib.hid (nmG_step HG.out hc)
          clear HG hc
          go_wp2
          go_roundw
          case rel => exact ⟨k + 1, by omega, by go_num, by rw [kn]; exact HN.out, by first | rfl | trivial⟩
          case measure => simp [intOf]; omega
        · have g0 : ¬ (97 : Int) ≤ (c.toNat : Int) := by omega
          have g1 : ¬ (65 : Int) ≤ (c.toNat : Int) := by omega
          have gn : ((c.toNat : Int) != 95) = true := by rw [bne_iff_ne]; omega
          have gl : (c.toNat : Int) < 48 := by omega
          have HN := Lib.hid (nmG_no HG.out hc)
          clear HG hc
          go_wp2
          go_ret
          exact ⟨by rw [← HN.out]; rfl, rfl⟩
        · have g0 : ¬ (97 : Int) ≤ (c.toNat : Int) := by omega
          have g1 : ¬ (65 : Int) ≤ (c.toNat : Int) := by omega
          have gn : ((c.toNat : Int) != 95) = true := by rw [bne_iff_ne]; omega
          have gl : ¬ (c.toNat : Int) < 48 := by omega
          have gg : ¬ (57 : Int) < (c.toNat : Int) := by omega
          have HN := Lib.hid (nmG_step HG.out hc)
          clear HG hc
          go_wp2
          go_roundw
          case rel => exact ⟨k + 1, by omega, by go_num, by rw [kn]; exact HN.out, by first | rfl | trivial⟩
          case measure => simp [intOf]; omega
        · have g0 : ¬ (97 : Int) ≤ (c.toNat : Int) := by omega
          have g1 : ¬ (65 : Int) ≤ (c.toNat : Int) := by omega
          have gn : ((c.toNat : Int) != 95) = true := by rw [bne_iff_ne]; omega
          have gl : ¬ (c.toNat : Int) < 48 := by omega
          have gg : (57 : Int) < (c.toNat : Int) := by omega
          have HN := Lib.hid (nmG_no HG.out hc)
          clear HG hc
          go_wp2
          go_ret
          exact ⟨by rw [← HN.out]; rfl, rfl⟩
        · have g0 : ¬ (97 : Int) ≤ (c.toNat : Int) := by omega
          have g1 : (65 : Int) ≤ (c.toNat : Int) := by omega
          have g2 : ¬ (c.toNat : Int) ≤ 90 := by omega
          have gn : ((c.toNat : Int) != 95) = true := by rw [bne_iff_ne]; omega
          have gl : ¬ (c.toNat : Int) < 48 := by omega
          have gg : (57 : Int) < (c.toNat : Int) := by omega
          have HN := Lib.hid (nmG_no HG.out hc)
          clear HG hc
          go_wp2
          go_ret
          exact ⟨by rw [← HN.out]; rfl, rfl⟩
        · have g0 : ¬ (97 : Int) ≤ (c.toNat : Int) := by omega
          have g1 : (65 : Int) ≤ (c.toNat : Int) := by omega
          have g2 : ¬ (c.toNat : Int) ≤ 90 := by omega
          have gn : ((c.toNat : Int) != 95) = false := by simp; omega
          have HN := Lib.hid (nmG_step HG.out hc)
          clear HG hc
          go_wp2
          go_roundw
          case rel => exact ⟨k + 1, by omega, by go_num, by rw [kn]; exact HN.out, by first | rfl | trivial⟩
          case measure => simp [intOf]; omega
        · have g0 : (97 : Int) ≤ (c.toNat : Int) := by omega
          have g1 : ¬ (c.toNat : Int) ≤ 122 := by omega
          have g2 : (65 : Int) ≤ (c.toNat : Int) := by omega
          have g3 : ¬ (c.toNat : Int) ≤ 90 := by omega
          have gn : ((c.toNat : Int) != 95) = true := by rw [bne_iff_ne]; omega
          have gl : ¬ (c.toNat : Int) < 48 := by omega
          have gg : (57 : Int) < (c.toNat : Int) := by omega
          have HN := Lib.hid (nmG_no HG.out hc)
          clear HG hc
          go_wp2
          go_ret
          exact ⟨by rw [← HN.out]; rfl, rfl⟩
    · have hd : L.drop k = [] := List.drop_of_length_le (by have := HZ.out; omega)
      rw [hd] at hG
      have HN := Lib.hid (show true = R from hG)
      have b1 : ¬ (k : Int) < (s.size : Int) := by omega
      clear hG hd
      go_wp2
      go_ret
      exact ⟨by rw [← HN.out]; rfl, rfl⟩

set_option maxHeartbeats 8000000 in
set_option maxRecDepth 100000 in
theorem netIsName (s : ByteArray) (w : World) : Calls Tryz.prog 9 #[.string s] w fun e w' => e = .returned (.bool (nameB s)) ∧ Below w.heap.size w w' := by
  by_cases hz : s.size = 0
  · have h0 : (s.size : Int) < 1 := by omega
    rw [nameB_zero hz]
    go_enter Tryz.func9, Tryz.ntmps9
    go_wp2
    go_ret
    exact ⟨by simp, Below.refl _ _⟩
  by_cases hb : 24 < s.size
  · have h0 : ¬ (s.size : Int) < 1 := by omega
    have h1 : (24 : Int) < (s.size : Int) := by omega
    rw [nameB_big hb]
    go_enter Tryz.func9, Tryz.ntmps9
    go_wp2
    go_ret
    exact ⟨by simp, Below.refl _ _⟩
  rw [nameB_mid (by omega) (by omega)]
  have h0 : ¬ (s.size : Int) < 1 := by omega
  have h1 : ¬ (24 : Int) < (s.size : Int) := by omega
  obtain ⟨L, hL⟩ : ∃ L, s.data.toList = L := ⟨_, rfl⟩
  have hsz : L.length = s.size := by rw [← hL, ← Lib.size_eq]
  obtain ⟨R, hR⟩ : ∃ R, nmG true L = R := ⟨_, rfl⟩
  rw [hL, hR]
  have HL := Lib.hid hL
  have HZ := Lib.hid hsz
  have HR := Lib.hid hR
  clear hL hsz hR
  obtain ⟨w1, hw1⟩ : ∃ w1, w1 = w.iter s 0 := ⟨_, rfl⟩
  have it1 : w1.heap[w.heap.size]? = some (.stringIter s 0) := by rw [hw1]; exact World.iter_heap w s 0
  have hb1 : Below w.heap.size w w1 := by rw [hw1]; exact (Below.refl _ _).alloc (Nat.le_refl _) (.stringIter s 0)
  have HW1 := Lib.hid hw1
  clear hw1
  go_enter Tryz.func9, Tryz.ntmps9
  go_wp2_with fail
  rw [← HW1.out]
  go_loopw [] (fun wr => ∃ pos : Nat, pos ≤ L.length ∧ wr.heap[w.heap.size]? = some (.stringIter s pos) ∧ Below w.heap.size w wr ∧ nmG (decide (pos = 0)) (L.drop pos) = R) (fun wr => s.size - wr.iterPos w.heap.size)
  case atStart => exact ⟨0, Nat.zero_le _, it1, hb1, HR.out⟩
  case round =>
    obtain ⟨pos, hpos, hit, hb, hG⟩ := hrel
    have hln := HZ.out
    clear it1 hb1
    by_cases hp : pos < s.size
    · have hpl : pos < L.length := by omega
      have hel : s[pos]'hp = L[pos]'hpl := by
        have hkd : pos < s.data.toList.length := by rw [HL.out]; exact hpl
        rw [← show s.data.toList[pos] = s[pos] from by rw [Array.getElem_toList]; rfl]
        simp only [HL.out]
      rw [List.drop_eq_getElem_cons hpl] at hG
      obtain ⟨c, hc0⟩ : ∃ c, L[pos] = c := ⟨_, rfl⟩
      rw [hc0] at hG hel
      have HG := Lib.hid hG
      have hmu : wr.iterPos w.heap.size = pos := by simp [World.iterPos, hit]
      have kn : decide (pos + 1 = 0) = false := by simp
      have p0 : (0 : Int) ≤ (pos : Int) := by omega
      clear hG hc0
      by_cases ha : c.toNat < 128
      · have hnext : ∀ ty, (Instr.next (.pointer (some ⟨w.heap.size, 0, none⟩)) true ty).run Tryz.prog wr = _ := fun ty => Lib.run_next_ascii_at wr w.heap.size s pos ty hit hp (by rw [hel]; exact ha)
        rw [hel] at hnext
        have hit1 := Lib.iterAt_heap wr w.heap.size s pos (pos + 1) hit
        have hb1' : Below w.heap.size w (wr.iterAt w.heap.size s (pos + 1)) := Lib.below_iterAt hb (Nat.le_refl _) s (pos + 1)
        generalize wr.iterAt w.heap.size s (pos + 1) = W1 at hnext hit1 hb1'
        have hmu1 : W1.iterPos w.heap.size = pos + 1 := by simp [World.iterPos, hit1]
        clear hel hit hb
        by_cases k0 : pos = 0
        · have hz0 : ((pos : Int) == 0) = true := by rw [beq_iff_eq]; omega
          rw [show decide (pos = 0) = true by simp [k0]] at HG
          rcases nm_cls true c.toNat with ⟨x1, x2, hc⟩ | ⟨x1, x2, hc⟩ | ⟨x1, hc⟩ | ⟨x1, x2, hc⟩ | ⟨x1, x2, hc⟩ | ⟨x1, x2, x3, hc⟩ | ⟨x1, hc⟩ | ⟨x1, hc⟩
          · have HN := Lib.hid (nmG_step HG.out hc)
            clear HG hc
            go_wp2_with fail
            refine (netIsLetter _ true _ (by simp <;> omega)).mono ?_
            rintro e W2 ⟨rfl, rfl⟩
            go_wp2
            go_roundw
            case rel => exact ⟨pos + 1, by omega, hit1, hb1', by rw [kn]; exact HN.out⟩
            case measure => rw [hmu, hmu1]; omega
          · have HN := Lib.hid (nmG_step HG.out hc)
            clear HG hc
            go_wp2_with fail
            refine (netIsLetter _ true _ (by simp <;> omega)).mono ?_
            rintro e W2 ⟨rfl, rfl⟩
            go_wp2
            go_roundw
            case rel => exact ⟨pos + 1, by omega, hit1, hb1', by rw [kn]; exact HN.out⟩
            case measure => rw [hmu, hmu1]; omega
          · have gn : ((c.toNat : Int) != 95) = true := by rw [bne_iff_ne]; omega
            have HN := Lib.hid (nmG_no HG.out hc)
            clear HG hc
            go_wp2_with fail
            refine (netIsLetter _ false _ (by simp <;> omega)).mono ?_
            rintro e W2 ⟨rfl, rfl⟩
            go_wp2
            go_ret
            exact ⟨by rw [← HN.out]; rfl, hb1'⟩
          · have gn : ((c.toNat : Int) != 95) = true := by rw [bne_iff_ne]; omega
            have HN := Lib.hid (nmG_no HG.out hc)
            clear HG hc
            go_wp2_with fail
            refine (netIsLetter _ false _ (by simp <;> omega)).mono ?_
            rintro e W2 ⟨rfl, rfl⟩
            go_wp2
            go_ret
            exact ⟨by rw [← HN.out]; rfl, hb1'⟩
          · have gn : ((c.toNat : Int) != 95) = true := by rw [bne_iff_ne]; omega
            have HN := Lib.hid (nmG_no HG.out hc)
            clear HG hc
            go_wp2_with fail
            refine (netIsLetter _ false _ (by simp <;> omega)).mono ?_
            rintro e W2 ⟨rfl, rfl⟩
            go_wp2
            go_ret
            exact ⟨by rw [← HN.out]; rfl, hb1'⟩
          · have gn : ((c.toNat : Int) != 95) = true := by rw [bne_iff_ne]; omega
            have HN := Lib.hid (nmG_no HG.out hc)
            clear HG hc
            go_wp2_with fail
            refine (netIsLetter _ false _ (by simp <;> omega)).mono ?_
            rintro e W2 ⟨rfl, rfl⟩
            go_wp2
            go_ret
            exact ⟨by rw [← HN.out]; rfl, hb1'⟩
          · have gn : ((c.toNat : Int) != 95) = false := by simp; omega
            have HN := Lib.hid (nmG_no HG.out hc)
            clear HG hc
            go_wp2_with fail
            refine (netIsLetter _ false _ (by simp <;> omega)).mono ?_
            rintro e W2 ⟨rfl, rfl⟩
            go_wp2
            go_ret
            exact ⟨by rw [← HN.out]; rfl, hb1'⟩
          · have gn : ((c.toNat : Int) != 95) = true := by rw [bne_iff_ne]; omega
            have HN := Lib.hid (nmG_no HG.out hc)
            clear HG hc
            go_wp2_with fail
            refine (netIsLetter _ false _ (by simp <;> omega)).mono ?_
            rintro e W2 ⟨rfl, rfl⟩
            go_wp2
            go_ret
            exact ⟨by rw [← HN.out]; rfl, hb1'⟩
        · have hz0 : ((pos : Int) == 0) = false := by rw [beq_eq_false_iff_ne]; omega
          rw [show decide (pos = 0) = false by simp [k0]] at HG
          rcases nm_cls false c.toNat with ⟨x1, x2, hc⟩ | ⟨x1, x2, hc⟩ | ⟨x1, hc⟩ | ⟨x1, x2, hc⟩ | ⟨x1, x2, hc⟩ | ⟨x1, x2, x3, hc⟩ | ⟨x1, hc⟩ | ⟨x1, hc⟩
          · have HN := Lib.hid (nmG_step HG.out hc)
            clear HG hc
            go_wp2_with fail
            refine (netIsLetter _ true _ (by simp <;> omega)).mono ?_
            rintro e W2 ⟨rfl, rfl⟩
            go_wp2
            go_roundw
            case rel => exact ⟨pos + 1, by omega, hit1, hb1', by rw [kn]; exact HN.out⟩
            case measure => rw [hmu, hmu1]; omega
          · have HN := Lib.hid (nmG_step HG.out hc)
            clear HG hc
            go_wp2_with fail
            refine (netIsLetter _ true _ (by simp <;> omega)).mono ?_
            rintro e W2 ⟨rfl, rfl⟩
            go_wp2
            go_roundw
            case rel => exact ⟨pos + 1, by omega, hit1, hb1', by rw [kn]; exact HN.out⟩
            case measure => rw [hmu, hmu1]; omega
          · have gn : ((c.toNat : Int) != 95) = true := by rw [bne_iff_ne]; omega
            have HN := Lib.hid (nmG_no HG.out hc)
            clear HG hc
            go_wp2_with fail
            refine (netIsLetter _ false _ (by simp <;> omega)).mono ?_
            rintro e W2 ⟨rfl, rfl⟩
            go_wp2_with fail
            refine (netIsDigit _ false _ (by simp <;> omega)).mono ?_
            rintro e W2 ⟨rfl, rfl⟩
            go_wp2
            go_ret
            exact ⟨by rw [← HN.out]; rfl, hb1'⟩
          · have gn : ((c.toNat : Int) != 95) = true := by rw [bne_iff_ne]; omega
            have HN := Lib.hid (nmG_step HG.out hc)
            clear HG hc
            go_wp2_with fail
            refine (netIsLetter _ false _ (by simp <;> omega)).mono ?_
            rintro e W2 ⟨rfl, rfl⟩
            go_wp2_with fail
            refine (netIsDigit _ true _ (by simp <;> omega)).mono ?_
            rintro e W2 ⟨rfl, rfl⟩
            go_wp2
            go_roundw
            case rel => exact ⟨pos + 1, by omega, hit1, hb1', by rw [kn]; exact HN.out⟩
            case measure => rw [hmu, hmu1]; omega
          · have gn : ((c.toNat : Int) != 95) = true := by rw [bne_iff_ne]; omega
            have HN := Lib.hid (nmG_no HG.out hc)
            clear HG hc
            go_wp2_with fail
            refine (netIsLetter _ false _ (by simp <;> omega)).mono ?_
            rintro e W2 ⟨rfl, rfl⟩
            go_wp2_with fail
            refine (netIsDigit _ false _ (by simp <;> omega)).mono ?_
            rintro e W2 ⟨rfl, rfl⟩
            go_wp2
            go_ret
            exact ⟨by rw [← HN.out]; rfl, hb1'⟩
          · have gn : ((c.toNat : Int) != 95) = true := by rw [bne_iff_ne]; omega
            have HN := Lib.hid (nmG_no HG.out hc)
            clear HG hc
            go_wp2_with fail
            refine (netIsLetter _ false _ (by simp <;> omega)).mono ?_
            rintro e W2 ⟨rfl, rfl⟩
            go_wp2_with fail
            refine (netIsDigit _ false _ (by simp <;> omega)).mono ?_
            rintro e W2 ⟨rfl, rfl⟩
            go_wp2
            go_ret
            exact ⟨by rw [← HN.out]; rfl, hb1'⟩
          · have gn : ((c.toNat : Int) != 95) = false := by simp; omega
            have HN := Lib.hid (nmG_step HG.out hc)
            clear HG hc
            go_wp2_with fail
            refine (netIsLetter _ false _ (by simp <;> omega)).mono ?_
            rintro e W2 ⟨rfl, rfl⟩
            go_wp2_with fail
            refine (netIsDigit _ false _ (by simp <;> omega)).mono ?_
            rintro e W2 ⟨rfl, rfl⟩
            go_wp2
            go_roundw
            case rel => exact ⟨pos + 1, by omega, hit1, hb1', by rw [kn]; exact HN.out⟩
            case measure => rw [hmu, hmu1]; omega
          · have gn : ((c.toNat : Int) != 95) = true := by rw [bne_iff_ne]; omega
            have HN := Lib.hid (nmG_no HG.out hc)
            clear HG hc
            go_wp2_with fail
            refine (netIsLetter _ false _ (by simp <;> omega)).mono ?_
            rintro e W2 ⟨rfl, rfl⟩
            go_wp2_with fail
            refine (netIsDigit _ false _ (by simp <;> omega)).mono ?_
            rintro e W2 ⟨rfl, rfl⟩
            go_wp2
            go_ret
            exact ⟨by rw [← HN.out]; rfl, hb1'⟩
      · have hnC : nmC (decide (pos = 0)) c.toNat = false := by
          rcases nm_cls (decide (pos = 0)) c.toNat with ⟨x1, x2, hc⟩ | ⟨x1, x2, hc⟩ | ⟨x1, hc⟩ | ⟨x1, x2, hc⟩ | ⟨x1, x2, hc⟩ | ⟨x1, x2, x3, hc⟩ | ⟨x1, hc⟩ | ⟨x1, hc⟩ <;> first | exact hc | (exfalso; omega)
        have HN := Lib.hid (nmG_no HG.out hnC)
        have hnext : ∀ ty, (Instr.next (.pointer (some ⟨w.heap.size, 0, none⟩)) true ty).run Tryz.prog wr = _ := fun ty => Lib.run_next_any_at wr w.heap.size s pos ty hit hp
        have hrn := (decode_high s pos hp (by rw [hel]; omega)).1
        have hb1' : Below w.heap.size w (wr.iterAt w.heap.size s (pos + (Utf8.decode s pos).2)) := Lib.below_iterAt hb (Nat.le_refl _) s _
        generalize wr.iterAt w.heap.size s (pos + (Utf8.decode s pos).2) = W1 at hnext hb1'
        generalize (Utf8.decode s pos).1 = rn at hnext hrn
        have gn : ((rn : Int) != 95) = true := by rw [bne_iff_ne]; omega
        clear hel hit hb HG hnC
        by_cases k0 : pos = 0
        · have hz0 : ((pos : Int) == 0) = true := by rw [beq_iff_eq]; omega
          go_wp2_with fail
          refine (netIsLetter _ false _ (by simp <;> omega)).mono ?_
          rintro e W2 ⟨rfl, rfl⟩
          go_wp2
          go_ret
          exact ⟨by rw [← HN.out]; rfl, hb1'⟩
        · have hz0 : ((pos : Int) == 0) = false := by rw [beq_eq_false_iff_ne]; omega
          go_wp2_with fail
          refine (netIsLetter _ false _ (by simp <;> omega)).mono ?_
          rintro e W2 ⟨rfl, rfl⟩
          go_wp2_with fail
          refine (netIsDigit _ false _ (by simp <;> omega)).mono ?_
          rintro e W2 ⟨rfl, rfl⟩
          go_wp2
          go_ret
          exact ⟨by rw [← HN.out]; rfl, hb1'⟩
    · have hd : L.drop pos = [] := List.drop_of_length_le (by omega)
      rw [hd] at hG
      have HN := Lib.hid (show true = R from hG)
      have hnext : ∀ ty, (Instr.next (.pointer (some ⟨w.heap.size, 0, none⟩)) true ty).run Tryz.prog wr = _ := fun ty => Lib.run_next_end_at wr w.heap.size s pos ty hit hp
      clear hG hd
      go_wp2
      go_ret
      exact ⟨by rw [← HN.out]; rfl, hb⟩
end Go.Proofs.YtlhnhkfkbmfikaaGreatDoor

/- The contract of the reference's CheckRange. -/
namespace Go.Proofs.YtlhnhkfkbmfikaaGreatDoor
open Go.RowKit

set_option maxHeartbeats 400000 in
theorem refCheckRange (n lo hi : Int) (w : World) :
    Calls Tryz.prog 34 #[.int .i64 n, .int .i64 lo, .int .i64 hi] w fun e w' => e = .returned (.int .i64 (if n < lo ∨ hi < n then 3 else 0)) ∧ w = w' := by
  by_cases h1 : n < lo
  · go_enter Tryz.func34, Tryz.ntmps34
    go_wp2
    go_ret
    simp
  · by_cases h2 : hi < n
    all_goals
      go_enter Tryz.func34, Tryz.ntmps34
      go_wp2
      go_ret
      simp <;> omega
end Go.Proofs.YtlhnhkfkbmfikaaGreatDoor

/- CheckDraw, Draw with an error, list, and the law of NettingNames. -/
namespace Go.Proofs.YtlhnhkfkbmfikaaGreatDoor
open Go.RowKit Go.Shelf Ck

def rngN (n lo hi : Int) : Int := if n < lo ∨ hi < n then 3 else 0
def drawE (key n : Int) : Int := if rngN key 1 2147483646 = 0 then rngN n 0 256 else 3
theorem rngN_or (n lo hi : Int) : rngN n lo hi = 0 ∨ rngN n lo hi = 3 := by
  unfold rngN
  split
  · exact .inr rfl
  · exact .inl rfl
theorem refCheckDraw (key n : Int) (w : World) : Calls Tryz.prog 7 #[.int .i64 key, .int .i64 n] w fun e w' => e = .returned (.int .i64 (drawE key n)) ∧ w = w' := by
  rcases rngN_or key 1 2147483646 with h1 | h1
  · rcases rngN_or n 0 256 with h2 | h2
    all_goals
      have HE := Lib.hid (show drawE key n = rngN n 0 256 by rw [drawE, if_pos h1])
      have H1 := Lib.hid h1
      have H2 := Lib.hid h2
      clear h1 h2
      go_enter Tryz.func7, Tryz.ntmps7
      go_wp2_with fail
      refine (refCheckRange key 1 2147483646 _).mono ?_
      rintro e w1 ⟨rfl, rfl⟩
      rw [show (if key < 1 ∨ 2147483646 < key then (3 : Int) else 0) = 0 from H1.out]
      go_wp2_with fail
      refine (refCheckRange n 0 256 _).mono ?_
      rintro e w1 ⟨rfl, rfl⟩
      have h2 := H2.out
      unfold rngN at h2
      rw [h2]
      clear h2
      go_wp2
      go_ret
      exact ⟨by rw [HE.out, H2.out]; rfl, rfl⟩
  · have HE := Lib.hid (show drawE key n = 3 by rw [drawE, if_neg (by rw [h1]; decide)])
    have H1 := Lib.hid h1
    clear h1
    go_enter Tryz.func7, Tryz.ntmps7
    go_wp2_with fail
    refine (refCheckRange key 1 2147483646 _).mono ?_
    rintro e w1 ⟨rfl, rfl⟩
    rw [show (if key < 1 ∨ 2147483646 < key then (3 : Int) else 0) = 3 from H1.out]
    go_wp2
    go_ret
    exact ⟨by rw [HE.out]; rfl, rfl⟩
theorem netDrawBad (key n : Int) (w : World) (h : drawE key n = 3) : Calls Tryz.prog 6 #[.int .i64 key, .int .i64 n] w fun e w' => e = .returned (.tuple #[.slice none 0 0, .int .i64 3]) ∧ Below w.heap.size w w' := by
  have HF := Lib.hid (show firstE [rngN key 1 2147483646, rngN n 0 256] = 3 by
    rcases rngN_or key 1 2147483646 with h1 | h1
    · rw [drawE, if_pos h1] at h
      rw [h1, h]
      rfl
    · rcases rngN_or n 0 256 with h2 | h2 <;> rw [h1, h2] <;> rfl)
  clear h
  go_enter Tryz.func6, Tryz.ntmps6
  go_wp2_with fail
  refine (netCheckRange key 1 2147483646 _).mono ?_
  rintro e w1 ⟨rfl, rfl⟩
  rw [show (if key < 1 ∨ 2147483646 < key then (3 : Int) else 0) = rngN key 1 2147483646 from rfl]
  go_wp2_with fail
  refine (netCheckRange n 0 256 _).mono ?_
  rintro e w1 ⟨rfl, rfl⟩
  rw [show (if n < 0 ∨ 256 < n then (3 : Int) else 0) = rngN n 0 256 from rfl]
  have hb0 : Below w.heap.size w (w.alloc (.cells #[.int .i64 (rngN key 1 2147483646), .int .i64 (rngN n 0 256)] 24)) := (Below.refl _ _).alloc (Nat.le_refl _) _
  go_wp2_with fail
  refine (netFirst2 w.heap.size _ (rngN key 1 2147483646) (rngN n 0 256) 24 _ (by exact heap_alloc_new _ _)).mono ?_
  rintro e w1 ⟨rfl, rfl⟩
  rw [HF.out]
  go_wp2
  go_ret2
  exact ⟨rfl, hb0⟩
theorem lwListBad (w : World) : Calls Tryz.prog 11 #[.slice none 0 0, .int .i64 3, .int .i64 3, .slice none 0 0] w fun e w' => e = .returned (.bool true) ∧ Below w.heap.size w w' := by
  go_enter Tryz.func11, Tryz.ntmps11
  go_wp2
  go_ret
  exact ⟨by simp, Below.refl _ _⟩
theorem lwListOk (A A' : Option Addr) (c c' : Nat) (l : List Nat) (w : World) (hl : l.length ≤ 4096) (h : RI w w.heap.size A l) (h' : RI w w.heap.size A' l) :
    Calls Tryz.prog 11 #[.slice A l.length c, .int .i64 0, .int .i64 0, .slice A' l.length c'] w fun e w' => e = .returned (.bool true) ∧ Below w.heap.size w w' := by
  have H1 := Lib.hid h
  have H2 := Lib.hid h'
  clear h h'
  go_enter Tryz.func11, Tryz.ntmps11
  go_wp2_with fail
  refine (refSameInts A A' c c' l _ hl H1.out H2.out).mono ?_
  rintro e w1 ⟨rfl, hb⟩
  go_wp2
  go_ret
  exact ⟨by simp, hb⟩
theorem drawE_zero {key n : Int} (h : drawE key n = 0) : 1 ≤ key ∧ key < 2147483647 ∧ ∃ k : Nat, n = k ∧ k ≤ 256 := by
  have e : ∀ a lo hi : Int, rngN a lo hi = 0 → lo ≤ a ∧ a ≤ hi := fun a lo hi h => by
    unfold rngN at h
    split at h
    · cases h
    · omega
  rcases rngN_or key 1 2147483646 with h1 | h1
  · rw [drawE, if_pos h1] at h
    have a := e _ _ _ h1
    have b := e _ _ _ h
    exact ⟨by omega, by omega, n.toNat, by omega, by omega⟩
  · rw [drawE, if_neg (by rw [h1]; decide)] at h
    cases h
theorem drawE_or (key n : Int) : drawE key n = 0 ∨ drawE key n = 3 := by
  unfold drawE
  split
  · exact rngN_or _ _ _
  · exact .inr rfl
set_option maxHeartbeats 4000000 in
set_option maxRecDepth 100000 in
theorem lawNames (s : ByteArray) (key n : Int) (w : World) (hL : LaidLen w) : Calls Tryz.prog 3 #[.string s, .int .i64 key, .int .i64 n] w fun e w' => e = .returned (.bool true) ∧ Below w.heap.size w w' := by
  have HLL := Lib.hid hL
  clear hL
  by_cases hs : 60 < s.size
  · have h1 : (60 : Int) < (s.size : Int) := by omega
    clear hs
    go_enter Tryz.func3, Tryz.ntmps3
    go_wp2_with fail
    refine (awake1 _ HLL.out).mono ?_
    rintro e w1 ⟨rfl, hb1⟩
    have hl1 := HLL.out.below hb1 HLL.out.lt
    go_wp2_with fail
    refine (awake1 _ hl1).mono ?_
    rintro e w2 ⟨rfl, hb2⟩
    go_wp2
    go_ret
    exact ⟨rfl, hb1.trans (hb2.mono hb1.size)⟩
  have h1 : ¬ (60 : Int) < (s.size : Int) := by omega
  clear hs
  rcases drawE_or key n with hd | hd
  · obtain ⟨k0, k1, m, rfl, hm⟩ := drawE_zero hd
    have HD := Lib.hid hd
    obtain ⟨l, hl⟩ : ∃ l, drawL key m = l := ⟨_, rfl⟩
    have hll : l.length ≤ 4096 := by rw [← hl, drawL_length]; omega
    clear hd
    go_enter Tryz.func3, Tryz.ntmps3
    go_wp2_with fail
    refine (awake1 _ HLL.out).mono ?_
    rintro e w1 ⟨rfl, hb1⟩
    go_wp2_with fail
    refine (netDraw key m _ k0 k1 hm).mono ?_
    rintro e w2 ⟨v, rfl, hrow, hb2⟩
    rw [hl] at hrow
    obtain ⟨a2, c2, rfl, r2⟩ := own_ri hrow
    have BW := hb1.trans (hb2.mono hb1.size)
    have R2 := Lib.hid r2
    clear hrow r2 hb1 hb2
    go_wp2_with fail
    refine (refCheckDraw key m _).mono ?_
    rintro e w3 ⟨rfl, rfl⟩
    rw [HD.out]
    go_wp2_with fail
    refine (refDrawX key m _ (by omega) k1 (by omega)).mono ?_
    rintro e w3 ⟨v3, rfl, hrow3, hb3⟩
    rw [hl] at hrow3
    obtain ⟨a3, c3, rfl, r3⟩ := own_ri hrow3
    replace BW := BW.trans (hb3.mono BW.size)
    replace R2 := Lib.hid (R2.out.go hb3)
    have R3 := Lib.hid r3
    clear hrow3 r3 hb3
    go_wp2_with fail
    refine (netIsName s _).mono ?_
    rintro e w4 ⟨rfl, hb4⟩
    replace BW := BW.trans (hb4.mono BW.size)
    replace R2 := Lib.hid (R2.out.go hb4)
    replace R3 := Lib.hid (R3.out.go hb4)
    clear hb4
    go_wp2_with fail
    refine (refIsName s _).mono ?_
    rintro e w5 ⟨rfl, rfl⟩
    have hq : (nameB s == nameB s) = true := by simp
    go_wp2_with fail
    refine (lwListOk a2 a3 c2 c3 l _ hll R2.out R3.out).mono ?_
    rintro e w6 ⟨rfl, hb6⟩
    replace BW := BW.trans (hb6.mono BW.size)
    clear hb6
    go_wp2
    go_ret
    exact ⟨by simp, BW⟩
  · have HD := Lib.hid hd
    clear hd
    go_enter Tryz.func3, Tryz.ntmps3
    go_wp2_with fail
    refine (awake1 _ HLL.out).mono ?_
    rintro e w1 ⟨rfl, hb1⟩
    go_wp2_with fail
    refine (netDrawBad key n _ HD.out).mono ?_
    rintro e w2 ⟨rfl, hb2⟩
    have BW := hb1.trans (hb2.mono hb1.size)
    clear hb1 hb2
    go_wp2_with fail
    refine (refCheckDraw key n _).mono ?_
    rintro e w3 ⟨rfl, rfl⟩
    rw [HD.out]
    go_wp2_with fail
    refine (netIsName s _).mono ?_
    rintro e w4 ⟨rfl, hb4⟩
    replace BW := BW.trans (hb4.mono BW.size)
    clear hb4
    go_wp2_with fail
    refine (refIsName s _).mono ?_
    rintro e w5 ⟨rfl, rfl⟩
    have hq : (nameB s == nameB s) = true := by simp
    go_wp2_with fail
    refine (lwListBad _).mono ?_
    rintro e w6 ⟨rfl, hb6⟩
    replace BW := BW.trans (hb6.mono BW.size)
    clear hb6
    go_wp2
    go_ret
    exact ⟨by simp, BW⟩
end Go.Proofs.YtlhnhkfkbmfikaaGreatDoor

/- What the netting rows list of the library's tables: a world that reads so; what the shape of a world says of MaxLen; arguments opened. -/
namespace Go.Proofs.YtlhnhkfkbmfikaaGreatDoor
open Go.ChangeShapes Go.WideShapes Go.ChangeAt Go.WideMaps Go.WideElems Go.RowKit

def naLaid : List (String × DataW Unit) := [("math/bits.deBruijn32tab", Rows.laid_math_bits_deBruijn32tab), ("math/bits.deBruijn64tab", Rows.laid_math_bits_deBruijn64tab), ("internal/strconv.uint64pow10", Rows.laid_internal_strconv_uint64pow10), ("unicode/utf8.acceptRanges", Rows.laid_unicode_utf8_acceptRanges), ("strconv.ErrRange", Rows.laid_strconv_ErrRange), ("strconv.ErrSyntax", Rows.laid_strconv_ErrSyntax), ("unicode/utf8.first", Rows.laid_unicode_utf8_first)]
theorem Tryz.ownT : ownKnob Tryz.prog.godebug = none := by kernel_rfl
theorem Tryz.laidOutT : laidOutB Tryz.prog = true := by kernel_rfl
/-- A world that is laid so meets the condition. -/
theorem door_met (os : Os) (args : Array Value) : laidMetH Tryz.prog naLaid ((World.laidAll Tryz.prog os naLaid).forCall (fun _ _ => 0) ⟨#[], args, []⟩).memory := by
  rw [MakeChecks.laidMetH_plain _ _ _ (by kernel_rfl)]
  exact laidMet_laidAll _ (by kernel_rfl) (by kernel_rfl)
theorem laidLen_shaped {w : World} (h : w.ShapedOpen Tryz.prog) : LaidLen w :=
  cell_of_shapedOpen_int (t := 3) (zero := #[.int .i64 0]) h (of_decide_eq_true (by kernel_rfl)) (by kernel_rfl) rfl (by kernel_rfl) (by kernel_rfl) Tryz.underlying3
/-- A contract that may lean on the world's shape and on what the row lists. -/
theorem returns_and_shaped {H : Type} {enc : TypeId × Value → H} {a : Assume} {C : Checked} {os : Os} {f : FuncId} {fn : Func} {s : ChangeSpec} {conds : List PathCond} {apart fresh handsOn again : Bool} {X : World → Array Value → Prop}
    (hX : ∀ (w w' : World) (args : Array Value), w.heap = w'.heap → X w args → X w' args)
    (own : ownKnob C.prog.godebug = none) (started : os.Started) (noInit : C.prog.inits.idxOf? f = none) (hfn : C.prog.funcs[f]? = some fn)
    (witness : ∃ (w : World) (tape : Tape) (i : Input), w.os = os ∧ (w.forCall tape i).Shaped C.prog ∧ i.vars = [] ∧ Input.okWide C.prog (w.forCall tape i) .any w.heap.size f i ∧
      ((s.pre enc C.prog fn conds apart (w.forCall tape i).memory i.args ∧ X (w.forCall tape i).memory i.args) ∧ sizedMet enc C.prog fn (OpenSpec.ofChange s) apart (w.forCall tape i).memory i.args) ∧ a.holds C.prog (lone (Frame.enter C.prog f i.args .normal) [] (w.forCall tape i)))
    (contract : ∀ (W : World) (base : Nat) (args : Array Value) (ds gs : List (DataW H)) (before : List MemPlace),
      (∀ (j : Nat) t v, fn.params[j]? = some t → args[j]? = some v → Value.okWide C.prog W .any base t v) →
      DataW.Whole enc C.prog fn.params.toList s.vars apart W args.toList ds gs before → X W args → W.ShapedOpen C.prog →
      Calls C.prog f args W fun e W' => ∃ v, e = .returned v ∧ s.post enc C.prog fn apart fresh handsOn again W args v W') :
    ReturnsInHanded a C os f .any (fun w args => (s.pre enc C.prog fn conds apart w args ∧ X w args) ∧ sizedMet enc C.prog fn (OpenSpec.ofChange s) apart w args) (s.post enc C.prog fn apart fresh handsOn again) := by
  refine returnsInHanded_of_calls own started noInit witness ?_
  intro w tape i _ hsh _ hok hpre hholds
  obtain ⟨_, _, _, fn', hfn', _, _, _, _, hval⟩ := hok
  obtain rfl : fn' = fn := Option.some.inj (hfn'.symm.trans hfn)
  obtain ⟨⟨⟨ds, gs, before, hw, hc⟩, hx⟩, hz⟩ := hpre
  refine (contract (w.forCall tape i) w.heap.size i.args ds gs before hval (DataW.Whole.of_heap (w' := w.forCall tape i) (by rfl) hw) (hX _ _ _ (by rfl) hx) hsh).mono fun e W' ⟨v, he, hp⟩ => ?_
  subst he
  exact ChangeSpec.post_blind hp
set_option maxRecDepth 100000 in
theorem cell_intT {w : World} {r : Reach} {b0 : Nat} {k : IntKind} {t : TypeId} {v : Value} (ht : Tryz.prog.underlying t = some (.int k)) (h : Cell.okWide Tryz.prog w r b0 t v) : ∃ n, v = .int k n ∧ k.has n := by
  simp only [Cell.okWide, ht] at h
  cases v <;> simp_all [Cell.ok]
set_option maxRecDepth 100000 in
theorem cell_strT {w : World} {r : Reach} {b0 : Nat} {v : Value} (h : Cell.okWide Tryz.prog w r b0 9 v) : ∃ s, v = .string s := by
  have ht := Tryz.underlying9
  simp only [Cell.okWide, ht] at h
  cases v <;> simp_all [Cell.ok]
set_option maxRecDepth 100000 in
theorem open_strv {w : World} {r : Reach} {b0 : Nat} {v : Value} (h : Value.okWide Tryz.prog w r b0 9 v) : ∃ s, v = .string s := by
  have hS := Tryz.underlying9
  simp only [Value.okWide, hS] at h
  exact cell_strT h
set_option maxRecDepth 100000 in
theorem open_intv {w : World} {r : Reach} {b0 : Nat} {v : Value} (h : Value.okWide Tryz.prog w r b0 3 v) : ∃ n, v = .int .i64 n ∧ -9223372036854775808 ≤ n ∧ n ≤ 9223372036854775807 := by
  have hS := Tryz.underlying3
  simp only [Value.okWide, hS] at h
  obtain ⟨n, rfl, hn⟩ := cell_intT hS h
  simp only [IntKind.has, IntKind.min, IntKind.max, IntKind.signed, IntKind.bits] at hn
  refine ⟨n, rfl, ?_, ?_⟩ <;> simp at hn <;> omega
end Go.Proofs.YtlhnhkfkbmfikaaGreatDoor

namespace Go.Proofs.YtlhnhkfkbmfikaaGreatDoor
open Go.ChangeShapes Go.WideShapes Go.ChangeAt Go.WideMaps Go.WideElems Go.RowKit

set_option maxRecDepth 100000 in
theorem names_lifted (os : Os) (started : os.Started) (H : Type) (enc : TypeId × Value → H) :
    ReturnsInHanded {} Tryz.checked os 3 .any (fun w args => (Rows.nettingNamesSpec.pre enc Tryz.prog Tryz.f3 [] false w args ∧ laidMetH Tryz.prog naLaid w) ∧ sizedMet enc Tryz.prog Tryz.f3 (OpenSpec.ofChange Rows.nettingNamesSpec) false w args)
      (Rows.nettingNamesSpec.post enc Tryz.prog Tryz.f3 false true false false) := by
  refine returns_and_shaped (C := Tryz.checked) (X := fun w _ => laidMetH Tryz.prog naLaid w) (fun _ _ _ hh h => h.of_heap hh) Tryz.ownT started (by kernel_rfl) Tryz.func3
    (ChangeSpec.witness_shaped (enc := enc) (C := Tryz.checked) (os := os) (X := fun w _ => laidMetH Tryz.prog naLaid w) false (World.laidAll Tryz.prog os naLaid) #[.string ByteArray.empty, .int .i64 0, .int .i64 0] 8 (World.laidAll_os _ _ _) (World.shaped_of_ZipB (by kernel_rfl) (by kernel_rfl)) (by kernel_rfl) (by kernel_rfl) (by kernel_rfl) (door_met os _)) ?_
  intro W base args ds gs before hval0 hW _ hSh
  have hval : ∀ (j : Nat) t v, Tryz.f3.params[j]? = some t → args[j]? = some v → Value.okWide Tryz.prog W .any base t v := hval0
  have hW' := hW
  obtain ⟨p, q, hA0, hV, rfl, hfz, hnd⟩ := hW
  have hA : DataW.TrodAll enc Tryz.prog W 0 (fun _ => true) true Tryz.f3.params.toList args.toList ds p := hA0
  rw [Tryz.params3] at hA hval
  obtain ⟨v0, v1, v2, d0, d1, d2, p0, p1, p2, rfl, rfl, rfl, h0, h1, h2⟩ := trodAll_three hA
  obtain ⟨rfl, rfl⟩ := trodVars_none hV
  clear hA0 hval0
  simp only [List.append_nil] at hW'
  have hlt : ∀ x ∈ p0 ++ p1 ++ p2, x.block < W.heap.size := fun x hx => by simpa using hW'.lt x hx
  obtain ⟨z00, rfl⟩ := open_strv (hval 0 9 v0 rfl rfl)
  obtain ⟨z10, rfl, b10, b11⟩ := open_intv (hval 1 3 v1 rfl rfl)
  obtain ⟨z20, rfl, b20, b21⟩ := open_intv (hval 2 3 v2 rfl rfl)
  have harg0 : ∀ (W' : World), Below W.heap.size W W' → DataW.Trod enc Tryz.prog W' 0 (fun b => decide (b < W.heap.size)) true 9 (.string z00) d0 p0 :=
    fun W' hn => Below.trod Tryz.laidOutT (by kernel_rfl) (of_decide_eq_true (by kernel_rfl)) h0 hn (fun x hx => hlt x (List.mem_append_left _ (List.mem_append_left _ hx)))
  have harg1 : ∀ (W' : World), Below W.heap.size W W' → DataW.Trod enc Tryz.prog W' 0 (fun b => decide (b < W.heap.size)) true 3 (.int .i64 z10) d1 p1 :=
    fun W' hn => Below.trod Tryz.laidOutT (by kernel_rfl) (of_decide_eq_true (by kernel_rfl)) h1 hn (fun x hx => hlt x (List.mem_append_left _ (List.mem_append_right _ hx)))
  have harg2 : ∀ (W' : World), Below W.heap.size W W' → DataW.Trod enc Tryz.prog W' 0 (fun b => decide (b < W.heap.size)) true 3 (.int .i64 z20) d2 p2 :=
    fun W' hn => Below.trod Tryz.laidOutT (by kernel_rfl) (of_decide_eq_true (by kernel_rfl)) h2 hn (fun x hx => hlt x (List.mem_append_right _ hx))
  refine (lawNames z00 z10 z20 W (laidLen_shaped hSh)).mono fun e W' ⟨he, hb⟩ => ?_
  subst he
  refine ⟨_, rfl, _, _, _, [], p0 ++ p1 ++ p2, [], hW', ?_, by rw [List.append_assoc]; exact trodAll_mk3 (harg0 W' hb) (harg1 W' hb) (harg2 W' hb), rfl, hb.frame _, fun h => by cases h⟩
  exact trodAll_mk1 (shut_bool Tryz.underlying4 true)
theorem names_holds : Rows.NettingNamesSaid :=
  OpenClaim.holds_of_wide 3 Tryz.f3 rfl rfl rfl rfl rfl rfl rfl ⟨rfl, rfl, rfl, rfl, rfl⟩ rfl rfl rfl rfl rfl (by kernel_rfl) Tryz.func3 (by kernel_rfl)
    (of_decide_eq_true (by kernel_rfl)) (by unfold Func.isWrapper; first | (rw [if_pos (by decide +kernel)]; kernel_rfl) | (rw [if_neg (by decide +kernel)]; exact ⟨rfl, rfl⟩))
    (fun os started H enc _ => names_lifted os started H enc)
theorem names_card : Rows.NettingNamesCardSaid :=
  Claim7.holds_tied_plain_at .later [] [.data, .data, .data, .data, .sentinel, .sentinel, .pinned] true (true, "d25e74aebab60d4348c9056071da7e6b3d7ec668e3ea85049f269b2d1d6994dd") true
    names_holds (fun _ h => by cases h) (by kernel_rfl) (fun _ h => by cases h) nettingNames_row_tie rfl ⟨rfl, rfl⟩ (by kernel_rfl) rfl
    (fun f fn hf hfn => by
      obtain rfl : f = 3 := Option.some.inj ((show Tryz.prog.funcNamed "codend/codendlaw01.NettingNames" = some 3 by kernel_rfl).symm.trans hf) |>.symm
      obtain rfl : fn = Tryz.f3 := (Option.some.inj (Tryz.func3.symm.trans hfn)).symm
      exact ⟨by kernel_rfl, fun j t ht => by
        rw [Tryz.params3] at ht
        have hm : t ∈ [9, 3, 3] := by simpa using Array.mem_of_getElem? ht
        have hall : ([9, 3, 3].all fun u => !Tryz.prog.wantsStandIn u) = true := by kernel_rfl
        exact (show Tryz.prog.wantsStandIn t = false by simpa using List.all_eq_true.1 hall t hm)⟩)
    (by kernel_rfl)
#print axioms names_card
end Go.Proofs.YtlhnhkfkbmfikaaGreatDoor
