/- Helpers: N7. -/
import Derived.Test.YtfmfpnnglogkmaaGreatDoorN6
import Derived.Test.YtfmfpnnglogkmaaGreatDoorCards
import Derived.Test.YtfmfpnnglogkmaaGreatDoorTie
import Derived.ProofKit
import Derived.LaidMore
import Derived.LaidLaws
import Derived.OpenShut
import Derived.Stop.Joined
import Derived.SevenTiedAt
/- The walk of TaperNearest where the ratio or the number is wrong. -/
namespace Go.Proofs.YtfmfpnnglogkmaaGreatDoor
open Go.RowKit Go.Shelf Ck

set_option maxHeartbeats 4000000 in
set_option maxRecDepth 100000 in
theorem lawNearestN (x y z a b c d E R : Int) (w : World) (hE : tgtE x y z = E) (h0 : E ≠ 0) (hR : ratE x y = R) (hw : (R = E ∨ (R = 0 ∧ E = 3 ∧ (z < 1 ∨ (¬ z < 1 ∧ 64 < z)))) ) (hz : (¬ 24 < z) ∨ (24 < z ∧ ¬ z ≤ 64)) :
    Calls Tryz.prog 3 #[.agg #[.int .i64 x, .int .i64 y], .int .i64 z, .agg #[.int .i64 a, .int .i64 b, .int .i64 c, .int .i64 d]] w fun e w' => e = .returned (.bool true) ∧ Below w.heap.size w w' := by
  have ex0 : ∀ (a b : Value) (w : World), (Instr.extract (.tuple #[a, b]) 0).run Tryz.prog w = .ok a w := fun _ _ _ => by kernel_rfl
  have ex1 : ∀ (a b : Value) (w : World), (Instr.extract (.tuple #[a, b]) 1).run Tryz.prog w = .ok b w := fun _ _ _ => by kernel_rfl
  have HNB := Lib.hid (fun w => tpNeighboursNo x y z E w hE h0)
  have HCK := Lib.hid (fun w => tpCheckNeighboursNo x y z a b c d E w hE h0)
  have HNE := Lib.hid (fun w => tpNearestNo x y z E w hE h0)
  have HR := Lib.hid hR
  obtain ⟨w1, hw1, k0, k1, hb1, hz1⟩ := box24 w (.int .i64 x) (.int .i64 y) 23 26 (.int .i64 a) (.int .i64 b) (.int .i64 c) (.int .i64 d)
  have HW1 := Lib.hid hw1
  have L1 : LawTF w x y a b c d w1 := ⟨k0, k1, hb1⟩
  have hne : (E == 0) = false := by rw [beq_eq_false_iff_ne]; exact h0
  have H0 := Lib.hid h0
  have HE := Lib.hid hE
  clear hw1 hz1 k0 k1 hb1 hE hR h0
  have hw' : (R = E) ∨ (R = 0 ∧ E = 3 ∧ z < 1) ∨ (R = 0 ∧ E = 3 ∧ ¬ z < 1 ∧ 64 < z) := by omega
  clear hw
  go_enter Tryz.func3, Tryz.ntmps3
  go_wp2_with fail
  rw [← HW1.out]
  refine (awake2 _).mono ?_
  rintro e' w2 ⟨rfl, hb2⟩
  have L2 := L1.below hb2
  clear L1 hb2
  obtain ⟨c0, c1, -, -⟩ := two_cell L2.r
  rcases hz with hz | ⟨hz, hz2⟩
  all_goals
    go_wp2_with fail
    refine (HNB.out _).mono ?_
    rintro e' w3 ⟨rfl, hb3⟩
    have L3 := L2.below hb3
    clear L2 hb3 c0 c1
    obtain ⟨w4, hw4, hN4, hb4⟩ := boxB w3 (.cells #[.int .i64 0, .int .i64 0, .int .i64 0, .int .i64 0] 29)
    have hw4' := hw4.symm
    have L4 := L3.below hb4
    have hgN2 : w.heap.size + 1 < w3.heap.size := by have := (Array.getElem?_eq_some_iff.1 L3.l).1; omega
    obtain ⟨gN, hgN⟩ : ∃ g, w3.heap.size = g := ⟨_, rfl⟩
    rw [hgN] at hN4 hgN2
    obtain ⟨⟨n0, n1, n2, n3⟩, f0, f1, f2, f3⟩ := four_cell hN4
    obtain ⟨s3, s4⟩ := four_set hN4 (.int .i64 0) (.int .i64 0) (.int .i64 0) (.int .i64 0)
    obtain ⟨W, hW⟩ : ∃ W, ((((w4.setCell ⟨gN, 0, none⟩ (.int .i64 0)).setCell ⟨gN, 1, none⟩ (.int .i64 0)).setCell ⟨gN, 2, none⟩ (.int .i64 0)).setCell ⟨gN, 3, none⟩ (.int .i64 0)) = W := ⟨_, rfl⟩
    rw [hW] at s3 s4
    have LW : LawTF w x y a b c d W := ⟨(s4.block _ (Array.getElem?_eq_some_iff.1 L4.r).1 (fun e => by injection e; omega)).trans L4.r, (s4.block _ (Array.getElem?_eq_some_iff.1 L4.l).1 (fun e => by injection e; omega)).trans L4.l, L4.b.grown s4 L4.b.size (fun j e => by cases e; omega)⟩
    clear L3 L4 hb4 hw4 hN4 s4
    obtain ⟨c0, c1, -, -⟩ := two_cell LW.r
    obtain ⟨⟨d0, d1, d2, d3⟩, -, -, -, -⟩ := four_cell LW.l
    go_wp2_with fail
    clear hw4' hW n0 n1 n2 n3 f0 f1 f2 f3
    refine (HCK.out _).mono ?_
    rintro e' w5 ⟨rfl, hb5⟩
    have L5 := LW.below hb5
    have hN5 := (hb5.block _ (Array.getElem?_eq_some_iff.1 s3).1).trans s3
    clear LW hb5 s3 c0 c1 d0 d1 d2 d3
    obtain ⟨c0, c1, -, -⟩ := two_cell L5.r
    go_wp2_with fail
    refine (HNE.out _).mono ?_
    rintro e' w6 ⟨rfl, hb6⟩
    have L6 := L5.below hb6
    have hN6 := (hb6.block _ (Array.getElem?_eq_some_iff.1 hN5).1).trans hN5
    clear L5 hb6 hN5 c0 c1
    obtain ⟨c0, c1, -, -⟩ := two_cell L6.r
    go_wp2_with fail
    refine (rfCheckRatio _ _ _).mono ?_
    rintro e' w7 ⟨rfl, hb7⟩
    rw [HR.out]
    have L7 := L6.below hb7
    have hN7 := (hb7.block _ (Array.getElem?_eq_some_iff.1 hN6).1).trans hN6
    clear L6 hb7 hN6 c0 c1
    obtain ⟨w8, hw8, hR8, hb8⟩ := boxB w7 (.cells #[.int .i64 0, .int .i64 0, .int .i64 0, .int .i64 0] 26)
    have hw8' := hw8.symm
    have hN8 := (hb8.block _ (Array.getElem?_eq_some_iff.1 hN7).1).trans hN7
    have B8 := L7.b.trans (hb8.mono L7.b.size)
    obtain ⟨gR, hgR⟩ : ∃ g, w7.heap.size = g := ⟨_, rfl⟩
    rw [hgR] at hR8
    have z1 := (Array.getElem?_eq_some_iff.1 hN8).1
    have z2 := (Array.getElem?_eq_some_iff.1 hR8).1
    obtain ⟨n0, n1, n2, n3⟩ := four_atN hN8
    obtain ⟨r0, r1, r2, r3⟩ := four_atN hR8
    clear L7 hb8 hw8 hN7 hN8 hR8
    have gq := guardPartsR
    have hq := fun w => eqPartsR 0 0 0 0 w
    rcases hw' with rfl | ⟨rfl, rfl, g1⟩ | ⟨rfl, rfl, g1, g2⟩
    all_goals
      go_wp2_with fail
      all_goals
        clear hw8'
        go_region_held3 (fun w' => (w'.cell? ⟨gN, 0, none⟩ = some (.int .i64 0) ∧ w'.cell? ⟨gN, 1, none⟩ = some (.int .i64 0) ∧ w'.cell? ⟨gN, 2, none⟩ = some (.int .i64 0) ∧ w'.cell? ⟨gN, 3, none⟩ = some (.int .i64 0)) ∧ (w'.cell? ⟨gR, 0, none⟩ = some (.int .i64 0) ∧ w'.cell? ⟨gR, 1, none⟩ = some (.int .i64 0) ∧ w'.cell? ⟨gR, 2, none⟩ = some (.int .i64 0) ∧ w'.cell? ⟨gR, 3, none⟩ = some (.int .i64 0)) ∧ (gN < w'.heap.size ∧ gR < w'.heap.size) ∧ Below w.heap.size w w')
          (first | exact ⟨⟨n0, n1, n2, n3⟩, ⟨r0, r1, r2, r3⟩, ⟨z1, z2⟩, below_drew B8⟩ | exact keep8N (by assumption) (by assumption) | assumption | go_keep)
          (first
            | (go_at_call 15; refine (lawParts _ _ _ _ _).mono ?_; rintro e' w' ⟨rfl, hbq⟩)
            | (go_at_call 16; refine (lawText ⟨#[]⟩ ⟨#[]⟩ _ _ (fun _ => rfl) (fun _ => rfl)).mono ?_; rintro e' w' ⟨rfl, rfl⟩))
        all_goals go_wp2
        all_goals go_ret
        all_goals
          rename_i hH
          exact ⟨rfl, hH.2.2.2⟩
set_option maxHeartbeats 1000000 in
set_option maxRecDepth 100000 in
theorem lawNearestA (x y z a b c d : Int) (w : World) (h1 : 24 < z) (h2 : z ≤ 64) :
    Calls Tryz.prog 3 #[.agg #[.int .i64 x, .int .i64 y], .int .i64 z, .agg #[.int .i64 a, .int .i64 b, .int .i64 c, .int .i64 d]] w fun e w' => e = .returned (.bool true) ∧ Below w.heap.size w w' := by
  obtain ⟨w1, hw1, k0, k1, hb1, hz1⟩ := box24 w (.int .i64 x) (.int .i64 y) 23 26 (.int .i64 a) (.int .i64 b) (.int .i64 c) (.int .i64 d)
  have HW1 := Lib.hid hw1
  clear hw1 hz1 k0 k1
  go_enter Tryz.func3, Tryz.ntmps3
  go_wp2_with fail
  rw [← HW1.out]
  refine (awake2 _).mono ?_
  rintro e' w2 ⟨rfl, hb2⟩
  go_wp2_with fail
  refine (awake2 _).mono ?_
  rintro e' w3 ⟨rfl, hb3⟩
  go_wp2
  go_ret
  exact ⟨rfl, (hb1.trans (hb2.mono hb1.size)).trans (hb3.mono (Nat.le_trans hb1.size hb2.size))⟩
theorem lawNearest (x y z a b c d : Int) (w : World) :
    Calls Tryz.prog 3 #[.agg #[.int .i64 x, .int .i64 y], .int .i64 z, .agg #[.int .i64 a, .int .i64 b, .int .i64 c, .int .i64 d]] w fun e w' => e = .returned (.bool true) ∧ Below w.heap.size w w' := by
  by_cases hA : 24 < z ∧ z ≤ 64
  · exact lawNearestA x y z a b c d w hA.1 hA.2
  by_cases hT : tgtE x y z = 0
  · obtain ⟨P, D, n, p, e, f, g, h, S, rfl, rfl, rfl, hn1, hn2, F⟩ := ne_facts x y z a b c d hT
    exact lawNearestY P D n a b c d p e f g h S w F hn1 (by omega)
  · refine lawNearestN x y z a b c d _ _ w rfl hT rfl ?_ (by omega)
    by_cases hR : ratE x y = 0
    · right
      have e1 : tgtE x y z = rngE z 1 64 := by
        rw [tgtE]
        simp only [firstE, if_pos hR]
        by_cases k : rngE z 1 64 = 0
        · rw [if_pos k, k]
        · rw [if_neg k]
      rw [e1] at hT ⊢
      unfold rngE at hT ⊢
      by_cases k : z < 1 ∨ 64 < z
      · rw [if_pos k]
        exact ⟨hR, rfl, by omega⟩
      · rw [if_neg k] at hT
        exact absurd rfl hT
    · left
      rw [tgtE]
      simp only [firstE, if_neg hR]
/-- As the closing text gives the arguments. -/
theorem lawNearestO (x y z : Int) (a b c d : Int) (w : World) (_ : -9223372036854775808 ≤ z) (_ : z ≤ 9223372036854775807) :
    Calls Tryz.prog 3 #[.agg #[.int .i64 x, .int .i64 y], .int .i64 z, .agg #[.int .i64 a, .int .i64 b, .int .i64 c, .int .i64 d]] w fun e w' => e = .returned (.bool true) ∧ Below w.heap.size w w' := lawNearest x y z a b c d w
end Go.Proofs.YtfmfpnnglogkmaaGreatDoor

/- What the rows of this seat list of the library's tables: a world that reads so. -/
namespace Go.Proofs.YtfmfpnnglogkmaaGreatDoor
open Go.ChangeShapes Go.WideShapes Go.ChangeAt Go.WideMaps Go.WideElems Go.RowKit

def taLaid {H : Type} : List (String × DataW H) := [("math/bits.deBruijn32tab", Rows.laid_math_bits_deBruijn32tab), ("math/bits.deBruijn64tab", Rows.laid_math_bits_deBruijn64tab), ("internal/strconv.uint64pow10", Rows.laid_internal_strconv_uint64pow10)]
theorem Tryz.ownT : ownKnob Tryz.prog.godebug = none := by kernel_rfl
theorem Tryz.laidOutT : laidOutB Tryz.prog = true := by kernel_rfl
/-- The door's own heap meets the condition. -/
theorem door_met (os : Os) (args : Array Value) : laidMetH Tryz.prog taLaid ((World.doorLaid Tryz.prog 400 os).forCall (fun _ _ => 0) ⟨#[], args, []⟩).memory :=
  laidMetH_of_parts3 (fuel := 8) (laidMet_of_run' 8 (by kernel_rfl) (by kernel_rfl)) (by kernel_rfl) (by kernel_rfl)
end Go.Proofs.YtfmfpnnglogkmaaGreatDoor

/- Arguments opened: numbers, strings and the structs of chapter 2's statements. -/
namespace Go.Proofs.YtfmfpnnglogkmaaGreatDoor
open Go.ChangeShapes Go.WideShapes Go.ChangeAt Go.WideMaps Go.WideElems Go.RowKit

set_option maxRecDepth 100000 in
theorem cell_intT {w : World} {r : Reach} {b0 : Nat} {k : IntKind} {t : TypeId} {v : Value} (ht : Tryz.prog.underlying t = some (.int k)) (h : Cell.okWide Tryz.prog w r b0 t v) : ∃ n, v = .int k n ∧ k.has n := by
  simp only [Cell.okWide, ht] at h
  cases v <;> simp_all [Cell.ok]
set_option maxRecDepth 100000 in
theorem cell_strT {w : World} {r : Reach} {b0 : Nat} {v : Value} (h : Cell.okWide Tryz.prog w r b0 9 v) : ∃ s, v = .string s := by
  have ht := Tryz.underlying9
  simp only [Cell.okWide, ht] at h
  cases v <;> simp_all [Cell.ok]
set_option maxRecDepth 100000 in
theorem cell_boolT {w : World} {r : Reach} {b0 : Nat} {v : Value} (h : Cell.okWide Tryz.prog w r b0 4 v) : ∃ s, v = .bool s := by
  have ht := Tryz.underlying4
  simp only [Cell.okWide, ht] at h
  cases v <;> simp_all [Cell.ok]
set_option maxRecDepth 100000 in
theorem open_ratio {w : World} {r : Reach} {b0 : Nat} {v : Value} (h : Value.okWide Tryz.prog w r b0 23 v) : ∃ x y, v = .agg #[.int .i64 x, .int .i64 y] := by
  have hS : Tryz.prog.underlying 23 = some (.struct (Tryz.prog.fieldsOf 23)) := by kernel_rfl
  have hC : Tryz.prog.cellsOf 23 = 2 := by kernel_rfl
  simp only [Value.okWide, hS] at h
  obtain ⟨cs, rfl, hsz, hr⟩ := h
  rw [hC] at hsz
  obtain ⟨ts, hts, -, hrow⟩ := hr
  have ht : Tryz.prog.cellTypes Tryz.prog.depth 23 = some [3, 3] := by kernel_rfl
  rw [ht] at hts
  cases hts
  obtain ⟨l⟩ := cs
  match l, hsz with
  | [c0, c1], _ =>
    obtain ⟨u0, hu0, h0⟩ := hrow 0 c0 rfl
    obtain ⟨u1, hu1, h1⟩ := hrow 1 c1 rfl
    simp at hu0 hu1
    subst hu0 hu1
    obtain ⟨a, rfl, -⟩ := cell_intT Tryz.underlying3 h0
    obtain ⟨b, rfl, -⟩ := cell_intT Tryz.underlying3 h1
    exact ⟨a, b, rfl⟩
set_option maxRecDepth 100000 in
theorem open_knot {w : World} {r : Reach} {b0 : Nat} {v : Value} (h : Value.okWide Tryz.prog w r b0 43 v) : ∃ x y, v = .agg #[.int .i64 x, .int .i64 y] := by
  have hS : Tryz.prog.underlying 43 = some (.struct (Tryz.prog.fieldsOf 43)) := by kernel_rfl
  have hC : Tryz.prog.cellsOf 43 = 2 := by kernel_rfl
  simp only [Value.okWide, hS] at h
  obtain ⟨cs, rfl, hsz, hr⟩ := h
  rw [hC] at hsz
  obtain ⟨ts, hts, -, hrow⟩ := hr
  have ht : Tryz.prog.cellTypes Tryz.prog.depth 43 = some [3, 3] := by kernel_rfl
  rw [ht] at hts
  cases hts
  obtain ⟨l⟩ := cs
  match l, hsz with
  | [c0, c1], _ =>
    obtain ⟨u0, hu0, h0⟩ := hrow 0 c0 rfl
    obtain ⟨u1, hu1, h1⟩ := hrow 1 c1 rfl
    simp at hu0 hu1
    subst hu0 hu1
    obtain ⟨a, rfl, -⟩ := cell_intT Tryz.underlying3 h0
    obtain ⟨b, rfl, -⟩ := cell_intT Tryz.underlying3 h1
    exact ⟨a, b, rfl⟩
set_option maxRecDepth 100000 in
theorem open_edge {w : World} {r : Reach} {b0 : Nat} {v : Value} (h : Value.okWide Tryz.prog w r b0 45 v) : ∃ s n o, v = .agg #[.string s, .int .i64 n, .bool o] := by
  have hS : Tryz.prog.underlying 45 = some (.struct (Tryz.prog.fieldsOf 45)) := by kernel_rfl
  have hC : Tryz.prog.cellsOf 45 = 3 := by kernel_rfl
  simp only [Value.okWide, hS] at h
  obtain ⟨cs, rfl, hsz, hr⟩ := h
  rw [hC] at hsz
  obtain ⟨ts, hts, -, hrow⟩ := hr
  have ht : Tryz.prog.cellTypes Tryz.prog.depth 45 = some [9, 3, 4] := by kernel_rfl
  rw [ht] at hts
  cases hts
  obtain ⟨l⟩ := cs
  match l, hsz with
  | [c0, c1, c2], _ =>
    obtain ⟨u0, hu0, h0⟩ := hrow 0 c0 rfl
    obtain ⟨u1, hu1, h1⟩ := hrow 1 c1 rfl
    obtain ⟨u2, hu2, h2⟩ := hrow 2 c2 rfl
    simp at hu0 hu1 hu2
    subst hu0 hu1 hu2
    obtain ⟨a, rfl⟩ := cell_strT h0
    obtain ⟨b, rfl, -⟩ := cell_intT Tryz.underlying3 h1
    obtain ⟨c, rfl⟩ := cell_boolT h2
    exact ⟨a, b, c, rfl⟩
set_option maxRecDepth 100000 in
theorem open_strv {w : World} {r : Reach} {b0 : Nat} {v : Value} (h : Value.okWide Tryz.prog w r b0 9 v) : ∃ s, v = .string s := by
  have hS := Tryz.underlying9
  simp only [Value.okWide, hS] at h
  exact cell_strT h
set_option maxRecDepth 100000 in
theorem open_intv {w : World} {r : Reach} {b0 : Nat} {v : Value} (h : Value.okWide Tryz.prog w r b0 3 v) : ∃ n, v = .int .i64 n ∧ -9223372036854775808 ≤ n ∧ n ≤ 9223372036854775807 := by
  have hS := Tryz.underlying3
  simp only [Value.okWide, hS] at h
  obtain ⟨n, rfl, hn⟩ := cell_intT hS h
  simp only [IntKind.has, IntKind.min, IntKind.max, IntKind.signed, IntKind.bits] at hn
  refine ⟨n, rfl, ?_, ?_⟩ <;> simp at hn <;> omega
set_option maxRecDepth 100000 in
theorem open_bytev {w : World} {r : Reach} {b0 : Nat} {v : Value} (h : Value.okWide Tryz.prog w r b0 5 v) : ∃ n, v = .int .u8 n ∧ 0 ≤ n ∧ n < 256 := by
  have hS := Tryz.underlying5
  simp only [Value.okWide, hS] at h
  obtain ⟨n, rfl, hn⟩ := cell_intT hS h
  simp only [IntKind.has, IntKind.min, IntKind.max, IntKind.signed, IntKind.bits] at hn
  refine ⟨n, rfl, ?_, ?_⟩ <;> simp at hn <;> omega
end Go.Proofs.YtfmfpnnglogkmaaGreatDoor
