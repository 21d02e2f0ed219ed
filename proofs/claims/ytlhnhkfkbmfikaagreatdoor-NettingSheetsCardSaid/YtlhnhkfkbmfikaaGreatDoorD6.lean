/- Helpers, part 6. -/
import Derived.Test.YtlhnhkfkbmfikaaGreatDoorD5
import Derived.Test.YtlhnhkfkbmfikaaGreatDoorRows
import Derived.Shelf.Strconv.Itoa4
import Derived.BigQuiet
import Derived.Deep.AppendLies
import Derived.Deep.RegionHeld3
import Derived.BigRegionIn
import Derived.RangeFuncCalls
/- The calls of awake of chapter 1. -/
namespace Go.Proofs.YtlhnhkfkbmfikaaGreatDoor
open Go.RowKit Go.Shelf Ck

theorem net_of {l : List Bar} (h : netE l = 0) : Net l := ((netE_zero l).1 h).2
theorem S8_net : Net S8 := net_of (by decide +kernel)
theorem R12_net : Net R12 := net_of (by decide +kernel)
theorem U2_net : Net U2 := net_of (by decide +kernel)
def P16 : List Bar := sheetP 0 0 2 4
def A4 : List Bar := aroundL 2 2
theorem S8_sheet : sheetP 0 0 2 2 = S8 := by decide +kernel
theorem P16_net : Net P16 := net_of (by decide +kernel)
theorem A4_net : Net A4 := net_of (by decide +kernel)
theorem P16_len : P16.length = 16 := by decide +kernel
theorem A4_len : A4.length = 4 := by decide +kernel
theorem R12_minus : mergeM P16 A4 = R12 := by decide +kernel
theorem aw_turn : turnN 1 [⟨1, 1, -1⟩] = [⟨-2, 0, 1⟩] := by decide +kernel
theorem aw_mir : [(⟨2, 0, 1⟩ : Bar)].map mirB = [⟨-2, 0, -1⟩] := by decide +kernel
theorem aw_canon : canonL [⟨5, 3, 1⟩] = [⟨0, 0, -1⟩] := by decide +kernel
theorem aw_forms : ∀ j, j < 2 → ∀ q, q < 4 → Net (normL (turnN q (pickL [⟨5, 3, 1⟩] j))) := by
  have h : ∀ j, j < 2 → ∀ q, q < 4 → netE (normL (turnN q (pickL [⟨5, 3, 1⟩] j))) = 0 := by decide +kernel
  exact fun j hj q hq => net_of (h j hj q hq)
theorem aw_draw : drawL 1 3 = [0, 2, 1] := by decide +kernel
theorem mget_four {m : List (Knot × Int)} (h : ∀ p ∈ m, p.2 ≤ 4) (k : Knot) : mget m k ≤ 4 := by
  induction m with
  | nil => simp [mget]
  | cons p r ih =>
    rw [mget]
    split
    · exact h p List.mem_cons_self
    · exact ih fun q hq => h q (List.mem_cons_of_mem _ hq)
theorem row_new (w : World) (base : Nat) (hb : base ≤ w.heap.size) (l : List Bar) (hl : l.length ≤ 4096) : (w.alloc (.cells (bcellsL l).toArray 65)).ownsRow base 65 3 (.slice (some ⟨w.heap.size, 0, none⟩) l.length l.length) l.length (bcellsL l) :=
  ⟨bcellsL_length l, .inr ⟨w.heap.size, l.length, _, rfl, hb, heap_alloc_new _ _, Nat.le_refl _, by unfold maxLen; omega, by simp [bcellsL_length], by simp only [List.toList_toArray]; rw [List.take_of_length_le (by rw [bcellsL_length]; exact Nat.le_refl _)]⟩⟩
theorem oks_new (w : World) (l : List Bar) (hl : l.length ≤ 4096) (cs : Array Value) (hcs : cs = (bcellsL l).toArray) : OKS (w.alloc (.cells cs 65)) (some ⟨w.heap.size, 0, none⟩) l.length l := by
  subst hcs
  exact ⟨Nat.le_refl _, by unfold maxLen; omega, (fun h => by cases h), RB.of_own (row_new w w.heap.size (Nat.le_refl _) l hl)⟩
/-- The example's small sheet. -/
theorem awSmall (w : World) : Calls Tryz.prog 17 #[] w fun e w' => ∃ a c, e = .returned (.slice a S8.length c) ∧ OKS w' a c S8 ∧ Below w.heap.size w w' := by
  go_enter Tryz.func17, Tryz.ntmps17
  go_wp2
  go_ret
  exact ⟨_, _, rfl, oks_new w S8 (by decide) _ rfl, (Below.refl _ _).alloc (Nat.le_refl _) _⟩
theorem awSheet (c r : Nat) (l : List Bar) (hl : sheetP 0 0 c r = l) (hE : sheetE 0 0 c r = 0) (w : World) :
    Calls Tryz.prog 13 #[.agg #[.int .i64 0, .int .i64 0], .int .i64 c, .int .i64 r] w (PairPost l w) := by
  subst hl
  exact (netSheet 0 0 c r w hE).mono fun e w' ⟨v, he, hrow, hb⟩ => by
    obtain ⟨a, c', rfl, ho⟩ := own_oks hrow
    exact ⟨a, c', he, ho, hb⟩
theorem awKnots (a : Option Addr) (c : Nat) (w : World) (h : OKS w a c S8) : Calls Tryz.prog 16 #[.slice a S8.length c] w fun e w' => ∃ a' c', e = .returned (.tuple #[.slice a' 8 c', .int .i64 0]) ∧ Below w.heap.size w w' :=
  (netKnots a c S8 w (by decide) h.1 h.2.1 S8_net h.2.2.2).mono fun e w' ⟨v, ks, he, hn, hm, hrow, hb⟩ => by
    have hl : ks.length = 8 := (nK_eq hn hm).trans S8_nK
    obtain ⟨a', c', rfl, -⟩ := own_slice hrow
    rw [hl] at he
    exact ⟨a', c', he, hb⟩
theorem awLegs (a : Option Addr) (c : Nat) (w : World) (h : OKS w a c S8) : Calls Tryz.prog 18 #[.slice a S8.length c] w fun e w' => e = .returned (.tuple #[.agg #[.int .i64 0, .int .i64 4, .int .i64 2, .int .i64 0, .int .i64 2], .int .i64 0]) ∧ Below w.heap.size w w' :=
  (netLegs a c S8 w (by decide) h.1 h.2.1 S8_net (mget_four (by decide +kernel)) h.2.2.2).mono fun e w' ⟨⟨he, _⟩, hb⟩ => by
    have h0 : legN S8 0 = 0 := by decide +kernel
    have h1 : legN S8 1 = 4 := by decide +kernel
    have h2 : legN S8 2 = 2 := by decide +kernel
    have h3 : legN S8 3 = 0 := by decide +kernel
    have h4 : legN S8 4 = 2 := by decide +kernel
    rw [h0, h1, h2, h3, h4] at he
    exact ⟨he, hb⟩
theorem awMeshes (a : Option Addr) (c : Nat) (w : World) (h : OKS w a c S8) : Calls Tryz.prog 19 #[.slice a S8.length c] w fun e w' => ∃ g cap, e = .returned (.tuple #[.slice (some ⟨g, 0, none⟩) 1 cap, .int .i64 0]) ∧ g < w'.heap.size ∧ w'.cell? ⟨g, 0, none⟩ = some (.int .i64 2) ∧ w'.cell? ⟨g, 1, none⟩ = some (.int .i64 1) ∧ Below w.heap.size w w' :=
  (netMeshesAll a c S8 w (by decide) h.1 h.2.1 S8_net h.2.2.2).mono fun e w' ⟨v, he, hrow, hb⟩ => by
    have hm : meshCells (meshL S8 S8) = [.int .i64 2, .int .i64 1] := by kernel_rfl
    have hl : (meshL S8 S8).length = 1 := by decide +kernel
    rw [hm, hl] at hrow
    obtain ⟨g, cap, rfl, -, -, -, hg⟩ := own_form hrow (by decide)
    refine ⟨g, cap, he, hg, ?_, ?_, hb⟩
    · rw [hrow.cellAt 0 (by decide)]; rfl
    · rw [hrow.cellAt 1 (by decide)]; rfl
theorem awCount (l : List Bar) (k m p : Nat) (hN : Net l) (hl : l.length ≤ 4096) (hk : nK l = k) (hm : nM l = m) (hp : ∀ q, PartsIs l q → q = p) (a : Option Addr) (c : Nat) (w : World) (h : OKS w a c l) :
    Calls Tryz.prog 22 #[.slice a l.length c] w fun e w' => e = .returned (.tuple #[.agg #[.int .i64 (k : Int), .int .i64 (l.length : Int), .int .i64 (m : Int), .int .i64 (p : Int), .int .i64 ((l.length : Int) - (k : Int) + p - (m : Int))], .int .i64 0]) ∧ Below w.heap.size w w' :=
  (netCount a c l w hl h.1 h.2.1 hN h.2.2.2).mono fun e w' ⟨q, hq, he, hb⟩ => by
    rw [hk, hm, hp q hq] at he
    exact ⟨he, hb⟩
theorem awAround (w : World) : Calls Tryz.prog 24 #[.agg #[.int .i64 2, .int .i64 2]] w (PairPost A4 w) :=
  (netAround 2 2 w ((knotE_ok 2 2).1 (by decide +kernel))).mono fun e w' ⟨v, he, hrow, hb⟩ => by
    obtain ⟨a, c', rfl, ho⟩ := own_oks (l := A4) hrow
    exact ⟨a, c', he, ho, hb⟩
theorem awMinus (a a' : Option Addr) (c c' : Nat) (w : World) (h : OKS w a c P16) (h' : OKS w a' c' A4) : Calls Tryz.prog 25 #[.slice a P16.length c, .slice a' A4.length c'] w (PairPost R12 w) :=
  (netMinus a a' c c' P16 A4 w (by rw [P16_len]; decide) (by rw [A4_len]; decide) h.1 h.2.1 h'.1 h'.2.1 P16_net A4_net h.2.2.2 h'.2.2.2).mono fun e w' ⟨v, he, hrow, hb⟩ => by
    rw [R12_minus] at hrow
    obtain ⟨a, c', rfl, ho⟩ := own_oks hrow
    exact ⟨a, c', he, ho, hb⟩
theorem awTurn (a : Option Addr) (c : Nat) (w : World) (h : OKS w a c [⟨1, 1, -1⟩]) : Calls Tryz.prog 26 #[.slice a 1 c, .int .i64 1] w (PairPost [⟨-2, 0, 1⟩] w) :=
  (netTurn a c 1 [⟨1, 1, -1⟩] w (by decide) h.1 h.2.1 h.2.2.1 (net_of (by decide +kernel)) h.2.2.2).mono fun e w' ⟨v, he, hrow, hb⟩ => by
    rw [show ((((1 : Int).tmod 4 + 4).tmod 4).toNat) = 1 by decide, aw_turn] at hrow
    obtain ⟨a, c', rfl, ho⟩ := own_oks hrow
    exact ⟨a, c', he, ho, hb⟩
theorem awMirror (a : Option Addr) (c : Nat) (w : World) (h : OKS w a c [⟨2, 0, 1⟩]) : Calls Tryz.prog 27 #[.slice a 1 c] w (PairPost [⟨-2, 0, -1⟩] w) :=
  (netMirrorUp a c [⟨2, 0, 1⟩] w (by decide) h.1 h.2.1 (net_of (by decide +kernel)) (by simp) h.2.2.2).mono fun e w' ⟨v, he, hrow, hb⟩ => by
    rw [aw_mir] at hrow
    obtain ⟨a, c', rfl, ho⟩ := own_oks hrow
    exact ⟨a, c', he, ho, hb⟩
theorem awCanon (a : Option Addr) (c : Nat) (w : World) (h : OKS w a c [⟨5, 3, 1⟩]) : Calls Tryz.prog 28 #[.slice a 1 c] w (PairPost [⟨0, 0, -1⟩] w) :=
  (netCanonical a c [⟨5, 3, 1⟩] w (by decide) h.1 h.2.1 h.2.2.1 (net_of (by decide +kernel)) aw_forms h.2.2.2).mono fun e w' ⟨a', c', he, ho, hb⟩ => by
    rw [aw_canon] at he ho
    exact ⟨a', c', he, ho, hb⟩
theorem awParts (a : Option Addr) (c : Nat) (w : World) (h : OKS w a c U2) : Calls Tryz.prog 29 #[.slice a 2 c] w fun e w' => ∃ a' c', e = .returned (.tuple #[.slice a' 2 c', .int .i64 0]) ∧ Below w.heap.size w w' :=
  (netPartsAll a c U2 w (by decide) h.1 h.2.1 U2_net h.2.2.2).mono fun e w' ⟨n, a', c', hp, he, hb⟩ => by
    rw [U2_parts hp] at he
    exact ⟨a', c', he, hb⟩
theorem awDraw (w : World) : Calls Tryz.prog 6 #[.int .i64 1, .int .i64 3] w fun e w' => ∃ a c, e = .returned (.tuple #[.slice a 3 c, .int .i64 0]) ∧ RI w' w'.heap.size a [0, 2, 1] ∧ Below w.heap.size w w' :=
  (netDraw 1 3 w (by decide) (by decide) (by decide)).mono fun e w' ⟨v, he, hrow, hb⟩ => by
    rw [aw_draw] at hrow
    obtain ⟨a, c, rfl, ho⟩ := own_ri hrow
    exact ⟨a, c, he, ho, hb⟩
end Go.Proofs.YtlhnhkfkbmfikaaGreatDoor

/- The library's FormatInt laid at this program. -/
namespace Go.Proofs.YtlhnhkfkbmfikaaGreatDoor
open Go.Shelf
def Tryz.fmi_ren : Go.Shelf.Ren := ⟨fun | 246 => 111 | 283 => 133 | 284 => 134 | 285 => 135 | 286 => 136 | 129 => 131 | 317 => 158 | 318 => 159 | 319 => 160 | 320 => 161 | 337 => 177 | 338 => 178 | n => n, fun | 2 => 2 | 3 => 3 | 9 => 9 | 4 => 4 | 171 => 184 | 0 => 0 | 53 => 182 | 37 => 95 | 5 => 5 | 173 => 186 | 212 => 205 | 51 => 180 | 20 => 20 | 213 => 206 | 46 => 162 | 232 => 230 | 233 => 231 | n => n, fun | 17 => 0 | 18 => 4 | 19 => 5 | n => n⟩
theorem Tryz.fmi : Go.Proofs.Lays.n246 Tryz.prog Tryz.fmi_ren := {
  mixed := by kernel_rfl,
  f129 := Tryz.func131.trans (congrArg some (by kernel_rfl)),
  f246 := Tryz.func111.trans (congrArg some (by kernel_rfl)),
  f283 := Tryz.func133.trans (congrArg some (by kernel_rfl)),
  f284 := Tryz.func134.trans (congrArg some (by kernel_rfl)),
  f285 := Tryz.func135.trans (congrArg some (by kernel_rfl)),
  f286 := Tryz.func136.trans (congrArg some (by kernel_rfl)),
  f317 := Tryz.func158.trans (congrArg some (by kernel_rfl)),
  f318 := Tryz.func159.trans (congrArg some (by kernel_rfl)),
  f319 := Tryz.func160.trans (congrArg some (by kernel_rfl)),
  f320 := Tryz.func161.trans (congrArg some (by kernel_rfl)),
  f337 := Tryz.func177.trans (congrArg some (by kernel_rfl)),
  f338 := Tryz.func178.trans (congrArg some (by kernel_rfl)),
  t0 := Tryz.underlying0,
  a0 := Tryz.isAgg0,
  z0 := Tryz.sizeOf0,
  v0 := Tryz.zeroValue0,
  t2 := Tryz.underlying2,
  a2 := Tryz.isAgg2,
  z2 := Tryz.sizeOf2,
  v2 := Tryz.zeroValue2,
  t3 := Tryz.underlying3,
  a3 := Tryz.isAgg3,
  z3 := Tryz.sizeOf3,
  v3 := Tryz.zeroValue3,
  t4 := Tryz.underlying4,
  a4 := Tryz.isAgg4,
  z4 := Tryz.sizeOf4,
  v4 := Tryz.zeroValue4,
  t5 := Tryz.underlying5,
  a5 := Tryz.isAgg5,
  z5 := Tryz.sizeOf5,
  v5 := Tryz.zeroValue5,
  t9 := Tryz.underlying9,
  a9 := Tryz.isAgg9,
  z9 := Tryz.sizeOf9,
  v9 := Tryz.zeroValue9,
  t20 := Tryz.underlying20,
  a20 := Tryz.isAgg20,
  z20 := Tryz.sizeOf20,
  v20 := Tryz.zeroValue20,
  t37 := Tryz.underlying95,
  a37 := Tryz.isAgg95,
  z37 := Tryz.sizeOf95,
  v37 := Tryz.zeroValue95,
  t46 := Tryz.underlying162,
  a46 := Tryz.isAgg162,
  z46 := Tryz.sizeOf162,
  v46 := Tryz.zeroValue162,
  t51 := Tryz.underlying180,
  a51 := Tryz.isAgg180,
  z51 := Tryz.sizeOf180,
  v51 := Tryz.zeroValue180,
  t53 := Tryz.underlying182,
  a53 := Tryz.isAgg182,
  z53 := Tryz.sizeOf182,
  v53 := Tryz.zeroValue182,
  t171 := Tryz.underlying184,
  a171 := Tryz.isAgg184,
  z171 := Tryz.sizeOf184,
  v171 := Tryz.zeroValue184,
  t173 := Tryz.underlying186,
  a173 := Tryz.isAgg186,
  z173 := Tryz.sizeOf186,
  v173 := Tryz.zeroValue186,
  t212 := Tryz.underlying205,
  a212 := Tryz.isAgg205,
  z212 := Tryz.sizeOf205,
  v212 := Tryz.zeroValue205,
  t213 := Tryz.underlying206,
  a213 := Tryz.isAgg206,
  z213 := Tryz.sizeOf206,
  t232 := Tryz.underlying230,
  a232 := Tryz.isAgg230,
  z232 := Tryz.sizeOf230,
  v232 := Tryz.zeroValue230,
  t233 := Tryz.underlying231,
  a233 := Tryz.isAgg231,
  z233 := Tryz.sizeOf231,
  v233 := Tryz.zeroValue231,
  g17 := by kernel_rfl,
  g18 := by kernel_rfl,
  g19 := by kernel_rfl }
end Go.Proofs.YtlhnhkfkbmfikaaGreatDoor

/- Print of the example of chapter 1; equalities. -/
namespace Go.Proofs.YtlhnhkfkbmfikaaGreatDoor
open Go.RowKit Go.Shelf Ck

theorem Tryz.fmiF : Tryz.fmi_ren.f 246 = 111 := by kernel_rfl
theorem fmtInt (n : Nat) (hn : n < 100) (w : World) : Calls Tryz.prog 111 #[.int .i64 n, .int .i64 10] w fun e w' => e = .returned (.string ⟨(Lib.decDigits n).toArray⟩) ∧ w = w' := by
  have h := Any.internal_strconv_FormatInt_10_small Tryz.fmi n hn w
  rw [Tryz.fmiF] at h
  exact h.mono fun e w' ⟨a, b⟩ => ⟨a, b.symm⟩
theorem itoaI (n : Nat) (hn : n < 100) (w : World) : Calls Tryz.prog 82 #[.int .i64 n] w fun e w' => e = .returned (.string ⟨(Lib.decDigits n).toArray⟩) ∧ w = w' := by
  go_enter Tryz.func82, Tryz.ntmps82
  go_wp2_with fail
  refine (fmtInt n hn _).mono ?_
  rintro e w1 ⟨rfl, rfl⟩
  go_wp2
  go_ret
  exact ⟨rfl, rfl⟩
theorem itoaS (n : Nat) (hn : n < 100) (w : World) : Calls Tryz.prog 52 #[.int .i64 n] w fun e w' => e = .returned (.string ⟨(Lib.decDigits n).toArray⟩) ∧ w = w' := by
  go_enter Tryz.func52, Tryz.ntmps52
  go_wp2_with fail
  refine (itoaI n hn _).mono ?_
  rintro e w1 ⟨rfl, rfl⟩
  go_wp2
  go_ret
  exact ⟨rfl, rfl⟩
/-- The numerals of small numbers. -/
def digS (n : Int) : List UInt8 := Lib.decDigits n.toNat
def smallB (b : Bar) : Bool := decide (0 ≤ b.x ∧ b.x < 100 ∧ 0 ≤ b.y ∧ b.y < 100)
theorem digs_small {l : List Bar} (h : l.all smallB = true) (w : World) : Digs digS l w := by
  intro b hb n hn w' _
  have h1 : 0 ≤ b.x ∧ b.x < 100 ∧ 0 ≤ b.y ∧ b.y < 100 := by simpa [smallB] using List.all_eq_true.1 h b hb
  obtain ⟨k, rfl⟩ : ∃ k : Nat, n = (k : Int) := ⟨n.toNat, by omega⟩
  refine (itoaS k (by omega) w').mono fun e w'' ⟨he, hw⟩ => ⟨?_, hw ▸ Below.refl _ _⟩
  rw [he, digS, Int.toNat_natCast]
def T8 : List UInt8 := [48, 58, 32, 48, 47, 32, 50, 92, 32, 50, 47, 32, 52, 92, 10, 49, 58, 32, 49, 92, 32, 49, 47, 32, 51, 92, 32, 51, 47, 10]
theorem T8_print : printB digS S8 = T8 := by decide +kernel
theorem awPrint (a : Option Addr) (c : Nat) (w : World) (h : OKS w a c S8) : Calls Tryz.prog 20 #[.slice a S8.length c] w fun e w' => e = .returned (.tuple #[.string ⟨T8.toArray⟩, .int .i64 0]) ∧ Below w.heap.size w w' := by
  have hd : ∀ b ∈ S8, (digS b.x).length ≤ 7 ∧ (digS b.y).length ≤ 7 := by decide +kernel
  have := netPrint digS a c S8 w (by decide) h.1 h.2.1 S8_net h.2.2.2 hd (digs_small (by decide +kernel) w) (by rw [T8_print]; decide)
  rw [T8_print] at this
  exact this
set_option maxRecDepth 100000 in
theorem eqFive (a b c d e : Int) (w : World) : (Op.equalIn 10000 45 (.agg #[.int .i64 a, .int .i64 b, .int .i64 c, .int .i64 d, .int .i64 e]) (.agg #[.int .i64 a, .int .i64 b, .int .i64 c, .int .i64 d, .int .i64 e])).run Tryz.prog w = .ok true w := by
  have u3 := Tryz.underlying3
  have a3 := Tryz.isAgg3
  have z3 := Tryz.sizeOf3
  obtain ⟨i, hi, -, -, -⟩ := info_parts infoI
  have hc : Tryz.prog.cellsOf 3 = 1 := by kernel_rfl
  rw [show (10000 : Nat) = 9999 + 1 from rfl, run_equalIn_array w 9999 _ _ Tryz.underlying45 hi, hc, show List.range 5 = [0, 1, 2, 3, 4] from rfl]
  simp only [Op.eqItems]
  go_simp
theorem guardFive : Tryz.prog.eqGuardType Tryz.prog.depth 45 = false := by kernel_rfl
theorem eqMesh (a b : Int) (w : World) :
    (Op.equalIn 10000 60 (.agg #[.int .i64 a, .int .i64 b]) (.agg #[.int .i64 a, .int .i64 b])).run Tryz.prog w = .ok true w := by
  have u3 := Tryz.underlying3
  have a3 := Tryz.isAgg3
  have z3 := Tryz.sizeOf3
  have hS : Tryz.prog.underlying 60 = some (.struct (Tryz.prog.fieldsOf 60)) := by kernel_rfl
  have hp : Tryz.prog.stoodInHeld 60 = false := by kernel_rfl
  rw [show (10000 : Nat) = 9999 + 1 from rfl, run_equalIn_struct w 9999 60 _ _ hS hp]
  simp only [Program.fieldsOf, Tryz.underlying60]
  go_simp
theorem guardMesh : Tryz.prog.eqGuardType Tryz.prog.depth 60 = false := by kernel_rfl
theorem eqCountsSame (a b c d e : Int) (w : World) : (Op.equalIn 10000 56 (.agg #[.int .i64 a, .int .i64 b, .int .i64 c, .int .i64 d, .int .i64 e]) (.agg #[.int .i64 a, .int .i64 b, .int .i64 c, .int .i64 d, .int .i64 e])).run Tryz.prog w = .ok true w := eqCounts a b c d e a b c d e true (by simp) w
theorem boxO (w : World) (o : Obj) : ∃ w1, w.alloc o = w1 ∧ w1.heap[w.heap.size]? = some o ∧ Below w.heap.size w w1 ∧ w.heap.size < w1.heap.size :=
  ⟨_, rfl, heap_alloc_new _ _, (Below.refl _ _).alloc (Nat.le_refl _) _, by simp⟩
/-- The knots of a mesh in memory. -/
def MeshAt (g : Nat) (w : World) : Prop := g < w.heap.size ∧ w.cell? ⟨g, 0, none⟩ = some (.int .i64 2) ∧ w.cell? ⟨g, 1, none⟩ = some (.int .i64 1)
theorem MeshAt.below {g : Nat} {w w' : World} (h : MeshAt g w) (hb : Below w.heap.size w w') : MeshAt g w' :=
  ⟨by have := hb.size; have := h.1; omega, (hb.cell (p := ⟨g, 0, none⟩) h.1).trans h.2.1, (hb.cell (p := ⟨g, 1, none⟩) h.1).trans h.2.2⟩
def Blk (g : Nat) (o : Obj) (w : World) : Prop := w.heap[g]? = some o
theorem Blk.below {g : Nat} {o : Obj} {w w' : World} (h : Blk g o w) (hb : Below w.heap.size w w') : Blk g o w' := (hb.block _ (Array.getElem?_eq_some_iff.1 h).1).trans h
theorem RI.go {w w' : World} {A : Option Addr} {l : List Nat} (h : RI w w.heap.size A l) (hb : Below w.heap.size w w') : RI w' w'.heap.size A l := (h.below hb).more hb.size
/-- Parse at the example's string. -/
def ParseOk : Prop := ∀ w, Calls Tryz.prog 21 #[.string ⟨T8.toArray⟩] w fun e w' => ∃ a c, e = .returned (.tuple #[.slice a S8.length c, .int .i64 0, .int .i64 0]) ∧ OKS w' a c S8 ∧ Below w.heap.size w w'
theorem awSheet22 (w : World) : Calls Tryz.prog 13 #[.agg #[.int .i64 0, .int .i64 0], .int .i64 2, .int .i64 2] w (PairPost S8 w) := awSheet 2 2 S8 S8_sheet (by decide +kernel) w
theorem awSheet24 (w : World) : Calls Tryz.prog 13 #[.agg #[.int .i64 0, .int .i64 0], .int .i64 2, .int .i64 4] w (PairPost P16 w) := awSheet 2 4 P16 rfl (by decide +kernel) w
theorem awCount8 (a : Option Addr) (c : Nat) (w : World) (h : OKS w a c S8) : Calls Tryz.prog 22 #[.slice a S8.length c] w fun e w' => e = .returned (.tuple #[.agg #[.int .i64 8, .int .i64 8, .int .i64 1, .int .i64 1, .int .i64 0], .int .i64 0]) ∧ Below w.heap.size w w' :=
  awCount S8 8 1 1 S8_net (by decide) S8_nK S8_nM (fun q hq => S8_parts hq) a c w h
theorem awCount12 (a : Option Addr) (c : Nat) (w : World) (h : OKS w a c R12) : Calls Tryz.prog 22 #[.slice a R12.length c] w fun e w' => e = .returned (.tuple #[.agg #[.int .i64 12, .int .i64 12, .int .i64 0, .int .i64 1, .int .i64 1], .int .i64 0]) ∧ Below w.heap.size w w' :=
  awCount R12 12 0 1 R12_net (by decide) R12_nK R12_nM (fun q hq => R12_parts hq) a c w h
end Go.Proofs.YtlhnhkfkbmfikaaGreatDoor

/- Numbers and bars of a string: readNumber, readBar of netting, at numerals of small numbers. -/
namespace Go.Proofs.YtlhnhkfkbmfikaaGreatDoor
open Go.RowKit Go.Shelf Ck

theorem Tryz.lyF104 : Tryz.ly104_ren.f 104 = 85 := by kernel_rfl
theorem Tryz.lyF145 : Tryz.ly145_ren.f 145 = 86 := by kernel_rfl
theorem Tryz.lyF146 : Tryz.ly146_ren.f 146 = 88 := by kernel_rfl
theorem Tryz.lyF137 : Tryz.ly137_ren.f 137 = 84 := by kernel_rfl
theorem Tryz.lyF172 : Tryz.ly172_ren.f 172 = 115 := by kernel_rfl
theorem Tryz.lyT5 : Tryz.ly172_ren.t 5 = 5 := by kernel_rfl
theorem Tryz.lyT9 : Tryz.ly146_ren.t 9 = 9 := by kernel_rfl
theorem Tryz.lyG1 : Tryz.ly145_ren.g 1 = 1 := by kernel_rfl
theorem Tryz.lyG1' : Tryz.ly146_ren.g 1 = 1 := by kernel_rfl
theorem slCutSuffix (s p : ByteArray) (w : World) (hs : s.size ≤ 100000) : Calls Tryz.prog 85 #[.string s, .string p] w fun e w' => e = .returned (.tuple #[.string ⟨(Lib.trimSuffix s.data.toList p.data.toList).toArray⟩, .bool (Lib.hasSuffix s.data.toList p.data.toList)]) ∧ w' = w := by
  have h := Any.strings_CutSuffix Tryz.ly104 s p w (by omega)
  rwa [Tryz.lyF104] at h
/-- A library's variable that its searches read. -/
def LaidLen (w : World) : Prop := ∃ m, w.cell? ⟨1, 0, none⟩ = some (.int .i64 m)
theorem LaidLen.below {B : Nat} {w w' : World} (h : LaidLen w) (hb : Below B w w') (hB : 1 < B) : LaidLen w' := by
  obtain ⟨m, hm⟩ := h
  exact ⟨m, (hb.cell (p := ⟨_, 0, none⟩) hB).trans hm⟩
theorem slCut (s sep : ByteArray) (w : World) (hs : s.size ≤ 100000) (hL : LaidLen w) : Calls Tryz.prog 86 #[.string s, .string sep] w fun e w' => e = .returned (.tuple #[.string ⟨(Lib.cut s.data.toList sep.data.toList).1.toArray⟩, .string ⟨(Lib.cut s.data.toList sep.data.toList).2.1.toArray⟩, .bool (Lib.cut s.data.toList sep.data.toList).2.2]) ∧ ∃ n, w' = w.drewN n := by
  obtain ⟨m, hm⟩ := hL
  have h := Any.strings_Cut Tryz.ly145 s sep m w (by omega) (by rw [Tryz.lyG1]; exact hm)
  rwa [Tryz.lyF145] at h
theorem slSplit (s sep : ByteArray) (w : World) (hs : s.size ≤ 100000) (h1 : 1 ≤ sep.size) (hL : LaidLen w) : Calls Tryz.prog 88 #[.string s, .string sep] w fun e w' => e = .returned (.slice (some ⟨w.heap.size, 0, none⟩) (Lib.countB s sep + 1) (Lib.countB s sep + 1)) ∧ w' = w.alloc (.cells ((Lib.splitB sep 0 (Lib.countB s sep) s).map Value.string).toArray 9) := by
  obtain ⟨m, hm⟩ := hL
  have h := Any.strings_Split Tryz.ly146 (by kernel_rfl) s sep m w (by omega) (by rw [Tryz.lyG1']; exact hm) h1
  rw [Tryz.lyF146, Tryz.lyT9] at h
  exact h
theorem atoi_dec {n : Nat} (hn : n < 100) : Lib.atoiAll (Lib.decDigits n) = .ok (n : Int) := by
  have h : ∀ k, k < 100 → (match Lib.atoiAll (Lib.decDigits k) with | .ok v => decide (v = (k : Int)) | _ => false) = true := by decide +kernel
  have h1 := h n hn
  split at h1
  · rename_i v hv
    rw [hv, of_decide_eq_true h1]
  · cases h1
theorem slAtoi (n : Nat) (hn : n < 100) (w : World) : Calls Tryz.prog 115 #[.string ⟨(Lib.decDigits n).toArray⟩] w fun e w' => e = .returned (.tuple #[.int .i64 n, .nilIface]) ∧ Below w.heap.size w w' := by
  have hz : (⟨(Lib.decDigits n).toArray⟩ : ByteArray).size ≤ 9223372036854775806 := by
    have : ∀ k, k < 100 → (Lib.decDigits k).length ≤ 2 := by decide +kernel
    have := this n hn
    rw [Lib.size_eq]; simp; omega
  have h := Any.strconv_Atoi_ok Tryz.ly172 ⟨(Lib.decDigits n).toArray⟩ hz n (by simpa using atoi_dec hn) w
  rw [Tryz.lyF172, Tryz.lyT5] at h
  refine h.mono fun e w' ⟨he, hw⟩ => ⟨he, ?_⟩
  rcases hw with rfl | ⟨t, rfl⟩
  · exact Below.refl _ _
  · exact Lib.bytesWorld_below _ _ _
set_option maxHeartbeats 1000000 in
set_option maxRecDepth 100000 in
theorem netReadNum (n : Nat) (hn : n < 100) (w : World) : Calls Tryz.prog 87 #[.string ⟨(Lib.decDigits n).toArray⟩] w fun e w' => e = .returned (.tuple #[.int .i64 n, .bool true]) ∧ Below w.heap.size w w' := by
  have ex0 : ∀ (a b : Value) (w : World), (Instr.extract (.tuple #[a, b]) 0).run Tryz.prog w = .ok a w := fun _ _ _ => by kernel_rfl
  have ex1 : ∀ (a b : Value) (w : World), (Instr.extract (.tuple #[a, b]) 1).run Tryz.prog w = .ok b w := fun _ _ _ => by kernel_rfl
  have h1 : ¬ (n : Int) < -999999 := by omega
  have h2 : ¬ (999999 : Int) < (n : Int) := by omega
  go_enter Tryz.func87, Tryz.ntmps87
  go_wp2_with fail
  refine (slAtoi n hn _).mono ?_
  rintro e w1 ⟨rfl, hb1⟩
  go_wp2_with fail
  refine (itoaS n hn _).mono ?_
  rintro e w2 ⟨rfl, rfl⟩
  go_wp2
  go_ret2
  exact ⟨rfl, hb1⟩
/-- The string of a bar in a line. -/
def wordB (n : Nat) (s : Int) : List UInt8 := Lib.decDigits n ++ markB s
theorem word_facts {n : Nat} (hn : n < 100) : Lib.hasSuffix (wordB n 1) [92] = false ∧ Lib.hasSuffix (wordB n 1) [47] = true ∧ Lib.trimSuffix (wordB n 1) [47] = Lib.decDigits n ∧ Lib.hasSuffix (wordB n (-1)) [92] = true ∧ Lib.trimSuffix (wordB n (-1)) [92] = Lib.decDigits n ∧ (wordB n 1).length ≤ 3 ∧ (wordB n (-1)).length ≤ 3 := by
  have : ∀ k, k < 100 → Lib.hasSuffix (wordB k 1) [92] = false ∧ Lib.hasSuffix (wordB k 1) [47] = true ∧ Lib.trimSuffix (wordB k 1) [47] = Lib.decDigits k ∧ Lib.hasSuffix (wordB k (-1)) [92] = true ∧ Lib.trimSuffix (wordB k (-1)) [92] = Lib.decDigits k ∧ (wordB k 1).length ≤ 3 ∧ (wordB k (-1)).length ≤ 3 := by decide +kernel
  exact this n hn
theorem ixS0 (a b : Value) (w : World) : (Instr.index 169 (.agg #[a, b]) (.int .i64 0)).run Tryz.prog w = .ok a w := by kernel_rfl
theorem ixS1 (a b : Value) (w : World) : (Instr.index 169 (.agg #[a, b]) (.int .i64 1)).run Tryz.prog w = .ok b w := by kernel_rfl
theorem slCutS (l p : List UInt8) (w : World) (hs : l.length ≤ 100000) (r : List UInt8) (b : Bool) (hr : Lib.trimSuffix l p = r) (hb : Lib.hasSuffix l p = b) (s t : ByteArray) (hl : s.data.toList = l) (hp : t.data.toList = p) : Calls Tryz.prog 85 #[.string s, .string t] w fun e w' => e = .returned (.tuple #[.string ⟨r.toArray⟩, .bool b]) ∧ w = w' := by
  subst hl hp hr hb
  exact (slCutSuffix s t w (by rw [Lib.size_eq]; exact hs)).mono fun e w' ⟨a, b⟩ => ⟨a, b.symm⟩
theorem three_blk {g : Nat} {a b c : Value} {t : TypeId} {w : World} (h : Blk g (.cells #[a, b, c] t (0, 0)) w) : w.cell? ⟨g, 0, none⟩ = some a ∧ w.cell? ⟨g, 1, none⟩ = some b ∧ w.cell? ⟨g, 2, none⟩ = some c ∧ ∀ i, w.frozen? ⟨g, i, none⟩ = false := by
  have h' : w.heap[g]? = some (.cells #[a, b, c] t (0, 0)) := h
  refine ⟨?_, ?_, ?_, fun i => ?_⟩ <;> simp [World.cell?, World.frozen?, h']
set_option maxHeartbeats 2000000 in
set_option maxRecDepth 100000 in
theorem netReadBar (n : Nat) (hn : n < 100) (y s : Int) (hs : s = 1 ∨ s = -1) (w : World) : Calls Tryz.prog 89 #[.string ⟨(wordB n s).toArray⟩, .int .i64 y] w fun e w' => e = .returned (.tuple #[.agg #[.int .i64 n, .int .i64 y, .int .i64 s], .bool true]) ∧ Below w.heap.size w w' := by
  have ex0 : ∀ (a b : Value) (w : World), (Instr.extract (.tuple #[a, b]) 0).run Tryz.prog w = .ok a w := fun _ _ _ => by kernel_rfl
  have ex1 : ∀ (a b : Value) (w : World), (Instr.extract (.tuple #[a, b]) 1).run Tryz.prog w = .ok b w := fun _ _ _ => by kernel_rfl
  obtain ⟨f1, f2, f3, f4, f5, f6, f7⟩ := word_facts hn
  have HF := Lib.hid (And.intro f1 (And.intro f2 f3))
  have HG := Lib.hid (And.intro f4 f5)
  have i0 := ixS0
  have i1 := ixS1
  obtain ⟨W, hW⟩ : ∃ W, wordB n s = W := ⟨_, rfl⟩
  have HW := Lib.hid hW
  have hWl : W.length ≤ 3 := by rcases hs with rfl | rfl <;> rw [← hW] <;> assumption
  obtain ⟨w1, hw1, k1, hb1, hz1⟩ := boxO w (.cells #[.int .i64 0, .int .i64 0, .int .i64 0] 65)
  have HW1 := Lib.hid hw1
  rw [hW]
  clear f1 f2 f3 f4 f5 f6 f7 hW hw1
  go_enter Tryz.func89, Tryz.ntmps89
  go_wp2_with fail
  rw [HW1.out]
  go_loopw [7, 8, 9, 10, 11, 13] (fun _ _ _ _ _ i wr => (i = .int .i64 0 ∨ (i = .int .i64 1 ∧ s = 1)) ∧ Hid (Blk w.heap.size (.cells #[.int .i64 0, .int .i64 0, .int .i64 0] 65) wr) ∧ Below w.heap.size w wr) (fun _ _ _ _ _ i _ => 2 - (intOf i).toNat)
  case atStart => exact ⟨.inl rfl, Lib.hid k1, hb1⟩
  case round =>
    obtain ⟨hi, HB, hb⟩ := hrel
    rcases hi with rfl | ⟨rfl, rfl⟩
    · go_wp2_with fail
      refine (netSideMarkB (-1) _).mono ?_
      rintro e w2 ⟨rfl, rfl⟩
      rcases hs with rfl | rfl
      · go_wp2_with fail
        refine (slCutS W [92] _ (by omega) _ false rfl (by rw [← HW.out]; exact HF.out.1) _ _ (by simp) rfl).mono ?_
        rintro e w3 ⟨rfl, rfl⟩
        go_wp2
        go_roundw
        case rel => exact ⟨by simp, HB, hb⟩
        case measure => simp [intOf]
      · go_wp2_with fail
        refine (slCutS W [92] _ (by omega) (Lib.decDigits n) true (by rw [← HW.out]; exact HG.out.2) (by rw [← HW.out]; exact HG.out.1) _ _ (by simp) rfl).mono ?_
        rintro e w3 ⟨rfl, rfl⟩
        go_wp2_with fail
        refine (netReadNum n hn _).mono ?_
        rintro e w4 ⟨rfl, hb4⟩
        obtain ⟨r0, r1, r2, r3⟩ := three_blk (HB.out.below hb4)
        have B4 := hb.trans (hb4.mono hb.size)
        have z4 : w.heap.size < w4.heap.size := (Array.getElem?_eq_some_iff.1 (HB.out.below hb4)).1
        go_wp2
        exact bodyPost_ret (v := .tuple #[.agg #[.int .i64 n, .int .i64 y, .int .i64 (-1)], .bool true]) (by simp [results, Tryz.results89, go_sem, r0, r1, r2, r3, z4]) rfl ⟨rfl, ((B4.setCell (Nat.le_refl _) _).setCell (Nat.le_refl _) _).setCell (Nat.le_refl _) _⟩
    · go_wp2_with fail
      refine (netSideMarkB 1 _).mono ?_
      rintro e w2 ⟨rfl, rfl⟩
      go_wp2_with fail
      refine (slCutS W [47] _ (by omega) (Lib.decDigits n) true (by rw [← HW.out]; exact HF.out.2.2) (by rw [← HW.out]; exact HF.out.2.1) _ _ (by simp) rfl).mono ?_
      rintro e w3 ⟨rfl, rfl⟩
      go_wp2_with fail
      refine (netReadNum n hn _).mono ?_
      rintro e w4 ⟨rfl, hb4⟩
      obtain ⟨r0, r1, r2, r3⟩ := three_blk (HB.out.below hb4)
      have B4 := hb.trans (hb4.mono hb.size)
      have z4 : w.heap.size < w4.heap.size := (Array.getElem?_eq_some_iff.1 (HB.out.below hb4)).1
      go_wp2
      exact bodyPost_ret (v := .tuple #[.agg #[.int .i64 n, .int .i64 y, .int .i64 1], .bool true]) (by simp [results, Tryz.results89, go_sem, r0, r1, r2, r3, z4]) rfl ⟨rfl, ((B4.setCell (Nat.le_refl _) _).setCell (Nat.le_refl _) _).setCell (Nat.le_refl _) _⟩
end Go.Proofs.YtlhnhkfkbmfikaaGreatDoor

/- A line of a string: readLine of netting. -/
namespace Go.Proofs.YtlhnhkfkbmfikaaGreatDoor
open Go.RowKit Go.Shelf Ck

theorem LaidLen.lt {w : World} (h : LaidLen w) : 1 < w.heap.size := by
  obtain ⟨m, hm⟩ := h
  by_cases hlt : 1 < w.heap.size
  · exact hlt
  · rw [World.cell?, Array.getElem?_eq_none (by show w.heap.size ≤ 1; omega)] at hm
    cases hm
theorem LaidLen.go {w w' : World} (h : LaidLen w) (hb : Below w.heap.size w w') : LaidLen w' := h.below hb h.lt
def barW (y : Int) (p : Nat × Int) : Bar := ⟨p.1, y, p.2⟩
/-- What a line says. -/
structure LineIs (L : List UInt8) (y : Nat) (ws : List (Nat × Int)) : Prop where
  y99 : y < 100
  ok : ∀ p ∈ ws, p.1 < 100 ∧ (p.2 = 1 ∨ p.2 = -1)
  some : 1 ≤ ws.length
  few : ws.length ≤ 1000
  len : L.length ≤ 10000
  ended : Lib.hasSuffix L [10] = true
  parted : ∃ tail, Lib.cut (Lib.trimSuffix L [10]) [58] = (Lib.decDigits y, tail, true) ∧ tail.length ≤ 10000 ∧ Lib.countB ⟨tail.toArray⟩ ⟨#[32]⟩ = ws.length ∧ Lib.splitB ⟨#[32]⟩ 0 ws.length ⟨tail.toArray⟩ = ⟨#[]⟩ :: ws.map fun p => ⟨(wordB p.1 p.2).toArray⟩
theorem trim_le (l p : List UInt8) : (Lib.trimSuffix l p).length ≤ l.length := by
  unfold Lib.trimSuffix
  split
  · rw [List.length_take]; omega
  · exact Nat.le_refl _
theorem below_drewN' (w : World) (n : Nat) : Below w.heap.size w (w.drewN n) := below_drewN (Below.refl _ _) n
theorem slCutL (l p a b : List UInt8) (c : Bool) (w : World) (hs : l.length ≤ 100000) (hc : Lib.cut l p = (a, b, c)) (s t : ByteArray) (hl : s.data.toList = l) (hp : t.data.toList = p) (hL : LaidLen w) : Calls Tryz.prog 86 #[.string s, .string t] w fun e w' => e = .returned (.tuple #[.string ⟨a.toArray⟩, .string ⟨b.toArray⟩, .bool c]) ∧ Below w.heap.size w w' := by
  subst hl hp
  have h := slCut s t w (by rw [Lib.size_eq]; exact hs) hL
  rw [hc] at h
  exact h.mono fun e w' ⟨he, n, hw⟩ => ⟨he, hw ▸ below_drewN' w n⟩
theorem slSplitL (s : ByteArray) (n : Nat) (r : List ByteArray) (w : World) (hs : s.size ≤ 100000) (hc : Lib.countB s ⟨#[32]⟩ = n) (hr : Lib.splitB ⟨#[32]⟩ 0 n s = r) (hL : LaidLen w) : Calls Tryz.prog 88 #[.string s, .string ⟨#[32]⟩] w fun e w' => e = .returned (.slice (some ⟨w.heap.size, 0, none⟩) (n + 1 : Nat) (n + 1)) ∧ Blk w.heap.size (.cells (r.map Value.string).toArray 9 (0, 0)) w' ∧ Below w.heap.size w w' := by
  subst hc hr
  exact (slSplit s ⟨#[32]⟩ w hs (by decide) hL).mono fun e w' ⟨he, hw⟩ => ⟨he, by rw [hw]; exact heap_alloc_new _ _, hw ▸ (Below.refl _ _).alloc (Nat.le_refl _) _⟩
theorem Blk.grown {g : Nat} {cs : Array Value} {t e : TypeId} {fz : Nat × Nat} {w w' : World} {tmp : Obj} {B z n : Nat} {v : Value} {xs : List Value} (h : Blk g (.cells cs t fz) w) (hrow : w.ownsRow B e z v n xs) (he : t ≠ e) (hg : (w.alloc tmp).grownBy w' v.ownBlock) : Blk g (.cells cs t fz) w' := by
  have h' : w.heap[g]? = some (.cells cs t fz) := h
  have hlt : g < w.heap.size := (Array.getElem?_eq_some_iff.1 h').1
  have hk : some g ≠ v.ownBlock := by
    intro e'
    rcases hrow.2 with ⟨rfl, -⟩ | ⟨g2, cap2, cur2, rfl, -, hgb2, -⟩
    · simp [Value.ownBlock] at e'
    · simp only [Value.ownBlock, Option.some.injEq] at e'
      subst e'
      rw [h'] at hgb2
      injection hgb2 with h1
      injection h1 with _ h2 _
      exact he h2
  exact (hg.block g (by simp; omega) hk).trans ((heap_alloc_old w tmp hlt).trans h')
theorem blk_cell {g i : Nat} {cs : List Value} {t : TypeId} {w : World} {v : Value} (h : Blk g (.cells cs.toArray t (0, 0)) w) (hv : cs[i]? = some v) : w.cell? ⟨g, i, none⟩ = some v := by
  have h' : w.heap[g]? = some (.cells cs.toArray t (0, 0)) := h
  simp [World.cell?, h', hv]
set_option maxHeartbeats 4000000 in
set_option maxRecDepth 100000 in
theorem netReadLine (L : List UInt8) (y : Nat) (ws : List (Nat × Int)) (w : World) (h : LineIs L y ws) (hL : LaidLen w) :
    Calls Tryz.prog 57 #[.string ⟨L.toArray⟩] w fun e w' => ∃ v, e = .returned (.tuple #[v, .bool true]) ∧ w'.ownsRow w.heap.size 65 3 v (ws.map (barW y)).length (bcellsL (ws.map (barW y))) ∧ Below w.heap.size w w' := by
  have ex0 : ∀ (a b : Value) (w : World), (Instr.extract (.tuple #[a, b]) 0).run Tryz.prog w = .ok a w := fun _ _ _ => by kernel_rfl
  have ex1 : ∀ (a b : Value) (w : World), (Instr.extract (.tuple #[a, b]) 1).run Tryz.prog w = .ok b w := fun _ _ _ => by kernel_rfl
  have ey0 : ∀ (a b c : Value) (w : World), (Instr.extract (.tuple #[a, b, c]) 0).run Tryz.prog w = .ok a w := fun _ _ _ _ => by kernel_rfl
  have ey1 : ∀ (a b c : Value) (w : World), (Instr.extract (.tuple #[a, b, c]) 1).run Tryz.prog w = .ok b w := fun _ _ _ _ => by kernel_rfl
  have ey2 : ∀ (a b c : Value) (w : World), (Instr.extract (.tuple #[a, b, c]) 2).run Tryz.prog w = .ok c w := fun _ _ _ _ => by kernel_rfl
  obtain ⟨ib, hib, hb0, hb01, hb02⟩ := info_parts Tryz.info65
  have HIB := Lib.hid hib
  have HB0 := Lib.hid hb0
  have HB1 := Lib.hid hb01
  have HB2 := Lib.hid hb02
  obtain ⟨h0, h1, h2, h3, h4, h5, tail, h6, h7, h8, h9⟩ := h
  obtain ⟨M, hM⟩ : ∃ M, Lib.trimSuffix L [10] = M := ⟨_, rfl⟩
  have hMl : M.length ≤ 10000 := by rw [← hM]; exact Nat.le_trans (trim_le _ _) h4
  rw [hM] at h6
  have HM := Lib.hid hM
  have H5 := Lib.hid h5
  have H6 := Lib.hid h6
  have H8 := Lib.hid h8
  have H9 := Lib.hid h9
  have HOK := Lib.hid h1
  have HL := Lib.hid hL
  clear hib hb0 hb01 hb02 hM h5 h6 h8 h9 h1 hL
  go_enter Tryz.func57, Tryz.ntmps57
  go_wp2_with fail
  refine (slCutS L [10] _ (by omega) M true HM.out H5.out _ _ (by simp) rfl).mono ?_
  rintro e w1 ⟨rfl, rfl⟩
  go_wp2_with fail
  refine (slCutL M [58] _ _ _ _ (by omega) H6.out _ _ (by simp) rfl HL.out).mono ?_
  rintro e w2 ⟨rfl, hb2⟩
  have HL2 := Lib.hid (HL.out.go hb2)
  go_wp2_with fail
  refine (netReadNum y h0 _).mono ?_
  rintro e w3 ⟨rfl, hb3⟩
  have HL3 := Lib.hid (HL2.out.go hb3)
  have B3 := hb2.trans (hb3.mono hb2.size)
  clear hb2 hb3 HL2
  go_wp2_with fail
  refine (slSplitL _ ws.length _ _ (by rw [Lib.size_eq]; simp; omega) H8.out H9.out HL3.out).mono ?_
  rintro e w4 ⟨rfl, hq4, hb4⟩
  have HQ := Lib.hid hq4
  obtain ⟨b, hb⟩ : ∃ b, w3.heap.size = b := ⟨_, rfl⟩
  rw [hb] at HQ
  have B4 := B3.trans (hb4.mono B3.size)
  have hbz : b < w4.heap.size := (Array.getElem?_eq_some_iff.1 HQ.out).1
  have k0 : w4.cell? ⟨b, 0, none⟩ = some (.string ⟨#[]⟩) := blk_cell HQ.out rfl
  have hn2 : ¬ (ws.length : Int) + 1 < 2 := by omega
  have hn0 : (0 : Int) < (ws.length : Int) + 1 := by omega
  have hn1 : (1 : Int) ≤ (ws.length : Int) + 1 := by omega
  clear hq4 hb4
  go_wp2_with fail
  have HZ0 := Lib.hid (show (w4.ownsRow w.heap.size 65 3 (.slice none 0 0) ((ws.take 0).map (barW y)).length (bcellsL ((ws.take 0).map (barW y)))) from ⟨rfl, .inl ⟨rfl, rfl⟩⟩)
  clear k0
  go_loopw [11, 13, 14, 15, 58] (fun v _ _ _ i wr => ∃ k : Nat, k ≤ ws.length ∧ i = .int .i64 k ∧ Hid (wr.ownsRow w.heap.size 65 3 v ((ws.take k).map (barW y)).length (bcellsL ((ws.take k).map (barW y)))) ∧ Hid (Blk b (.cells (((⟨#[]⟩ : ByteArray) :: ws.map fun p => ⟨(wordB p.1 p.2).toArray⟩).map Value.string).toArray 9 (0, 0)) wr) ∧ Below w.heap.size w wr) (fun _ _ _ _ i _ => ws.length - (intOf i).toNat)
  case atStart => exact ⟨0, Nat.zero_le _, rfl, HZ0, HQ, B4⟩
  case round =>
    clear HZ0 HQ B4 hbz
    obtain ⟨k, hk, rfl, hown, HQ, hbr⟩ := hrel
    by_cases hlt : k < ws.length
    · obtain ⟨⟨N, S⟩, hp⟩ : ∃ p, ws[k] = p := ⟨_, rfl⟩
      obtain ⟨hN, hS⟩ := HOK.out (N, S) (by rw [← hp]; exact List.getElem_mem hlt)
      simp only at hN hS
      have k1 : wr.cell? ⟨b, 1 + k, none⟩ = some (.string ⟨(wordB N S).toArray⟩) := by
        refine blk_cell HQ.out ?_
        rw [Nat.add_comm, List.map_cons, List.getElem?_cons_succ]
        simp [List.getElem?_eq_getElem hlt, hp]
      have HT := Lib.hid (show (ws.take (k + 1)).map (barW y) = (ws.take k).map (barW y) ++ [⟨N, y, S⟩] by
        rw [List.take_succ_eq_append_getElem hlt, List.map_append, hp]; rfl)
      have hkl : (k : Int) < (ws.length : Int) := by omega
      have hk0 : (0 : Int) ≤ (k : Int) := by omega
      have hbz := hbr.size
      clear hp
      go_wp2_with fail
      refine (netReadBar N hN y S hS _).mono ?_
      rintro e w5 ⟨rfl, hb5⟩
      obtain ⟨w6, hw6, e0, e1, e2, hb6, hz6⟩ := box3 w5 (.int .i64 N) (.int .i64 y) (.int .i64 S) 65
      have hw6' := hw6.symm
      have b6 : Below wr.heap.size wr w6 := hb5.trans (hb6.mono hb5.size)
      have HO := Lib.hid (ownsRow_below hown.out b6)
      have HQ6 := Lib.hid (HQ.out.below b6)
      have B6 := hbr.trans (b6.mono hbz)
      have B6z := B6.size
      have hln : ((ws.take k).map (barW y)).length ≤ 1000 := by rw [List.length_map, List.length_take]; omega
      generalize hFF : (ws.take k).map (barW y) = F at HO hln HT
      clear hw6 hown HQ k1 hb5 hb6 b6
      go_wp2_with (at_builtin; refine wpList_append_own _ rfl _ _ 35 rfl w.heap.size 65 ib (.agg #[.int .i64 0, .int .i64 0, .int .i64 0]) 3 24 Tryz.underlying35 HIB.out HB0.out HB1.out HB2.out rfl (by decide) _ _ _ rfl (HO.out.alloc _) ⟨w6.heap.size, 0, none⟩ 1 1 [.int .i64 N, .int .i64 y, .int .i64 S] rfl rfl (three_new _ _ _ _ _) ?c2 ?c3 ?c4 ?c5 ?_)
      case c2 => intro u hu; simp at hu; rcases hu with rfl | rfl | rfl <;> rfl
      case c3 => unfold maxLen; omega
      case c4 => omega
      case c5 => simp; omega
      intro v' w7 hown7 hgrow7 _
      have B7 : Below w.heap.size w w7 := (B6.alloc B6z _).grown hgrow7 (by simp; omega) (ownsRow_base HO.out)
      have HQ7 := Lib.hid (HQ6.out.grown HO.out (by decide) hgrow7)
      have HO7 := Lib.hid hown7
      clear hown7 hgrow7
      go_wp2
      go_roundw
      case rel => exact ⟨k + 1, by omega, by go_num, Lib.hid (by rw [HT.out, List.length_append, bcellsL_snoc]; exact HO7.out), HQ7, B7⟩
      case measure => simp [intOf]; omega
    · obtain rfl : k = ws.length := by omega
      rw [List.take_length] at hown
      go_wp2
      go_ret2
      exact ⟨_, rfl, hown.out, hbr⟩
end Go.Proofs.YtlhnhkfkbmfikaaGreatDoor

/- The example's two lines. -/
namespace Go.Proofs.YtlhnhkfkbmfikaaGreatDoor
open Go.RowKit Go.Shelf Ck

def L1 : List UInt8 := [48, 58, 32, 48, 47, 32, 50, 92, 32, 50, 47, 32, 52, 92, 10]
def L2 : List UInt8 := [49, 58, 32, 49, 92, 32, 49, 47, 32, 51, 92, 32, 51, 47, 10]
def W1 : List (Nat × Int) := [(0, 1), (2, -1), (2, 1), (4, -1)]
def W2 : List (Nat × Int) := [(1, -1), (1, 1), (3, -1), (3, 1)]
theorem T8_lines : T8 = L1 ++ L2 := rfl
theorem W1_bars : W1.map (barW 0) = S8.take 4 := by decide +kernel
theorem W2_bars : S8 = S8.take 4 ++ W2.map (barW 1) := by decide +kernel
theorem L1_is : LineIs L1 0 W1 where
  y99 := by decide
  ok := by decide +kernel
  some := by decide
  few := by decide
  len := by decide
  ended := by decide +kernel
  parted := ⟨[32, 48, 47, 32, 50, 92, 32, 50, 47, 32, 52, 92], by decide +kernel, by decide, by decide +kernel, by decide +kernel⟩
theorem L2_is : LineIs L2 1 W2 where
  y99 := by decide
  ok := by decide +kernel
  some := by decide
  few := by decide
  len := by decide
  ended := by decide +kernel
  parted := ⟨[32, 49, 92, 32, 49, 47, 32, 51, 92, 32, 51, 47], by decide +kernel, by decide, by decide +kernel, by decide +kernel⟩
end Go.Proofs.YtlhnhkfkbmfikaaGreatDoor

/- checkRoom, checkLineOrder of netting, where a line may follow. -/
namespace Go.Proofs.YtlhnhkfkbmfikaaGreatDoor
open Go.RowKit Go.Shelf Ck

set_option maxHeartbeats 1000000 in
set_option maxRecDepth 100000 in
theorem netCheckRoom (A : Option Addr) (n c : Nat) (w : World) (hn : n < 4096) : Calls Tryz.prog 91 #[.slice A n c] w fun e w' => e = .returned (.int .i64 0) ∧ w = w' := by
  have h : ¬ (4096 : Int) ≤ (n : Int) := by omega
  go_enter Tryz.func91, Tryz.ntmps91
  go_wp2
  go_ret
  exact ⟨rfl, rfl⟩
set_option maxHeartbeats 1000000 in
set_option maxRecDepth 100000 in
/-- Behind an empty net. -/
theorem netLineOrder0 (A : Option Addr) (c i : Nat) (x y s : Int) (w : World) :
    Calls Tryz.prog 90 #[.slice A 0 c, .int .i64 i, .agg #[.int .i64 x, .int .i64 y, .int .i64 s]] w fun e w' => e = .returned (.int .i64 0) ∧ Below w.heap.size w w' := by
  obtain ⟨w1, hw1, e0, e1, e2, hb1, hz1⟩ := box3 w (.int .i64 x) (.int .i64 y) (.int .i64 s) 65
  have HW := Lib.hid hw1
  clear hw1
  by_cases h0 : i = 0
  · have hb : ((i : Int) == 0) = true := by rw [h0]; rfl
    clear h0
    go_enter Tryz.func90, Tryz.ntmps90
    go_wp2_with fail
    rw [← HW.out]
    go_quiet (fail)
    have bd : Below w1.heap.size w1 (World.drewN w1 nq) := below_drewN (Below.refl _ _) _
    have f0 := (bd.cell (p := ⟨w.heap.size, 0, none⟩) hz1).trans e0
    have f1 := (bd.cell (p := ⟨w.heap.size, 1, none⟩) hz1).trans e1
    have f2 := (bd.cell (p := ⟨w.heap.size, 2, none⟩) hz1).trans e2
    have b1 := hb1.trans (bd.mono hb1.size)
    clear e0 e1 e2 bd hb1 hz1
    generalize World.drewN w1 nq = w2 at *
    go_wp2_with fail
    refine (netCheckOrder0 A c x y s _).mono ?_
    rintro e w3 ⟨rfl, hb3⟩
    go_wp2
    go_ret
    exact ⟨rfl, b1.trans (hb3.mono b1.size)⟩
  · have hb : ((i : Int) == 0) = false := by rw [beq_eq_false_iff_ne]; omega
    clear h0
    go_enter Tryz.func90, Tryz.ntmps90
    go_wp2_with fail
    rw [← HW.out]
    go_quiet (fail)
    have bd : Below w1.heap.size w1 (World.drewN w1 nq) := below_drewN (Below.refl _ _) _
    have f0 := (bd.cell (p := ⟨w.heap.size, 0, none⟩) hz1).trans e0
    have f1 := (bd.cell (p := ⟨w.heap.size, 1, none⟩) hz1).trans e1
    have f2 := (bd.cell (p := ⟨w.heap.size, 2, none⟩) hz1).trans e2
    have b1 := hb1.trans (bd.mono hb1.size)
    clear e0 e1 e2 bd hb1 hz1
    generalize World.drewN w1 nq = w2 at *
    go_wp2_with fail
    refine (netCheckOrder0 A c x y s _).mono ?_
    rintro e w3 ⟨rfl, hb3⟩
    go_wp2
    go_ret
    exact ⟨rfl, b1.trans (hb3.mono b1.size)⟩
set_option maxHeartbeats 1000000 in
set_option maxRecDepth 100000 in
/-- Behind a net whose last bar is p. -/
theorem netLineOrder1 (b off n c i : Nat) (p : Bar) (x y s : Int) (w : World) (hb : b < w.heap.size) (hn : n < 100000)
    (d0 : w.cell? ⟨b, off + n * 3, none⟩ = some (.int .i64 p.x)) (d1 : w.cell? ⟨b, off + n * 3 + 1, none⟩ = some (.int .i64 p.y)) (d2 : w.cell? ⟨b, off + n * 3 + 2, none⟩ = some (.int .i64 p.s)) (hi : i = 0 → p.y < y) (ho : orderE p ⟨x, y, s⟩ = 0) :
    Calls Tryz.prog 90 #[.slice (some ⟨b, off, none⟩) (n + 1) c, .int .i64 i, .agg #[.int .i64 x, .int .i64 y, .int .i64 s]] w fun e w' => e = .returned (.int .i64 0) ∧ Below w.heap.size w w' := by
  obtain ⟨w1, hw1, e0, e1, e2, hb1, hz1⟩ := box3 w (.int .i64 x) (.int .i64 y) (.int .i64 s) 65
  have HW := Lib.hid hw1
  have HO := Lib.hid ho
  have g0 := (hb1.cell (p := ⟨b, off + n * 3, none⟩) hb).trans d0
  have g1 := (hb1.cell (p := ⟨b, off + n * 3 + 1, none⟩) hb).trans d1
  have g2 := (hb1.cell (p := ⟨b, off + n * 3 + 2, none⟩) hb).trans d2
  have hb1b : b < w1.heap.size := by have := hb1.size; omega
  clear hw1 d0 d1 d2 ho
  by_cases h0 : i = 0
  · have hyy := hi h0
    have hbz : ((i : Int) == 0) = true := by rw [h0]; rfl
    have hle : ¬ y ≤ p.y := by omega
    have m1 : (0 : Int) < (n : Int) + 1 := by omega
    have m2 : (0 : Int) ≤ (n : Int) := by omega
    have m3 : (n : Int) < (n : Int) + 1 := by omega
    have m4 : IntKind.i64.wrap (n : Int) = (n : Int) := by rw [IntKind.wrap_i64]; omega
    clear h0 hi
    go_enter Tryz.func90, Tryz.ntmps90
    go_wp2_with fail
    rw [← HW.out]
    go_quiet (fail)
    have bd : Below w1.heap.size w1 (World.drewN w1 nq) := below_drewN (Below.refl _ _) _
    have f0 := (bd.cell (p := ⟨w.heap.size, 0, none⟩) hz1).trans e0
    have f1 := (bd.cell (p := ⟨w.heap.size, 1, none⟩) hz1).trans e1
    have f2 := (bd.cell (p := ⟨w.heap.size, 2, none⟩) hz1).trans e2
    have k0 := (bd.cell (p := ⟨b, off + n * 3, none⟩) hb1b).trans g0
    have k1 := (bd.cell (p := ⟨b, off + n * 3 + 1, none⟩) hb1b).trans g1
    have k2 := (bd.cell (p := ⟨b, off + n * 3 + 2, none⟩) hb1b).trans g2
    have kz : b < (World.drewN w1 nq).heap.size := Nat.lt_of_lt_of_le hb1b bd.size
    have b1 := hb1.trans (bd.mono hb1.size)
    clear e0 e1 e2 bd hb1 hz1 g0 g1 g2 hb1b
    generalize World.drewN w1 nq = w2 at *
    go_wp2_with fail
    refine (netCheckOrder1 b off n c p x y s _ kz hn k0 k1 k2).mono ?_
    rintro e w3 ⟨rfl, hb3⟩
    rw [HO.out]
    go_wp2
    go_ret
    exact ⟨rfl, b1.trans (hb3.mono b1.size)⟩
  · have hbz : ((i : Int) == 0) = false := by rw [beq_eq_false_iff_ne]; omega
    clear h0 hi
    go_enter Tryz.func90, Tryz.ntmps90
    go_wp2_with fail
    rw [← HW.out]
    go_quiet (fail)
    have bd : Below w1.heap.size w1 (World.drewN w1 nq) := below_drewN (Below.refl _ _) _
    have f0 := (bd.cell (p := ⟨w.heap.size, 0, none⟩) hz1).trans e0
    have f1 := (bd.cell (p := ⟨w.heap.size, 1, none⟩) hz1).trans e1
    have f2 := (bd.cell (p := ⟨w.heap.size, 2, none⟩) hz1).trans e2
    have k0 := (bd.cell (p := ⟨b, off + n * 3, none⟩) hb1b).trans g0
    have k1 := (bd.cell (p := ⟨b, off + n * 3 + 1, none⟩) hb1b).trans g1
    have k2 := (bd.cell (p := ⟨b, off + n * 3 + 2, none⟩) hb1b).trans g2
    have kz : b < (World.drewN w1 nq).heap.size := Nat.lt_of_lt_of_le hb1b bd.size
    have b1 := hb1.trans (bd.mono hb1.size)
    clear e0 e1 e2 bd hb1 hz1 g0 g1 g2 hb1b
    generalize World.drewN w1 nq = w2 at *
    go_wp2_with fail
    refine (netCheckOrder1 b off n c p x y s _ kz hn k0 k1 k2).mono ?_
    rintro e w3 ⟨rfl, hb3⟩
    rw [HO.out]
    go_wp2
    go_ret
    exact ⟨rfl, b1.trans (hb3.mono b1.size)⟩
end Go.Proofs.YtlhnhkfkbmfikaaGreatDoor

/- A net with a line more: withLine of netting. -/
namespace Go.Proofs.YtlhnhkfkbmfikaaGreatDoor
open Go.RowKit Go.Shelf Ck

/-- Bars in a block of their own. -/
def LineAt (g : Nat) (m : List Bar) (w : World) : Prop := g < w.heap.size ∧ ∀ i (h : i < m.length), w.cell? ⟨g, i * 3, none⟩ = some (.int .i64 m[i].x) ∧ w.cell? ⟨g, i * 3 + 1, none⟩ = some (.int .i64 m[i].y) ∧ w.cell? ⟨g, i * 3 + 2, none⟩ = some (.int .i64 m[i].s)
theorem LineAt.kept {g : Nat} {m : List Bar} {w w' : World} (h : LineAt g m w) (hz : w.heap.size ≤ w'.heap.size) (hb : w'.heap[g]? = w.heap[g]?) : LineAt g m w' :=
  ⟨by have := h.1; omega, fun i hi => ⟨(World.cell?_of_block (a := ⟨g, _, none⟩) hb).trans (h.2 i hi).1, (World.cell?_of_block (a := ⟨g, _, none⟩) hb).trans (h.2 i hi).2.1, (World.cell?_of_block (a := ⟨g, _, none⟩) hb).trans (h.2 i hi).2.2⟩⟩
theorem gb_step {w w6 w7 : World} {ob vb : Option Nat} {tmp : Obj} (h : w.grownBy w6 ob) (hg : (w6.alloc tmp).grownBy w7 vb) (hv : vb = ob ∨ ∀ g, vb = some g → w.heap.size ≤ g) : w.grownBy w7 ob :=
  ⟨hg.os.trans h.os, hg.tape.trans h.tape, hg.output.trans h.output, by have := hg.size; have := h.size; simp at *; omega, fun i hi hne => by
    have h6 : i < w6.heap.size := Nat.lt_of_lt_of_le hi h.size
    have hne' : some i ≠ vb := by
      rcases hv with rfl | hv
      · exact hne
      · intro e
        have := hv i e.symm
        omega
    exact (hg.block i (by simp; omega) hne').trans ((heap_alloc_old w6 tmp h6).trans (h.block i hi hne))⟩
def WithPost (B : Nat) (v : Value) (l : List Bar) (w : World) (e : Ending) (w' : World) : Prop := ∃ v', e = .returned (.tuple #[v', .int .i64 0]) ∧ w'.ownsRow B 65 3 v' l.length (bcellsL l) ∧ (v'.ownBlock = v.ownBlock ∨ ∀ g, v'.ownBlock = some g → w.heap.size ≤ g) ∧ w.grownBy w' v.ownBlock
theorem order_net {l m : List Bar} {k : Nat} (hN : Net (l ++ m)) (hk : k < m.length) {n : Nat} {p : Bar} (hn : (l ++ m.take k).length = n + 1) (hp : (l ++ m.take k)[n]? = some p) : orderE p m[k] = 0 := by
  have hlen : l.length + k = n + 1 := by rw [List.length_append, List.length_take] at hn; omega
  have hq : (l ++ m)[n + 1]? = some m[k] := by
    rw [List.getElem?_append_right (by omega), show n + 1 - l.length = k by omega, List.getElem?_eq_getElem hk]
  have hp' : (l ++ m)[n]? = some p := by
    by_cases h : n < l.length
    · rw [List.getElem?_append_left h] at hp ⊢
      exact hp
    · rw [List.getElem?_append_right (by omega)] at hp ⊢
      rw [List.getElem?_take] at hp
      split at hp
      · exact hp
      · cases hp
  obtain ⟨h1, e1⟩ := List.getElem?_eq_some_iff.1 hp'
  obtain ⟨h2, e2⟩ := List.getElem?_eq_some_iff.1 hq
  have hb : Blt p m[k] := by
    have := List.pairwise_iff_getElem.1 hN.2 n (n + 1) h1 h2 (by omega)
    rwa [e1, e2] at this
  rw [orderE, if_pos ((lessB_iff p m[k]).2 hb)]
theorem netLineOrderOk (A : Option Addr) (c i : Nat) (F : List Bar) (x y s : Int) (w : World) (hF : F.length ≤ 4096) (h : RB w w.heap.size A F) (hi : i = 0 → ∀ n p, F.length = n + 1 → F[n]? = some p → p.y < y) (ho : ∀ n p, F.length = n + 1 → F[n]? = some p → orderE p ⟨x, y, s⟩ = 0) :
    Calls Tryz.prog 90 #[.slice A F.length c, .int .i64 i, .agg #[.int .i64 x, .int .i64 y, .int .i64 s]] w fun e w' => e = .returned (.int .i64 0) ∧ Below w.heap.size w w' := by
  by_cases h0 : F.length = 0
  · rw [h0]
    exact netLineOrder0 A c i x y s w
  · obtain ⟨n, hn⟩ : ∃ n, F.length = n + 1 := ⟨F.length - 1, by omega⟩
    obtain ⟨b, off, rfl, hb, hc⟩ := h (by omega)
    obtain ⟨d0, d1, d2⟩ := hc n (by omega)
    have hp : F[n]? = some F[n] := List.getElem?_eq_getElem (by omega)
    rw [hn]
    exact netLineOrder1 b off n c i F[n] x y s w hb (by omega) d0 d1 d2 (fun h => hi h n _ hn hp) (ho n _ hn hp)
set_option maxHeartbeats 8000000 in
set_option maxRecDepth 100000 in
theorem netWithLine (B gl cl : Nat) (v : Value) (l m : List Bar) (w : World) (hN : Net (l ++ m)) (hlen : (l ++ m).length ≤ 4096) (hf : ∀ n p, l.length = n + 1 → l[n]? = some p → ∀ q, m[0]? = some q → p.y < q.y) (hrow : w.ownsRow B 65 3 v l.length (bcellsL l)) (hB : B ≤ w.heap.size) (hm : LineAt gl m w) (hne : v.ownBlock ≠ some gl) :
    Calls Tryz.prog 58 #[v, .slice (some ⟨gl, 0, none⟩) m.length cl] w (WithPost B v (l ++ m) w) := by
  obtain ⟨ib, hib, hb0, hb01, hb02⟩ := info_parts Tryz.info65
  have HIB := Lib.hid hib
  have HB0 := Lib.hid hb0
  have HB1 := Lib.hid hb01
  have HB2 := Lib.hid hb02
  have HN := Lib.hid hN
  have HF := Lib.hid hf
  have HM := Lib.hid hm
  have HNE := Lib.hid hne
  have HR0 := Lib.hid (show w.ownsRow B 65 3 v (l ++ m.take 0).length (bcellsL (l ++ m.take 0)) by simpa using hrow)
  have hlm : l.length + m.length ≤ 4096 := by simpa using hlen
  clear hib hb0 hb01 hb02 hN hf hm hne hrow hlen
  go_enter Tryz.func58, Tryz.ntmps58
  go_wp2_with fail
  go_loopw [0, 6, 7, 8, 11] (fun vv _ _ _ i wr => ∃ k : Nat, k ≤ m.length ∧ i = .int .i64 k ∧ Hid (wr.ownsRow B 65 3 vv (l ++ m.take k).length (bcellsL (l ++ m.take k))) ∧ Hid (vv.ownBlock = v.ownBlock ∨ ∀ g, vv.ownBlock = some g → w.heap.size ≤ g) ∧ Hid (w.grownBy wr v.ownBlock)) (fun _ _ _ _ i _ => m.length - (intOf i).toNat)
  case atStart => exact ⟨0, Nat.zero_le _, rfl, HR0, Lib.hid (.inl rfl), Lib.hid (gb_of_below (Below.refl _ _))⟩
  case round =>
    clear HR0
    obtain ⟨k, hk, rfl, HR, HV, HW⟩ := hrel
    by_cases hlt : k < m.length
    · have hwz := HW.out.size
      have HL := HM.out.kept hwz (HW.out.block gl HM.out.1 (fun e => HNE.out e.symm))
      obtain ⟨hgl, hc⟩ := HL
      obtain ⟨c0, c1, c2⟩ := hc k hlt
      obtain ⟨⟨X, Y, S⟩, hX⟩ : ∃ x, m[k] = x := ⟨_, rfl⟩
      rw [hX] at c0 c1 c2
      simp only at c0 c1 c2
      have HT := Lib.hid (show l ++ m.take (k + 1) = (l ++ m.take k) ++ [⟨X, Y, S⟩] by rw [List.take_succ_eq_append_getElem hlt, hX, List.append_assoc])
      have HBE := Lib.hid (show barE X Y S = 0 by
        have := HN.out.1 m[k] (List.mem_append_right _ (List.getElem_mem hlt))
        rw [hX] at this
        exact (barE_iff ⟨X, Y, S⟩).2 this)
      have hlk : (l ++ m.take k).length = l.length + k := by rw [List.length_append, List.length_take]; omega
      have HLK := Lib.hid hlk
      have hkl : (k : Int) < (m.length : Int) := by omega
      have hk0 : (0 : Int) ≤ (k : Int) := by omega
      obtain ⟨w2, hw2, e0, e1, e2, hb2, hz2⟩ := box3 wr (.int .i64 X) (.int .i64 Y) (.int .i64 S) 65
      have q2 : PrS wr.heap.size X Y S w2 := by rw [hw2]; exact heap_alloc_new _ _
      have HO2 := Lib.hid (ownsRow_below HR.out hb2)
      have HW2 := Lib.hid (gb_below HW.out hb2)
      have hw2z : w.heap.size ≤ w2.heap.size := HW2.out.size
      have hw2' := hw2.symm
      obtain ⟨bx, hbx⟩ : ∃ bx, wr.heap.size = bx := ⟨_, rfl⟩
      rw [hbx] at q2
      have HQ := Lib.hid q2
      clear hc hlk hw2 e0 e1 e2 hb2 hz2 q2
      have hln : (l ++ m.take k).length ≤ 4095 := by rw [HLK.out]; omega
      have HOF := Lib.hid (show ∀ n p, (l ++ m.take k).length = n + 1 → (l ++ m.take k)[n]? = some p → orderE p ⟨X, Y, S⟩ = 0 from fun n p h1 h2 => by
        have := order_net HN.out hlt h1 h2
        rwa [hX] at this)
      have HYF := Lib.hid (show k = 0 → ∀ n p, (l ++ m.take k).length = n + 1 → (l ++ m.take k)[n]? = some p → p.y < Y from fun h0 n p h1 h2 => by
        subst h0
        rw [List.take_zero, List.append_nil] at h1 h2
        have := HF.out n p h1 h2 m[0] (List.getElem?_eq_getElem hlt)
        rwa [hX] at this)
      clear hX
      generalize hFF : l ++ m.take k = F at HO2 HT HOF HYF hln
      have HFF := Lib.hid hFF
      obtain ⟨A, c, rfl, -⟩ := own_slice HO2.out
      have HRB := Lib.hid (RB.of_own HO2.out)
      clear hFF HLK
      go_wp2_with fail
      go_region_held3 (fun w' => (w'.cell? ⟨bx, 0, none⟩ = some (.int .i64 X) ∧ w'.cell? ⟨bx, 1, none⟩ = some (.int .i64 Y) ∧ w'.cell? ⟨bx, 2, none⟩ = some (.int .i64 S)) ∧ PrS bx X Y S w')
        (first
          | exact PrS.cells hq9
          | exact PrS.cells hq8
          | exact PrS.cells (PrS.below hq8 ((Below.refl _ _).alloc (Nat.le_refl _) _))
          | exact PrS.cells HQ.out
          | exact PrS.cells (PrS.below HQ.out ((Below.refl _ _).alloc (Nat.le_refl _) _)))
        (first
          | (go_at_call 61; refine (netCheckBar X Y S _).mono ?_; rintro e w9 ⟨rfl, hb9⟩; rw [HBE.out]; have hW8 := (show Below w2.heap.size w2 _ by first | exact hW8 | exact below_drew hW8 | exact Below.refl _ _ | exact below_drew (Below.refl _ _)).trans (hb9.mono (by first | exact hW8.size | exact Nat.le_refl _)); have hq8 := PrS.below (bx := bx) (X := X) (Y := Y) (S := S) (by first | exact hq8 | exact HQ.out) hb9)
          | (go_at_call 90; refine (netLineOrderOk A c k F X Y S _ (by omega) ((HRB.out.below (show Below w2.heap.size w2 _ by first | exact hW8 | exact below_drew hW8 | exact Below.refl _ _ | exact below_drew (Below.refl _ _))).more (by first | exact hW8.size | exact Nat.le_refl _)) HYF.out HOF.out).mono ?_; rintro e w9 ⟨rfl, hb9⟩; have hW8 := (show Below w2.heap.size w2 _ by first | exact hW8 | exact below_drew hW8 | exact Below.refl _ _ | exact below_drew (Below.refl _ _)).trans (hb9.mono (by first | exact hW8.size | exact Nat.le_refl _)); have hq8 := PrS.below (bx := bx) (X := X) (Y := Y) (S := S) (by first | exact hq8 | exact HQ.out) hb9)
          | (go_at_call 91; refine (netCheckRoom A F.length c _ (by omega)).mono ?_; rintro e w9 ⟨rfl, rfl⟩)
          | (go_at_call 31; refine (netFirst3 _ _ 0 0 0 24 _ (by exact heap_alloc_new _ _)).mono ?_; rintro e w9 ⟨rfl, hw9⟩; rw [show firstE [0, 0, 0] = 0 from rfl]; have hW9 : Below w2.heap.size w2 w9 := (by rw [← hw9]; first | exact hW8.alloc hW8.size _ | exact below_drew (hW8.alloc hW8.size _) | exact (below_drew hW8).alloc hW8.size _ | exact below_drew ((below_drew hW8).alloc hW8.size _)); have hq9 : PrS bx X Y S w9 := (by rw [← hw9]; exact PrS.below hq8 ((Below.refl _ _).alloc (Nat.le_refl _) _))))
      all_goals
        have HQ9 := Lib.hid hq9
        have HR9 := Lib.hid (ownsRow_below HO2.out hW9)
        have G9 := Lib.hid (gb_below HW2.out hW9)
        obtain ⟨⟨j0, j1, j2⟩, -⟩ := hq9.cells
        have z9 : w.heap.size ≤ w9.heap.size := by have := hW9.size; omega
        have hz9 := hq9.lt
        clear hW9 hq9 hw9
        go_wp2_with (at_builtin; refine wpList_append_lies _ rfl _ _ 35 rfl B 65 ib (.agg #[.int .i64 0, .int .i64 0, .int .i64 0]) 3 24 Tryz.underlying35 HIB.out HB0.out HB1.out HB2.out rfl (by decide) _ _ _ rfl (HR9.out.alloc _) ⟨w9.heap.size, 0, none⟩ 1 1 [.int .i64 X, .int .i64 Y, .int .i64 S] rfl rfl (three_new _ _ _ _ _) ?c2 (by decide) ?c3 ?c4 ?c5 _ rfl ?_)
        case c2 => intro u hu; simp at hu; rcases hu with rfl | rfl | rfl <;> rfl
        case c3 => unfold maxLen; omega
        case c4 => omega
        case c5 => simp; omega
        intro g7 cap7 w7 hown7 hgrow7 hg7 hz7
        have G7 := Lib.hid (gb_step G9.out hgrow7 HV.out)
        have HV7 := Lib.hid (show (Value.slice (some ⟨g7, 0, none⟩) (F.length + 1) cap7).ownBlock = v.ownBlock ∨ ∀ g, (Value.slice (some ⟨g7, 0, none⟩) (F.length + 1) cap7).ownBlock = some g → w.heap.size ≤ g by
          rcases hg7 with h | h
          · rw [show (Value.slice (some ⟨g7, 0, none⟩) (F.length + 1) cap7).ownBlock = (Value.slice A F.length c).ownBlock by rw [h]; rfl]
            exact HV.out
          · right
            intro g hg
            simp [Value.ownBlock] at hg
            first
              | omega
              | (simp at h; omega)
              | (rw [World.size_alloc] at h; omega))
        have HO7 := Lib.hid (show w7.ownsRow B 65 3 (.slice (some ⟨g7, 0, none⟩) (F.length + 1) cap7) (l ++ m.take (k + 1)).length (bcellsL (l ++ m.take (k + 1))) by rw [HT.out, List.length_append, bcellsL_snoc]; exact hown7)
        clear hown7 hgrow7 hg7 hz7
        go_wp2
        go_roundw
        case rel => exact ⟨k + 1, by omega, by go_num, HO7, HV7, G7⟩
        case measure => simp [intOf]; omega
    · obtain rfl : k = m.length := by omega
      rw [List.take_length] at HR
      go_wp2
      go_ret2
      exact ⟨_, rfl, HR.out, HV.out, HW.out⟩
end Go.Proofs.YtlhnhkfkbmfikaaGreatDoor

/- What strings.Lines yields at the example's string. -/
namespace Go.Proofs.YtlhnhkfkbmfikaaGreatDoor
open Go.RowKit Go.Shelf Ck

/-- Boxes of one string lie as they lay. -/
def KS (W W' : World) : Prop := W.heap.size ≤ W'.heap.size ∧ ∀ (b : Nat) (s : ByteArray) (f : Nat × Nat), W.heap[b]? = some (Obj.cells #[Value.string s] 9 f) → W'.heap[b]? = some (Obj.cells #[Value.string s] 9 f)
theorem KS.trans {A B C : World} (h : KS A B) (k : KS B C) : KS A C := ⟨Nat.le_trans h.1 k.1, fun b s f e => k.2 b s f (h.2 b s f e)⟩
theorem KS.put {w : World} (W : World) (l : Nat) (o o' : Obj) (_ : w.heap.size ≤ l) (hl : W.heap[l]? = some o) (h1 : o.isCells = false) (_ : o.isWalk = false) : KS W (W.putObj l o') :=
  ⟨by simp, fun b s f e => by
    have : b ≠ l := by
      rintro rfl
      rw [hl] at e
      cases e
      cases h1
    exact (World.putObj_heap_other this).trans e⟩
theorem KS.of_below {W W' : World} (h : Below W.heap.size W W') : KS W W' := ⟨h.size, fun b _ _ e => (h.block b (Array.getElem?_eq_some_iff.1 e).1).trans e⟩
theorem ln_box {W : World} {b : Nat} {u : Value} {t : TypeId} (h : W.heap[b]? = some (.cells #[u] t (0, 0))) : W.cell? ⟨b, 0, none⟩ = some u ∧ W.frozen? ⟨b, 0, none⟩ = false := by
  refine ⟨?_, ?_⟩ <;> simp [World.cell?, World.frozen?, h]
theorem ln_set {W : World} {b : Nat} {u : Value} {t : TypeId} (h : W.heap[b]? = some (.cells #[u] t (0, 0))) (p : Value) :
    (W.setCell ⟨b, 0, none⟩ p).heap[b]? = some (.cells #[p] t (0, 0)) ∧ W.grownBy (W.setCell ⟨b, 0, none⟩ p) (some b) := by
  refine ⟨by simp only [World.setCell, Array.getElem?_modify, if_true, h, Option.map_some]; rfl, ⟨rfl, rfl, rfl, by simp [World.setCell], fun i _ hi => ?_⟩⟩
  simp only [World.setCell, Array.getElem?_modify]
  rw [if_neg (fun e => hi (by rw [e]))]
def restL (k : Nat) : List UInt8 := if k = 0 then T8 else if k = 1 then L2 else []
def lineArr (x : List UInt8) : Array Value := #[.string ⟨x.toArray⟩]
def boxLen (b : Nat) (w : World) : Nat := match w.cell? ⟨b, 0, none⟩ with | some (.string s) => s.size | _ => 0
theorem slIdx (l : List UInt8) (k : Int) (hk : Lib.indexByte l 10 = k) (w : World) : Calls Tryz.prog 84 #[.string ⟨l.toArray⟩, .int .u8 10] w fun e w' => e = .returned (.int .i64 k) ∧ w = w' := by
  have h := Any.strings_IndexByte Tryz.ly137 ⟨l.toArray⟩ 10 w
  rw [Tryz.lyF137] at h
  subst hk
  exact h.mono fun e w' ⟨a, b⟩ => ⟨by rw [a]; simp, b.symm⟩
set_option maxHeartbeats 4000000 in
set_option maxRecDepth 100000 in
theorem lines_visits (B0 n bS : Nat) (hn : 3 ≤ n) (hB : B0 ≤ bS) (w : World) (hS : w.heap[bS]? = some (.cells #[.string ⟨T8.toArray⟩] 9 (0, 0))) :
    Visits1 Tryz.prog B0 n 9 83 #[.pointer (some ⟨bS, 0, none⟩)] lineArr KS (fun ss => ss = [L1, L2]) (fun pre x' => ∃ r, [L1, L2] = pre ++ x' :: r) w := by
  intro l J W hbw hJ hY h0
  have h1n : 1 ≤ n := by omega
  have fi : Fence.wide.fn 84 := trivial
  have zs := (Array.getElem?_eq_some_iff.1 hS).1
  have q0 := (hbw.block bS zs).trans hS
  have HJ := Lib.hid hJ
  refine callsIn_of_wp Tryz.func83 rfl trivial ?_ rfl
  simp only [Tryz.ntmps83, List.size_toArray, List.length_cons, List.length_nil, Nat.reduceAdd, Nat.reduceSub, Array.replicate_succ, Array.replicate_zero, List.push_toArray, List.append_toArray, List.nil_append, List.cons_append]
  have hj0 := h0
  clear h0 hJ
  gi_wp2_with fail
  gi_loopw [3, 4] (fun _ _ wr => ∃ k : Nat, k ≤ 2 ∧ wr.heap[bS]? = some (.cells #[.string ⟨(restL k).toArray⟩] 9 (0, 0)) ∧ J ([L1, L2].take k) wr) (fun _ _ wr => boxLen bS wr)
  case atStart => exact ⟨0, by omega, q0, hj0⟩
  case round =>
    obtain ⟨k, hk, hq, hj⟩ := hrel
    obtain ⟨c0, z0⟩ := ln_box hq
    have hk' : k = 0 ∨ k = 1 ∨ k = 2 := by omega
    rcases hk' with rfl | rfl | rfl
    · obtain ⟨S0, hS0⟩ : ∃ S0 : ByteArray, (⟨T8.toArray⟩ : ByteArray) = S0 := ⟨_, rfl⟩
      have z30 : S0.size = 30 := by rw [← hS0]; decide +kernel
      have x1 : S0.extract 0 15 = ⟨L1.toArray⟩ := by rw [← hS0]; decide +kernel
      have x2 : S0.extract 15 30 = ⟨L2.toArray⟩ := by rw [← hS0]; decide +kernel
      have hq' : wr.heap[bS]? = some (.cells #[.string S0] 9 (0, 0)) := by rw [← hS0]; exact hq
      have c0' : wr.cell? ⟨bS, 0, none⟩ = some (.string S0) := (ln_box hq').1
      have hm : boxLen bS wr = 30 := by simp only [boxLen, c0']; exact z30
      have HS0 := Lib.hid hS0
      clear c0 hq hS0
      gi_wp2_with (gi_at_call 84; rw [← HS0.out]; refine (callsIn_wide.2 (slIdx T8 14 (by decide +kernel) _)).mono ?_; rintro e w1 ⟨rfl, rfl⟩)
      gi_big_region
      obtain ⟨hq5, hg5⟩ := ln_set hq' (.string ⟨L2.toArray⟩)
      have hj5 := HJ.out.below (HJ.out _ _ _ (some bS) hj hg5 (fun b e => by cases e; exact ⟨_, hq', .inr ⟨_, _, rfl, rfl, hB⟩⟩)) (below_drew (Below.refl _ _))
      have hq6 : ((wr.setCell ⟨bS, 0, none⟩ (.string ⟨L2.toArray⟩)).drew).heap[bS]? = some (.cells #[.string ⟨L2.toArray⟩] 9 (0, 0)) := hq5
      generalize (wr.setCell ⟨bS, 0, none⟩ (.string ⟨L2.toArray⟩)).drew = W5 at hj5 hq6 ⊢
      obtain ⟨fn, tmps, assign, body, hy, hR⟩ := hY _ L1 _ hj5 ⟨[L2], rfl⟩
      dsimp only [lineArr] at hy
      clear hq5 hg5 c0' x1 x2 z30
      gi_wp2
      refine hR.mono ?_
      rintro e W6 ⟨rfl, hj6, hk6⟩
      have hq7 := hk6.2 _ _ _ hq6
      have c7 : W6.cell? ⟨bS, 0, none⟩ = some (.string ⟨L2.toArray⟩) := (ln_box hq7).1
      have hm7 : boxLen bS W6 = 15 := by simp only [boxLen, c7]; decide +kernel
      clear hy hR
      gi_wp2
      go_roundw
      case rel => exact ⟨1, by omega, hq7, hj6⟩
      case measure => rw [hm, hm7]; decide
    · obtain ⟨S0, hS0⟩ : ∃ S0 : ByteArray, (⟨L2.toArray⟩ : ByteArray) = S0 := ⟨_, rfl⟩
      have z30 : S0.size = 15 := by rw [← hS0]; decide +kernel
      have x1 : S0.extract 0 15 = ⟨L2.toArray⟩ := by rw [← hS0]; decide +kernel
      have x2 : S0.extract 15 15 = ByteArray.empty := by rw [← hS0]; decide +kernel
      have hq' : wr.heap[bS]? = some (.cells #[.string S0] 9 (0, 0)) := by rw [← hS0]; exact hq
      have c0' : wr.cell? ⟨bS, 0, none⟩ = some (.string S0) := (ln_box hq').1
      have hm : boxLen bS wr = 15 := by simp only [boxLen, c0']; exact z30
      have HS0 := Lib.hid hS0
      clear c0 hq hS0
      gi_wp2_with (gi_at_call 84; rw [← HS0.out]; refine (callsIn_wide.2 (slIdx L2 14 (by decide +kernel) _)).mono ?_; rintro e w1 ⟨rfl, rfl⟩)
      gi_big_region
      obtain ⟨hq5, hg5⟩ := ln_set hq' (.string ByteArray.empty)
      have hj5 := HJ.out.below (HJ.out _ _ _ (some bS) hj hg5 (fun b e => by cases e; exact ⟨_, hq', .inr ⟨_, _, rfl, rfl, hB⟩⟩)) (below_drew (Below.refl _ _))
      have hq6 : ((wr.setCell ⟨bS, 0, none⟩ (.string ByteArray.empty)).drew).heap[bS]? = some (.cells #[.string ByteArray.empty] 9 (0, 0)) := hq5
      generalize (wr.setCell ⟨bS, 0, none⟩ (.string ByteArray.empty)).drew = W5 at hj5 hq6 ⊢
      obtain ⟨fn, tmps, assign, body, hy, hR⟩ := hY _ L2 _ hj5 ⟨[], rfl⟩
      dsimp only [lineArr] at hy
      clear hq5 hg5 c0' x1 x2 z30
      gi_wp2
      refine hR.mono ?_
      rintro e W6 ⟨rfl, hj6, hk6⟩
      have hq7 := hk6.2 _ _ _ hq6
      have c7 : W6.cell? ⟨bS, 0, none⟩ = some (.string ByteArray.empty) := (ln_box hq7).1
      have hm7 : boxLen bS W6 = 0 := by simp only [boxLen, c7]; decide +kernel
      clear hy hR
      gi_wp2
      go_roundw
      case rel => exact ⟨2, by omega, hq7, hj6⟩
      case measure => rw [hm, hm7]; decide
    · have c2 : wr.cell? ⟨bS, 0, none⟩ = some (.string ⟨#[]⟩) := c0
      have HJE := Lib.hid (show J [L1, L2] wr from hj)
      clear c0 hj
      gi_wp2
      go_end0
      exact ⟨⟨_, rfl⟩, _, rfl, HJE.out⟩
end Go.Proofs.YtlhnhkfkbmfikaaGreatDoor

/- Parse of netting at the example's string. -/
namespace Go.Proofs.YtlhnhkfkbmfikaaGreatDoor
open Go.RowKit Go.Shelf Ck
attribute [local go_sem] Oper.semAt_some

set_option maxHeartbeats 1000000 in
set_option maxRecDepth 100000 in
theorem netLines (s : ByteArray) (w : World) : Calls Tryz.prog 56 #[.string s] w fun e w' => e = .returned (.func (.func 83) #[] #[.pointer (some ⟨w.heap.size, 0, none⟩)]) ∧ w' = w.alloc (.cells #[.string s] 9) := by
  go_enter Tryz.func56, Tryz.ntmps56
  go_wp2
  go_ret
  exact ⟨rfl, rfl⟩
/-- What Parse knows while it goes over the lines. -/
structure PsI (w : World) (B B1 B2 B3 B4 z : Nat) (pre : List (List UInt8)) (W : World) : Prop where
  r2 : Blk B (.cells #[.slice none 0 0] 35 (0, 0)) W
  r3 : Blk B1 (.cells #[.int .i64 0] 3 (0, 0)) W
  r4 : Blk B2 (.cells #[.int .i64 0] 24 (0, 0)) W
  net : ∃ v, Blk B3 (.cells #[v] 35 (0, 0)) W ∧ W.ownsRow B 65 3 v (S8.take (4 * pre.length)).length (bcellsL (S8.take (4 * pre.length)))
  at_ : Blk B4 (.cells #[.int .i64 (pre.length : Int)] 3 (0, 0)) W
  b : Below B w W
  z : z ≤ W.heap.size
theorem blk_bides {W W' : World} {r : Option Nat} {k B0 z : Nat} {cs : Array Value} {t : TypeId} {f : Nat × Nat} (h : Blk k (.cells cs t f) W) (hg : W.grownBy W' r) (hr : ∀ b, r = some b → ∃ o, W.heap[b]? = some o ∧ ((o.isCells = false ∧ z ≤ b) ∨ (∃ cs f, o = .cells cs 9 f ∧ cs.size = 1 ∧ B0 ≤ b))) (ht : t ≠ 9) : Blk k (.cells cs t f) W' := by
  have h' : W.heap[k]? = some (.cells cs t f) := h
  refine (hg.block k (Array.getElem?_eq_some_iff.1 h').1 (fun e => ?_)).trans h'
  obtain ⟨o, ho, h1⟩ := hr k e.symm
  rw [h'] at ho
  injection ho with ho
  subst ho
  rcases h1 with ⟨h1, -⟩ | ⟨cs', f', h1, -, -⟩
  · cases h1
  · injection h1 with _ h1 _
    exact ht h1
theorem psI_bides (w : World) (B B1 B2 B3 B4 z B0 : Nat) (hw : B = w.heap.size) (hB : B ≤ B0) (hBz : B ≤ z) : Bides1 B0 z 9 (PsI w B B1 B2 B3 B4 z) := by
  intro s W W' r h hg hr
  obtain ⟨v, n1, n2⟩ := h.net
  refine ⟨blk_bides h.r2 hg hr (by decide), blk_bides h.r3 hg hr (by decide), blk_bides h.r4 hg hr (by decide), ⟨v, blk_bides n1 hg hr (by decide), n2.kept hg ?_⟩, blk_bides h.at_ hg hr (by decide), h.b.grown hg (by rw [hw]; exact h.b.size) (fun b e => ?_), Nat.le_trans h.z hg.size⟩
  · rcases n2.2 with ⟨rfl, -⟩ | ⟨g, cap, cur, rfl, -, hgb, -⟩
    · exact .inl rfl
    · refine .inr fun e => ?_
      obtain ⟨o, ho, h1⟩ := hr g e.symm
      rw [hgb] at ho
      injection ho with ho
      subst ho
      rcases h1 with ⟨h1, -⟩ | ⟨cs', f', h1, -, -⟩
      · cases h1
      · injection h1 with _ h1 _
        exact absurd h1 (by decide)
  · obtain ⟨o, -, h1⟩ := hr b e
    rcases h1 with ⟨-, h1⟩ | ⟨-, -, -, -, h1⟩ <;> omega
theorem blk_gb {k B e z n : Nat} {cs : Array Value} {t : TypeId} {f : Nat × Nat} {w w' : World} {v : Value} {xs : List Value} (h : Blk k (.cells cs t f) w) (hrow : w.ownsRow B e z v n xs) (ht : t ≠ e) (hg : w.grownBy w' v.ownBlock) : Blk k (.cells cs t f) w' := by
  have h' : w.heap[k]? = some (.cells cs t f) := h
  refine (hg.block k (Array.getElem?_eq_some_iff.1 h').1 (fun e' => ?_)).trans h'
  rcases hrow.2 with ⟨rfl, -⟩ | ⟨g2, cap2, cur2, rfl, -, hgb2, -⟩
  · simp [Value.ownBlock] at e'
  · simp only [Value.ownBlock, Option.some.injEq] at e'
    subst e'
    rw [h'] at hgb2
    injection hgb2 with h1
    injection h1 with _ h2 _
    exact ht h2
theorem obj_gb {k B e z n : Nat} {o : Obj} {w w' : World} {v : Value} {xs : List Value} (h : w.heap[k]? = some o) (hrow : w.ownsRow B e z v n xs) (ht : ∀ cs f, o ≠ .cells cs e f) (hg : w.grownBy w' v.ownBlock) : w'.heap[k]? = some o := by
  refine (hg.block k (Array.getElem?_eq_some_iff.1 h).1 (fun e' => ?_)).trans h
  rcases hrow.2 with ⟨rfl, -⟩ | ⟨g2, cap2, cur2, rfl, -, hgb2, -⟩
  · simp [Value.ownBlock] at e'
  · simp only [Value.ownBlock, Option.some.injEq] at e'
    subst e'
    rw [h] at hgb2
    injection hgb2 with h1
    exact ht _ _ h1
theorem obj_set {k b : Nat} {o : Obj} {w : World} {u p : Value} {t : TypeId} (h : w.heap[k]? = some o) (hb : Blk b (.cells #[u] t (0, 0)) w) (ht : ∀ cs f, o ≠ .cells cs t f) : (w.setCell ⟨b, 0, none⟩ p).heap[k]? = some o := by
  refine ((ln_set hb p).2.block k (Array.getElem?_eq_some_iff.1 h).1 (fun e => ?_)).trans h
  have hb' : w.heap[b]? = some (.cells #[u] t (0, 0)) := hb
  injection e with e
  subst e
  rw [hb'] at h
  injection h with h
  exact ht _ _ h.symm
theorem row_set {b B e z n : Nat} {w : World} {u p v : Value} {t : TypeId} {xs : List Value} (h : w.ownsRow B e z v n xs) (hb : Blk b (.cells #[u] t (0, 0)) w) (ht : t ≠ e) : (w.setCell ⟨b, 0, none⟩ p).ownsRow B e z v n xs := by
  refine h.kept (ln_set hb p).2 ?_
  rcases h.2 with ⟨rfl, -⟩ | ⟨g2, cap2, cur2, rfl, -, hgb2, -⟩
  · exact .inl rfl
  · refine .inr fun e' => ?_
    have hb' : w.heap[b]? = some (.cells #[u] t (0, 0)) := hb
    simp only [Value.ownBlock, Option.some.injEq] at e'
    subst e'
    rw [hb'] at hgb2
    injection hgb2 with h1
    injection h1 with _ h2 _
    exact ht h2
theorem boxes5 (w : World) : ∃ W, W = ((((w.alloc (.cells #[.slice none 0 0] 35)).alloc (.cells #[.int .i64 0] 3)).alloc (.cells #[.int .i64 0] 24)).alloc (.cells #[.slice none 0 0] 35)).alloc (.cells #[.int .i64 0] 3) ∧ PsI w w.heap.size (w.heap.size + 1) (w.heap.size + 1 + 1) (w.heap.size + 1 + 1 + 1) (w.heap.size + 1 + 1 + 1 + 1) W.heap.size [] W ∧ W.heap.size = w.heap.size + 5 := by
  obtain ⟨w1, h1, k1, b1, -⟩ := boxO w (.cells #[.slice none 0 0] 35)
  obtain ⟨w2, h2, k2, b2, -⟩ := boxO w1 (.cells #[.int .i64 0] 3)
  obtain ⟨w3, h3, k3, b3, -⟩ := boxO w2 (.cells #[.int .i64 0] 24)
  obtain ⟨w4, h4, k4, b4, -⟩ := boxO w3 (.cells #[.slice none 0 0] 35)
  obtain ⟨w5, h5, k5, b5, -⟩ := boxO w4 (.cells #[.int .i64 0] 3)
  have s1 : w1.heap.size = w.heap.size + 1 := by rw [← h1]; simp
  have s2 : w2.heap.size = w.heap.size + 2 := by rw [← h2]; simp; omega
  have s3 : w3.heap.size = w.heap.size + 3 := by rw [← h3]; simp; omega
  have s4 : w4.heap.size = w.heap.size + 4 := by rw [← h4]; simp; omega
  have s5 : w5.heap.size = w.heap.size + 5 := by rw [← h5]; simp; omega
  rw [s1] at k2
  rw [s2] at k3
  rw [s3] at k4
  rw [s4] at k5
  have c2 := b2.trans (b3.mono (by omega))
  have c3 := c2.trans (b4.mono (by omega))
  have c4 := c3.trans (b5.mono (by omega))
  have d3 := (b3.trans (b4.mono (by omega))).trans (b5.mono (by omega))
  have d4 := b4.trans (b5.mono (by omega))
  refine ⟨w5, by rw [← h5, ← h4, ← h3, ← h2, ← h1], ⟨Blk.below k1 c4, Blk.below k2 d3, Blk.below k3 d4, ⟨_, Blk.below k4 b5, ⟨rfl, .inl ⟨rfl, rfl⟩⟩⟩, k5, b1.trans (c4.mono (by omega)), Nat.le_refl _⟩, s5⟩
theorem set_ne {k b : Nat} {w : World} {u p : Value} {t : TypeId} {o : Obj} (h : w.heap[k]? = some o) (hb : Blk b (.cells #[u] t (0, 0)) w) (hn : k ≠ b) : (w.setCell ⟨b, 0, none⟩ p).heap[k]? = some o :=
  ((ln_set hb p).2.block k (Array.getElem?_eq_some_iff.1 h).1 (fun e => by injection e with e; exact hn e)).trans h
theorem ps_round {w Wb w2 w3 : World} {B B1 B2 B3 B4 z k n N3 : Nat} {g3 cap3 : Nat} {pre : List (List UInt8)} (q : List UInt8) {v : Value} {xs : List Value}
    (hBe : w.heap.size = B) (h1 : B + 1 = B1) (h2 : B1 + 1 = B2) (h3 : B2 + 1 = B3) (h4 : B3 + 1 = B4) (hk : pre.length = k)
    (HI : PsI w B B1 B2 B3 B4 z pre Wb) (HB2 : Below Wb.heap.size Wb w2) (HO2 : w2.ownsRow B 65 3 v n xs) (HG3 : w2.grownBy w3 v.ownBlock)
    (HN3 : (S8.take (4 * (k + 1))).length = N3) (HR3 : w3.ownsRow B 65 3 (.slice (some ⟨g3, 0, none⟩) N3 cap3) N3 (bcellsL (S8.take (4 * (k + 1)))))
    (HQ3 : Blk B3 (.cells #[v] 35 (0, 0)) w3) (HQ4 : Blk B4 (.cells #[.int .i64 (k : Int)] 3 (0, 0)) w3)
    (HBK : (∃ o, Wb.heap[z]? = some o ∧ o.isCells = false) ∧ ∃ o, Wb.heap[z + 1]? = some o ∧ o.isCells = false) :
    ∃ W5, W5 = (w3.setCell ⟨B3, 0, none⟩ (.slice (some ⟨g3, 0, none⟩) N3 cap3)).setCell ⟨B4, 0, none⟩ (.int .i64 ((k : Int) + 1)) ∧ Book z Wb W5 ∧ KS Wb W5 ∧ PsI w B B1 B2 B3 B4 z (pre ++ [q]) W5 := by
  obtain ⟨p3, hp3⟩ : ∃ p3, Value.slice (some ⟨g3, 0, none⟩) N3 cap3 = p3 := ⟨_, rfl⟩
  rw [hp3] at HR3 ⊢
  have q3 : Blk B3 (.cells #[p3] 35 (0, 0)) (w3.setCell ⟨B3, 0, none⟩ p3) := (ln_set HQ3 p3).1
  have q4 : Blk B4 (.cells #[.int .i64 (k : Int)] 3 (0, 0)) (w3.setCell ⟨B3, 0, none⟩ p3) := set_ne HQ4 HQ3 (by omega)
  have q5 := (ln_set q4 (.int .i64 ((k : Int) + 1))).1
  have sz2 := HB2.size
  have sz3 := HG3.size
  have sz4 := (ln_set HQ3 p3).2.size
  have sz5 := (ln_set q4 (.int .i64 ((k : Int) + 1))).2.size
  have szb := HI.b.size
  have far : ∀ {i : Nat} {o : Obj}, Wb.heap[i]? = some o → (∀ cs f, o ≠ .cells cs 65 f) → w3.heap[i]? = some o := fun h ht =>
    obj_gb ((HB2.block _ (Array.getElem?_eq_some_iff.1 h).1).trans h) HO2 ht HG3
  have far2 : ∀ {i : Nat} {o : Obj}, Wb.heap[i]? = some o → (∀ cs f, o ≠ .cells cs 65 f) → i ≠ B3 → i ≠ B4 → ((w3.setCell ⟨B3, 0, none⟩ p3).setCell ⟨B4, 0, none⟩ (.int .i64 ((k : Int) + 1))).heap[i]? = some o := fun h ht n3 n4 =>
    set_ne (set_ne (far h ht) HQ3 n3) q4 n4
  have far3 : ∀ {i : Nat} {o : Obj}, Wb.heap[i]? = some o → (∀ cs f, o ≠ .cells cs 65 f) → (∀ cs f, o ≠ .cells cs 35 f) → (∀ cs f, o ≠ .cells cs 3 f) → ((w3.setCell ⟨B3, 0, none⟩ p3).setCell ⟨B4, 0, none⟩ (.int .i64 ((k : Int) + 1))).heap[i]? = some o := fun h ht t3 t4 =>
    obj_set (obj_set (far h ht) HQ3 t3) q4 t4
  have nc : ∀ {o : Obj} {t : TypeId}, o.isCells = false → ∀ cs f, o ≠ .cells cs t f := fun h cs f e => by rw [e] at h; cases h
  obtain ⟨⟨o0, a0, c0⟩, ⟨o1, a1, c1⟩⟩ := HBK
  refine ⟨_, rfl, ⟨(far3 a0 (nc c0) (nc c0) (nc c0)).trans a0.symm, (far3 a1 (nc c1) (nc c1) (nc c1)).trans a1.symm, by omega⟩, ⟨by omega, fun b s f e => ?_⟩, ?_⟩
  · exact far3 e (fun cs f h => by injection h with _ h _; exact absurd h (by decide)) (fun cs f h => by injection h with _ h _; exact absurd h (by decide)) (fun cs f h => by injection h with _ h _; exact absurd h (by decide))
  have hlen : (pre ++ [q]).length = k + 1 := by rw [List.length_append, hk]; rfl
  refine ⟨?_, ?_, ?_, ⟨p3, set_ne q3 q4 (by omega), ?_⟩, ?_, ?_, ?_⟩
  · exact far2 HI.r2 (fun cs f h => by injection h with _ h _; exact absurd h (by decide)) (by omega) (by omega)
  · exact far2 HI.r3 (fun cs f h => by injection h with _ h _; exact absurd h (by decide)) (by omega) (by omega)
  · exact far2 HI.r4 (fun cs f h => by injection h with _ h _; exact absurd h (by decide)) (by omega) (by omega)
  · rw [hlen, HN3]
    exact row_set (row_set HR3 HQ3 (by decide)) q4 (by decide)
  · rw [hlen]
    have : ((k + 1 : Nat) : Int) = (k : Int) + 1 := by omega
    rw [this]
    exact q5
  · have b2 : Below B w w2 := HI.b.trans (HB2.mono (by omega))
    have b3 : Below B w w3 := b2.grown HG3 (by omega) (fun j e => (HO2.lt j e).1)
    have b4 := b3.grown (ln_set HQ3 p3).2 (by omega) (fun j e => by injection e with e; omega)
    exact b4.grown (ln_set q4 (.int .i64 ((k : Int) + 1))).2 (by omega) (fun j e => by injection e with e; omega)
  · have := HI.z
    omega
theorem ps_done {w W : World} {B B1 B2 D : Nat} {v : Value}
    (hBe : w.heap.size = B) (h1 : B + 1 = B1) (h2 : B1 + 1 = B2) (hz : B2 < D)
    (b2 : Blk B (.cells #[.slice none 0 0] 35 (0, 0)) W) (b3 : Blk B1 (.cells #[.int .i64 0] 3 (0, 0)) W) (b4 : Blk B2 (.cells #[.int .i64 0] 24 (0, 0)) W)
    (hb : Below B w W) (hrow : W.ownsRow B 65 3 v S8.length (bcellsL S8)) (hK : W.heap[D]? = some (.deferred (some []))) :
    ∃ W5, W5 = ((W.setCell ⟨B, 0, none⟩ v).setCell ⟨B1, 0, none⟩ (.int .i64 0)).setCell ⟨B2, 0, none⟩ (.int .i64 0) ∧ Blk B (.cells #[v] 35 (0, 0)) W5 ∧ Blk B1 (.cells #[.int .i64 0] 3 (0, 0)) W5 ∧ Blk B2 (.cells #[.int .i64 0] 24 (0, 0)) W5
      ∧ W5.heap[D]? = some (.deferred (some [])) ∧ W5.ownsRow B 65 3 v S8.length (bcellsL S8) ∧ Below B w W5 := by
  have x2 := (ln_set b2 v).1
  have x3 := set_ne (p := v) b3 b2 (by omega)
  have x4 := set_ne (p := v) b4 b2 (by omega)
  have xK := set_ne (p := v) hK b2 (by omega)
  have xr := row_set (p := v) hrow b2 (by decide)
  have xs := (ln_set b2 v).2
  generalize W.setCell ⟨B, 0, none⟩ v = W1 at *
  have y2 := set_ne (p := .int .i64 0) x2 x3 (by omega)
  have y3 := (ln_set x3 (.int .i64 0)).1
  have y4 := set_ne (p := .int .i64 0) x4 x3 (by omega)
  have yK := set_ne (p := .int .i64 0) xK x3 (by omega)
  have yr := row_set (p := .int .i64 0) xr x3 (by decide)
  have ys := (ln_set x3 (.int .i64 0)).2
  generalize W1.setCell ⟨B1, 0, none⟩ (.int .i64 0) = W2 at *
  have z2 := set_ne (p := .int .i64 0) y2 y4 (by omega)
  have z3 := set_ne (p := .int .i64 0) y3 y4 (by omega)
  have z4 := (ln_set y4 (.int .i64 0)).1
  have zK := set_ne (p := .int .i64 0) yK y4 (by omega)
  have zr := row_set (p := .int .i64 0) yr y4 (by decide)
  have zs := (ln_set y4 (.int .i64 0)).2
  have s0 := hb.size
  have s1 := xs.size
  have s2 := ys.size
  exact ⟨_, rfl, z2, z3, z4, zK, zr, ((hb.grown xs (by omega) (fun j e => by injection e with e; omega)).grown ys (by omega) (fun j e => by injection e with e; omega)).grown zs (by omega) (fun j e => by injection e with e; omega)⟩
set_option maxHeartbeats 8000000 in
set_option maxRecDepth 100000 in
theorem netParse8 (w : World) (hL : LaidLen w) : Calls Tryz.prog 21 #[.string ⟨T8.toArray⟩] w fun e w' => ∃ a c, e = .returned (.tuple #[.slice a S8.length c, .int .i64 0, .int .i64 0]) ∧ OKS w' a c S8 ∧ Below w.heap.size w w' := by
  obtain ⟨S0, hS0⟩ : ∃ S0 : ByteArray, (⟨T8.toArray⟩ : ByteArray) = S0 := ⟨_, rfl⟩
  have z30 : S0.size = 30 := by rw [← hS0]; decide +kernel
  have HS0 := Lib.hid hS0
  rw [hS0]
  clear hS0
  refine (callsIn_wide (n := 6)).1 (callsIn_of_wp_marks Tryz.func21 rfl trivial (wpIn_wide.2 ?_) rfl)
  simp only [Tryz.ntmps21, List.size_toArray, List.length_cons, List.length_nil, Nat.reduceAdd, Nat.reduceSub, Array.replicate_succ, Array.replicate_zero, List.push_toArray, List.append_toArray, List.nil_append, List.cons_append]
  obtain ⟨W0, hW0, HI0, hz0⟩ := boxes5 w
  have HW0 := Lib.hid hW0
  clear hW0
  go_wp2_with fail
  rw [← HW0.out]
  refine (netLines S0 _).mono ?_
  rintro e w1 ⟨rfl, hw1⟩
  have hq1 : w1.heap[W0.heap.size]? = some (.cells #[.string S0] 9 (0, 0)) := by rw [hw1]; exact heap_alloc_new _ _
  have hb1 : Below W0.heap.size W0 w1 := by rw [hw1]; exact (Below.refl _ _).alloc (Nat.le_refl _) _
  have hz1 : w1.heap.size = w.heap.size + 6 := by rw [hw1]; simp; omega
  obtain ⟨B, hBe⟩ : ∃ B, w.heap.size = B := ⟨_, rfl⟩
  obtain ⟨B1, hB1⟩ : ∃ B1, B + 1 = B1 := ⟨_, rfl⟩
  obtain ⟨B2, hB2⟩ : ∃ B2, B1 + 1 = B2 := ⟨_, rfl⟩
  obtain ⟨B3, hB3⟩ : ∃ B3, B2 + 1 = B3 := ⟨_, rfl⟩
  obtain ⟨B4, hB4⟩ : ∃ B4, B3 + 1 = B4 := ⟨_, rfl⟩
  obtain ⟨bS, hbS⟩ : ∃ bS, W0.heap.size = bS := ⟨_, rfl⟩
  rw [hBe, hB1, hB2, hB3, hB4] at HI0
  have HI1 : Hid (PsI w B B1 B2 B3 B4 w1.heap.size [] w1) := Lib.hid ⟨HI0.r2.below hb1, HI0.r3.below hb1, HI0.r4.below hb1, (by obtain ⟨v, h1, h2⟩ := HI0.net; exact ⟨v, h1.below hb1, ownsRow_below h2 hb1⟩), HI0.at_.below hb1, HI0.b.trans (hb1.mono (by omega)), Nat.le_refl _⟩
  have hbd := psI_bides w B B1 B2 B3 B4 w1.heap.size bS hBe.symm (by omega) (by omega)
  have hvis := lines_visits bS 4 bS (by omega) (Nat.le_refl _) w1 (by rw [← hbS, HS0.out]; exact hq1)
  have HLW := Lib.hid hL
  obtain rfl : bS = B + 5 := by omega
  clear hw1 HI0 hb1
  go_wp2_with fail
  refine (wpIn_wide (n := 5)).1 ?_
  generalize hA0 : (Act.mk _ _) = A0
  refine wpIn_visits1 (n := 5) (by omega) (gf := 83) (lb := #[.pointer (some ⟨B + 5, 0, none⟩)]) (by rw [← hA0]; rfl) ?eg hvis KS.trans (KS.put (w := w1)) (fun _ => rfl) (PsI w B B1 B2 B3 B4 w1.heap.size) hbd HI1.out ?round ?done
  case eg => exact fun _ _ => by kernel_rfl
  case round =>
    rintro l pre q W hz hI ⟨r, hr⟩
    have hcase : (pre = [] ∧ q = L1) ∨ (pre = [L1] ∧ q = L2) := by
      rcases pre with _ | ⟨p, _ | ⟨p', pre⟩⟩
      · simp at hr; exact .inl ⟨rfl, hr.1.symm⟩
      · simp at hr; exact .inr ⟨by rw [hr.1], hr.2.1.symm⟩
      · simp at hr
    obtain ⟨k, y, ws, hk, hline, hnext, hnet, hfirst⟩ : ∃ (k y : Nat) (ws : List (Nat × Int)), pre.length = k ∧ LineIs q y ws ∧ S8.take (4 * (k + 1)) = S8.take (4 * k) ++ ws.map (barW y) ∧ Net (S8.take (4 * k) ++ ws.map (barW y)) ∧ (∀ n p, (S8.take (4 * k)).length = n + 1 → (S8.take (4 * k))[n]? = some p → ∀ b, (ws.map (barW y))[0]? = some b → p.y < b.y) := by
      rcases hcase with ⟨rfl, rfl⟩ | ⟨rfl, rfl⟩
      · exact ⟨0, 0, W1, rfl, L1_is, by decide +kernel, net_of (by decide +kernel), fun n p h => by simp at h⟩
      · refine ⟨1, 1, W2, rfl, L2_is, by decide +kernel, net_of (by decide +kernel), fun n p h1 h2 b h3 => ?_⟩
        have : n = 3 := by simp [S8] at h1; omega
        subst this
        simp [S8] at h2
        simp [W2, barW] at h3
        subst h2 h3
        decide
    obtain ⟨m, hm⟩ : ∃ m, ws.map (barW y) = m := ⟨_, rfl⟩
    rw [hm] at hnext hnet hfirst
    have HMM := Lib.hid hm
    have hml : m.length = ws.length := by rw [← hm, List.length_map]
    have HML := Lib.hid hml
    clear hm hml
    subst hA0
    dsimp only [lineArr]
    gi_wp2
    refine ⟨Book.below hz (Below.refl _ _), KS.of_below (Below.refl _ _), fun Wb hg hobj hbk => ?_⟩
    have hIb := hbd _ _ _ _ hI hg (fun b e => by cases e; obtain ⟨o, ho, hc⟩ := hobj; exact ⟨o, ho, .inl ⟨hc, by omega⟩⟩)
    have hLb := HLW.out.below hIb.b (by rw [← hBe]; exact HLW.out.lt)
    obtain ⟨v, n1, n2⟩ := hIb.net
    rw [hk] at n2
    have HLN := Lib.hid hline
    have HNX := Lib.hid hnext
    have HNT := Lib.hid hnet
    have HFI := Lib.hid hfirst
    have HIB := Lib.hid hIb
    have HN1 := Lib.hid n1
    have HN2 := Lib.hid n2
    have HBK := Lib.hid hbk
    have HLB := Lib.hid hLb
    have HAT := Lib.hid (show Blk B4 (.cells #[.int .i64 (k : Int)] 3 (0, 0)) Wb by rw [← hk]; exact hIb.at_)
    clear hline hnext hnet hfirst hIb n1 n2 hbk hLb hI hg hobj hcase hr
    have g1 : Fence.wide.fn 57 := trivial
    have g2 : Fence.wide.fn 58 := trivial
    have f1 : (Fence.wide.inRound l).fn 57 := trivial
    have f2 : (Fence.wide.inRound l).fn 58 := trivial
    have ex0 : ∀ (a b : Value) (w : World), (Instr.extract (.tuple #[a, b]) 0).run Tryz.prog w = .ok a w := fun _ _ _ => by kernel_rfl
    have ex1 : ∀ (a b : Value) (w : World), (Instr.extract (.tuple #[a, b]) 1).run Tryz.prog w = .ok b w := fun _ _ _ => by kernel_rfl
    gi_wp2_with (gi_at_call 57; refine (CallsIn.inRound l (callsIn_wide.2 (netReadLine q y ws _ HLN.out HLB.out))).mono ?_; rintro e w2 ⟨v2, rfl, hr2, hb2⟩; rw [HMM.out] at hr2; have hwl : 0 < m.length := (by rw [HML.out]; exact HLN.out.some); obtain ⟨gl, cl, rfl, hgl, -, -, hglz⟩ := own_form hr2 hwl; have c3 := (ln_box (HN1.out.below hb2)).1)
    have hk1 : 4 * k + m.length ≤ 4096 := by
      have := HNX.out
      have h1 := congrArg List.length this
      rw [List.length_append, List.length_take, List.length_take] at h1
      simp [S8] at h1
      omega
    have HO2 := Lib.hid (ownsRow_below HN2.out hb2)
    have hLine : LineAt gl m w2 := by
      refine ⟨hglz, fun i hi => ?_⟩
      obtain ⟨b, off, e, -, hc⟩ := RB.of_own hr2 hwl
      simp only [Option.some.injEq, Addr.mk.injEq] at e
      obtain ⟨rfl, rfl, -⟩ := e
      have := hc i hi
      simpa using this
    have hne : v.ownBlock ≠ some gl := fun e => by
      rcases HN2.out.2 with ⟨rfl, -⟩ | ⟨g2, cap2, cur2, rfl, -, hgb2, -⟩
      · simp [Value.ownBlock] at e
      · simp only [Value.ownBlock, Option.some.injEq] at e
        have := (Array.getElem?_eq_some_iff.1 hgb2).1
        omega
    have hBz : B ≤ w2.heap.size := by have := HIB.out.b.size; have := hb2.size; omega
    refine (CallsIn.inRound l (callsIn_wide.2 (netWithLine B gl cl v (S8.take (4 * k)) m w2 HNT.out (by rw [List.length_append, List.length_take]; omega) HFI.out HO2.out hBz hLine hne))).mono ?_
    rintro e w3 ⟨v3, rfl, hr3, hv3, hg3⟩
    rw [← HNX.out] at hr3
    have hpos : 0 < (S8.take (4 * (k + 1))).length := by rw [HNX.out, List.length_append]; omega
    obtain ⟨g3, cap3, rfl, -⟩ := own_form hr3 hpos
    obtain ⟨N3, hN3⟩ : ∃ N3, (S8.take (4 * (k + 1))).length = N3 := ⟨_, rfl⟩
    rw [hN3] at hr3 ⊢
    have HN3 := Lib.hid hN3
    clear hN3
    have q3 := blk_gb (HN1.out.below hb2) HO2.out (by decide) hg3
    have q4 := blk_gb (HAT.out.below hb2) HO2.out (by decide) hg3
    obtain ⟨c30, c31⟩ := ln_box q3
    obtain ⟨c40, c41⟩ := ln_box q4
    have hwk : IntKind.i64.wrap ((k : Int) + 1) = (k : Int) + 1 := by rw [IntKind.wrap_i64]; omega
    have HR3 := Lib.hid hr3
    have HG3 := Lib.hid hg3
    have HQ3 := Lib.hid q3
    have HQ4 := Lib.hid q4
    have HB2 := Lib.hid hb2
    clear hr3 hg3 q3 q4 hb2 hr2 hv3 hLine hne c3
    gi_wp2
    obtain ⟨W5, hW5, k1, k2, k3⟩ := ps_round q hBe hB1 hB2 hB3 hB4 hk HIB.out HB2.out HO2.out HG3.out HN3.out HR3.out HQ3.out HQ4.out HBK.out
    rw [← hW5]
    exact ⟨k1, k2, k3⟩
  case done =>
    subst hA0
    intro D ys W hD hS hI hK
    subst hS
    obtain ⟨v, n1, n2⟩ := hI.net
    obtain ⟨v', c', hv', -⟩ := own_oks (l := S8) n2
    obtain ⟨c30, c31⟩ := ln_box n1
    obtain ⟨c20, c21⟩ := ln_box hI.r2
    obtain ⟨c10, c11⟩ := ln_box hI.r3
    obtain ⟨c00, c01⟩ := ln_box hI.r4
    go_wp2
    have n3 : W.ownsRow B 65 3 v S8.length (bcellsL S8) := n2
    subst hv'
    obtain ⟨W5, hW5, x2, x3, x4, xK, xr, xb⟩ := ps_done hBe hB1 hB2 (by omega) hI.r2 hI.r3 hI.r4 hI.b n3 hK
    rw [← hW5]
    refine ⟨by simp, .inl ⟨_, _, rfl, run_takeDeferred xK, ?_⟩⟩
    have hm : ∀ (i : Nat) (cs : Array Value) (t : TypeId), Blk i (.cells cs t (0, 0)) W5 → i ≠ D := fun i cs t h e => by
      subst e
      have h' : W5.heap[i]? = some (.cells cs t (0, 0)) := h
      rw [xK] at h'
      cases h'
    obtain ⟨W6, hW6⟩ : ∃ W6, W6 = W5.putObj D (.deferred none) := ⟨_, rfl⟩
    have z2 := (ln_box ((World.putObj_heap_other (o := .deferred none) (hm _ _ _ x2)).trans x2)).1
    have z3 := (ln_box ((World.putObj_heap_other (o := .deferred none) (hm _ _ _ x3)).trans x3)).1
    have z4 := (ln_box ((World.putObj_heap_other (o := .deferred none) (hm _ _ _ x4)).trans x4)).1
    refine ⟨.tuple #[.slice v' S8.length c', .int .i64 0, .int .i64 0], ?_, v', c', rfl, ?_, ?_⟩
    · simp [results, Tryz.results21, z2, z3, z4, go_sem]
    · obtain ⟨a6, c6, e6, h6⟩ := own_oks (l := S8) (ownsRow_putObj xr (.deferred none) xK rfl)
      injection e6 with e1 _ e2
      subst e1 e2
      exact h6
    · rw [hBe]
      exact xb.grown (grownBy_putObj' W5 D _) (by have := xb.size; omega) (fun j e => by injection e with e; omega)
end Go.Proofs.YtlhnhkfkbmfikaaGreatDoor

/- awake of chapter 1 returns true. -/
namespace Go.Proofs.YtlhnhkfkbmfikaaGreatDoor
open Go.RowKit Go.Shelf Ck

theorem awPrintL (a : Option Addr) (c : Nat) (w : World) (h : OKS w a c S8) : Calls Tryz.prog 20 #[.slice a S8.length c] w fun e w' => e = .returned (.tuple #[.string ⟨#[48, 58, 32, 48, 47, 32, 50, 92, 32, 50, 47, 32, 52, 92, 10, 49, 58, 32, 49, 92, 32, 49, 47, 32, 51, 92, 32, 51, 47, 10]⟩, .int .i64 0]) ∧ Below w.heap.size w w' := awPrint a c w h
theorem parseLit (w : World) (hL : LaidLen w) : Calls Tryz.prog 21 #[.string ⟨#[48, 58, 32, 48, 47, 32, 50, 92, 32, 50, 47, 32, 52, 92, 10, 49, 58, 32, 49, 92, 32, 49, 47, 32, 51, 92, 32, 51, 47, 10]⟩] w fun e w' => ∃ a c, e = .returned (.tuple #[.slice a S8.length c, .int .i64 0, .int .i64 0]) ∧ OKS w' a c S8 ∧ Below w.heap.size w w' := netParse8 w hL
theorem ri_new (w : World) : RI (w.alloc (.cells #[.int .i64 0, .int .i64 2, .int .i64 1] 3)) (w.alloc (.cells #[.int .i64 0, .int .i64 2, .int .i64 1] 3)).heap.size (some ⟨w.heap.size, 0, none⟩) [0, 2, 1] := fun _ => ⟨w.heap.size, 0, rfl, by simp, fun i hi => by
  have h3 : i = 0 ∨ i = 1 ∨ i = 2 := by simp at hi; omega
  have key : ∀ W : World, W.heap[w.heap.size]? = some (.cells #[.int .i64 0, .int .i64 2, .int .i64 1] 3 (0, 0)) → W.cell? ⟨w.heap.size, 0 + i, none⟩ = some (.int .i64 ([0, 2, 1][i] : Nat)) := fun W hn => by
    rcases h3 with rfl | rfl | rfl <;> simp [World.cell?, hn]
  exact key _ (heap_alloc_new _ _)⟩
set_option maxHeartbeats 16000000 in
set_option maxRecDepth 100000 in
theorem awake1 (w : World) (hL : LaidLen w) : Calls Tryz.prog 5 #[] w fun e w' => e = .returned (.bool true) ∧ Below w.heap.size w w' := by
  have ex0 : ∀ (a b : Value) (w : World), (Instr.extract (.tuple #[a, b]) 0).run Tryz.prog w = .ok a w := fun _ _ _ => by kernel_rfl
  have ex1 : ∀ (a b : Value) (w : World), (Instr.extract (.tuple #[a, b]) 1).run Tryz.prog w = .ok b w := fun _ _ _ => by kernel_rfl
  have ey0 : ∀ (a b c : Value) (w : World), (Instr.extract (.tuple #[a, b, c]) 0).run Tryz.prog w = .ok a w := fun _ _ _ _ => by kernel_rfl
  have ey1 : ∀ (a b c : Value) (w : World), (Instr.extract (.tuple #[a, b, c]) 1).run Tryz.prog w = .ok b w := fun _ _ _ _ => by kernel_rfl
  have ey2 : ∀ (a b c : Value) (w : World), (Instr.extract (.tuple #[a, b, c]) 2).run Tryz.prog w = .ok c w := fun _ _ _ _ => by kernel_rfl
  have g5 := guardFive
  have gm := guardMesh
  have gc := guardCounts
  have q5 := eqFive 0 4 2 0 2
  have qm := eqMesh 2 1
  have qc := eqCountsSame 8 8 1 1 0
  have qd := eqCountsSame 12 12 0 1 1
  have HLL := Lib.hid hL
  have BW := Below.refl w.heap.size w
  clear hL
  go_enter Tryz.func5, Tryz.ntmps5
  go_wp2_with fail
  refine (awSheet22 _).mono ?_
  rintro e w1 ⟨a1, c1, rfl, k1, hb1⟩
  replace BW := BW.trans (hb1.mono BW.size)
  clear hb1
  have K1 := Lib.hid k1
  clear k1
  go_wp2_with fail
  refine (awSmall _).mono ?_
  rintro e w2 ⟨as2, cs2, rfl, ks2, hb2⟩
  replace K1 := Lib.hid (K1.out.below hb2)
  replace BW := BW.trans (hb2.mono BW.size)
  clear hb2
  have KS2 := Lib.hid ks2
  clear ks2
  go_wp2_with fail
  refine (awKnots _ _ _ KS2.out).mono ?_
  rintro e w3 ⟨a2, c2, rfl, hb3⟩
  replace K1 := Lib.hid (K1.out.below hb3)
  replace KS2 := Lib.hid (KS2.out.below hb3)
  replace BW := BW.trans (hb3.mono BW.size)
  clear hb3
  clear KS2
  go_wp2_with fail
  refine (awSmall _).mono ?_
  rintro e w4 ⟨as3, cs3, rfl, ks3, hb4⟩
  replace K1 := Lib.hid (K1.out.below hb4)
  replace BW := BW.trans (hb4.mono BW.size)
  clear hb4
  have KS3 := Lib.hid ks3
  clear ks3
  go_wp2_with fail
  refine (awLegs _ _ _ KS3.out).mono ?_
  rintro e w5 ⟨rfl, hb5⟩
  replace K1 := Lib.hid (K1.out.below hb5)
  replace KS3 := Lib.hid (KS3.out.below hb5)
  replace BW := BW.trans (hb5.mono BW.size)
  clear hb5
  clear KS3
  obtain ⟨w6, hw6, qQL, hb6, hz6⟩ := boxO w5 (.cells #[.int .i64 0, .int .i64 4, .int .i64 2, .int .i64 0, .int .i64 2] 45)
  obtain ⟨bL, hbL⟩ : ∃ b, w5.heap.size = b := ⟨_, rfl⟩
  have HW6 := Lib.hid hw6
  have HB6 := Lib.hid hbL
  replace K1 := Lib.hid (K1.out.below hb6)
  replace BW := BW.trans (hb6.mono BW.size)
  rw [hbL] at qQL
  have QL : Hid (Blk bL _ w6) := Lib.hid qQL
  clear qQL hb6 hz6 hw6 hbL
  go_wp2_with fail
  rw [HW6.out]
  simp only [HB6.out]
  refine (awSmall _).mono ?_
  rintro e w7 ⟨as4, cs4, rfl, ks4, hb7⟩
  replace K1 := Lib.hid (K1.out.below hb7)
  replace QL := Lib.hid (QL.out.below hb7)
  replace BW := BW.trans (hb7.mono BW.size)
  clear hb7
  have KS4 := Lib.hid ks4
  clear ks4
  go_wp2_with fail
  refine (awMeshes _ _ _ KS4.out).mono ?_
  rintro e w8 ⟨gm4, cm4, rfl, mz, m0, m1, hb8⟩
  replace K1 := Lib.hid (K1.out.below hb8)
  replace QL := Lib.hid (QL.out.below hb8)
  replace KS4 := Lib.hid (KS4.out.below hb8)
  replace BW := BW.trans (hb8.mono BW.size)
  clear hb8
  have MM : Hid (MeshAt gm4 w8) := Lib.hid ⟨mz, m0, m1⟩
  clear mz m0 m1
  clear KS4
  go_wp2_with fail
  refine (awSmall _).mono ?_
  rintro e w9 ⟨as5, cs5, rfl, ks5, hb9⟩
  replace K1 := Lib.hid (K1.out.below hb9)
  replace QL := Lib.hid (QL.out.below hb9)
  replace MM := Lib.hid (MM.out.below hb9)
  replace BW := BW.trans (hb9.mono BW.size)
  clear hb9
  have KS5 := Lib.hid ks5
  clear ks5
  go_wp2_with fail
  refine (awPrintL _ _ _ KS5.out).mono ?_
  rintro e w10 ⟨rfl, hb10⟩
  replace K1 := Lib.hid (K1.out.below hb10)
  replace QL := Lib.hid (QL.out.below hb10)
  replace MM := Lib.hid (MM.out.below hb10)
  replace KS5 := Lib.hid (KS5.out.below hb10)
  replace BW := BW.trans (hb10.mono BW.size)
  clear hb10
  clear KS5
  go_wp2_with fail
  refine (parseLit _ (HLL.out.below BW HLL.out.lt)).mono ?_
  rintro e w11 ⟨a6, c6, rfl, k6, hb11⟩
  replace K1 := Lib.hid (K1.out.below hb11)
  replace QL := Lib.hid (QL.out.below hb11)
  replace MM := Lib.hid (MM.out.below hb11)
  replace BW := BW.trans (hb11.mono BW.size)
  clear hb11
  have K6 := Lib.hid k6
  clear k6
  go_wp2_with fail
  refine (awSmall _).mono ?_
  rintro e w12 ⟨as7, cs7, rfl, ks7, hb12⟩
  replace K1 := Lib.hid (K1.out.below hb12)
  replace QL := Lib.hid (QL.out.below hb12)
  replace MM := Lib.hid (MM.out.below hb12)
  replace K6 := Lib.hid (K6.out.below hb12)
  replace BW := BW.trans (hb12.mono BW.size)
  clear hb12
  have KS7 := Lib.hid ks7
  clear ks7
  go_wp2_with fail
  refine (awCount8 _ _ _ KS7.out).mono ?_
  rintro e w13 ⟨rfl, hb13⟩
  replace K1 := Lib.hid (K1.out.below hb13)
  replace QL := Lib.hid (QL.out.below hb13)
  replace MM := Lib.hid (MM.out.below hb13)
  replace K6 := Lib.hid (K6.out.below hb13)
  replace KS7 := Lib.hid (KS7.out.below hb13)
  replace BW := BW.trans (hb13.mono BW.size)
  clear hb13
  clear KS7
  obtain ⟨w14, hw14, qQC, hb14, hz14⟩ := boxO w13 (.cells #[.int .i64 8, .int .i64 8, .int .i64 1, .int .i64 1, .int .i64 0] 56)
  obtain ⟨bC, hbC⟩ : ∃ b, w13.heap.size = b := ⟨_, rfl⟩
  have HW14 := Lib.hid hw14
  have HB14 := Lib.hid hbC
  replace K1 := Lib.hid (K1.out.below hb14)
  replace QL := Lib.hid (QL.out.below hb14)
  replace MM := Lib.hid (MM.out.below hb14)
  replace K6 := Lib.hid (K6.out.below hb14)
  replace BW := BW.trans (hb14.mono BW.size)
  rw [hbC] at qQC
  have QC : Hid (Blk bC _ w14) := Lib.hid qQC
  clear qQC hb14 hz14 hw14 hbC
  go_wp2_with fail
  rw [HW14.out]
  simp only [HB14.out]
  refine (awSmall _).mono ?_
  rintro e w15 ⟨as8, cs8, rfl, ks8, hb15⟩
  replace K1 := Lib.hid (K1.out.below hb15)
  replace QL := Lib.hid (QL.out.below hb15)
  replace MM := Lib.hid (MM.out.below hb15)
  replace K6 := Lib.hid (K6.out.below hb15)
  replace QC := Lib.hid (QC.out.below hb15)
  replace BW := BW.trans (hb15.mono BW.size)
  clear hb15
  have KS8 := Lib.hid ks8
  clear ks8
  go_wp2_with fail
  refine (refSameNet a1 as8 c1 cs8 S8 _ (by decide) K1.out.2.2.2 KS8.out.2.2.2).mono ?_
  rintro e w16 ⟨rfl, hb16⟩
  replace K1 := Lib.hid (K1.out.below hb16)
  replace QL := Lib.hid (QL.out.below hb16)
  replace MM := Lib.hid (MM.out.below hb16)
  replace K6 := Lib.hid (K6.out.below hb16)
  replace QC := Lib.hid (QC.out.below hb16)
  replace KS8 := Lib.hid (KS8.out.below hb16)
  replace BW := BW.trans (hb16.mono BW.size)
  clear hb16
  clear KS8
  clear K1
  obtain ⟨r0, r1, r2, r3, r4, -⟩ := five_of_block QL.out
  obtain ⟨mz, m0, m1⟩ := MM.out
  go_wp2_with fail
  refine (awSmall _).mono ?_
  rintro e w17 ⟨as9, cs9, rfl, ks9, hb17⟩
  replace QL := Lib.hid (QL.out.below hb17)
  replace MM := Lib.hid (MM.out.below hb17)
  replace K6 := Lib.hid (K6.out.below hb17)
  replace QC := Lib.hid (QC.out.below hb17)
  replace BW := BW.trans (hb17.mono BW.size)
  clear hb17
  have KS9 := Lib.hid ks9
  clear ks9
  clear r0 r1 r2 r3 r4 mz m0 m1
  clear QL
  clear MM
  go_wp2_with fail
  refine (refSameNet a6 as9 c6 cs9 S8 _ (by decide) K6.out.2.2.2 KS9.out.2.2.2).mono ?_
  rintro e w18 ⟨rfl, hb18⟩
  replace K6 := Lib.hid (K6.out.below hb18)
  replace QC := Lib.hid (QC.out.below hb18)
  replace KS9 := Lib.hid (KS9.out.below hb18)
  replace BW := BW.trans (hb18.mono BW.size)
  clear hb18
  clear KS9
  clear K6
  obtain ⟨r0, r1, r2, r3, r4, -⟩ := five_of_block QC.out
  go_wp2_with fail
  refine (awSheet24 _).mono ?_
  rintro e w19 ⟨a10, c10, rfl, k10, hb19⟩
  replace QC := Lib.hid (QC.out.below hb19)
  replace BW := BW.trans (hb19.mono BW.size)
  clear hb19
  have K10 := Lib.hid k10
  clear k10
  clear r0 r1 r2 r3 r4
  clear QC
  go_wp2_with fail
  refine (awAround _).mono ?_
  rintro e w20 ⟨a11, c11, rfl, k11, hb20⟩
  replace K10 := Lib.hid (K10.out.below hb20)
  replace BW := BW.trans (hb20.mono BW.size)
  clear hb20
  have K11 := Lib.hid k11
  clear k11
  go_wp2_with fail
  refine (awMinus _ _ _ _ _ K10.out K11.out).mono ?_
  rintro e w21 ⟨a12, c12, rfl, k12, hb21⟩
  replace K10 := Lib.hid (K10.out.below hb21)
  replace K11 := Lib.hid (K11.out.below hb21)
  replace BW := BW.trans (hb21.mono BW.size)
  clear hb21
  have K12 := Lib.hid k12
  clear k12
  clear K10
  clear K11
  go_wp2_with fail
  refine (awCount12 _ _ _ K12.out).mono ?_
  rintro e w22 ⟨rfl, hb22⟩
  replace K12 := Lib.hid (K12.out.below hb22)
  replace BW := BW.trans (hb22.mono BW.size)
  clear hb22
  clear K12
  obtain ⟨w23, hw23, qQH, hb23, hz23⟩ := boxO w22 (.cells #[.int .i64 12, .int .i64 12, .int .i64 0, .int .i64 1, .int .i64 1] 56)
  obtain ⟨bH, hbH⟩ : ∃ b, w22.heap.size = b := ⟨_, rfl⟩
  have HW23 := Lib.hid hw23
  have HB23 := Lib.hid hbH
  replace BW := BW.trans (hb23.mono BW.size)
  rw [hbH] at qQH
  have QH : Hid (Blk bH _ w23) := Lib.hid qQH
  clear qQH hb23 hz23  hbH
  have ko14 := oks_new w23 [⟨1, 1, -1⟩] (by decide) #[.int .i64 1, .int .i64 1, .int .i64 (-1)] rfl
  obtain ⟨w24, hw24, -, hb24, -⟩ := boxO w23 (.cells #[.int .i64 1, .int .i64 1, .int .i64 (-1)] 65)
  rw [hw24] at ko14
  replace QH := Lib.hid (QH.out.below hb24)
  replace BW := BW.trans (hb24.mono BW.size)
  have KO14 := Lib.hid ko14
  clear ko14 hb24
  go_wp2_with fail
  simp only [HB23.out]
  clear hw23
  refine (awTurn _ _ _ KO14.out).mono ?_
  rintro e w25 ⟨a14, c14, rfl, k14, hb25⟩
  replace QH := Lib.hid (QH.out.below hb25)
  replace KO14 := Lib.hid (KO14.out.below hb25)
  replace BW := BW.trans (hb25.mono BW.size)
  clear hb25
  have K14 := Lib.hid k14
  clear k14
  clear KO14
  have ko15 := oks_new w25 [⟨2, 0, 1⟩] (by decide) #[.int .i64 2, .int .i64 0, .int .i64 1] rfl
  obtain ⟨w26, hw26, -, hb26, -⟩ := boxO w25 (.cells #[.int .i64 2, .int .i64 0, .int .i64 1] 65)
  rw [hw26] at ko15
  replace QH := Lib.hid (QH.out.below hb26)
  replace K14 := Lib.hid (K14.out.below hb26)
  replace BW := BW.trans (hb26.mono BW.size)
  have KO15 := Lib.hid ko15
  clear ko15 hb26
  go_wp2_with fail
  refine (awMirror _ _ _ KO15.out).mono ?_
  rintro e w27 ⟨a15, c15, rfl, k15, hb27⟩
  replace QH := Lib.hid (QH.out.below hb27)
  replace K14 := Lib.hid (K14.out.below hb27)
  replace KO15 := Lib.hid (KO15.out.below hb27)
  replace BW := BW.trans (hb27.mono BW.size)
  clear hb27
  have K15 := Lib.hid k15
  clear k15
  clear KO15
  have ko16 := oks_new w27 [⟨5, 3, 1⟩] (by decide) #[.int .i64 5, .int .i64 3, .int .i64 1] rfl
  obtain ⟨w28, hw28, -, hb28, -⟩ := boxO w27 (.cells #[.int .i64 5, .int .i64 3, .int .i64 1] 65)
  rw [hw28] at ko16
  replace QH := Lib.hid (QH.out.below hb28)
  replace K14 := Lib.hid (K14.out.below hb28)
  replace K15 := Lib.hid (K15.out.below hb28)
  replace BW := BW.trans (hb28.mono BW.size)
  have KO16 := Lib.hid ko16
  clear ko16 hb28
  go_wp2_with fail
  refine (awCanon _ _ _ KO16.out).mono ?_
  rintro e w29 ⟨a16, c16, rfl, k16, hb29⟩
  replace QH := Lib.hid (QH.out.below hb29)
  replace K14 := Lib.hid (K14.out.below hb29)
  replace K15 := Lib.hid (K15.out.below hb29)
  replace KO16 := Lib.hid (KO16.out.below hb29)
  replace BW := BW.trans (hb29.mono BW.size)
  clear hb29
  have K16 := Lib.hid k16
  clear k16
  clear KO16
  have ko17 := oks_new w29 [⟨0, 0, 1⟩, ⟨4, 0, 1⟩] (by decide) #[.int .i64 0, .int .i64 0, .int .i64 1, .int .i64 4, .int .i64 0, .int .i64 1] rfl
  obtain ⟨w30, hw30, -, hb30, -⟩ := boxO w29 (.cells #[.int .i64 0, .int .i64 0, .int .i64 1, .int .i64 4, .int .i64 0, .int .i64 1] 65)
  rw [hw30] at ko17
  replace QH := Lib.hid (QH.out.below hb30)
  replace K14 := Lib.hid (K14.out.below hb30)
  replace K15 := Lib.hid (K15.out.below hb30)
  replace K16 := Lib.hid (K16.out.below hb30)
  replace BW := BW.trans (hb30.mono BW.size)
  have KO17 := Lib.hid ko17
  clear ko17 hb30
  go_wp2_with fail
  refine (awParts _ _ _ KO17.out).mono ?_
  rintro e w31 ⟨a17, c17, rfl, hb31⟩
  replace QH := Lib.hid (QH.out.below hb31)
  replace K14 := Lib.hid (K14.out.below hb31)
  replace K15 := Lib.hid (K15.out.below hb31)
  replace K16 := Lib.hid (K16.out.below hb31)
  replace KO17 := Lib.hid (KO17.out.below hb31)
  replace BW := BW.trans (hb31.mono BW.size)
  clear hb31
  clear KO17
  go_wp2_with fail
  refine (awDraw _).mono ?_
  rintro e w32 ⟨a18, c18, rfl, k18, hb32⟩
  replace QH := Lib.hid (QH.out.below hb32)
  replace K14 := Lib.hid (K14.out.below hb32)
  replace K15 := Lib.hid (K15.out.below hb32)
  replace K16 := Lib.hid (K16.out.below hb32)
  replace BW := BW.trans (hb32.mono BW.size)
  clear hb32
  have KD := Lib.hid k18
  clear k18
  obtain ⟨r0, r1, r2, r3, r4, -⟩ := five_of_block QH.out
  clear QH
  have ko21 := oks_new w32 [⟨-2, 0, 1⟩] (by decide) #[.int .i64 (-2), .int .i64 0, .int .i64 1] rfl
  obtain ⟨w33, hw33, -, hb33, -⟩ := boxO w32 (.cells #[.int .i64 (-2), .int .i64 0, .int .i64 1] 65)
  rw [hw33] at ko21
  replace K14 := Lib.hid (K14.out.below hb33)
  replace K15 := Lib.hid (K15.out.below hb33)
  replace K16 := Lib.hid (K16.out.below hb33)
  replace KD := Lib.hid (KD.out.go hb33)
  replace BW := BW.trans (hb33.mono BW.size)
  have KO21 := Lib.hid ko21
  clear ko21 hb33
  go_wp2_with fail
  refine (refSameNet a14 _ c14 _ [⟨-2, 0, 1⟩] _ (by decide) K14.out.2.2.2 KO21.out.2.2.2).mono ?_
  rintro e w34 ⟨rfl, hb34⟩
  replace K14 := Lib.hid (K14.out.below hb34)
  replace K15 := Lib.hid (K15.out.below hb34)
  replace K16 := Lib.hid (K16.out.below hb34)
  replace KD := Lib.hid (KD.out.go hb34)
  replace KO21 := Lib.hid (KO21.out.below hb34)
  replace BW := BW.trans (hb34.mono BW.size)
  clear hb34
  clear KO21
  clear K14
  clear r0 r1 r2 r3 r4
  have ko22 := oks_new w34 [⟨-2, 0, -1⟩] (by decide) #[.int .i64 (-2), .int .i64 0, .int .i64 (-1)] rfl
  obtain ⟨w35, hw35, -, hb35, -⟩ := boxO w34 (.cells #[.int .i64 (-2), .int .i64 0, .int .i64 (-1)] 65)
  rw [hw35] at ko22
  replace K15 := Lib.hid (K15.out.below hb35)
  replace K16 := Lib.hid (K16.out.below hb35)
  replace KD := Lib.hid (KD.out.go hb35)
  replace BW := BW.trans (hb35.mono BW.size)
  have KO22 := Lib.hid ko22
  clear ko22 hb35
  go_wp2_with fail
  refine (refSameNet a15 _ c15 _ [⟨-2, 0, -1⟩] _ (by decide) K15.out.2.2.2 KO22.out.2.2.2).mono ?_
  rintro e w36 ⟨rfl, hb36⟩
  replace K15 := Lib.hid (K15.out.below hb36)
  replace K16 := Lib.hid (K16.out.below hb36)
  replace KD := Lib.hid (KD.out.go hb36)
  replace KO22 := Lib.hid (KO22.out.below hb36)
  replace BW := BW.trans (hb36.mono BW.size)
  clear hb36
  clear KO22
  clear K15
  have ko23 := oks_new w36 [⟨0, 0, -1⟩] (by decide) #[.int .i64 0, .int .i64 0, .int .i64 (-1)] rfl
  obtain ⟨w37, hw37, -, hb37, -⟩ := boxO w36 (.cells #[.int .i64 0, .int .i64 0, .int .i64 (-1)] 65)
  rw [hw37] at ko23
  replace K16 := Lib.hid (K16.out.below hb37)
  replace KD := Lib.hid (KD.out.go hb37)
  replace BW := BW.trans (hb37.mono BW.size)
  have KO23 := Lib.hid ko23
  clear ko23 hb37
  go_wp2_with fail
  refine (refSameNet a16 _ c16 _ [⟨0, 0, -1⟩] _ (by decide) K16.out.2.2.2 KO23.out.2.2.2).mono ?_
  rintro e w38 ⟨rfl, hb38⟩
  replace K16 := Lib.hid (K16.out.below hb38)
  replace KD := Lib.hid (KD.out.go hb38)
  replace KO23 := Lib.hid (KO23.out.below hb38)
  replace BW := BW.trans (hb38.mono BW.size)
  clear hb38
  clear KO23
  clear K16
  have kr := ri_new w38
  obtain ⟨w39, hw39, -, hb39, -⟩ := boxO w38 (.cells #[.int .i64 0, .int .i64 2, .int .i64 1] 3)
  rw [hw39] at kr
  replace KD := Lib.hid (KD.out.go hb39)
  replace BW := BW.trans (hb39.mono BW.size)
  have KR := Lib.hid kr
  clear kr hb39
  go_wp2_with fail
  refine (refSameInts a18 _ c18 _ [0, 2, 1] _ (by decide) KD.out KR.out).mono ?_
  rintro e wz ⟨rfl, hbz⟩
  replace BW := BW.trans (hbz.mono BW.size)
  clear KD KR hbz
  go_wp2
  go_ret
  exact ⟨rfl, BW⟩
end Go.Proofs.YtlhnhkfkbmfikaaGreatDoor
