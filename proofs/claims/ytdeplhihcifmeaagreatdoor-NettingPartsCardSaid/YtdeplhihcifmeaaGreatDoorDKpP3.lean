/- Helpers: DKpP3. -/
import Derived.Test.YtdeplhihcifmeaaGreatDoorDKpP2
import Derived.Deep.RegionHeld3
import Derived.ProofKit
import Derived.Deep.Slices
import Derived.Deep.Fields
/- Rows of pairs (knots, meshes) in memory; SameKnots of the reference. -/
namespace Go.Proofs.YtdeplhihcifmeaaGreatDoor
open Go.RowKit

theorem kcellsL_at (l : List Ck.Knot) : ∀ (i : Nat) (h : i < l.length), (kcellsL l)[i * 2]? = some (.int .i64 l[i].x) ∧ (kcellsL l)[i * 2 + 1]? = some (.int .i64 l[i].y) := by
  induction l with
  | nil => intro i h; simp at h
  | cons a r ih =>
    intro i h
    have e : kcellsL (a :: r) = [.int .i64 a.x, .int .i64 a.y] ++ kcellsL r := by simp [kcellsL]
    rw [e]
    cases i with
    | zero => exact ⟨rfl, rfl⟩
    | succ i =>
      have := ih i (by simpa using h)
      rw [show (i + 1) * 2 = i * 2 + 2 from by omega]
      simpa using this
/-- The slice reads as these pairs. -/
def OKP (w : World) (a : Option Addr) (c : Nat) (l : List Ck.Knot) : Prop := l.length ≤ c ∧ c ≤ maxLen ∧ RK w w.heap.size a l
theorem RK.below' {w w' : World} {B : Nat} {A : Option Addr} {l : List Ck.Knot} (h : RK w B A l) (hb : Below B w w') : RK w' B A l := fun hl => by
  obtain ⟨b, off, rfl, hB, hc⟩ := h hl
  exact ⟨b, off, rfl, hB, fun i hi => ⟨(hb.cell (p := ⟨b, _, none⟩) hB).trans (hc i hi).1, (hb.cell (p := ⟨b, _, none⟩) hB).trans (hc i hi).2⟩⟩
theorem RK.more' {w : World} {B B' : Nat} {A : Option Addr} {l : List Ck.Knot} (h : RK w B A l) (hB : B ≤ B') : RK w B' A l := fun hl => by
  obtain ⟨b, off, h1, h2, hc⟩ := h hl
  exact ⟨b, off, h1, by omega, hc⟩
theorem OKP.below {w w' : World} {a : Option Addr} {c : Nat} {l : List Ck.Knot} (h : OKP w a c l) (hb : Below w.heap.size w w') : OKP w' a c l := ⟨h.1, h.2.1, (h.2.2.below' hb).more' hb.size⟩
theorem own_okp {w : World} {base : Nat} {t : TypeId} {v : Value} {l : List Ck.Knot} (h : w.ownsRow base t 2 v l.length (kcellsL l)) : ∃ a c, v = .slice a l.length c ∧ OKP w a c l := by
  rcases h.2 with ⟨rfl, hz⟩ | ⟨g, cap, cur, rfl, _, hgb, h1, h2, _⟩
  · have : l = [] := List.eq_nil_of_length_eq_zero hz
    subst this
    exact ⟨none, 0, rfl, Nat.zero_le _, by unfold maxLen; omega, fun hl => by simp at hl⟩
  · refine ⟨_, _, rfl, h1, h2, fun _ => ⟨g, 0, rfl, (Array.getElem?_eq_some_iff.1 hgb).1, fun i hi => ?_⟩⟩
    have hc := h.cells (g := g) rfl
    obtain ⟨h0, h1⟩ := kcellsL_at l i hi
    have k0 := hc _ _ h0
    have k1 := hc _ _ h1
    rw [add0] at k0 k1
    simp only [Nat.zero_add]
    exact ⟨k0, k1⟩
def meshK (l : List Ck.Bar) : List Ck.Knot := l.map fun b => ⟨b.x, b.y + 1⟩
theorem meshK_cells (l : List Ck.Bar) : meshCells l = kcellsL (meshK l) := by
  induction l with
  | nil => rfl
  | cons a r ih => simp [meshCells, meshK, kcellsL] at ih ⊢; exact ih
theorem meshK_length (l : List Ck.Bar) : (meshK l).length = l.length := by simp [meshK]
end Go.Proofs.YtdeplhihcifmeaaGreatDoor

/- The reference's Knots. -/
namespace Go.Proofs.YtdeplhihcifmeaaGreatDoor
open Go.RowKit Go.Shelf Go.Sort

theorem takeG {α : Type} {p : α → Bool} : ∀ {l : List α} {j : Nat}, j ≤ l.length → (∀ q (h : q < l.length), q < j → p l[q] = true) → (∀ h : j < l.length, p l[j] = false) → l.takeWhile p = l.take j ∧ l.dropWhile p = l.drop j
  | [], 0, _, _, _ => ⟨rfl, rfl⟩
  | a :: r, 0, _, _, h => by
    have h0 : p a = false := h (by simp)
    rw [List.takeWhile_cons, List.dropWhile_cons, h0]
    exact ⟨rfl, rfl⟩
  | a :: r, j + 1, hj, h1, h2 => by
    have h0 : p a = true := h1 0 (by simp) (by omega)
    have ih := takeG (p := p) (l := r) (j := j) (by simpa using hj) (fun q hq hqj => by have h3 := h1 (q + 1) (by simpa using hq) (by omega); rwa [List.getElem_cons_succ] at h3) (fun h => by have h3 := h2 (by simpa using h); rwa [List.getElem_cons_succ] at h3)
    rw [List.takeWhile_cons, List.dropWhile_cons, h0, List.take_succ_cons, List.drop_succ_cons]
    exact ⟨by simp [ih.1], by simpa using ih.2⟩
def knL (es : List Ck.Knot) (k : Nat) : List Ck.Knot := insL ltK (es.take k) []
theorem knL_succ (es : List Ck.Knot) (k : Nat) (h : k < es.length) : knL es (k + 1) = insG ltK (knL es k) es[k] := by
  rw [knL, List.take_succ_eq_append_getElem h, insL, List.foldl_append]
  rfl
theorem knL_le (es : List Ck.Knot) (k : Nat) : (knL es k).length ≤ k := by
  have h1 := insL_length ltK (es.take k) []
  have h2 : (es.take k).length ≤ k := by rw [List.length_take]; omega
  unfold knL
  simp at h1
  omega
theorem knL_pos (es : List Ck.Knot) (k : Nat) (hk : 0 < k) (h : k ≤ es.length) : 0 < (knL es k).length := by
  have h0 : es[0]'(by omega) ∈ knL es k := by
    rw [knL, insL_mem]
    exact .inr (List.mem_take_iff_getElem.2 ⟨0, by omega, rfl⟩)
  exact List.length_pos_of_mem h0
theorem ins_sameK {O : List Ck.Knot} {j : Nat} {x : Ck.Knot} (hj : j < O.length) (h1 : ∀ q (h : q < O.length), q < j → ltK O[q] x = true) (h2 : ltK O[j] x = false) (he : O[j] = x) : insG ltK O x = O := by
  obtain ⟨-, hd⟩ := takeG (p := (ltK · x)) (l := O) (j := j) (by omega) (fun q hq hqj => h1 q hq hqj) (fun h => h2)
  unfold insG
  rw [hd, if_pos]
  rw [List.drop_eq_getElem_cons hj, List.head?_cons, he]
theorem ins_newK {O : List Ck.Knot} {j : Nat} {x : Ck.Knot} (hj : j ≤ O.length) (h1 : ∀ q (h : q < O.length), q < j → ltK O[q] x = true) (h2 : ∀ h : j < O.length, ltK O[j] x = false) (he : ∀ h : j < O.length, O[j] ≠ x) : insG ltK O x = O.take j ++ x :: O.drop j := by
  obtain ⟨ht, hd⟩ := takeG (p := (ltK · x)) (l := O) (j := j) hj (fun q hq hqj => h1 q hq hqj) (fun h => h2 h)
  unfold insG
  rw [hd, ht, if_neg]
  intro h
  by_cases hlt : j < O.length
  · rw [List.drop_eq_getElem_cons hlt, List.head?_cons, Option.some.injEq] at h
    exact he hlt h
  · rw [List.drop_of_length_le (by omega)] at h
    cases h
theorem ltK_yes1 {a b : Ck.Knot} (h : a.y < b.y) : ltK a b = true := by simp [ltK, Klt, h]
theorem ltK_yes2 {a b : Ck.Knot} (h : a.y = b.y) (h2 : a.x < b.x) : ltK a b = true := by simp [ltK, Klt, h, h2]
theorem ltK_no1 {a b : Ck.Knot} (h : ¬ a.y < b.y) (h2 : ¬ a.y = b.y) : ltK a b = false := by simp [ltK, Klt, h, h2]
theorem ltK_no2 {a b : Ck.Knot} (h : a.y = b.y) (h2 : ¬ a.x < b.x) : ltK a b = false := by simp [ltK, Klt, h, h2]
theorem kcellsL_app (a b : List Ck.Knot) : kcellsL (a ++ b) = kcellsL a ++ kcellsL b := by simp [kcellsL]
theorem kcellsL_one (l : List Ck.Knot) : ∀ u ∈ kcellsL l, u.oneCell' = true := by
  intro u hu
  simp only [kcellsL, List.mem_flatMap] at hu
  obtain ⟨b, _, hu⟩ := hu
  simp at hu
  rcases hu with rfl | rfl <;> rfl
theorem newsK {w : World} {B b off : Nat} {l : List Ck.Knot} (h : RK w B (some ⟨b, off, none⟩) l) (hl : 0 < l.length) : ∀ (j : Nat) (u : Value), (kcellsL l)[j]? = some u → w.cell? ((⟨b, off, none⟩ : Addr).add j) = some u := by
  intro j u hu
  obtain ⟨b', off', e, _, hc⟩ := h hl
  cases e
  have hj : j < (kcellsL l).length := (List.getElem?_eq_some_iff.1 hu).1
  rw [kcellsL_length] at hj
  have hi : j / 2 < l.length := by omega
  obtain ⟨k0, k1⟩ := hc (j / 2) hi
  obtain ⟨h0, h1⟩ := kcellsL_at l (j / 2) hi
  have hadd : (⟨b, off, none⟩ : Addr).add j = ⟨b, off + j, none⟩ := by
    unfold Addr.add
    split
    · rename_i e; simp
    · rfl
  rw [hadd]
  have hm : j % 2 = 0 ∨ j % 2 = 1 := by omega
  rcases hm with hm | hm
  · have e : j = j / 2 * 2 := by omega
    rw [← e] at h0 k0
    rw [k0, ← hu, h0]
  · have e : j = j / 2 * 2 + 1 := by omega
    rw [← e] at h1
    rw [Nat.add_assoc, ← e] at k1
    rw [k1, ← hu, h1]
theorem newsK_drop {w : World} {B g cap j : Nat} {O : List Ck.Knot} (h : RK w B (some ⟨g, 0, none⟩) O) (hO : 0 < O.length) (hj : j ≤ O.length) (hc : O.length ≤ cap) : ∀ ad, (if cap = j then some (⟨g, 0, none⟩ : Addr) else some ⟨g, j * 2, none⟩) = some ad → ∀ (t : Nat) (u : Value), (kcellsL (O.drop j))[t]? = some u → w.cell? (ad.add t) = some u := by
  intro ad had t u hu
  by_cases hcj : cap = j
  · rw [List.drop_of_length_le (by omega)] at hu
    simp [kcellsL] at hu
  · rw [if_neg hcj] at had
    cases had
    have h1 := newsK h hO (j * 2 + t) u (by
      have e : kcellsL O = kcellsL (O.take j) ++ kcellsL (O.drop j) := by rw [← kcellsL_app, List.take_append_drop]
      rw [e, List.getElem?_append_right (by rw [kcellsL_length, List.length_take]; omega), kcellsL_length, List.length_take]
      rw [Nat.min_eq_left hj, Nat.add_sub_cancel_left]
      exact hu)
    have e : (⟨g, j * 2, none⟩ : Addr).add t = (⟨g, 0, none⟩ : Addr).add (j * 2 + t) := by
      simp only [Addr.add]
      by_cases h0 : t = 0
      · subst h0
        by_cases h3 : j = 0
        · subst h3
          rfl
        · rw [if_pos rfl, if_neg (by omega)]
          simp
      · rw [if_neg h0, if_neg (by omega)]
        simp
    rw [e]
    exact h1
theorem newsK_take {w : World} {B g j : Nat} {O : List Ck.Knot} (h : RK w B (some ⟨g, 0, none⟩) O) (hO : 0 < O.length) : ∀ ad, some (⟨g, 0, none⟩ : Addr) = some ad → ∀ (t : Nat) (u : Value), (kcellsL (O.take j))[t]? = some u → w.cell? (ad.add t) = some u := by
  intro ad had t u hu
  cases had
  refine newsK h hO t u ?_
  have e : kcellsL O = kcellsL (O.take j) ++ kcellsL (O.drop j) := by rw [← kcellsL_app, List.take_append_drop]
  have ht : t < (kcellsL (O.take j)).length := (List.getElem?_eq_some_iff.1 hu).1
  rw [e, List.getElem?_append_left ht]
  exact hu
def KnR (B : Nat) (v : Value) (l : List Ck.Knot) (W : World) : Prop := W.ownsRow B 26 2 v l.length (kcellsL l)
theorem insK_row {w6 : World} {base B j n : Nat} {v : Value} {O : List Ck.Knot} {x : Ck.Knot} (hB : B ≤ base) (hj : j ≤ O.length) (hn : n = O.length)
    (h : w6.ownsRow base 26 2 v (0 + j + 1 + (n - j)) ([] ++ kcellsL (O.take j) ++ [.int .i64 x.x, .int .i64 x.y] ++ kcellsL (O.drop j))) : Hid (KnR B v (O.take j ++ x :: O.drop j) w6) := by
  subst hn
  have e : (O.take j ++ x :: O.drop j).length = 0 + j + 1 + (O.length - j) := by
    rw [List.length_append, List.length_take, List.length_cons, List.length_drop]
    omega
  unfold KnR
  rw [e]
  have e2 : kcellsL (O.take j ++ x :: O.drop j) = [] ++ kcellsL (O.take j) ++ [.int .i64 x.x, .int .i64 x.y] ++ kcellsL (O.drop j) := by simp [kcellsL]
  rw [e2]
  exact ownsRow_mono h hB
theorem insK_row0 {w6 : World} {base B : Nat} {v : Value} {x : Ck.Knot} (hB : B ≤ base)
    (h : w6.ownsRow base 26 2 v (0 + 0 + 1 + 0) ([] ++ [] ++ [.int .i64 x.x, .int .i64 x.y] ++ [])) : Hid (KnR B v [x] w6) :=
  ownsRow_mono h hB
theorem keep2 {W w1 w2 : World} {b : Nat} {x y : Value} (h : w1.cell? ⟨b, 0, none⟩ = some x ∧ w1.cell? ⟨b, 1, none⟩ = some y ∧ Below W.heap.size W w1 ∧ b < W.heap.size) (hb : Below W.heap.size w1 w2) :
    w2.cell? ⟨b, 0, none⟩ = some x ∧ w2.cell? ⟨b, 1, none⟩ = some y ∧ Below W.heap.size W w2 ∧ b < W.heap.size := by
  obtain ⟨h0, h1, h3, h4⟩ := h
  exact ⟨(hb.cell (p := ⟨b, _, none⟩) h4).trans h0, (hb.cell (p := ⟨b, _, none⟩) h4).trans h1, h3.trans hb, h4⟩
theorem bel2 {W w1 : World} {b : Nat} {x y : Value} (h : w1.cell? ⟨b, 0, none⟩ = some x ∧ w1.cell? ⟨b, 1, none⟩ = some y ∧ Below W.heap.size W w1 ∧ b < W.heap.size) : Below W.heap.size W w1 := h.2.2.1
theorem undSK : Tryz.prog.underlying 62 = some (.slice 26) := by kernel_rfl
theorem ends_get (l : List Ck.Bar) : ∀ (p : Nat) (h : p < l.length), (Ck.ends l)[2 * p]? = some l[p].lo ∧ (Ck.ends l)[2 * p + 1]? = some l[p].hi := by
  induction l with
  | nil => intro p h; simp at h
  | cons a r ih =>
    intro p h
    have e : Ck.ends (a :: r) = [a.lo, a.hi] ++ Ck.ends r := by simp [Ck.ends]
    rw [e]
    cases p with
    | zero => exact ⟨rfl, rfl⟩
    | succ p =>
      have := ih p (by simpa using h)
      rw [show 2 * (p + 1) = 2 * p + 2 from by omega]
      simpa using this
set_option maxHeartbeats 16000000 in
set_option maxRecDepth 100000 in
theorem refKnots (A : Option Addr) (c : Nat) (l : List Ck.Bar) (u : List Ck.Knot) (w : World) (hu : knotsL l = u) (hl : l.length ≤ 4096) (hok : ∀ b ∈ l, Ck.okBar b) (h : OKS w A c l) :
    Calls Tryz.prog 47 #[.slice A l.length c] w fun e w' => ∃ v, e = .returned v ∧ w'.ownsRow w.heap.size 26 2 v u.length (kcellsL u) ∧ Below w.heap.size w w' := by
  obtain ⟨ib, hib, hb0, hb01, hb02⟩ := info_parts Tryz.info26
  have HIB := Lib.hid hib
  have HB0 := Lib.hid hb0
  have HB1 := Lib.hid hb01
  have HB2 := Lib.hid hb02
  have HR := Lib.hid h
  have HU := Lib.hid hu
  have HOK := Lib.hid hok
  have HEL := Lib.hid (ends_length l)
  have hl' : (l.length : Int) ≤ 4096 := by omega
  clear hib hb0 hb01 hb02 h hu hok
  go_enter Tryz.func47, Tryz.ntmps47
  go_wp2_with fail
  go_loopw [3, 4, 5, 6] (fun v i _ _ wr => ∃ k : Nat, k ≤ 2 * l.length ∧ i = .int .i64 k ∧ Hid (KnR w.heap.size v (knL (Ck.ends l) k) wr) ∧ Hid (k = 0 → v = .slice none 0 0) ∧ Below w.heap.size w wr) (fun _ i _ _ _ => 2 * l.length - (intOf i).toNat)
  case atStart => exact ⟨0, Nat.zero_le _, rfl, Lib.hid ⟨rfl, .inl ⟨rfl, rfl⟩⟩, fun _ => rfl, Below.refl _ _⟩
  case round =>
    obtain ⟨k, hk, rfl, hown, hnil, hb⟩ := hrel
    have hwl : IntKind.i64.wrap (2 * (l.length : Int)) = 2 * (l.length : Int) := by rw [IntKind.wrap_i64]; omega
    by_cases hlt : k < 2 * l.length
    · obtain ⟨p, hp, hkp⟩ : ∃ p, p < l.length ∧ (k = 2 * p ∨ k = 2 * p + 1) := ⟨k / 2, by omega, by omega⟩
      obtain ⟨m, hm⟩ : ∃ m : Int, m = (k : Int) - 2 * (p : Int) := ⟨_, rfl⟩
      have hki : (k : Int) < 2 * (l.length : Int) := by omega
      have hk0 : (0 : Int) ≤ (k : Int) := by omega
      have hpi : (p : Int) < (l.length : Int) := by omega
      have hp0 : (0 : Int) ≤ (p : Int) := by omega
      have hquo : (k : Int).tdiv 2 = (p : Int) := by rw [Int.tdiv_eq_ediv_of_nonneg hk0]; omega
      have hrem : (k : Int).tmod 2 = m := by rw [Int.tmod_eq_emod_of_nonneg hk0]; omega
      have hwp : IntKind.i64.wrap (p : Int) = (p : Int) := by rw [IntKind.wrap_i64]; omega
      have hwm : IntKind.i64.wrap m = m := by rw [IntKind.wrap_i64]; omega
      have hm0 : 0 ≤ m := by omega
      have hm1 : m < 2 := by omega
      obtain ⟨b, off, rfl, hB, hc⟩ := (HR.out.2.2.2.below hb) (by omega)
      obtain ⟨d0, d1, d2⟩ := hc p hp
      have hbw : b < wr.heap.size := by have := hb.size; omega
      obtain ⟨⟨⟨x1, x2⟩, ⟨y1, y2⟩, -⟩, ks, -, -⟩ := HOK.out _ (List.getElem_mem hp)
      simp only [Ck.Bar.lo] at x1 x2 y1 y2
      have ks1 : -1 ≤ l[p].s := by omega
      have ks2 : l[p].s ≤ 1 := by omega
      have hkl : k < (Ck.ends l).length := by rw [HEL.out]; omega
      obtain ⟨x, hx⟩ : ∃ x : Ck.Knot, (Ck.ends l)[k]? = some x := ⟨_, List.getElem?_eq_getElem hkl⟩
      have hix : ∀ W : World, (Instr.index 37 (.agg #[.int .i64 l[p].x, .int .i64 l[p].y, .int .i64 (l[p].x + l[p].s), .int .i64 (l[p].y + 1)]) (.int .i64 m)).run Tryz.prog W = .ok (.agg #[.int .i64 x.x, .int .i64 x.y]) W := by
        obtain ⟨g0, g1⟩ := ends_get l p hp
        intro W
        rcases hkp with e | e
        · have h2 : x = l[p].lo := by
            rw [e, g0] at hx
            exact (Option.some.inj hx).symm
          have h3 : m = 0 := by omega
          rw [h2, h3]
          exact idx0 _ _ _ _ W
        · have h2 : x = l[p].hi := by
            rw [e, g1] at hx
            exact (Option.some.inj hx).symm
          have h3 : m = 1 := by omega
          rw [h2, h3]
          exact idx1 _ _ _ _ W
      have HSN := Lib.hid (show knL (Ck.ends l) (k + 1) = insG ltK (knL (Ck.ends l) k) x by rw [knL_succ _ k hkl, (List.getElem?_eq_some_iff.1 hx).2])
      have hOle := knL_le (Ck.ends l) k
      have HPOS := Lib.hid (show 0 < k → 0 < (knL (Ck.ends l) k).length from fun h => knL_pos _ k h (by rw [HEL.out]; omega))
      have hq2 : 2 * l.length ≤ 8192 := by omega
      clear hc hx hm hkp ks hkl
      have HIX := Lib.hid hix
      clear hix
      generalize l[p] = r at *
      go_wp2_with fail
      refine (refEnds r.x r.y r.s _ x1 x2 y1 y2 ks1 ks2).mono ?_
      rintro e w3 ⟨rfl, hb3⟩
      have hix := HIX.out
      go_wp2_with fail
      obtain ⟨wo, hwo, E0, E1, hbo, hB5⟩ := box2 w3 (.int .i64 x.x) (.int .i64 x.y) 26
      rw [← hwo]
      have hbq : Below wr.heap.size wr wo := hb3.trans (hbo.mono hb3.size)
      have hown3 := Lib.hid (show KnR w.heap.size u3 (knL (Ck.ends l) k) wo from ownsRow_below hown.out hbq)
      replace hb := hb.trans (hbq.mono hb.size)
      have hbz := hb.size
      clear hwo hbo hb3 hown hix HIX d0 d1 d2 hbq hB hbw
      generalize w3.heap.size = B5 at *
      have XC := Lib.hid (show ∀ W : World, Below wo.heap.size wo W → W.cell? ⟨B5, 0, none⟩ = some (.int .i64 x.x) ∧ W.cell? ⟨B5, 1, none⟩ = some (.int .i64 x.y) from fun W hW => ⟨(hW.cell (p := ⟨B5, 0, none⟩) hB5).trans E0, (hW.cell (p := ⟨B5, 1, none⟩) hB5).trans E1⟩)
      clear E0 E1
      by_cases hz : k = 0
      · have HV := hnil.out hz
        subst HV
        have HIN := Lib.hid (show insG ltK (knL (Ck.ends l) k) x = [x] by rw [hz]; simp [knL, insL, insG])
        clear hown3 hnil HPOS hOle
        go_wp2_with fail
        go_loopw [6] (fun at' wi => at' = .int .i64 0 ∧ Below wo.heap.size wo wi) (fun _ _ => 0)
        case atStart => exact ⟨rfl, Below.refl _ _⟩
        case round =>
          obtain ⟨rfl, hbi⟩ := hrel
          go_wp2_with fail
          go_quiet (fail)
          have hb8 := below_drewN hbi nq
          generalize World.drewN wr nq = W8 at *
          clear nq
          go_wp2_with fail
          go_quiet (fail)
          have hb9 := below_drewN hb8 nq
          generalize World.drewN W8 nq = W9 at *
          obtain ⟨e0, e1⟩ := XC.out _ hb9
          have hs9 := hb9.size
          go_wp2_with fail
          refine wp_region_held_drew (S := (fun w' => w'.cell? ⟨B5, 0, none⟩ = some (.int .i64 x.x) ∧ w'.cell? ⟨B5, 1, none⟩ = some (.int .i64 x.y) ∧ Below wo.heap.size wo w' ∧ B5 < wo.heap.size)) (by kernel_rfl) ?_ (fun hHeld => ?_)
          · exact ⟨e0, e1, below_drew hb9, hB5⟩
          refine wpAnyH_take (i := 1) (oi := _) (v := ?vz1_1) rfl (by kernel_rfl) (by kernel_rfl) (by kernel_rfl) (fun _ _ _ h => h) (Or.inl ⟨by rfl, ?hyz1_1⟩) (by assumption) ?restz1_1
          case hyz1_1 => (intro w hSw; (try dsimp only at hSw); go_simp; first | done | rfl)
          try simp only [layA]
          refine wpAnyH_take (i := 2) (oi := _) (v := ?vz2_2) rfl (by kernel_rfl) (by kernel_rfl) (by kernel_rfl) (fun _ _ _ h => h) (Or.inl ⟨by rfl, ?hyz2_2⟩) (by assumption) ?restz2_2
          case hyz2_2 => (intro w hSw; (try dsimp only at hSw); go_simp; first | done | rfl)
          try simp only [layA]
          refine wpAnyH_take (i := 3) (oi := _) (v := ?vz3_3) rfl (by kernel_rfl) (by kernel_rfl) (by kernel_rfl) (fun _ _ _ h => h) (Or.inl ⟨by rfl, ?hyz3_3⟩) (by assumption) ?restz3_3
          case hyz3_3 => (intro w hSw; (try dsimp only at hSw); go_simp; first | done | rfl)
          try simp only [layA]
          refine wpAnyH_take (i := 5) (oi := _) (v := ?vz5_4) rfl (by kernel_rfl) (by kernel_rfl) (by kernel_rfl) (fun _ _ _ h => h) (Or.inl ⟨by rfl, ?hyz5_4⟩) (by assumption) ?restz5_4
          case hyz5_4 => (intro w hSw; (try dsimp only at hSw); obtain ⟨e0, e1, -, -⟩ := hSw; go_simp; first | done | rfl)
          try simp only [layA]
          refine wpAnyH_take (i := 8) (oi := _) (v := ?vz8_5) rfl (by kernel_rfl) (by kernel_rfl) (by kernel_rfl) (fun _ _ _ h => h) (Or.inl ⟨by rfl, ?hyz8_5⟩) (by assumption) ?restz8_5
          case hyz8_5 => (intro w hSw; (try dsimp only at hSw); go_simp; first | done | rfl)
          try simp only [layA]
          refine wpAnyH_take (i := 9) (oi := _) (v := ?vz9_6) rfl (by kernel_rfl) (by kernel_rfl) (by kernel_rfl) (fun _ _ _ h => h) (Or.inl ⟨by rfl, ?hyz9_6⟩) (by assumption) ?restz9_6
          case hyz9_6 => (intro w hSw; (try dsimp only at hSw); go_simp; first | done | rfl)
          try simp only [layA]
          refine wpAnyH_take (i := 10) (oi := _) (v := ?vz10_7) rfl (by kernel_rfl) (by kernel_rfl) (by kernel_rfl) (fun _ _ _ h => h) (Or.inl ⟨by rfl, ?hyz10_7⟩) (by assumption) ?restz10_7
          case hyz10_7 => (intro w hSw; (try dsimp only at hSw); go_simp; first | done | rfl)
          try simp only [layA]
          refine wpAnyH_ready (rs := [0, 6]) (by kernel_rfl) (by simp) ?_
          refine (AllReadyH.cons (o := _) rfl (fun K hK => ?rz0_8) (AllReadyH.cons (o := _) rfl (fun K hK => ?rz6_8) AllReadyH.nil))
          case rz0_8 =>
            simp only [layG]
            go_simp
            have hbz9 := (bel2 hHeld).size
            obtain ⟨Wa, hWa⟩ : ∃ Wa, W9.drew.alloc (.cells #[] 26) = Wa := ⟨_, rfl⟩
            have hE := Lib.hid (show Wa.ownsRow wo.heap.size 26 2 (.slice (some ⟨W9.heap.size, 0, none⟩) 0 0) 0 [] by rw [← hWa]; exact empty_row W9.drew _ hbz9 _ _)
            have HZA := Lib.hid (show Wa.heap.size = W9.heap.size + 1 by rw [← hWa]; simp)
            have hal : Below wo.heap.size W9.drew Wa := by rw [← hWa]; exact (Below.refl _ _).alloc hbz9 _
            rw [show (W9.alloc (.cells #[] 26)).drew = Wa from hWa]
            refine hK.out _ _ (keep2 hHeld hal) (fun hHeld => ?_)
            clear hWa hal hbz9
            clear hK K
            try simp only [layA]
            refine wpAnyH_ready (rs := [4, 6]) (by kernel_rfl) (by simp) ?_
            refine (AllReadyH.cons (o := _) rfl (fun K hK => ?rz4_9) (AllReadyH.cons (o := _) rfl (fun K hK => ?rz6_9) AllReadyH.nil))
            case rz4_9 =>
              simp only [layG]
              rw [if_pos (by rfl)]
              have hbz9 := (bel2 hHeld).size
              refine wp_append_gen (.tmp 71) (.tmp 74) 62 rfl wo.heap.size 26 ib (.agg #[.int .i64 0, .int .i64 0]) 2 16 undSK HIB.out HB0.out HB1.out HB2.out rfl (by decide) (.slice (some ⟨W9.heap.size, 0, none⟩) 0 0) 0 [] ?_ hE.out none 0 0 [] ?_ rfl (fun _ => ⟨rfl, rfl⟩) (by intro ad had; cases had) (by intro u hu; cases hu) (by unfold maxLen; omega) (by omega) hbz9 ?_
              · rfl
              · rfl
              intro v5 w5 hown hgrow
              have hown5 := Lib.hid hown
              have hQ := grewQ hE.out (Nat.le_refl _) hbz9 hgrow
              refine hK.out _ _ (keep2 hHeld hQ) (fun hHeld => ?_)
              clear hown hgrow hQ hbz9
              clear hK K
              try simp only [layA]
              refine wpAnyH_ready (rs := [6]) (by kernel_rfl) (by simp) ?_
              refine (AllReadyH.cons (o := _) rfl (fun K hK => ?rz6_10) AllReadyH.nil)
              case rz6_10 =>
                simp only [layG]
                go_simp
                have hbz9 := (bel2 hHeld).size
                obtain ⟨Wb, hWb⟩ : ∃ Wb, w5.alloc (.cells #[.int .i64 x.x, .int .i64 x.y] 26) = Wb := ⟨_, rfl⟩
                have hLt := Lib.hid (show Wb.heap[w5.heap.size]? = some (.cells #[.int .i64 x.x, .int .i64 x.y] 26 (0, 0)) by rw [← hWb]; exact heap_alloc_new _ _)
                have HZB := Lib.hid (show Wb.heap.size = w5.heap.size + 1 by rw [← hWb]; simp)
                have hal : Below wo.heap.size w5 Wb := by rw [← hWb]; exact (Below.refl _ _).alloc hbz9 _
                have hown5b := Lib.hid (show Wb.ownsRow wo.heap.size 26 2 v5 (0 + 0) ([] ++ []) by rw [← hWb]; exact hown5.out.alloc _)
                rw [hWb]
                refine hK.out _ _ (keep2 hHeld hal) (fun hHeld => ?_)
                clear hWb hal hbz9
                clear hK K
                try simp only [layA]
                refine wpAnyH_ready (rs := [7]) (by kernel_rfl) (by simp) ?_
                refine (AllReadyH.cons (o := _) rfl (fun K hK => ?rz7_11) AllReadyH.nil)
                case rz7_11 =>
                  simp only [layG]
                  rw [if_pos (by rfl)]
                  have hbz9 := (bel2 hHeld).size
                  refine wp_append_gen (.tmp 75) (.tmp 77) 62 rfl wo.heap.size 26 ib (.agg #[.int .i64 0, .int .i64 0]) 2 16 undSK HIB.out HB0.out HB1.out HB2.out rfl (by decide) v5 (0 + 0) ([] ++ []) ?_ hown5b.out (some ⟨w5.heap.size, 0, none⟩) 1 1 [.int .i64 x.x, .int .i64 x.y] ?_ rfl (by intro h; cases h) (by intro ad had; cases had; exact World.news_of_block hLt.out) (by intro u hu; simp at hu; rcases hu with rfl | rfl <;> rfl) (by unfold maxLen; omega) (by omega) hbz9 ?_
                  · first | rfl | (simp [Act.eval]; done)
                  · first | rfl | (simp [Act.eval]; done)
                  intro v6 w6 hown hgrow
                  have hown6 := Lib.hid hown
                  have hQ := grewQ hown5b.out (Nat.le_refl _) hbz9 hgrow
                  refine hK.out _ _ (keep2 hHeld hQ) (fun hHeld => ?_)
                  clear hown hgrow hQ hbz9
                  clear hK K
                  try simp only [layA]
                  refine wpAnyH_ready (rs := [11]) (by kernel_rfl) (by simp) ?_
                  refine (AllReadyH.cons (o := _) rfl (fun K hK => ?rz11_12) AllReadyH.nil)
                  case rz11_12 =>
                    simp only [layG]
                    rw [if_pos (by rfl)]
                    have hbz9 := (bel2 hHeld).size
                    refine wp_append_gen (.tmp 78) (.tmp 81) 62 rfl wo.heap.size 26 ib (.agg #[.int .i64 0, .int .i64 0]) 2 16 undSK HIB.out HB0.out HB1.out HB2.out rfl (by decide) v6 (0 + 0 + 1) ([] ++ [] ++ [.int .i64 x.x, .int .i64 x.y]) ?_ hown6.out none 0 0 [] ?_ rfl (fun _ => ⟨rfl, rfl⟩) (by intro ad had; cases had) (by intro u hu; cases hu) (by unfold maxLen; omega) (by omega) hbz9 ?_
                    · first | rfl | (simp [Act.eval, Act.put]; done)
                    · first | rfl | (simp [Act.eval, Act.put]; done)
                    intro v7 w7 hown hgrow
                    have hown7 := Lib.hid hown
                    have hQ := grewQ hown6.out (Nat.le_refl _) hbz9 hgrow
                    refine hK.out _ _ (keep2 hHeld hQ) (fun hHeld => ?_)
                    clear hown hgrow hQ hbz9
                    clear hK K
                    try simp only [layA]
                    refine wpAnyH_take (i := 12) (oi := _) (v := ?vz12_13) rfl (by kernel_rfl) (by kernel_rfl) (by kernel_rfl) (fun _ _ _ h => h) (Or.inl ⟨by rfl, ?hyz12_13⟩) (by assumption) ?restz12_13
                    case hyz12_13 => (intro w hSw; (try dsimp only at hSw); go_simp; first | done | rfl)
                    try simp only [layA]
                    refine wpAnyH_done (by kernel_rfl) ?_ _
                    have hrow7 := insK_row0 (B := w.heap.size) hbz hown7.out
                    have hbel7 := hb.trans ((bel2 hHeld).mono hbz)
                    clear hown5 hown6 hown7
                    go_wp2
                    go_roundw
                    case rel => exact ⟨k + 1, by omega, by go_num, Lib.hid (by rw [HSN.out, HIN.out]; exact hrow7.out), fun h => by omega, hbel7⟩
                    case measure => simp [intOf]; omega
            case rz6_9 =>
              simp only [layG]
              go_simp
              have hbz9 := (bel2 hHeld).size
              obtain ⟨Wb, hWb⟩ : ∃ Wb, Wa.alloc (.cells #[.int .i64 x.x, .int .i64 x.y] 26) = Wb := ⟨_, rfl⟩
              have hLt := Lib.hid (show Wb.heap[Wa.heap.size]? = some (.cells #[.int .i64 x.x, .int .i64 x.y] 26 (0, 0)) by rw [← hWb]; exact heap_alloc_new _ _)
              have HZB := Lib.hid (show Wb.heap.size = Wa.heap.size + 1 by rw [← hWb]; simp)
              have hal : Below wo.heap.size Wa Wb := by rw [← hWb]; exact (Below.refl _ _).alloc hbz9 _
              have hE2 := Lib.hid (show Wb.ownsRow wo.heap.size 26 2 (.slice (some ⟨W9.heap.size, 0, none⟩) 0 0) 0 [] by rw [← hWb]; exact hE.out.alloc _)
              rw [hWb]
              refine hK.out _ _ (keep2 hHeld hal) (fun hHeld => ?_)
              clear hWb hal hbz9
              clear hK K
              try simp only [layA]
              refine wpAnyH_ready (rs := [4]) (by kernel_rfl) (by simp) ?_
              refine (AllReadyH.cons (o := _) rfl (fun K hK => ?rz4_14) AllReadyH.nil)
              case rz4_14 =>
                simp only [layG]
                rw [if_pos (by rfl)]
                have hbz9 := (bel2 hHeld).size
                refine wp_append_gen (.tmp 71) (.tmp 74) 62 rfl wo.heap.size 26 ib (.agg #[.int .i64 0, .int .i64 0]) 2 16 undSK HIB.out HB0.out HB1.out HB2.out rfl (by decide) (.slice (some ⟨W9.heap.size, 0, none⟩) 0 0) 0 [] ?_ hE2.out none 0 0 [] ?_ rfl (fun _ => ⟨rfl, rfl⟩) (by intro ad had; cases had) (by intro u hu; cases hu) (by unfold maxLen; omega) (by omega) hbz9 ?_
                · rfl
                · rfl
                intro v5 w5 hown hgrow
                have hown5 := Lib.hid hown
                have hQ := grewQ hE2.out (Nat.le_refl _) hbz9 hgrow
                have hLt5 := Lib.hid (show w5.heap[Wa.heap.size]? = some (.cells #[.int .i64 x.x, .int .i64 x.y] 26 (0, 0)) from (hgrow.block _ (Array.getElem?_eq_some_iff.1 hLt.out).1 (by have z1 := HZA.out; have z2 := HZB.out; simp [Value.ownBlock]; omega)).trans hLt.out)
                refine hK.out _ _ (keep2 hHeld hQ) (fun hHeld => ?_)
                clear hown hgrow hQ hbz9
                clear hK K
                try simp only [layA]
                refine wpAnyH_ready (rs := [7]) (by kernel_rfl) (by simp) ?_
                refine (AllReadyH.cons (o := _) rfl (fun K hK => ?rz7_15) AllReadyH.nil)
                case rz7_15 =>
                  simp only [layG]
                  rw [if_pos (by rfl)]
                  have hbz9 := (bel2 hHeld).size
                  refine wp_append_gen (.tmp 75) (.tmp 77) 62 rfl wo.heap.size 26 ib (.agg #[.int .i64 0, .int .i64 0]) 2 16 undSK HIB.out HB0.out HB1.out HB2.out rfl (by decide) v5 (0 + 0) ([] ++ []) ?_ hown5.out (some ⟨Wa.heap.size, 0, none⟩) 1 1 [.int .i64 x.x, .int .i64 x.y] ?_ rfl (by intro h; cases h) (by intro ad had; cases had; exact World.news_of_block hLt5.out) (by intro u hu; simp at hu; rcases hu with rfl | rfl <;> rfl) (by unfold maxLen; omega) (by omega) hbz9 ?_
                  · first | rfl | (simp [Act.eval]; done)
                  · first | rfl | (simp [Act.eval]; done)
                  intro v6 w6 hown hgrow
                  have hown6 := Lib.hid hown
                  have hQ := grewQ hown5.out (Nat.le_refl _) hbz9 hgrow
                  refine hK.out _ _ (keep2 hHeld hQ) (fun hHeld => ?_)
                  clear hown hgrow hQ hbz9
                  clear hK K
                  try simp only [layA]
                  refine wpAnyH_ready (rs := [11]) (by kernel_rfl) (by simp) ?_
                  refine (AllReadyH.cons (o := _) rfl (fun K hK => ?rz11_16) AllReadyH.nil)
                  case rz11_16 =>
                    simp only [layG]
                    rw [if_pos (by rfl)]
                    have hbz9 := (bel2 hHeld).size
                    refine wp_append_gen (.tmp 78) (.tmp 81) 62 rfl wo.heap.size 26 ib (.agg #[.int .i64 0, .int .i64 0]) 2 16 undSK HIB.out HB0.out HB1.out HB2.out rfl (by decide) v6 (0 + 0 + 1) ([] ++ [] ++ [.int .i64 x.x, .int .i64 x.y]) ?_ hown6.out none 0 0 [] ?_ rfl (fun _ => ⟨rfl, rfl⟩) (by intro ad had; cases had) (by intro u hu; cases hu) (by unfold maxLen; omega) (by omega) hbz9 ?_
                    · first | rfl | (simp [Act.eval, Act.put]; done)
                    · first | rfl | (simp [Act.eval, Act.put]; done)
                    intro v7 w7 hown hgrow
                    have hown7 := Lib.hid hown
                    have hQ := grewQ hown6.out (Nat.le_refl _) hbz9 hgrow
                    refine hK.out _ _ (keep2 hHeld hQ) (fun hHeld => ?_)
                    clear hown hgrow hQ hbz9
                    clear hK K
                    try simp only [layA]
                    refine wpAnyH_take (i := 12) (oi := _) (v := ?vz12_17) rfl (by kernel_rfl) (by kernel_rfl) (by kernel_rfl) (fun _ _ _ h => h) (Or.inl ⟨by rfl, ?hyz12_17⟩) (by assumption) ?restz12_17
                    case hyz12_17 => (intro w hSw; (try dsimp only at hSw); go_simp; first | done | rfl)
                    try simp only [layA]
                    refine wpAnyH_done (by kernel_rfl) ?_ _
                    have hrow7 := insK_row0 (B := w.heap.size) hbz hown7.out
                    have hbel7 := hb.trans ((bel2 hHeld).mono hbz)
                    clear hown5 hown6 hown7
                    go_wp2
                    go_roundw
                    case rel => exact ⟨k + 1, by omega, by go_num, Lib.hid (by rw [HSN.out, HIN.out]; exact hrow7.out), fun h => by omega, hbel7⟩
                    case measure => simp [intOf]; omega
          case rz6_8 =>
            simp only [layG]
            go_simp
            have hbz9 := (bel2 hHeld).size
            obtain ⟨Wb, hWb⟩ : ∃ Wb, W9.drew.alloc (.cells #[.int .i64 x.x, .int .i64 x.y] 26) = Wb := ⟨_, rfl⟩
            have hLt := Lib.hid (show Wb.heap[W9.heap.size]? = some (.cells #[.int .i64 x.x, .int .i64 x.y] 26 (0, 0)) by rw [← hWb]; exact heap_alloc_new _ _)
            have HZB := Lib.hid (show Wb.heap.size = W9.heap.size + 1 by rw [← hWb]; simp)
            have hal : Below wo.heap.size W9.drew Wb := by rw [← hWb]; exact (Below.refl _ _).alloc hbz9 _
            rw [show (W9.alloc (.cells #[.int .i64 x.x, .int .i64 x.y] 26)).drew = Wb from hWb]
            refine hK.out _ _ (keep2 hHeld hal) (fun hHeld => ?_)
            clear hWb hal hbz9
            clear hK K
            try simp only [layA]
            refine wpAnyH_ready (rs := [0]) (by kernel_rfl) (by simp) ?_
            refine (AllReadyH.cons (o := _) rfl (fun K hK => ?rz0_18) AllReadyH.nil)
            case rz0_18 =>
              simp only [layG]
              go_simp
              have hbz9 := (bel2 hHeld).size
              obtain ⟨Wa, hWa⟩ : ∃ Wa, Wb.alloc (.cells #[] 26) = Wa := ⟨_, rfl⟩
              have hE := Lib.hid (show Wa.ownsRow wo.heap.size 26 2 (.slice (some ⟨Wb.heap.size, 0, none⟩) 0 0) 0 [] by rw [← hWa]; exact empty_row Wb _ hbz9 _ _)
              have HZA := Lib.hid (show Wa.heap.size = Wb.heap.size + 1 by rw [← hWa]; simp)
              have hal : Below wo.heap.size Wb Wa := by rw [← hWa]; exact (Below.refl _ _).alloc hbz9 _
              have hLt2 := Lib.hid (show Wa.heap[W9.heap.size]? = some (.cells #[.int .i64 x.x, .int .i64 x.y] 26 (0, 0)) by rw [← hWa]; exact (Below.heap_alloc _ _ _ (Array.getElem?_eq_some_iff.1 hLt.out).1).trans hLt.out)
              rw [hWa]
              refine hK.out _ _ (keep2 hHeld hal) (fun hHeld => ?_)
              clear hWa hal hbz9
              clear hK K
              try simp only [layA]
              refine wpAnyH_ready (rs := [4]) (by kernel_rfl) (by simp) ?_
              refine (AllReadyH.cons (o := _) rfl (fun K hK => ?rz4_19) AllReadyH.nil)
              case rz4_19 =>
                simp only [layG]
                rw [if_pos (by rfl)]
                have hbz9 := (bel2 hHeld).size
                refine wp_append_gen (.tmp 71) (.tmp 74) 62 rfl wo.heap.size 26 ib (.agg #[.int .i64 0, .int .i64 0]) 2 16 undSK HIB.out HB0.out HB1.out HB2.out rfl (by decide) (.slice (some ⟨Wb.heap.size, 0, none⟩) 0 0) 0 [] ?_ hE.out none 0 0 [] ?_ rfl (fun _ => ⟨rfl, rfl⟩) (by intro ad had; cases had) (by intro u hu; cases hu) (by unfold maxLen; omega) (by omega) hbz9 ?_
                · rfl
                · rfl
                intro v5 w5 hown hgrow
                have hown5 := Lib.hid hown
                have hQ := grewQ hE.out (Nat.le_refl _) hbz9 hgrow
                have hLt5 := Lib.hid (show w5.heap[W9.heap.size]? = some (.cells #[.int .i64 x.x, .int .i64 x.y] 26 (0, 0)) from (hgrow.block _ (Array.getElem?_eq_some_iff.1 hLt2.out).1 (by have z1 := HZA.out; have z2 := HZB.out; simp [Value.ownBlock]; omega)).trans hLt2.out)
                refine hK.out _ _ (keep2 hHeld hQ) (fun hHeld => ?_)
                clear hown hgrow hQ hbz9
                clear hK K
                try simp only [layA]
                refine wpAnyH_ready (rs := [7]) (by kernel_rfl) (by simp) ?_
                refine (AllReadyH.cons (o := _) rfl (fun K hK => ?rz7_20) AllReadyH.nil)
                case rz7_20 =>
                  simp only [layG]
                  rw [if_pos (by rfl)]
                  have hbz9 := (bel2 hHeld).size
                  refine wp_append_gen (.tmp 75) (.tmp 77) 62 rfl wo.heap.size 26 ib (.agg #[.int .i64 0, .int .i64 0]) 2 16 undSK HIB.out HB0.out HB1.out HB2.out rfl (by decide) v5 (0 + 0) ([] ++ []) ?_ hown5.out (some ⟨W9.heap.size, 0, none⟩) 1 1 [.int .i64 x.x, .int .i64 x.y] ?_ rfl (by intro h; cases h) (by intro ad had; cases had; exact World.news_of_block hLt5.out) (by intro u hu; simp at hu; rcases hu with rfl | rfl <;> rfl) (by unfold maxLen; omega) (by omega) hbz9 ?_
                  · first | rfl | (simp [Act.eval]; done)
                  · first | rfl | (simp [Act.eval]; done)
                  intro v6 w6 hown hgrow
                  have hown6 := Lib.hid hown
                  have hQ := grewQ hown5.out (Nat.le_refl _) hbz9 hgrow
                  refine hK.out _ _ (keep2 hHeld hQ) (fun hHeld => ?_)
                  clear hown hgrow hQ hbz9
                  clear hK K
                  try simp only [layA]
                  refine wpAnyH_ready (rs := [11]) (by kernel_rfl) (by simp) ?_
                  refine (AllReadyH.cons (o := _) rfl (fun K hK => ?rz11_21) AllReadyH.nil)
                  case rz11_21 =>
                    simp only [layG]
                    rw [if_pos (by rfl)]
                    have hbz9 := (bel2 hHeld).size
                    refine wp_append_gen (.tmp 78) (.tmp 81) 62 rfl wo.heap.size 26 ib (.agg #[.int .i64 0, .int .i64 0]) 2 16 undSK HIB.out HB0.out HB1.out HB2.out rfl (by decide) v6 (0 + 0 + 1) ([] ++ [] ++ [.int .i64 x.x, .int .i64 x.y]) ?_ hown6.out none 0 0 [] ?_ rfl (fun _ => ⟨rfl, rfl⟩) (by intro ad had; cases had) (by intro u hu; cases hu) (by unfold maxLen; omega) (by omega) hbz9 ?_
                    · first | rfl | (simp [Act.eval, Act.put]; done)
                    · first | rfl | (simp [Act.eval, Act.put]; done)
                    intro v7 w7 hown hgrow
                    have hown7 := Lib.hid hown
                    have hQ := grewQ hown6.out (Nat.le_refl _) hbz9 hgrow
                    refine hK.out _ _ (keep2 hHeld hQ) (fun hHeld => ?_)
                    clear hown hgrow hQ hbz9
                    clear hK K
                    try simp only [layA]
                    refine wpAnyH_take (i := 12) (oi := _) (v := ?vz12_22) rfl (by kernel_rfl) (by kernel_rfl) (by kernel_rfl) (fun _ _ _ h => h) (Or.inl ⟨by rfl, ?hyz12_22⟩) (by assumption) ?restz12_22
                    case hyz12_22 => (intro w hSw; (try dsimp only at hSw); go_simp; first | done | rfl)
                    try simp only [layA]
                    refine wpAnyH_done (by kernel_rfl) ?_ _
                    have hrow7 := insK_row0 (B := w.heap.size) hbz hown7.out
                    have hbel7 := hb.trans ((bel2 hHeld).mono hbz)
                    clear hown5 hown6 hown7
                    go_wp2
                    go_roundw
                    case rel => exact ⟨k + 1, by omega, by go_num, Lib.hid (by rw [HSN.out, HIN.out]; exact hrow7.out), fun h => by omega, hbel7⟩
                    case measure => simp [intOf]; omega
      · have hOpos := HPOS.out (by omega)
        generalize hO : knL (Ck.ends l) k = O at *
        have hOc := hown3.out
        unfold KnR at hOc
        obtain ⟨n, hn⟩ : ∃ n, O.length = n := ⟨_, rfl⟩
        have HN := Lib.hid hn
        have hOn := hOpos
        obtain ⟨_, _, hAv, hok'⟩ := own_okp hOc
        rw [hn] at hOc hOle hOpos
        obtain ⟨g, cap, rfl, hg, hkc, hcm, hgz⟩ := own_form hOc (by omega)
        injection hAv with q1 q2 q3
        rw [← q1] at hok'
        have HO := Lib.hid hok'.2.2
        clear q1 q2 q3
        have hown0 := Lib.hid hOc
        have hncI : (n : Int) ≤ (cap : Int) := by omega
        clear hOc hown3 hn hO hnil hok'
        go_wp2_with fail
        go_loopw [6] (fun at' wi => ∃ j : Nat, j ≤ n ∧ at' = .int .i64 j ∧ Hid (∀ q (h : q < O.length), q < j → ltK O[q] x = true) ∧ Below wo.heap.size wo wi) (fun at' _ => n - (intOf at').toNat)
        case atStart => exact ⟨0, Nat.zero_le _, rfl, Lib.hid (fun q _ h => by omega), Below.refl _ _⟩
        case round =>
          obtain ⟨j, hj, rfl, hall, hbi⟩ := hrel
          obtain ⟨a0, a1⟩ := XC.out _ hbi
          by_cases hjn : j < n
          · have hjO : j < O.length := by rw [HN.out]; exact hjn
            obtain ⟨_, _, hA', _, hcell⟩ := HO.out.below' hbi hOn
            cases hA'
            obtain ⟨f0, f1⟩ := hcell j hjO
            simp only [Nat.zero_add] at f0 f1
            obtain ⟨y, hyy⟩ : ∃ y, O[j] = y := ⟨_, rfl⟩
            rw [hyy] at f0 f1
            have HY := Lib.hid hyy
            have hg1 : decide (j < n) = true := by simpa using hjn
            have hg2 : decide ((j : Int) < (n : Int)) = true := by simpa using hjn
            have hp0' : (0 : Int) ≤ (j : Int) := by omega
            have hpi' : (j : Int) < (n : Int) := by omega
            have hpin : (j : Int) ≤ (n : Int) := by omega
            have hpic : (j : Int) ≤ (cap : Int) := by omega
            have hjcN : j ≤ cap := by omega
            have hjnN : j ≤ n := by omega
            clear hcell hyy
            by_cases h1 : y.y < x.y
            · have q1 : decide (y.y < x.y) = true := by simpa using h1
              have HL := Lib.hid (show ltK O[j] x = true by rw [HY.out]; exact ltK_yes1 h1)
              clear h1
              go_wp2_with fail
              go_quiet (fail)
              go_wp2
              go_roundw
              case rel => exact ⟨j + 1, by omega, by go_num, Lib.hid (fun q hq hqj => by
                rcases Nat.lt_or_ge q j with h1 | h1
                · exact hall.out q hq h1
                · obtain rfl : q = j := by omega
                  exact HL.out), below_drewN hbi nq⟩
              case measure => simp [intOf]; omega
            · have q1 : decide (y.y < x.y) = false := by simpa using h1
              by_cases h2 : y.y = x.y
              · have q2 : (y.y == x.y) = true := by rw [beq_iff_eq]; exact h2
                by_cases h3 : y.x < x.x
                · have q3 : decide (y.x < x.x) = true := by simpa using h3
                  have HL := Lib.hid (show ltK O[j] x = true by rw [HY.out]; exact ltK_yes2 h2 h3)
                  clear h1 h2 h3
                  go_wp2_with fail
                  go_quiet (fail)
                  go_wp2
                  go_roundw
                  case rel => exact ⟨j + 1, by omega, by go_num, Lib.hid (fun q hq hqj => by
                    rcases Nat.lt_or_ge q j with h1 | h1
                    · exact hall.out q hq h1
                    · obtain rfl : q = j := by omega
                      exact HL.out), below_drewN hbi nq⟩
                  case measure => simp [intOf]; omega
                · have q3 : decide (y.x < x.x) = false := by simpa using h3
                  have HL := Lib.hid (show ltK O[j] x = false by rw [HY.out]; exact ltK_no2 h2 h3)
                  clear h1 h2 h3
                  go_wp2_with fail
                  go_quiet (fail)
                  have hb8 := below_drewN hbi nq
                  generalize World.drewN wr nq = W8 at *
                  clear nq a0 a1 f0 f1
                  obtain ⟨a0, a1⟩ := XC.out _ hb8
                  obtain ⟨_, _, hA2, _, hcell⟩ := HO.out.below' hb8 hOn
                  cases hA2
                  obtain ⟨f0, f1⟩ := hcell j hjO
                  simp only [Nat.zero_add] at f0 f1
                  rw [HY.out] at f0 f1
                  clear hcell
                  have hqn : ((j : Int) == (n : Int)) = false := by rw [beq_eq_false_iff_ne]; omega
                  have hqn2 : (j == n) = false := by rw [beq_eq_false_iff_ne]; omega
                  have hqn3 : decide (j = n) = false := decide_eq_false (by omega)
                  have hgd := guardKnot
                  by_cases he : y = x
                  · have hq := eqKnot' y x true (by simpa using he)
                    have HE := Lib.hid (ins_sameK hjO hall.out HL.out (by rw [HY.out]; exact he))
                    clear he
                    go_wp2_with fail
                    go_quiet (fail)
                    go_wp2
                    go_roundw
                    case rel => exact ⟨k + 1, by omega, by go_num, Lib.hid (by rw [HSN.out, HE.out]; exact ownsRow_mono (ownsRow_below (by rw [HN.out]; exact hown0.out) (below_drewN hb8 nq)) (Nat.le_refl _)), fun h => by omega, hb.trans ((below_drewN hb8 nq).mono hbz)⟩
                    case measure => simp [intOf]; omega
                  · have hq := eqKnot' y x false (by simpa using he)
                    have HNE := Lib.hid he
                    clear he
                    have HIN := Lib.hid (ins_newK (O := O) (x := x) (j := j) (by omega) hall.out (fun _ => HL.out) (fun _ => by rw [HY.out]; exact HNE.out))
                    go_wp2_with fail
                    go_quiet (fail)
                    have hb9 := below_drewN hb8 nq
                    generalize World.drewN W8 nq = W9 at *
                    obtain ⟨e0, e1⟩ := XC.out _ hb9
                    have hs9 := hb9.size
                    go_wp2_with fail
                    clear hg1 hg2 a0 a1 f0 f1 hqn hqn2 hqn3 hq hgd
                    refine wp_region_held_drew (S := (fun w' => w'.cell? ⟨B5, 0, none⟩ = some (.int .i64 x.x) ∧ w'.cell? ⟨B5, 1, none⟩ = some (.int .i64 x.y) ∧ Below wo.heap.size wo w' ∧ B5 < wo.heap.size)) (by kernel_rfl) ?_ (fun hHeld => ?_)
                    · exact ⟨e0, e1, below_drew hb9, hB5⟩
                    refine wpAnyH_take (i := 1) (oi := _) (v := ?vp1_1) rfl (by kernel_rfl) (by kernel_rfl) (by kernel_rfl) (fun _ _ _ h => h) (Or.inl ⟨by rfl, ?hyp1_1⟩) (by assumption) ?restp1_1
                    case hyp1_1 => (intro w hSw; (try dsimp only at hSw); go_simp; first | done | rfl)
                    try simp only [layA]
                    refine wpAnyH_take (i := 2) (oi := _) (v := ?vp2_2) rfl (by kernel_rfl) (by kernel_rfl) (by kernel_rfl) (fun _ _ _ h => h) (Or.inl ⟨by rfl, ?hyp2_2⟩) (by assumption) ?restp2_2
                    case hyp2_2 => (intro w hSw; (try dsimp only at hSw); go_simp; first | done | rfl)
                    try simp only [layA]
                    refine wpAnyH_take (i := 3) (oi := _) (v := ?vp3_3) rfl (by kernel_rfl) (by kernel_rfl) (by kernel_rfl) (fun _ _ _ h => h) (Or.inl ⟨by rfl, ?hyp3_3⟩) (by assumption) ?restp3_3
                    case hyp3_3 => (intro w hSw; (try dsimp only at hSw); go_simp; first | done | rfl)
                    try simp only [layA]
                    refine wpAnyH_take (i := 5) (oi := _) (v := ?vp5_4) rfl (by kernel_rfl) (by kernel_rfl) (by kernel_rfl) (fun _ _ _ h => h) (Or.inl ⟨by rfl, ?hyp5_4⟩) (by assumption) ?restp5_4
                    case hyp5_4 => (intro w hSw; (try dsimp only at hSw); obtain ⟨e0, e1, -, -⟩ := hSw; go_simp; first | done | rfl)
                    try simp only [layA]
                    refine wpAnyH_take (i := 8) (oi := _) (v := ?vp8_5) rfl (by kernel_rfl) (by kernel_rfl) (by kernel_rfl) (fun _ _ _ h => h) (Or.inl ⟨by rfl, ?hyp8_5⟩) (by assumption) ?restp8_5
                    case hyp8_5 => (intro w hSw; (try dsimp only at hSw); go_simp; first | done | rfl)
                    try simp only [layA]
                    refine wpAnyH_take (i := 9) (oi := _) (v := ?vp9_6) rfl (by kernel_rfl) (by kernel_rfl) (by kernel_rfl) (fun _ _ _ h => h) (Or.inl ⟨by rfl, ?hyp9_6⟩) (by assumption) ?restp9_6
                    case hyp9_6 => (intro w hSw; (try dsimp only at hSw); go_simp; first | done | rfl)
                    try simp only [layA]
                    refine wpAnyH_take (i := 10) (oi := _) (v := ?vp10_7) rfl (by kernel_rfl) (by kernel_rfl) (by kernel_rfl) (fun _ _ _ h => h) (Or.inl ⟨by rfl, ?hyp10_7⟩) (by assumption) ?restp10_7
                    case hyp10_7 => (intro w hSw; (try dsimp only at hSw); go_simp; first | done | rfl)
                    try simp only [layA]
                    refine wpAnyH_ready (rs := [0, 6]) (by kernel_rfl) (by simp) ?_
                    refine (AllReadyH.cons (o := _) rfl (fun K hK => ?rp0_8) (AllReadyH.cons (o := _) rfl (fun K hK => ?rp6_8) AllReadyH.nil))
                    case rp0_8 =>
                      simp only [layG]
                      go_simp
                      have hbz9 := (bel2 hHeld).size
                      obtain ⟨Wa, hWa⟩ : ∃ Wa, W9.drew.alloc (.cells #[] 26) = Wa := ⟨_, rfl⟩
                      have hE := Lib.hid (show Wa.ownsRow wo.heap.size 26 2 (.slice (some ⟨W9.heap.size, 0, none⟩) 0 0) 0 [] by rw [← hWa]; exact empty_row W9.drew _ hbz9 _ _)
                      have HZA := Lib.hid (show Wa.heap.size = W9.heap.size + 1 by rw [← hWa]; simp)
                      have hal : Below wo.heap.size W9.drew Wa := by rw [← hWa]; exact (Below.refl _ _).alloc hbz9 _
                      rw [show (W9.alloc (.cells #[] 26)).drew = Wa from hWa]
                      refine hK.out _ _ (keep2 hHeld hal) (fun hHeld => ?_)
                      clear hWa hal hbz9
                      clear hK K
                      try simp only [layA]
                      refine wpAnyH_ready (rs := [4, 6]) (by kernel_rfl) (by simp) ?_
                      refine (AllReadyH.cons (o := _) rfl (fun K hK => ?rp4_9) (AllReadyH.cons (o := _) rfl (fun K hK => ?rp6_9) AllReadyH.nil))
                      case rp4_9 =>
                        simp only [layG]
                        rw [if_pos (by rfl)]
                        have hbz9 := (bel2 hHeld).size
                        refine wp_append_gen (.tmp 71) (.tmp 74) 62 rfl wo.heap.size 26 ib (.agg #[.int .i64 0, .int .i64 0]) 2 16 undSK HIB.out HB0.out HB1.out HB2.out rfl (by decide) (.slice (some ⟨W9.heap.size, 0, none⟩) 0 0) 0 [] ?_ hE.out (some ⟨g, 0, none⟩) j cap (kcellsL (O.take j)) ?_ (by rw [kcellsL_length, List.length_take, HN.out]; omega) (by intro h; cases h) (by exact newsK_take (HO.out.below' (bel2 hHeld)) hOn) (kcellsL_one _) (by unfold maxLen; omega) (by omega) hbz9 ?_
                        · rfl
                        · rfl
                        intro v5 w5 hown hgrow
                        have hown5 := Lib.hid hown
                        have hQ := grewQ hE.out (Nat.le_refl _) hbz9 hgrow
                        refine hK.out _ _ (keep2 hHeld hQ) (fun hHeld => ?_)
                        clear hown hgrow hQ hbz9
                        clear hK K
                        try simp only [layA]
                        refine wpAnyH_ready (rs := [6]) (by kernel_rfl) (by simp) ?_
                        refine (AllReadyH.cons (o := _) rfl (fun K hK => ?rp6_10) AllReadyH.nil)
                        case rp6_10 =>
                          simp only [layG]
                          go_simp
                          have hbz9 := (bel2 hHeld).size
                          obtain ⟨Wb, hWb⟩ : ∃ Wb, w5.alloc (.cells #[.int .i64 x.x, .int .i64 x.y] 26) = Wb := ⟨_, rfl⟩
                          have hLt := Lib.hid (show Wb.heap[w5.heap.size]? = some (.cells #[.int .i64 x.x, .int .i64 x.y] 26 (0, 0)) by rw [← hWb]; exact heap_alloc_new _ _)
                          have HZB := Lib.hid (show Wb.heap.size = w5.heap.size + 1 by rw [← hWb]; simp)
                          have hal : Below wo.heap.size w5 Wb := by rw [← hWb]; exact (Below.refl _ _).alloc hbz9 _
                          have hown5b := Lib.hid (show Wb.ownsRow wo.heap.size 26 2 v5 (0 + j) ([] ++ kcellsL (O.take j)) by rw [← hWb]; exact hown5.out.alloc _)
                          rw [hWb]
                          refine hK.out _ _ (keep2 hHeld hal) (fun hHeld => ?_)
                          clear hWb hal hbz9
                          clear hK K
                          try simp only [layA]
                          refine wpAnyH_ready (rs := [7]) (by kernel_rfl) (by simp) ?_
                          refine (AllReadyH.cons (o := _) rfl (fun K hK => ?rp7_11) AllReadyH.nil)
                          case rp7_11 =>
                            simp only [layG]
                            rw [if_pos (by rfl)]
                            have hbz9 := (bel2 hHeld).size
                            refine wp_append_gen (.tmp 75) (.tmp 77) 62 rfl wo.heap.size 26 ib (.agg #[.int .i64 0, .int .i64 0]) 2 16 undSK HIB.out HB0.out HB1.out HB2.out rfl (by decide) v5 (0 + j) ([] ++ kcellsL (O.take j)) ?_ hown5b.out (some ⟨w5.heap.size, 0, none⟩) 1 1 [.int .i64 x.x, .int .i64 x.y] ?_ rfl (by intro h; cases h) (by intro ad had; cases had; exact World.news_of_block hLt.out) (by intro u hu; simp at hu; rcases hu with rfl | rfl <;> rfl) (by unfold maxLen; omega) (by omega) hbz9 ?_
                            · first | rfl | (simp [Act.eval]; done)
                            · first | rfl | (simp [Act.eval]; done)
                            intro v6 w6 hown hgrow
                            have hown6 := Lib.hid hown
                            have hQ := grewQ hown5b.out (Nat.le_refl _) hbz9 hgrow
                            refine hK.out _ _ (keep2 hHeld hQ) (fun hHeld => ?_)
                            clear hown hgrow hQ hbz9
                            clear hK K
                            try simp only [layA]
                            refine wpAnyH_ready (rs := [11]) (by kernel_rfl) (by simp) ?_
                            refine (AllReadyH.cons (o := _) rfl (fun K hK => ?rp11_12) AllReadyH.nil)
                            case rp11_12 =>
                              simp only [layG]
                              rw [if_pos (by rfl)]
                              have hbz9 := (bel2 hHeld).size
                              refine wp_append_gen (.tmp 78) (.tmp 81) 62 rfl wo.heap.size 26 ib (.agg #[.int .i64 0, .int .i64 0]) 2 16 undSK HIB.out HB0.out HB1.out HB2.out rfl (by decide) v6 (0 + j + 1) ([] ++ kcellsL (O.take j) ++ [.int .i64 x.x, .int .i64 x.y]) ?_ hown6.out (if cap = j then some ⟨g, 0, none⟩ else some ⟨g, j * 2, none⟩) (n - j) (cap - j) (kcellsL (O.drop j)) ?_ (by rw [kcellsL_length, List.length_drop, HN.out]) (by intro h; split at h <;> cases h) (by exact newsK_drop (HO.out.below' (bel2 hHeld)) hOn (by rw [HN.out]; omega) (by rw [HN.out]; omega)) (kcellsL_one _) (by unfold maxLen; omega) (by omega) hbz9 ?_
                              · first | rfl | (simp [Act.eval, Act.put]; done)
                              · first | rfl | (simp [Act.eval, Act.put]; done)
                              intro v7 w7 hown hgrow
                              have hown7 := Lib.hid hown
                              have hQ := grewQ hown6.out (Nat.le_refl _) hbz9 hgrow
                              refine hK.out _ _ (keep2 hHeld hQ) (fun hHeld => ?_)
                              clear hown hgrow hQ hbz9
                              clear hK K
                              try simp only [layA]
                              refine wpAnyH_take (i := 12) (oi := _) (v := ?vp12_13) rfl (by kernel_rfl) (by kernel_rfl) (by kernel_rfl) (fun _ _ _ h => h) (Or.inl ⟨by rfl, ?hyp12_13⟩) (by assumption) ?restp12_13
                              case hyp12_13 => (intro w hSw; (try dsimp only at hSw); go_simp; first | done | rfl)
                              try simp only [layA]
                              refine wpAnyH_done (by kernel_rfl) ?_ _
                              have hrow7 := insK_row (B := w.heap.size) hbz (by rw [HN.out]; omega) HN.out.symm hown7.out
                              have hbel7 := hb.trans ((bel2 hHeld).mono hbz)
                              clear hown5 hown6 hown7
                              go_wp2
                              go_roundw
                              case rel => exact ⟨k + 1, by omega, by go_num, Lib.hid (by rw [HSN.out, HIN.out]; exact hrow7.out), fun h => by omega, hbel7⟩
                              case measure => simp [intOf]; omega
                      case rp6_9 =>
                        simp only [layG]
                        go_simp
                        have hbz9 := (bel2 hHeld).size
                        obtain ⟨Wb, hWb⟩ : ∃ Wb, Wa.alloc (.cells #[.int .i64 x.x, .int .i64 x.y] 26) = Wb := ⟨_, rfl⟩
                        have hLt := Lib.hid (show Wb.heap[Wa.heap.size]? = some (.cells #[.int .i64 x.x, .int .i64 x.y] 26 (0, 0)) by rw [← hWb]; exact heap_alloc_new _ _)
                        have HZB := Lib.hid (show Wb.heap.size = Wa.heap.size + 1 by rw [← hWb]; simp)
                        have hal : Below wo.heap.size Wa Wb := by rw [← hWb]; exact (Below.refl _ _).alloc hbz9 _
                        have hE2 := Lib.hid (show Wb.ownsRow wo.heap.size 26 2 (.slice (some ⟨W9.heap.size, 0, none⟩) 0 0) 0 [] by rw [← hWb]; exact hE.out.alloc _)
                        rw [hWb]
                        refine hK.out _ _ (keep2 hHeld hal) (fun hHeld => ?_)
                        clear hWb hal hbz9
                        clear hK K
                        try simp only [layA]
                        refine wpAnyH_ready (rs := [4]) (by kernel_rfl) (by simp) ?_
                        refine (AllReadyH.cons (o := _) rfl (fun K hK => ?rp4_14) AllReadyH.nil)
                        case rp4_14 =>
                          simp only [layG]
                          rw [if_pos (by rfl)]
                          have hbz9 := (bel2 hHeld).size
                          refine wp_append_gen (.tmp 71) (.tmp 74) 62 rfl wo.heap.size 26 ib (.agg #[.int .i64 0, .int .i64 0]) 2 16 undSK HIB.out HB0.out HB1.out HB2.out rfl (by decide) (.slice (some ⟨W9.heap.size, 0, none⟩) 0 0) 0 [] ?_ hE2.out (some ⟨g, 0, none⟩) j cap (kcellsL (O.take j)) ?_ (by rw [kcellsL_length, List.length_take, HN.out]; omega) (by intro h; cases h) (by exact newsK_take (HO.out.below' (bel2 hHeld)) hOn) (kcellsL_one _) (by unfold maxLen; omega) (by omega) hbz9 ?_
                          · rfl
                          · rfl
                          intro v5 w5 hown hgrow
                          have hown5 := Lib.hid hown
                          have hQ := grewQ hE2.out (Nat.le_refl _) hbz9 hgrow
                          have hLt5 := Lib.hid (show w5.heap[Wa.heap.size]? = some (.cells #[.int .i64 x.x, .int .i64 x.y] 26 (0, 0)) from (hgrow.block _ (Array.getElem?_eq_some_iff.1 hLt.out).1 (by have z1 := HZA.out; have z2 := HZB.out; simp [Value.ownBlock]; omega)).trans hLt.out)
                          refine hK.out _ _ (keep2 hHeld hQ) (fun hHeld => ?_)
                          clear hown hgrow hQ hbz9
                          clear hK K
                          try simp only [layA]
                          refine wpAnyH_ready (rs := [7]) (by kernel_rfl) (by simp) ?_
                          refine (AllReadyH.cons (o := _) rfl (fun K hK => ?rp7_15) AllReadyH.nil)
                          case rp7_15 =>
                            simp only [layG]
                            rw [if_pos (by rfl)]
                            have hbz9 := (bel2 hHeld).size
                            refine wp_append_gen (.tmp 75) (.tmp 77) 62 rfl wo.heap.size 26 ib (.agg #[.int .i64 0, .int .i64 0]) 2 16 undSK HIB.out HB0.out HB1.out HB2.out rfl (by decide) v5 (0 + j) ([] ++ kcellsL (O.take j)) ?_ hown5.out (some ⟨Wa.heap.size, 0, none⟩) 1 1 [.int .i64 x.x, .int .i64 x.y] ?_ rfl (by intro h; cases h) (by intro ad had; cases had; exact World.news_of_block hLt5.out) (by intro u hu; simp at hu; rcases hu with rfl | rfl <;> rfl) (by unfold maxLen; omega) (by omega) hbz9 ?_
                            · first | rfl | (simp [Act.eval]; done)
                            · first | rfl | (simp [Act.eval]; done)
                            intro v6 w6 hown hgrow
                            have hown6 := Lib.hid hown
                            have hQ := grewQ hown5.out (Nat.le_refl _) hbz9 hgrow
                            refine hK.out _ _ (keep2 hHeld hQ) (fun hHeld => ?_)
                            clear hown hgrow hQ hbz9
                            clear hK K
                            try simp only [layA]
                            refine wpAnyH_ready (rs := [11]) (by kernel_rfl) (by simp) ?_
                            refine (AllReadyH.cons (o := _) rfl (fun K hK => ?rp11_16) AllReadyH.nil)
                            case rp11_16 =>
                              simp only [layG]
                              rw [if_pos (by rfl)]
                              have hbz9 := (bel2 hHeld).size
                              refine wp_append_gen (.tmp 78) (.tmp 81) 62 rfl wo.heap.size 26 ib (.agg #[.int .i64 0, .int .i64 0]) 2 16 undSK HIB.out HB0.out HB1.out HB2.out rfl (by decide) v6 (0 + j + 1) ([] ++ kcellsL (O.take j) ++ [.int .i64 x.x, .int .i64 x.y]) ?_ hown6.out (if cap = j then some ⟨g, 0, none⟩ else some ⟨g, j * 2, none⟩) (n - j) (cap - j) (kcellsL (O.drop j)) ?_ (by rw [kcellsL_length, List.length_drop, HN.out]) (by intro h; split at h <;> cases h) (by exact newsK_drop (HO.out.below' (bel2 hHeld)) hOn (by rw [HN.out]; omega) (by rw [HN.out]; omega)) (kcellsL_one _) (by unfold maxLen; omega) (by omega) hbz9 ?_
                              · first | rfl | (simp [Act.eval, Act.put]; done)
                              · first | rfl | (simp [Act.eval, Act.put]; done)
                              intro v7 w7 hown hgrow
                              have hown7 := Lib.hid hown
                              have hQ := grewQ hown6.out (Nat.le_refl _) hbz9 hgrow
                              refine hK.out _ _ (keep2 hHeld hQ) (fun hHeld => ?_)
                              clear hown hgrow hQ hbz9
                              clear hK K
                              try simp only [layA]
                              refine wpAnyH_take (i := 12) (oi := _) (v := ?vp12_17) rfl (by kernel_rfl) (by kernel_rfl) (by kernel_rfl) (fun _ _ _ h => h) (Or.inl ⟨by rfl, ?hyp12_17⟩) (by assumption) ?restp12_17
                              case hyp12_17 => (intro w hSw; (try dsimp only at hSw); go_simp; first | done | rfl)
                              try simp only [layA]
                              refine wpAnyH_done (by kernel_rfl) ?_ _
                              have hrow7 := insK_row (B := w.heap.size) hbz (by rw [HN.out]; omega) HN.out.symm hown7.out
                              have hbel7 := hb.trans ((bel2 hHeld).mono hbz)
                              clear hown5 hown6 hown7
                              go_wp2
                              go_roundw
                              case rel => exact ⟨k + 1, by omega, by go_num, Lib.hid (by rw [HSN.out, HIN.out]; exact hrow7.out), fun h => by omega, hbel7⟩
                              case measure => simp [intOf]; omega
                    case rp6_8 =>
                      simp only [layG]
                      go_simp
                      have hbz9 := (bel2 hHeld).size
                      obtain ⟨Wb, hWb⟩ : ∃ Wb, W9.drew.alloc (.cells #[.int .i64 x.x, .int .i64 x.y] 26) = Wb := ⟨_, rfl⟩
                      have hLt := Lib.hid (show Wb.heap[W9.heap.size]? = some (.cells #[.int .i64 x.x, .int .i64 x.y] 26 (0, 0)) by rw [← hWb]; exact heap_alloc_new _ _)
                      have HZB := Lib.hid (show Wb.heap.size = W9.heap.size + 1 by rw [← hWb]; simp)
                      have hal : Below wo.heap.size W9.drew Wb := by rw [← hWb]; exact (Below.refl _ _).alloc hbz9 _
                      rw [show (W9.alloc (.cells #[.int .i64 x.x, .int .i64 x.y] 26)).drew = Wb from hWb]
                      refine hK.out _ _ (keep2 hHeld hal) (fun hHeld => ?_)
                      clear hWb hal hbz9
                      clear hK K
                      try simp only [layA]
                      refine wpAnyH_ready (rs := [0]) (by kernel_rfl) (by simp) ?_
                      refine (AllReadyH.cons (o := _) rfl (fun K hK => ?rp0_18) AllReadyH.nil)
                      case rp0_18 =>
                        simp only [layG]
                        go_simp
                        have hbz9 := (bel2 hHeld).size
                        obtain ⟨Wa, hWa⟩ : ∃ Wa, Wb.alloc (.cells #[] 26) = Wa := ⟨_, rfl⟩
                        have hE := Lib.hid (show Wa.ownsRow wo.heap.size 26 2 (.slice (some ⟨Wb.heap.size, 0, none⟩) 0 0) 0 [] by rw [← hWa]; exact empty_row Wb _ hbz9 _ _)
                        have HZA := Lib.hid (show Wa.heap.size = Wb.heap.size + 1 by rw [← hWa]; simp)
                        have hal : Below wo.heap.size Wb Wa := by rw [← hWa]; exact (Below.refl _ _).alloc hbz9 _
                        have hLt2 := Lib.hid (show Wa.heap[W9.heap.size]? = some (.cells #[.int .i64 x.x, .int .i64 x.y] 26 (0, 0)) by rw [← hWa]; exact (Below.heap_alloc _ _ _ (Array.getElem?_eq_some_iff.1 hLt.out).1).trans hLt.out)
                        rw [hWa]
                        refine hK.out _ _ (keep2 hHeld hal) (fun hHeld => ?_)
                        clear hWa hal hbz9
                        clear hK K
                        try simp only [layA]
                        refine wpAnyH_ready (rs := [4]) (by kernel_rfl) (by simp) ?_
                        refine (AllReadyH.cons (o := _) rfl (fun K hK => ?rp4_19) AllReadyH.nil)
                        case rp4_19 =>
                          simp only [layG]
                          rw [if_pos (by rfl)]
                          have hbz9 := (bel2 hHeld).size
                          refine wp_append_gen (.tmp 71) (.tmp 74) 62 rfl wo.heap.size 26 ib (.agg #[.int .i64 0, .int .i64 0]) 2 16 undSK HIB.out HB0.out HB1.out HB2.out rfl (by decide) (.slice (some ⟨Wb.heap.size, 0, none⟩) 0 0) 0 [] ?_ hE.out (some ⟨g, 0, none⟩) j cap (kcellsL (O.take j)) ?_ (by rw [kcellsL_length, List.length_take, HN.out]; omega) (by intro h; cases h) (by exact newsK_take (HO.out.below' (bel2 hHeld)) hOn) (kcellsL_one _) (by unfold maxLen; omega) (by omega) hbz9 ?_
                          · rfl
                          · rfl
                          intro v5 w5 hown hgrow
                          have hown5 := Lib.hid hown
                          have hQ := grewQ hE.out (Nat.le_refl _) hbz9 hgrow
                          have hLt5 := Lib.hid (show w5.heap[W9.heap.size]? = some (.cells #[.int .i64 x.x, .int .i64 x.y] 26 (0, 0)) from (hgrow.block _ (Array.getElem?_eq_some_iff.1 hLt2.out).1 (by have z1 := HZA.out; have z2 := HZB.out; simp [Value.ownBlock]; omega)).trans hLt2.out)
                          refine hK.out _ _ (keep2 hHeld hQ) (fun hHeld => ?_)
                          clear hown hgrow hQ hbz9
                          clear hK K
                          try simp only [layA]
                          refine wpAnyH_ready (rs := [7]) (by kernel_rfl) (by simp) ?_
                          refine (AllReadyH.cons (o := _) rfl (fun K hK => ?rp7_20) AllReadyH.nil)
                          case rp7_20 =>
                            simp only [layG]
                            rw [if_pos (by rfl)]
                            have hbz9 := (bel2 hHeld).size
                            refine wp_append_gen (.tmp 75) (.tmp 77) 62 rfl wo.heap.size 26 ib (.agg #[.int .i64 0, .int .i64 0]) 2 16 undSK HIB.out HB0.out HB1.out HB2.out rfl (by decide) v5 (0 + j) ([] ++ kcellsL (O.take j)) ?_ hown5.out (some ⟨W9.heap.size, 0, none⟩) 1 1 [.int .i64 x.x, .int .i64 x.y] ?_ rfl (by intro h; cases h) (by intro ad had; cases had; exact World.news_of_block hLt5.out) (by intro u hu; simp at hu; rcases hu with rfl | rfl <;> rfl) (by unfold maxLen; omega) (by omega) hbz9 ?_
                            · first | rfl | (simp [Act.eval]; done)
                            · first | rfl | (simp [Act.eval]; done)
                            intro v6 w6 hown hgrow
                            have hown6 := Lib.hid hown
                            have hQ := grewQ hown5.out (Nat.le_refl _) hbz9 hgrow
                            refine hK.out _ _ (keep2 hHeld hQ) (fun hHeld => ?_)
                            clear hown hgrow hQ hbz9
                            clear hK K
                            try simp only [layA]
                            refine wpAnyH_ready (rs := [11]) (by kernel_rfl) (by simp) ?_
                            refine (AllReadyH.cons (o := _) rfl (fun K hK => ?rp11_21) AllReadyH.nil)
                            case rp11_21 =>
                              simp only [layG]
                              rw [if_pos (by rfl)]
                              have hbz9 := (bel2 hHeld).size
                              refine wp_append_gen (.tmp 78) (.tmp 81) 62 rfl wo.heap.size 26 ib (.agg #[.int .i64 0, .int .i64 0]) 2 16 undSK HIB.out HB0.out HB1.out HB2.out rfl (by decide) v6 (0 + j + 1) ([] ++ kcellsL (O.take j) ++ [.int .i64 x.x, .int .i64 x.y]) ?_ hown6.out (if cap = j then some ⟨g, 0, none⟩ else some ⟨g, j * 2, none⟩) (n - j) (cap - j) (kcellsL (O.drop j)) ?_ (by rw [kcellsL_length, List.length_drop, HN.out]) (by intro h; split at h <;> cases h) (by exact newsK_drop (HO.out.below' (bel2 hHeld)) hOn (by rw [HN.out]; omega) (by rw [HN.out]; omega)) (kcellsL_one _) (by unfold maxLen; omega) (by omega) hbz9 ?_
                              · first | rfl | (simp [Act.eval, Act.put]; done)
                              · first | rfl | (simp [Act.eval, Act.put]; done)
                              intro v7 w7 hown hgrow
                              have hown7 := Lib.hid hown
                              have hQ := grewQ hown6.out (Nat.le_refl _) hbz9 hgrow
                              refine hK.out _ _ (keep2 hHeld hQ) (fun hHeld => ?_)
                              clear hown hgrow hQ hbz9
                              clear hK K
                              try simp only [layA]
                              refine wpAnyH_take (i := 12) (oi := _) (v := ?vp12_22) rfl (by kernel_rfl) (by kernel_rfl) (by kernel_rfl) (fun _ _ _ h => h) (Or.inl ⟨by rfl, ?hyp12_22⟩) (by assumption) ?restp12_22
                              case hyp12_22 => (intro w hSw; (try dsimp only at hSw); go_simp; first | done | rfl)
                              try simp only [layA]
                              refine wpAnyH_done (by kernel_rfl) ?_ _
                              have hrow7 := insK_row (B := w.heap.size) hbz (by rw [HN.out]; omega) HN.out.symm hown7.out
                              have hbel7 := hb.trans ((bel2 hHeld).mono hbz)
                              clear hown5 hown6 hown7
                              go_wp2
                              go_roundw
                              case rel => exact ⟨k + 1, by omega, by go_num, Lib.hid (by rw [HSN.out, HIN.out]; exact hrow7.out), fun h => by omega, hbel7⟩
                              case measure => simp [intOf]; omega
              · have q2 : (y.y == x.y) = false := by rw [beq_eq_false_iff_ne]; exact h2
                have HL := Lib.hid (show ltK O[j] x = false by rw [HY.out]; exact ltK_no1 h1 h2)
                have HNE := Lib.hid (show y ≠ x from fun e => h2 (by rw [e]))
                clear h1 h2
                go_wp2_with fail
                go_quiet (fail)
                have hb8 := below_drewN hbi nq
                generalize World.drewN wr nq = W8 at *
                clear nq a0 a1 f0 f1
                obtain ⟨a0, a1⟩ := XC.out _ hb8
                obtain ⟨_, _, hA2, _, hcell⟩ := HO.out.below' hb8 hOn
                cases hA2
                obtain ⟨f0, f1⟩ := hcell j hjO
                simp only [Nat.zero_add] at f0 f1
                rw [HY.out] at f0 f1
                clear hcell
                have hqn : ((j : Int) == (n : Int)) = false := by rw [beq_eq_false_iff_ne]; omega
                have hqn2 : (j == n) = false := by rw [beq_eq_false_iff_ne]; omega
                have hqn3 : decide (j = n) = false := decide_eq_false (by omega)
                have hgd := guardKnot
                have hq := eqKnot' y x false (by simpa using HNE.out)
                have HIN := Lib.hid (ins_newK (O := O) (x := x) (j := j) (by omega) hall.out (fun _ => HL.out) (fun _ => by rw [HY.out]; exact HNE.out))
                go_wp2_with fail
                go_quiet (fail)
                have hb9 := below_drewN hb8 nq
                generalize World.drewN W8 nq = W9 at *
                obtain ⟨e0, e1⟩ := XC.out _ hb9
                have hs9 := hb9.size
                go_wp2_with fail
                clear hg1 hg2 a0 a1 f0 f1 hqn hqn2 hqn3 hq hgd
                refine wp_region_held_drew (S := (fun w' => w'.cell? ⟨B5, 0, none⟩ = some (.int .i64 x.x) ∧ w'.cell? ⟨B5, 1, none⟩ = some (.int .i64 x.y) ∧ Below wo.heap.size wo w' ∧ B5 < wo.heap.size)) (by kernel_rfl) ?_ (fun hHeld => ?_)
                · exact ⟨e0, e1, below_drew hb9, hB5⟩
                refine wpAnyH_take (i := 1) (oi := _) (v := ?vr1_1) rfl (by kernel_rfl) (by kernel_rfl) (by kernel_rfl) (fun _ _ _ h => h) (Or.inl ⟨by rfl, ?hyr1_1⟩) (by assumption) ?restr1_1
                case hyr1_1 => (intro w hSw; (try dsimp only at hSw); go_simp; first | done | rfl)
                try simp only [layA]
                refine wpAnyH_take (i := 2) (oi := _) (v := ?vr2_2) rfl (by kernel_rfl) (by kernel_rfl) (by kernel_rfl) (fun _ _ _ h => h) (Or.inl ⟨by rfl, ?hyr2_2⟩) (by assumption) ?restr2_2
                case hyr2_2 => (intro w hSw; (try dsimp only at hSw); go_simp; first | done | rfl)
                try simp only [layA]
                refine wpAnyH_take (i := 3) (oi := _) (v := ?vr3_3) rfl (by kernel_rfl) (by kernel_rfl) (by kernel_rfl) (fun _ _ _ h => h) (Or.inl ⟨by rfl, ?hyr3_3⟩) (by assumption) ?restr3_3
                case hyr3_3 => (intro w hSw; (try dsimp only at hSw); go_simp; first | done | rfl)
                try simp only [layA]
                refine wpAnyH_take (i := 5) (oi := _) (v := ?vr5_4) rfl (by kernel_rfl) (by kernel_rfl) (by kernel_rfl) (fun _ _ _ h => h) (Or.inl ⟨by rfl, ?hyr5_4⟩) (by assumption) ?restr5_4
                case hyr5_4 => (intro w hSw; (try dsimp only at hSw); obtain ⟨e0, e1, -, -⟩ := hSw; go_simp; first | done | rfl)
                try simp only [layA]
                refine wpAnyH_take (i := 8) (oi := _) (v := ?vr8_5) rfl (by kernel_rfl) (by kernel_rfl) (by kernel_rfl) (fun _ _ _ h => h) (Or.inl ⟨by rfl, ?hyr8_5⟩) (by assumption) ?restr8_5
                case hyr8_5 => (intro w hSw; (try dsimp only at hSw); go_simp; first | done | rfl)
                try simp only [layA]
                refine wpAnyH_take (i := 9) (oi := _) (v := ?vr9_6) rfl (by kernel_rfl) (by kernel_rfl) (by kernel_rfl) (fun _ _ _ h => h) (Or.inl ⟨by rfl, ?hyr9_6⟩) (by assumption) ?restr9_6
                case hyr9_6 => (intro w hSw; (try dsimp only at hSw); go_simp; first | done | rfl)
                try simp only [layA]
                refine wpAnyH_take (i := 10) (oi := _) (v := ?vr10_7) rfl (by kernel_rfl) (by kernel_rfl) (by kernel_rfl) (fun _ _ _ h => h) (Or.inl ⟨by rfl, ?hyr10_7⟩) (by assumption) ?restr10_7
                case hyr10_7 => (intro w hSw; (try dsimp only at hSw); go_simp; first | done | rfl)
                try simp only [layA]
                refine wpAnyH_ready (rs := [0, 6]) (by kernel_rfl) (by simp) ?_
                refine (AllReadyH.cons (o := _) rfl (fun K hK => ?rr0_8) (AllReadyH.cons (o := _) rfl (fun K hK => ?rr6_8) AllReadyH.nil))
                case rr0_8 =>
                  simp only [layG]
                  go_simp
                  have hbz9 := (bel2 hHeld).size
                  obtain ⟨Wa, hWa⟩ : ∃ Wa, W9.drew.alloc (.cells #[] 26) = Wa := ⟨_, rfl⟩
                  have hE := Lib.hid (show Wa.ownsRow wo.heap.size 26 2 (.slice (some ⟨W9.heap.size, 0, none⟩) 0 0) 0 [] by rw [← hWa]; exact empty_row W9.drew _ hbz9 _ _)
                  have HZA := Lib.hid (show Wa.heap.size = W9.heap.size + 1 by rw [← hWa]; simp)
                  have hal : Below wo.heap.size W9.drew Wa := by rw [← hWa]; exact (Below.refl _ _).alloc hbz9 _
                  rw [show (W9.alloc (.cells #[] 26)).drew = Wa from hWa]
                  refine hK.out _ _ (keep2 hHeld hal) (fun hHeld => ?_)
                  clear hWa hal hbz9
                  clear hK K
                  try simp only [layA]
                  refine wpAnyH_ready (rs := [4, 6]) (by kernel_rfl) (by simp) ?_
                  refine (AllReadyH.cons (o := _) rfl (fun K hK => ?rr4_9) (AllReadyH.cons (o := _) rfl (fun K hK => ?rr6_9) AllReadyH.nil))
                  case rr4_9 =>
                    simp only [layG]
                    rw [if_pos (by rfl)]
                    have hbz9 := (bel2 hHeld).size
                    refine wp_append_gen (.tmp 71) (.tmp 74) 62 rfl wo.heap.size 26 ib (.agg #[.int .i64 0, .int .i64 0]) 2 16 undSK HIB.out HB0.out HB1.out HB2.out rfl (by decide) (.slice (some ⟨W9.heap.size, 0, none⟩) 0 0) 0 [] ?_ hE.out (some ⟨g, 0, none⟩) j cap (kcellsL (O.take j)) ?_ (by rw [kcellsL_length, List.length_take, HN.out]; omega) (by intro h; cases h) (by exact newsK_take (HO.out.below' (bel2 hHeld)) hOn) (kcellsL_one _) (by unfold maxLen; omega) (by omega) hbz9 ?_
                    · rfl
                    · rfl
                    intro v5 w5 hown hgrow
                    have hown5 := Lib.hid hown
                    have hQ := grewQ hE.out (Nat.le_refl _) hbz9 hgrow
                    refine hK.out _ _ (keep2 hHeld hQ) (fun hHeld => ?_)
                    clear hown hgrow hQ hbz9
                    clear hK K
                    try simp only [layA]
                    refine wpAnyH_ready (rs := [6]) (by kernel_rfl) (by simp) ?_
                    refine (AllReadyH.cons (o := _) rfl (fun K hK => ?rr6_10) AllReadyH.nil)
                    case rr6_10 =>
                      simp only [layG]
                      go_simp
                      have hbz9 := (bel2 hHeld).size
                      obtain ⟨Wb, hWb⟩ : ∃ Wb, w5.alloc (.cells #[.int .i64 x.x, .int .i64 x.y] 26) = Wb := ⟨_, rfl⟩
                      have hLt := Lib.hid (show Wb.heap[w5.heap.size]? = some (.cells #[.int .i64 x.x, .int .i64 x.y] 26 (0, 0)) by rw [← hWb]; exact heap_alloc_new _ _)
                      have HZB := Lib.hid (show Wb.heap.size = w5.heap.size + 1 by rw [← hWb]; simp)
                      have hal : Below wo.heap.size w5 Wb := by rw [← hWb]; exact (Below.refl _ _).alloc hbz9 _
                      have hown5b := Lib.hid (show Wb.ownsRow wo.heap.size 26 2 v5 (0 + j) ([] ++ kcellsL (O.take j)) by rw [← hWb]; exact hown5.out.alloc _)
                      rw [hWb]
                      refine hK.out _ _ (keep2 hHeld hal) (fun hHeld => ?_)
                      clear hWb hal hbz9
                      clear hK K
                      try simp only [layA]
                      refine wpAnyH_ready (rs := [7]) (by kernel_rfl) (by simp) ?_
                      refine (AllReadyH.cons (o := _) rfl (fun K hK => ?rr7_11) AllReadyH.nil)
                      case rr7_11 =>
                        simp only [layG]
                        rw [if_pos (by rfl)]
                        have hbz9 := (bel2 hHeld).size
                        refine wp_append_gen (.tmp 75) (.tmp 77) 62 rfl wo.heap.size 26 ib (.agg #[.int .i64 0, .int .i64 0]) 2 16 undSK HIB.out HB0.out HB1.out HB2.out rfl (by decide) v5 (0 + j) ([] ++ kcellsL (O.take j)) ?_ hown5b.out (some ⟨w5.heap.size, 0, none⟩) 1 1 [.int .i64 x.x, .int .i64 x.y] ?_ rfl (by intro h; cases h) (by intro ad had; cases had; exact World.news_of_block hLt.out) (by intro u hu; simp at hu; rcases hu with rfl | rfl <;> rfl) (by unfold maxLen; omega) (by omega) hbz9 ?_
                        · first | rfl | (simp [Act.eval]; done)
                        · first | rfl | (simp [Act.eval]; done)
                        intro v6 w6 hown hgrow
                        have hown6 := Lib.hid hown
                        have hQ := grewQ hown5b.out (Nat.le_refl _) hbz9 hgrow
                        refine hK.out _ _ (keep2 hHeld hQ) (fun hHeld => ?_)
                        clear hown hgrow hQ hbz9
                        clear hK K
                        try simp only [layA]
                        refine wpAnyH_ready (rs := [11]) (by kernel_rfl) (by simp) ?_
                        refine (AllReadyH.cons (o := _) rfl (fun K hK => ?rr11_12) AllReadyH.nil)
                        case rr11_12 =>
                          simp only [layG]
                          rw [if_pos (by rfl)]
                          have hbz9 := (bel2 hHeld).size
                          refine wp_append_gen (.tmp 78) (.tmp 81) 62 rfl wo.heap.size 26 ib (.agg #[.int .i64 0, .int .i64 0]) 2 16 undSK HIB.out HB0.out HB1.out HB2.out rfl (by decide) v6 (0 + j + 1) ([] ++ kcellsL (O.take j) ++ [.int .i64 x.x, .int .i64 x.y]) ?_ hown6.out (if cap = j then some ⟨g, 0, none⟩ else some ⟨g, j * 2, none⟩) (n - j) (cap - j) (kcellsL (O.drop j)) ?_ (by rw [kcellsL_length, List.length_drop, HN.out]) (by intro h; split at h <;> cases h) (by exact newsK_drop (HO.out.below' (bel2 hHeld)) hOn (by rw [HN.out]; omega) (by rw [HN.out]; omega)) (kcellsL_one _) (by unfold maxLen; omega) (by omega) hbz9 ?_
                          · first | rfl | (simp [Act.eval, Act.put]; done)
                          · first | rfl | (simp [Act.eval, Act.put]; done)
                          intro v7 w7 hown hgrow
                          have hown7 := Lib.hid hown
                          have hQ := grewQ hown6.out (Nat.le_refl _) hbz9 hgrow
                          refine hK.out _ _ (keep2 hHeld hQ) (fun hHeld => ?_)
                          clear hown hgrow hQ hbz9
                          clear hK K
                          try simp only [layA]
                          refine wpAnyH_take (i := 12) (oi := _) (v := ?vr12_13) rfl (by kernel_rfl) (by kernel_rfl) (by kernel_rfl) (fun _ _ _ h => h) (Or.inl ⟨by rfl, ?hyr12_13⟩) (by assumption) ?restr12_13
                          case hyr12_13 => (intro w hSw; (try dsimp only at hSw); go_simp; first | done | rfl)
                          try simp only [layA]
                          refine wpAnyH_done (by kernel_rfl) ?_ _
                          have hrow7 := insK_row (B := w.heap.size) hbz (by rw [HN.out]; omega) HN.out.symm hown7.out
                          have hbel7 := hb.trans ((bel2 hHeld).mono hbz)
                          clear hown5 hown6 hown7
                          go_wp2
                          go_roundw
                          case rel => exact ⟨k + 1, by omega, by go_num, Lib.hid (by rw [HSN.out, HIN.out]; exact hrow7.out), fun h => by omega, hbel7⟩
                          case measure => simp [intOf]; omega
                  case rr6_9 =>
                    simp only [layG]
                    go_simp
                    have hbz9 := (bel2 hHeld).size
                    obtain ⟨Wb, hWb⟩ : ∃ Wb, Wa.alloc (.cells #[.int .i64 x.x, .int .i64 x.y] 26) = Wb := ⟨_, rfl⟩
                    have hLt := Lib.hid (show Wb.heap[Wa.heap.size]? = some (.cells #[.int .i64 x.x, .int .i64 x.y] 26 (0, 0)) by rw [← hWb]; exact heap_alloc_new _ _)
                    have HZB := Lib.hid (show Wb.heap.size = Wa.heap.size + 1 by rw [← hWb]; simp)
                    have hal : Below wo.heap.size Wa Wb := by rw [← hWb]; exact (Below.refl _ _).alloc hbz9 _
                    have hE2 := Lib.hid (show Wb.ownsRow wo.heap.size 26 2 (.slice (some ⟨W9.heap.size, 0, none⟩) 0 0) 0 [] by rw [← hWb]; exact hE.out.alloc _)
                    rw [hWb]
                    refine hK.out _ _ (keep2 hHeld hal) (fun hHeld => ?_)
                    clear hWb hal hbz9
                    clear hK K
                    try simp only [layA]
                    refine wpAnyH_ready (rs := [4]) (by kernel_rfl) (by simp) ?_
                    refine (AllReadyH.cons (o := _) rfl (fun K hK => ?rr4_14) AllReadyH.nil)
                    case rr4_14 =>
                      simp only [layG]
                      rw [if_pos (by rfl)]
                      have hbz9 := (bel2 hHeld).size
                      refine wp_append_gen (.tmp 71) (.tmp 74) 62 rfl wo.heap.size 26 ib (.agg #[.int .i64 0, .int .i64 0]) 2 16 undSK HIB.out HB0.out HB1.out HB2.out rfl (by decide) (.slice (some ⟨W9.heap.size, 0, none⟩) 0 0) 0 [] ?_ hE2.out (some ⟨g, 0, none⟩) j cap (kcellsL (O.take j)) ?_ (by rw [kcellsL_length, List.length_take, HN.out]; omega) (by intro h; cases h) (by exact newsK_take (HO.out.below' (bel2 hHeld)) hOn) (kcellsL_one _) (by unfold maxLen; omega) (by omega) hbz9 ?_
                      · rfl
                      · rfl
                      intro v5 w5 hown hgrow
                      have hown5 := Lib.hid hown
                      have hQ := grewQ hE2.out (Nat.le_refl _) hbz9 hgrow
                      have hLt5 := Lib.hid (show w5.heap[Wa.heap.size]? = some (.cells #[.int .i64 x.x, .int .i64 x.y] 26 (0, 0)) from (hgrow.block _ (Array.getElem?_eq_some_iff.1 hLt.out).1 (by have z1 := HZA.out; have z2 := HZB.out; simp [Value.ownBlock]; omega)).trans hLt.out)
                      refine hK.out _ _ (keep2 hHeld hQ) (fun hHeld => ?_)
                      clear hown hgrow hQ hbz9
                      clear hK K
                      try simp only [layA]
                      refine wpAnyH_ready (rs := [7]) (by kernel_rfl) (by simp) ?_
                      refine (AllReadyH.cons (o := _) rfl (fun K hK => ?rr7_15) AllReadyH.nil)
                      case rr7_15 =>
                        simp only [layG]
                        rw [if_pos (by rfl)]
                        have hbz9 := (bel2 hHeld).size
                        refine wp_append_gen (.tmp 75) (.tmp 77) 62 rfl wo.heap.size 26 ib (.agg #[.int .i64 0, .int .i64 0]) 2 16 undSK HIB.out HB0.out HB1.out HB2.out rfl (by decide) v5 (0 + j) ([] ++ kcellsL (O.take j)) ?_ hown5.out (some ⟨Wa.heap.size, 0, none⟩) 1 1 [.int .i64 x.x, .int .i64 x.y] ?_ rfl (by intro h; cases h) (by intro ad had; cases had; exact World.news_of_block hLt5.out) (by intro u hu; simp at hu; rcases hu with rfl | rfl <;> rfl) (by unfold maxLen; omega) (by omega) hbz9 ?_
                        · first | rfl | (simp [Act.eval]; done)
                        · first | rfl | (simp [Act.eval]; done)
                        intro v6 w6 hown hgrow
                        have hown6 := Lib.hid hown
                        have hQ := grewQ hown5.out (Nat.le_refl _) hbz9 hgrow
                        refine hK.out _ _ (keep2 hHeld hQ) (fun hHeld => ?_)
                        clear hown hgrow hQ hbz9
                        clear hK K
                        try simp only [layA]
                        refine wpAnyH_ready (rs := [11]) (by kernel_rfl) (by simp) ?_
                        refine (AllReadyH.cons (o := _) rfl (fun K hK => ?rr11_16) AllReadyH.nil)
                        case rr11_16 =>
                          simp only [layG]
                          rw [if_pos (by rfl)]
                          have hbz9 := (bel2 hHeld).size
                          refine wp_append_gen (.tmp 78) (.tmp 81) 62 rfl wo.heap.size 26 ib (.agg #[.int .i64 0, .int .i64 0]) 2 16 undSK HIB.out HB0.out HB1.out HB2.out rfl (by decide) v6 (0 + j + 1) ([] ++ kcellsL (O.take j) ++ [.int .i64 x.x, .int .i64 x.y]) ?_ hown6.out (if cap = j then some ⟨g, 0, none⟩ else some ⟨g, j * 2, none⟩) (n - j) (cap - j) (kcellsL (O.drop j)) ?_ (by rw [kcellsL_length, List.length_drop, HN.out]) (by intro h; split at h <;> cases h) (by exact newsK_drop (HO.out.below' (bel2 hHeld)) hOn (by rw [HN.out]; omega) (by rw [HN.out]; omega)) (kcellsL_one _) (by unfold maxLen; omega) (by omega) hbz9 ?_
                          · first | rfl | (simp [Act.eval, Act.put]; done)
                          · first | rfl | (simp [Act.eval, Act.put]; done)
                          intro v7 w7 hown hgrow
                          have hown7 := Lib.hid hown
                          have hQ := grewQ hown6.out (Nat.le_refl _) hbz9 hgrow
                          refine hK.out _ _ (keep2 hHeld hQ) (fun hHeld => ?_)
                          clear hown hgrow hQ hbz9
                          clear hK K
                          try simp only [layA]
                          refine wpAnyH_take (i := 12) (oi := _) (v := ?vr12_17) rfl (by kernel_rfl) (by kernel_rfl) (by kernel_rfl) (fun _ _ _ h => h) (Or.inl ⟨by rfl, ?hyr12_17⟩) (by assumption) ?restr12_17
                          case hyr12_17 => (intro w hSw; (try dsimp only at hSw); go_simp; first | done | rfl)
                          try simp only [layA]
                          refine wpAnyH_done (by kernel_rfl) ?_ _
                          have hrow7 := insK_row (B := w.heap.size) hbz (by rw [HN.out]; omega) HN.out.symm hown7.out
                          have hbel7 := hb.trans ((bel2 hHeld).mono hbz)
                          clear hown5 hown6 hown7
                          go_wp2
                          go_roundw
                          case rel => exact ⟨k + 1, by omega, by go_num, Lib.hid (by rw [HSN.out, HIN.out]; exact hrow7.out), fun h => by omega, hbel7⟩
                          case measure => simp [intOf]; omega
                case rr6_8 =>
                  simp only [layG]
                  go_simp
                  have hbz9 := (bel2 hHeld).size
                  obtain ⟨Wb, hWb⟩ : ∃ Wb, W9.drew.alloc (.cells #[.int .i64 x.x, .int .i64 x.y] 26) = Wb := ⟨_, rfl⟩
                  have hLt := Lib.hid (show Wb.heap[W9.heap.size]? = some (.cells #[.int .i64 x.x, .int .i64 x.y] 26 (0, 0)) by rw [← hWb]; exact heap_alloc_new _ _)
                  have HZB := Lib.hid (show Wb.heap.size = W9.heap.size + 1 by rw [← hWb]; simp)
                  have hal : Below wo.heap.size W9.drew Wb := by rw [← hWb]; exact (Below.refl _ _).alloc hbz9 _
                  rw [show (W9.alloc (.cells #[.int .i64 x.x, .int .i64 x.y] 26)).drew = Wb from hWb]
                  refine hK.out _ _ (keep2 hHeld hal) (fun hHeld => ?_)
                  clear hWb hal hbz9
                  clear hK K
                  try simp only [layA]
                  refine wpAnyH_ready (rs := [0]) (by kernel_rfl) (by simp) ?_
                  refine (AllReadyH.cons (o := _) rfl (fun K hK => ?rr0_18) AllReadyH.nil)
                  case rr0_18 =>
                    simp only [layG]
                    go_simp
                    have hbz9 := (bel2 hHeld).size
                    obtain ⟨Wa, hWa⟩ : ∃ Wa, Wb.alloc (.cells #[] 26) = Wa := ⟨_, rfl⟩
                    have hE := Lib.hid (show Wa.ownsRow wo.heap.size 26 2 (.slice (some ⟨Wb.heap.size, 0, none⟩) 0 0) 0 [] by rw [← hWa]; exact empty_row Wb _ hbz9 _ _)
                    have HZA := Lib.hid (show Wa.heap.size = Wb.heap.size + 1 by rw [← hWa]; simp)
                    have hal : Below wo.heap.size Wb Wa := by rw [← hWa]; exact (Below.refl _ _).alloc hbz9 _
                    have hLt2 := Lib.hid (show Wa.heap[W9.heap.size]? = some (.cells #[.int .i64 x.x, .int .i64 x.y] 26 (0, 0)) by rw [← hWa]; exact (Below.heap_alloc _ _ _ (Array.getElem?_eq_some_iff.1 hLt.out).1).trans hLt.out)
                    rw [hWa]
                    refine hK.out _ _ (keep2 hHeld hal) (fun hHeld => ?_)
                    clear hWa hal hbz9
                    clear hK K
                    try simp only [layA]
                    refine wpAnyH_ready (rs := [4]) (by kernel_rfl) (by simp) ?_
                    refine (AllReadyH.cons (o := _) rfl (fun K hK => ?rr4_19) AllReadyH.nil)
                    case rr4_19 =>
                      simp only [layG]
                      rw [if_pos (by rfl)]
                      have hbz9 := (bel2 hHeld).size
                      refine wp_append_gen (.tmp 71) (.tmp 74) 62 rfl wo.heap.size 26 ib (.agg #[.int .i64 0, .int .i64 0]) 2 16 undSK HIB.out HB0.out HB1.out HB2.out rfl (by decide) (.slice (some ⟨Wb.heap.size, 0, none⟩) 0 0) 0 [] ?_ hE.out (some ⟨g, 0, none⟩) j cap (kcellsL (O.take j)) ?_ (by rw [kcellsL_length, List.length_take, HN.out]; omega) (by intro h; cases h) (by exact newsK_take (HO.out.below' (bel2 hHeld)) hOn) (kcellsL_one _) (by unfold maxLen; omega) (by omega) hbz9 ?_
                      · rfl
                      · rfl
                      intro v5 w5 hown hgrow
                      have hown5 := Lib.hid hown
                      have hQ := grewQ hE.out (Nat.le_refl _) hbz9 hgrow
                      have hLt5 := Lib.hid (show w5.heap[W9.heap.size]? = some (.cells #[.int .i64 x.x, .int .i64 x.y] 26 (0, 0)) from (hgrow.block _ (Array.getElem?_eq_some_iff.1 hLt2.out).1 (by have z1 := HZA.out; have z2 := HZB.out; simp [Value.ownBlock]; omega)).trans hLt2.out)
                      refine hK.out _ _ (keep2 hHeld hQ) (fun hHeld => ?_)
                      clear hown hgrow hQ hbz9
                      clear hK K
                      try simp only [layA]
                      refine wpAnyH_ready (rs := [7]) (by kernel_rfl) (by simp) ?_
                      refine (AllReadyH.cons (o := _) rfl (fun K hK => ?rr7_20) AllReadyH.nil)
                      case rr7_20 =>
                        simp only [layG]
                        rw [if_pos (by rfl)]
                        have hbz9 := (bel2 hHeld).size
                        refine wp_append_gen (.tmp 75) (.tmp 77) 62 rfl wo.heap.size 26 ib (.agg #[.int .i64 0, .int .i64 0]) 2 16 undSK HIB.out HB0.out HB1.out HB2.out rfl (by decide) v5 (0 + j) ([] ++ kcellsL (O.take j)) ?_ hown5.out (some ⟨W9.heap.size, 0, none⟩) 1 1 [.int .i64 x.x, .int .i64 x.y] ?_ rfl (by intro h; cases h) (by intro ad had; cases had; exact World.news_of_block hLt5.out) (by intro u hu; simp at hu; rcases hu with rfl | rfl <;> rfl) (by unfold maxLen; omega) (by omega) hbz9 ?_
                        · first | rfl | (simp [Act.eval]; done)
                        · first | rfl | (simp [Act.eval]; done)
                        intro v6 w6 hown hgrow
                        have hown6 := Lib.hid hown
                        have hQ := grewQ hown5.out (Nat.le_refl _) hbz9 hgrow
                        refine hK.out _ _ (keep2 hHeld hQ) (fun hHeld => ?_)
                        clear hown hgrow hQ hbz9
                        clear hK K
                        try simp only [layA]
                        refine wpAnyH_ready (rs := [11]) (by kernel_rfl) (by simp) ?_
                        refine (AllReadyH.cons (o := _) rfl (fun K hK => ?rr11_21) AllReadyH.nil)
                        case rr11_21 =>
                          simp only [layG]
                          rw [if_pos (by rfl)]
                          have hbz9 := (bel2 hHeld).size
                          refine wp_append_gen (.tmp 78) (.tmp 81) 62 rfl wo.heap.size 26 ib (.agg #[.int .i64 0, .int .i64 0]) 2 16 undSK HIB.out HB0.out HB1.out HB2.out rfl (by decide) v6 (0 + j + 1) ([] ++ kcellsL (O.take j) ++ [.int .i64 x.x, .int .i64 x.y]) ?_ hown6.out (if cap = j then some ⟨g, 0, none⟩ else some ⟨g, j * 2, none⟩) (n - j) (cap - j) (kcellsL (O.drop j)) ?_ (by rw [kcellsL_length, List.length_drop, HN.out]) (by intro h; split at h <;> cases h) (by exact newsK_drop (HO.out.below' (bel2 hHeld)) hOn (by rw [HN.out]; omega) (by rw [HN.out]; omega)) (kcellsL_one _) (by unfold maxLen; omega) (by omega) hbz9 ?_
                          · first | rfl | (simp [Act.eval, Act.put]; done)
                          · first | rfl | (simp [Act.eval, Act.put]; done)
                          intro v7 w7 hown hgrow
                          have hown7 := Lib.hid hown
                          have hQ := grewQ hown6.out (Nat.le_refl _) hbz9 hgrow
                          refine hK.out _ _ (keep2 hHeld hQ) (fun hHeld => ?_)
                          clear hown hgrow hQ hbz9
                          clear hK K
                          try simp only [layA]
                          refine wpAnyH_take (i := 12) (oi := _) (v := ?vr12_22) rfl (by kernel_rfl) (by kernel_rfl) (by kernel_rfl) (fun _ _ _ h => h) (Or.inl ⟨by rfl, ?hyr12_22⟩) (by assumption) ?restr12_22
                          case hyr12_22 => (intro w hSw; (try dsimp only at hSw); go_simp; first | done | rfl)
                          try simp only [layA]
                          refine wpAnyH_done (by kernel_rfl) ?_ _
                          have hrow7 := insK_row (B := w.heap.size) hbz (by rw [HN.out]; omega) HN.out.symm hown7.out
                          have hbel7 := hb.trans ((bel2 hHeld).mono hbz)
                          clear hown5 hown6 hown7
                          go_wp2
                          go_roundw
                          case rel => exact ⟨k + 1, by omega, by go_num, Lib.hid (by rw [HSN.out, HIN.out]; exact hrow7.out), fun h => by omega, hbel7⟩
                          case measure => simp [intOf]; omega
          · obtain rfl : j = n := by omega
            have hg1 : decide (j < j) = false := by simp
            have hg2 : decide ((j : Int) < (j : Int)) = false := by simp
            have HIN := Lib.hid (ins_newK (O := O) (x := x) (by rw [HN.out]; omega) hall.out (fun h => by rw [HN.out] at h; omega) (fun h => by rw [HN.out] at h; omega))
            clear a0 a1
            go_wp2_with fail
            go_quiet (fail)
            have hb8 := below_drewN hbi nq
            generalize World.drewN wr nq = W8 at *
            clear nq
            go_wp2_with fail
            go_quiet (fail)
            have hb9 := below_drewN hb8 nq
            generalize World.drewN W8 nq = W9 at *
            obtain ⟨e0, e1⟩ := XC.out _ hb9
            have hs9 := hb9.size
            go_wp2_with fail
            clear hg1 hg2
            refine wp_region_held_drew (S := (fun w' => w'.cell? ⟨B5, 0, none⟩ = some (.int .i64 x.x) ∧ w'.cell? ⟨B5, 1, none⟩ = some (.int .i64 x.y) ∧ Below wo.heap.size wo w' ∧ B5 < wo.heap.size)) (by kernel_rfl) ?_ (fun hHeld => ?_)
            · exact ⟨e0, e1, below_drew hb9, hB5⟩
            refine wpAnyH_take (i := 1) (oi := _) (v := ?vq1_1) rfl (by kernel_rfl) (by kernel_rfl) (by kernel_rfl) (fun _ _ _ h => h) (Or.inl ⟨by rfl, ?hyq1_1⟩) (by assumption) ?restq1_1
            case hyq1_1 => (intro w hSw; (try dsimp only at hSw); go_simp; first | done | rfl)
            try simp only [layA]
            refine wpAnyH_take (i := 2) (oi := _) (v := ?vq2_2) rfl (by kernel_rfl) (by kernel_rfl) (by kernel_rfl) (fun _ _ _ h => h) (Or.inl ⟨by rfl, ?hyq2_2⟩) (by assumption) ?restq2_2
            case hyq2_2 => (intro w hSw; (try dsimp only at hSw); go_simp; first | done | rfl)
            try simp only [layA]
            refine wpAnyH_take (i := 3) (oi := _) (v := ?vq3_3) rfl (by kernel_rfl) (by kernel_rfl) (by kernel_rfl) (fun _ _ _ h => h) (Or.inl ⟨by rfl, ?hyq3_3⟩) (by assumption) ?restq3_3
            case hyq3_3 => (intro w hSw; (try dsimp only at hSw); go_simp; first | done | rfl)
            try simp only [layA]
            refine wpAnyH_take (i := 5) (oi := _) (v := ?vq5_4) rfl (by kernel_rfl) (by kernel_rfl) (by kernel_rfl) (fun _ _ _ h => h) (Or.inl ⟨by rfl, ?hyq5_4⟩) (by assumption) ?restq5_4
            case hyq5_4 => (intro w hSw; (try dsimp only at hSw); obtain ⟨e0, e1, -, -⟩ := hSw; go_simp; first | done | rfl)
            try simp only [layA]
            refine wpAnyH_take (i := 8) (oi := _) (v := ?vq8_5) rfl (by kernel_rfl) (by kernel_rfl) (by kernel_rfl) (fun _ _ _ h => h) (Or.inl ⟨by rfl, ?hyq8_5⟩) (by assumption) ?restq8_5
            case hyq8_5 => (intro w hSw; (try dsimp only at hSw); go_simp; first | done | rfl)
            try simp only [layA]
            refine wpAnyH_take (i := 9) (oi := _) (v := ?vq9_6) rfl (by kernel_rfl) (by kernel_rfl) (by kernel_rfl) (fun _ _ _ h => h) (Or.inl ⟨by rfl, ?hyq9_6⟩) (by assumption) ?restq9_6
            case hyq9_6 => (intro w hSw; (try dsimp only at hSw); go_simp; first | done | rfl)
            try simp only [layA]
            refine wpAnyH_take (i := 10) (oi := _) (v := ?vq10_7) rfl (by kernel_rfl) (by kernel_rfl) (by kernel_rfl) (fun _ _ _ h => h) (Or.inl ⟨by rfl, ?hyq10_7⟩) (by assumption) ?restq10_7
            case hyq10_7 => (intro w hSw; (try dsimp only at hSw); go_simp; first | done | rfl)
            try simp only [layA]
            refine wpAnyH_ready (rs := [0, 6]) (by kernel_rfl) (by simp) ?_
            refine (AllReadyH.cons (o := _) rfl (fun K hK => ?rq0_8) (AllReadyH.cons (o := _) rfl (fun K hK => ?rq6_8) AllReadyH.nil))
            case rq0_8 =>
              simp only [layG]
              go_simp
              have hbz9 := (bel2 hHeld).size
              obtain ⟨Wa, hWa⟩ : ∃ Wa, W9.drew.alloc (.cells #[] 26) = Wa := ⟨_, rfl⟩
              have hE := Lib.hid (show Wa.ownsRow wo.heap.size 26 2 (.slice (some ⟨W9.heap.size, 0, none⟩) 0 0) 0 [] by rw [← hWa]; exact empty_row W9.drew _ hbz9 _ _)
              have HZA := Lib.hid (show Wa.heap.size = W9.heap.size + 1 by rw [← hWa]; simp)
              have hal : Below wo.heap.size W9.drew Wa := by rw [← hWa]; exact (Below.refl _ _).alloc hbz9 _
              rw [show (W9.alloc (.cells #[] 26)).drew = Wa from hWa]
              refine hK.out _ _ (keep2 hHeld hal) (fun hHeld => ?_)
              clear hWa hal hbz9
              clear hK K
              try simp only [layA]
              refine wpAnyH_ready (rs := [4, 6]) (by kernel_rfl) (by simp) ?_
              refine (AllReadyH.cons (o := _) rfl (fun K hK => ?rq4_9) (AllReadyH.cons (o := _) rfl (fun K hK => ?rq6_9) AllReadyH.nil))
              case rq4_9 =>
                simp only [layG]
                rw [if_pos (by rfl)]
                have hbz9 := (bel2 hHeld).size
                refine wp_append_gen (.tmp 71) (.tmp 74) 62 rfl wo.heap.size 26 ib (.agg #[.int .i64 0, .int .i64 0]) 2 16 undSK HIB.out HB0.out HB1.out HB2.out rfl (by decide) (.slice (some ⟨W9.heap.size, 0, none⟩) 0 0) 0 [] ?_ hE.out (some ⟨g, 0, none⟩) j cap (kcellsL (O.take j)) ?_ (by rw [kcellsL_length, List.length_take, HN.out]; omega) (by intro h; cases h) (by exact newsK_take (HO.out.below' (bel2 hHeld)) hOn) (kcellsL_one _) (by unfold maxLen; omega) (by omega) hbz9 ?_
                · rfl
                · rfl
                intro v5 w5 hown hgrow
                have hown5 := Lib.hid hown
                have hQ := grewQ hE.out (Nat.le_refl _) hbz9 hgrow
                refine hK.out _ _ (keep2 hHeld hQ) (fun hHeld => ?_)
                clear hown hgrow hQ hbz9
                clear hK K
                try simp only [layA]
                refine wpAnyH_ready (rs := [6]) (by kernel_rfl) (by simp) ?_
                refine (AllReadyH.cons (o := _) rfl (fun K hK => ?rq6_10) AllReadyH.nil)
                case rq6_10 =>
                  simp only [layG]
                  go_simp
                  have hbz9 := (bel2 hHeld).size
                  obtain ⟨Wb, hWb⟩ : ∃ Wb, w5.alloc (.cells #[.int .i64 x.x, .int .i64 x.y] 26) = Wb := ⟨_, rfl⟩
                  have hLt := Lib.hid (show Wb.heap[w5.heap.size]? = some (.cells #[.int .i64 x.x, .int .i64 x.y] 26 (0, 0)) by rw [← hWb]; exact heap_alloc_new _ _)
                  have HZB := Lib.hid (show Wb.heap.size = w5.heap.size + 1 by rw [← hWb]; simp)
                  have hal : Below wo.heap.size w5 Wb := by rw [← hWb]; exact (Below.refl _ _).alloc hbz9 _
                  have hown5b := Lib.hid (show Wb.ownsRow wo.heap.size 26 2 v5 (0 + j) ([] ++ kcellsL (O.take j)) by rw [← hWb]; exact hown5.out.alloc _)
                  rw [hWb]
                  refine hK.out _ _ (keep2 hHeld hal) (fun hHeld => ?_)
                  clear hWb hal hbz9
                  clear hK K
                  try simp only [layA]
                  refine wpAnyH_ready (rs := [7]) (by kernel_rfl) (by simp) ?_
                  refine (AllReadyH.cons (o := _) rfl (fun K hK => ?rq7_11) AllReadyH.nil)
                  case rq7_11 =>
                    simp only [layG]
                    rw [if_pos (by rfl)]
                    have hbz9 := (bel2 hHeld).size
                    refine wp_append_gen (.tmp 75) (.tmp 77) 62 rfl wo.heap.size 26 ib (.agg #[.int .i64 0, .int .i64 0]) 2 16 undSK HIB.out HB0.out HB1.out HB2.out rfl (by decide) v5 (0 + j) ([] ++ kcellsL (O.take j)) ?_ hown5b.out (some ⟨w5.heap.size, 0, none⟩) 1 1 [.int .i64 x.x, .int .i64 x.y] ?_ rfl (by intro h; cases h) (by intro ad had; cases had; exact World.news_of_block hLt.out) (by intro u hu; simp at hu; rcases hu with rfl | rfl <;> rfl) (by unfold maxLen; omega) (by omega) hbz9 ?_
                    · first | rfl | (simp [Act.eval]; done)
                    · first | rfl | (simp [Act.eval]; done)
                    intro v6 w6 hown hgrow
                    have hown6 := Lib.hid hown
                    have hQ := grewQ hown5b.out (Nat.le_refl _) hbz9 hgrow
                    refine hK.out _ _ (keep2 hHeld hQ) (fun hHeld => ?_)
                    clear hown hgrow hQ hbz9
                    clear hK K
                    try simp only [layA]
                    refine wpAnyH_ready (rs := [11]) (by kernel_rfl) (by simp) ?_
                    refine (AllReadyH.cons (o := _) rfl (fun K hK => ?rq11_12) AllReadyH.nil)
                    case rq11_12 =>
                      simp only [layG]
                      rw [if_pos (by rfl)]
                      have hbz9 := (bel2 hHeld).size
                      refine wp_append_gen (.tmp 78) (.tmp 81) 62 rfl wo.heap.size 26 ib (.agg #[.int .i64 0, .int .i64 0]) 2 16 undSK HIB.out HB0.out HB1.out HB2.out rfl (by decide) v6 (0 + j + 1) ([] ++ kcellsL (O.take j) ++ [.int .i64 x.x, .int .i64 x.y]) ?_ hown6.out (if cap = j then some ⟨g, 0, none⟩ else some ⟨g, j * 2, none⟩) (j - j) (cap - j) (kcellsL (O.drop j)) ?_ (by rw [kcellsL_length, List.length_drop, HN.out]) (by intro h; split at h <;> cases h) (by exact newsK_drop (HO.out.below' (bel2 hHeld)) hOn (by rw [HN.out]; omega) (by rw [HN.out]; omega)) (kcellsL_one _) (by unfold maxLen; omega) (by omega) hbz9 ?_
                      · first | rfl | (simp [Act.eval, Act.put]; done)
                      · first | rfl | (simp [Act.eval, Act.put]; done)
                      intro v7 w7 hown hgrow
                      have hown7 := Lib.hid hown
                      have hQ := grewQ hown6.out (Nat.le_refl _) hbz9 hgrow
                      refine hK.out _ _ (keep2 hHeld hQ) (fun hHeld => ?_)
                      clear hown hgrow hQ hbz9
                      clear hK K
                      try simp only [layA]
                      refine wpAnyH_take (i := 12) (oi := _) (v := ?vq12_13) rfl (by kernel_rfl) (by kernel_rfl) (by kernel_rfl) (fun _ _ _ h => h) (Or.inl ⟨by rfl, ?hyq12_13⟩) (by assumption) ?restq12_13
                      case hyq12_13 => (intro w hSw; (try dsimp only at hSw); go_simp; first | done | rfl)
                      try simp only [layA]
                      refine wpAnyH_done (by kernel_rfl) ?_ _
                      have hrow7 := insK_row (B := w.heap.size) hbz (by rw [HN.out]; omega) HN.out.symm hown7.out
                      have hbel7 := hb.trans ((bel2 hHeld).mono hbz)
                      clear hown5 hown6 hown7
                      go_wp2
                      go_roundw
                      case rel => exact ⟨k + 1, by omega, by go_num, Lib.hid (by rw [HSN.out, HIN.out]; exact hrow7.out), fun h => by omega, hbel7⟩
                      case measure => simp [intOf]; omega
              case rq6_9 =>
                simp only [layG]
                go_simp
                have hbz9 := (bel2 hHeld).size
                obtain ⟨Wb, hWb⟩ : ∃ Wb, Wa.alloc (.cells #[.int .i64 x.x, .int .i64 x.y] 26) = Wb := ⟨_, rfl⟩
                have hLt := Lib.hid (show Wb.heap[Wa.heap.size]? = some (.cells #[.int .i64 x.x, .int .i64 x.y] 26 (0, 0)) by rw [← hWb]; exact heap_alloc_new _ _)
                have HZB := Lib.hid (show Wb.heap.size = Wa.heap.size + 1 by rw [← hWb]; simp)
                have hal : Below wo.heap.size Wa Wb := by rw [← hWb]; exact (Below.refl _ _).alloc hbz9 _
                have hE2 := Lib.hid (show Wb.ownsRow wo.heap.size 26 2 (.slice (some ⟨W9.heap.size, 0, none⟩) 0 0) 0 [] by rw [← hWb]; exact hE.out.alloc _)
                rw [hWb]
                refine hK.out _ _ (keep2 hHeld hal) (fun hHeld => ?_)
                clear hWb hal hbz9
                clear hK K
                try simp only [layA]
                refine wpAnyH_ready (rs := [4]) (by kernel_rfl) (by simp) ?_
                refine (AllReadyH.cons (o := _) rfl (fun K hK => ?rq4_14) AllReadyH.nil)
                case rq4_14 =>
                  simp only [layG]
                  rw [if_pos (by rfl)]
                  have hbz9 := (bel2 hHeld).size
                  refine wp_append_gen (.tmp 71) (.tmp 74) 62 rfl wo.heap.size 26 ib (.agg #[.int .i64 0, .int .i64 0]) 2 16 undSK HIB.out HB0.out HB1.out HB2.out rfl (by decide) (.slice (some ⟨W9.heap.size, 0, none⟩) 0 0) 0 [] ?_ hE2.out (some ⟨g, 0, none⟩) j cap (kcellsL (O.take j)) ?_ (by rw [kcellsL_length, List.length_take, HN.out]; omega) (by intro h; cases h) (by exact newsK_take (HO.out.below' (bel2 hHeld)) hOn) (kcellsL_one _) (by unfold maxLen; omega) (by omega) hbz9 ?_
                  · rfl
                  · rfl
                  intro v5 w5 hown hgrow
                  have hown5 := Lib.hid hown
                  have hQ := grewQ hE2.out (Nat.le_refl _) hbz9 hgrow
                  have hLt5 := Lib.hid (show w5.heap[Wa.heap.size]? = some (.cells #[.int .i64 x.x, .int .i64 x.y] 26 (0, 0)) from (hgrow.block _ (Array.getElem?_eq_some_iff.1 hLt.out).1 (by have z1 := HZA.out; have z2 := HZB.out; simp [Value.ownBlock]; omega)).trans hLt.out)
                  refine hK.out _ _ (keep2 hHeld hQ) (fun hHeld => ?_)
                  clear hown hgrow hQ hbz9
                  clear hK K
                  try simp only [layA]
                  refine wpAnyH_ready (rs := [7]) (by kernel_rfl) (by simp) ?_
                  refine (AllReadyH.cons (o := _) rfl (fun K hK => ?rq7_15) AllReadyH.nil)
                  case rq7_15 =>
                    simp only [layG]
                    rw [if_pos (by rfl)]
                    have hbz9 := (bel2 hHeld).size
                    refine wp_append_gen (.tmp 75) (.tmp 77) 62 rfl wo.heap.size 26 ib (.agg #[.int .i64 0, .int .i64 0]) 2 16 undSK HIB.out HB0.out HB1.out HB2.out rfl (by decide) v5 (0 + j) ([] ++ kcellsL (O.take j)) ?_ hown5.out (some ⟨Wa.heap.size, 0, none⟩) 1 1 [.int .i64 x.x, .int .i64 x.y] ?_ rfl (by intro h; cases h) (by intro ad had; cases had; exact World.news_of_block hLt5.out) (by intro u hu; simp at hu; rcases hu with rfl | rfl <;> rfl) (by unfold maxLen; omega) (by omega) hbz9 ?_
                    · first | rfl | (simp [Act.eval]; done)
                    · first | rfl | (simp [Act.eval]; done)
                    intro v6 w6 hown hgrow
                    have hown6 := Lib.hid hown
                    have hQ := grewQ hown5.out (Nat.le_refl _) hbz9 hgrow
                    refine hK.out _ _ (keep2 hHeld hQ) (fun hHeld => ?_)
                    clear hown hgrow hQ hbz9
                    clear hK K
                    try simp only [layA]
                    refine wpAnyH_ready (rs := [11]) (by kernel_rfl) (by simp) ?_
                    refine (AllReadyH.cons (o := _) rfl (fun K hK => ?rq11_16) AllReadyH.nil)
                    case rq11_16 =>
                      simp only [layG]
                      rw [if_pos (by rfl)]
                      have hbz9 := (bel2 hHeld).size
                      refine wp_append_gen (.tmp 78) (.tmp 81) 62 rfl wo.heap.size 26 ib (.agg #[.int .i64 0, .int .i64 0]) 2 16 undSK HIB.out HB0.out HB1.out HB2.out rfl (by decide) v6 (0 + j + 1) ([] ++ kcellsL (O.take j) ++ [.int .i64 x.x, .int .i64 x.y]) ?_ hown6.out (if cap = j then some ⟨g, 0, none⟩ else some ⟨g, j * 2, none⟩) (j - j) (cap - j) (kcellsL (O.drop j)) ?_ (by rw [kcellsL_length, List.length_drop, HN.out]) (by intro h; split at h <;> cases h) (by exact newsK_drop (HO.out.below' (bel2 hHeld)) hOn (by rw [HN.out]; omega) (by rw [HN.out]; omega)) (kcellsL_one _) (by unfold maxLen; omega) (by omega) hbz9 ?_
                      · first | rfl | (simp [Act.eval, Act.put]; done)
                      · first | rfl | (simp [Act.eval, Act.put]; done)
                      intro v7 w7 hown hgrow
                      have hown7 := Lib.hid hown
                      have hQ := grewQ hown6.out (Nat.le_refl _) hbz9 hgrow
                      refine hK.out _ _ (keep2 hHeld hQ) (fun hHeld => ?_)
                      clear hown hgrow hQ hbz9
                      clear hK K
                      try simp only [layA]
                      refine wpAnyH_take (i := 12) (oi := _) (v := ?vq12_17) rfl (by kernel_rfl) (by kernel_rfl) (by kernel_rfl) (fun _ _ _ h => h) (Or.inl ⟨by rfl, ?hyq12_17⟩) (by assumption) ?restq12_17
                      case hyq12_17 => (intro w hSw; (try dsimp only at hSw); go_simp; first | done | rfl)
                      try simp only [layA]
                      refine wpAnyH_done (by kernel_rfl) ?_ _
                      have hrow7 := insK_row (B := w.heap.size) hbz (by rw [HN.out]; omega) HN.out.symm hown7.out
                      have hbel7 := hb.trans ((bel2 hHeld).mono hbz)
                      clear hown5 hown6 hown7
                      go_wp2
                      go_roundw
                      case rel => exact ⟨k + 1, by omega, by go_num, Lib.hid (by rw [HSN.out, HIN.out]; exact hrow7.out), fun h => by omega, hbel7⟩
                      case measure => simp [intOf]; omega
            case rq6_8 =>
              simp only [layG]
              go_simp
              have hbz9 := (bel2 hHeld).size
              obtain ⟨Wb, hWb⟩ : ∃ Wb, W9.drew.alloc (.cells #[.int .i64 x.x, .int .i64 x.y] 26) = Wb := ⟨_, rfl⟩
              have hLt := Lib.hid (show Wb.heap[W9.heap.size]? = some (.cells #[.int .i64 x.x, .int .i64 x.y] 26 (0, 0)) by rw [← hWb]; exact heap_alloc_new _ _)
              have HZB := Lib.hid (show Wb.heap.size = W9.heap.size + 1 by rw [← hWb]; simp)
              have hal : Below wo.heap.size W9.drew Wb := by rw [← hWb]; exact (Below.refl _ _).alloc hbz9 _
              rw [show (W9.alloc (.cells #[.int .i64 x.x, .int .i64 x.y] 26)).drew = Wb from hWb]
              refine hK.out _ _ (keep2 hHeld hal) (fun hHeld => ?_)
              clear hWb hal hbz9
              clear hK K
              try simp only [layA]
              refine wpAnyH_ready (rs := [0]) (by kernel_rfl) (by simp) ?_
              refine (AllReadyH.cons (o := _) rfl (fun K hK => ?rq0_18) AllReadyH.nil)
              case rq0_18 =>
                simp only [layG]
                go_simp
                have hbz9 := (bel2 hHeld).size
                obtain ⟨Wa, hWa⟩ : ∃ Wa, Wb.alloc (.cells #[] 26) = Wa := ⟨_, rfl⟩
                have hE := Lib.hid (show Wa.ownsRow wo.heap.size 26 2 (.slice (some ⟨Wb.heap.size, 0, none⟩) 0 0) 0 [] by rw [← hWa]; exact empty_row Wb _ hbz9 _ _)
                have HZA := Lib.hid (show Wa.heap.size = Wb.heap.size + 1 by rw [← hWa]; simp)
                have hal : Below wo.heap.size Wb Wa := by rw [← hWa]; exact (Below.refl _ _).alloc hbz9 _
                have hLt2 := Lib.hid (show Wa.heap[W9.heap.size]? = some (.cells #[.int .i64 x.x, .int .i64 x.y] 26 (0, 0)) by rw [← hWa]; exact (Below.heap_alloc _ _ _ (Array.getElem?_eq_some_iff.1 hLt.out).1).trans hLt.out)
                rw [hWa]
                refine hK.out _ _ (keep2 hHeld hal) (fun hHeld => ?_)
                clear hWa hal hbz9
                clear hK K
                try simp only [layA]
                refine wpAnyH_ready (rs := [4]) (by kernel_rfl) (by simp) ?_
                refine (AllReadyH.cons (o := _) rfl (fun K hK => ?rq4_19) AllReadyH.nil)
                case rq4_19 =>
                  simp only [layG]
                  rw [if_pos (by rfl)]
                  have hbz9 := (bel2 hHeld).size
                  refine wp_append_gen (.tmp 71) (.tmp 74) 62 rfl wo.heap.size 26 ib (.agg #[.int .i64 0, .int .i64 0]) 2 16 undSK HIB.out HB0.out HB1.out HB2.out rfl (by decide) (.slice (some ⟨Wb.heap.size, 0, none⟩) 0 0) 0 [] ?_ hE.out (some ⟨g, 0, none⟩) j cap (kcellsL (O.take j)) ?_ (by rw [kcellsL_length, List.length_take, HN.out]; omega) (by intro h; cases h) (by exact newsK_take (HO.out.below' (bel2 hHeld)) hOn) (kcellsL_one _) (by unfold maxLen; omega) (by omega) hbz9 ?_
                  · rfl
                  · rfl
                  intro v5 w5 hown hgrow
                  have hown5 := Lib.hid hown
                  have hQ := grewQ hE.out (Nat.le_refl _) hbz9 hgrow
                  have hLt5 := Lib.hid (show w5.heap[W9.heap.size]? = some (.cells #[.int .i64 x.x, .int .i64 x.y] 26 (0, 0)) from (hgrow.block _ (Array.getElem?_eq_some_iff.1 hLt2.out).1 (by have z1 := HZA.out; have z2 := HZB.out; simp [Value.ownBlock]; omega)).trans hLt2.out)
                  refine hK.out _ _ (keep2 hHeld hQ) (fun hHeld => ?_)
                  clear hown hgrow hQ hbz9
                  clear hK K
                  try simp only [layA]
                  refine wpAnyH_ready (rs := [7]) (by kernel_rfl) (by simp) ?_
                  refine (AllReadyH.cons (o := _) rfl (fun K hK => ?rq7_20) AllReadyH.nil)
                  case rq7_20 =>
                    simp only [layG]
                    rw [if_pos (by rfl)]
                    have hbz9 := (bel2 hHeld).size
                    refine wp_append_gen (.tmp 75) (.tmp 77) 62 rfl wo.heap.size 26 ib (.agg #[.int .i64 0, .int .i64 0]) 2 16 undSK HIB.out HB0.out HB1.out HB2.out rfl (by decide) v5 (0 + j) ([] ++ kcellsL (O.take j)) ?_ hown5.out (some ⟨W9.heap.size, 0, none⟩) 1 1 [.int .i64 x.x, .int .i64 x.y] ?_ rfl (by intro h; cases h) (by intro ad had; cases had; exact World.news_of_block hLt5.out) (by intro u hu; simp at hu; rcases hu with rfl | rfl <;> rfl) (by unfold maxLen; omega) (by omega) hbz9 ?_
                    · first | rfl | (simp [Act.eval]; done)
                    · first | rfl | (simp [Act.eval]; done)
                    intro v6 w6 hown hgrow
                    have hown6 := Lib.hid hown
                    have hQ := grewQ hown5.out (Nat.le_refl _) hbz9 hgrow
                    refine hK.out _ _ (keep2 hHeld hQ) (fun hHeld => ?_)
                    clear hown hgrow hQ hbz9
                    clear hK K
                    try simp only [layA]
                    refine wpAnyH_ready (rs := [11]) (by kernel_rfl) (by simp) ?_
                    refine (AllReadyH.cons (o := _) rfl (fun K hK => ?rq11_21) AllReadyH.nil)
                    case rq11_21 =>
                      simp only [layG]
                      rw [if_pos (by rfl)]
                      have hbz9 := (bel2 hHeld).size
                      refine wp_append_gen (.tmp 78) (.tmp 81) 62 rfl wo.heap.size 26 ib (.agg #[.int .i64 0, .int .i64 0]) 2 16 undSK HIB.out HB0.out HB1.out HB2.out rfl (by decide) v6 (0 + j + 1) ([] ++ kcellsL (O.take j) ++ [.int .i64 x.x, .int .i64 x.y]) ?_ hown6.out (if cap = j then some ⟨g, 0, none⟩ else some ⟨g, j * 2, none⟩) (j - j) (cap - j) (kcellsL (O.drop j)) ?_ (by rw [kcellsL_length, List.length_drop, HN.out]) (by intro h; split at h <;> cases h) (by exact newsK_drop (HO.out.below' (bel2 hHeld)) hOn (by rw [HN.out]; omega) (by rw [HN.out]; omega)) (kcellsL_one _) (by unfold maxLen; omega) (by omega) hbz9 ?_
                      · first | rfl | (simp [Act.eval, Act.put]; done)
                      · first | rfl | (simp [Act.eval, Act.put]; done)
                      intro v7 w7 hown hgrow
                      have hown7 := Lib.hid hown
                      have hQ := grewQ hown6.out (Nat.le_refl _) hbz9 hgrow
                      refine hK.out _ _ (keep2 hHeld hQ) (fun hHeld => ?_)
                      clear hown hgrow hQ hbz9
                      clear hK K
                      try simp only [layA]
                      refine wpAnyH_take (i := 12) (oi := _) (v := ?vq12_22) rfl (by kernel_rfl) (by kernel_rfl) (by kernel_rfl) (fun _ _ _ h => h) (Or.inl ⟨by rfl, ?hyq12_22⟩) (by assumption) ?restq12_22
                      case hyq12_22 => (intro w hSw; (try dsimp only at hSw); go_simp; first | done | rfl)
                      try simp only [layA]
                      refine wpAnyH_done (by kernel_rfl) ?_ _
                      have hrow7 := insK_row (B := w.heap.size) hbz (by rw [HN.out]; omega) HN.out.symm hown7.out
                      have hbel7 := hb.trans ((bel2 hHeld).mono hbz)
                      clear hown5 hown6 hown7
                      go_wp2
                      go_roundw
                      case rel => exact ⟨k + 1, by omega, by go_num, Lib.hid (by rw [HSN.out, HIN.out]; exact hrow7.out), fun h => by omega, hbel7⟩
                      case measure => simp [intOf]; omega
    · obtain rfl : k = 2 * l.length := by omega
      have h9 := hown.out
      have e : knL (Ck.ends l) (2 * l.length) = u := by rw [knL, List.take_of_length_le (by rw [HEL.out]; omega), ← HU.out, knotsL]
      rw [e] at h9
      have HO := Lib.hid h9
      clear h9 hown e
      go_wp2
      go_ret
      exact ⟨_, rfl, HO.out, hb⟩
end Go.Proofs.YtdeplhihcifmeaaGreatDoor
