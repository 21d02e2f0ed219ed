/- Helpers: D2. -/
import Derived.Test.YtdeplhihcifmeaaGreatDoorD1
import Derived.Carry
import Derived.Maps.OwnOps
import Derived.WalkSmall
import Derived.Deep.LoopGhost
import Derived.Maps.AppendAt
import Derived.Laws.MakeOwn
import Derived.Deep.AppendLies
/- The contract of hasMesh. -/
namespace Go.Proofs.YtdeplhihcifmeaaGreatDoor
open Go.RowKit

theorem ix0 (a b c d e f g h i j k l : Value) (w : World) : (Instr.index 126 (.agg #[a, b, c, d, e, f, g, h, i, j, k, l]) (.int .i64 0)).run Tryz.prog w = .ok (.agg #[a, b, c]) w := by kernel_rfl
theorem ix1 (a b c d e f g h i j k l : Value) (w : World) : (Instr.index 126 (.agg #[a, b, c, d, e, f, g, h, i, j, k, l]) (.int .i64 1)).run Tryz.prog w = .ok (.agg #[d, e, f]) w := by kernel_rfl
theorem ix2 (a b c d e f g h i j k l : Value) (w : World) : (Instr.index 126 (.agg #[a, b, c, d, e, f, g, h, i, j, k, l]) (.int .i64 2)).run Tryz.prog w = .ok (.agg #[g, h, i]) w := by kernel_rfl
theorem ix3 (a b c d e f g h i j k l : Value) (w : World) : (Instr.index 126 (.agg #[a, b, c, d, e, f, g, h, i, j, k, l]) (.int .i64 3)).run Tryz.prog w = .ok (.agg #[j, k, l]) w := by kernel_rfl
def allIn (l : List Ck.Bar) (bs : List Ck.Bar) : Bool := bs.all fun b => decide (b ∈ l)
theorem allIn_no {l bs : List Ck.Bar} {b : Ck.Bar} (hb : b ∈ bs) (h : decide (b ∈ l) = false) : allIn l bs = false := by
  rw [allIn, List.all_eq_false]
  exact ⟨b, hb, by simpa using h⟩

set_option maxHeartbeats 2000000 in
set_option maxRecDepth 100000 in
theorem netHasMesh (A : Option Addr) (c : Nat) (l : List Ck.Bar) (x y : Int) (w : World) (hl : l.length ≤ 4096) (hs : l.Pairwise Ck.Blt) (h : RB w w.heap.size A l) (hx1 : -100000 ≤ x) (hx2 : x ≤ 100000) (hy1 : -100001 ≤ y) (hy2 : y ≤ 100001) :
    Calls Tryz.prog 140 #[.slice A l.length c, .agg #[.int .i64 x, .int .i64 y]] w fun e w' => e = .returned (.bool (allIn l (meshBars4 x y))) ∧ Below w.heap.size w w' := by
  have HS := Lib.hid hs
  have HR := Lib.hid h
  clear hs h
  go_enter Tryz.func140, Tryz.ntmps140
  go_wp2_with fail
  refine (netMeshBars x y _ hx1 hx2 hy1 hy2).mono ?_
  rintro e w1 ⟨rfl, hb1⟩
  have hbw : Below w.heap.size w w1 := ((Below.refl _ _).alloc (Nat.le_refl _) _).trans (hb1.mono (by simp))
  go_wp2_with fail
  go_loopw [6, 9] (fun _ i wi => ∃ j : Nat, j ≤ 4 ∧ i = .int .i64 j ∧ Hid (∀ b ∈ (meshBars4 x y).take j, b ∈ l) ∧ Below w.heap.size w wi) (fun _ i _ => 4 - (intOf i).toNat)
  case atStart => exact ⟨0, by omega, rfl, fun b hb => by simp at hb, hbw⟩
  case round =>
    obtain ⟨j, hj, rfl, hin, hb⟩ := hrel
    have hj' : j = 0 ∨ j = 1 ∨ j = 2 ∨ j = 3 ∨ j = 4 := by omega
    have hrb := HR.out.below hb
    have hrb2 := hrb.more hb.size
    have HB := Lib.hid hrb2
    clear hrb hrb2
    rcases hj' with rfl | rfl | rfl | rfl | rfl
    · have hidx := ix0 (.int .i64 (x)) (.int .i64 (y - 1)) (.int .i64 (-1)) (.int .i64 (x)) (.int .i64 (y - 1)) (.int .i64 (1)) (.int .i64 (x - 1)) (.int .i64 (y)) (.int .i64 (1)) (.int .i64 (x + 1)) (.int .i64 (y)) (.int .i64 (-1))
      cases ht : decide ((⟨x, y - 1, -1⟩ : Ck.Bar) ∈ l)
      · have HT := Lib.hid ht
        have HF := Lib.hid (allIn_no (l := l) (bs := meshBars4 x y) (b := (⟨x, y - 1, -1⟩ : Ck.Bar)) (by simp [meshBars4]) ht)
        clear ht
        go_wp2_with fail
        refine (netHasBar A c l _ _ _ _ hl HS.out ((HB.out.below ((Below.refl _ _).alloc (Nat.le_refl _) _)).more (by simp))).mono ?_
        rintro e w2 ⟨rfl, hb2⟩
        rw [HT.out]
        go_wp2
        go_ret
        exact ⟨ret_b HF.out.symm, (hb.alloc hb.size _).trans (hb2.mono (by have := hb.size; simp; omega))⟩
      · have HT := Lib.hid ht
        clear ht
        go_wp2_with fail
        refine (netHasBar A c l _ _ _ _ hl HS.out ((HB.out.below ((Below.refl _ _).alloc (Nat.le_refl _) _)).more (by simp))).mono ?_
        rintro e w2 ⟨rfl, hb2⟩
        rw [HT.out]
        go_wp2
        go_roundw
        case rel => exact ⟨1, by omega, by go_num, fun b hbm => by
          rw [show (meshBars4 x y).take 1 = (meshBars4 x y).take 0 ++ [(⟨x, y - 1, -1⟩ : Ck.Bar)] from rfl, List.mem_append] at hbm
          rcases hbm with hbm | hbm
          · exact hin.out b hbm
          · rw [List.mem_singleton] at hbm
            rw [hbm]
            exact of_decide_eq_true HT.out, (hb.alloc hb.size _).trans (hb2.mono (by have := hb.size; simp; omega))⟩
        case measure => simp [intOf]
    · have hidx := ix1 (.int .i64 (x)) (.int .i64 (y - 1)) (.int .i64 (-1)) (.int .i64 (x)) (.int .i64 (y - 1)) (.int .i64 (1)) (.int .i64 (x - 1)) (.int .i64 (y)) (.int .i64 (1)) (.int .i64 (x + 1)) (.int .i64 (y)) (.int .i64 (-1))
      cases ht : decide ((⟨x, y - 1, 1⟩ : Ck.Bar) ∈ l)
      · have HT := Lib.hid ht
        have HF := Lib.hid (allIn_no (l := l) (bs := meshBars4 x y) (b := (⟨x, y - 1, 1⟩ : Ck.Bar)) (by simp [meshBars4]) ht)
        clear ht
        go_wp2_with fail
        refine (netHasBar A c l _ _ _ _ hl HS.out ((HB.out.below ((Below.refl _ _).alloc (Nat.le_refl _) _)).more (by simp))).mono ?_
        rintro e w2 ⟨rfl, hb2⟩
        rw [HT.out]
        go_wp2
        go_ret
        exact ⟨ret_b HF.out.symm, (hb.alloc hb.size _).trans (hb2.mono (by have := hb.size; simp; omega))⟩
      · have HT := Lib.hid ht
        clear ht
        go_wp2_with fail
        refine (netHasBar A c l _ _ _ _ hl HS.out ((HB.out.below ((Below.refl _ _).alloc (Nat.le_refl _) _)).more (by simp))).mono ?_
        rintro e w2 ⟨rfl, hb2⟩
        rw [HT.out]
        go_wp2
        go_roundw
        case rel => exact ⟨2, by omega, by go_num, fun b hbm => by
          rw [show (meshBars4 x y).take 2 = (meshBars4 x y).take 1 ++ [(⟨x, y - 1, 1⟩ : Ck.Bar)] from rfl, List.mem_append] at hbm
          rcases hbm with hbm | hbm
          · exact hin.out b hbm
          · rw [List.mem_singleton] at hbm
            rw [hbm]
            exact of_decide_eq_true HT.out, (hb.alloc hb.size _).trans (hb2.mono (by have := hb.size; simp; omega))⟩
        case measure => simp [intOf]
    · have hidx := ix2 (.int .i64 (x)) (.int .i64 (y - 1)) (.int .i64 (-1)) (.int .i64 (x)) (.int .i64 (y - 1)) (.int .i64 (1)) (.int .i64 (x - 1)) (.int .i64 (y)) (.int .i64 (1)) (.int .i64 (x + 1)) (.int .i64 (y)) (.int .i64 (-1))
      cases ht : decide ((⟨x - 1, y, 1⟩ : Ck.Bar) ∈ l)
      · have HT := Lib.hid ht
        have HF := Lib.hid (allIn_no (l := l) (bs := meshBars4 x y) (b := (⟨x - 1, y, 1⟩ : Ck.Bar)) (by simp [meshBars4]) ht)
        clear ht
        go_wp2_with fail
        refine (netHasBar A c l _ _ _ _ hl HS.out ((HB.out.below ((Below.refl _ _).alloc (Nat.le_refl _) _)).more (by simp))).mono ?_
        rintro e w2 ⟨rfl, hb2⟩
        rw [HT.out]
        go_wp2
        go_ret
        exact ⟨ret_b HF.out.symm, (hb.alloc hb.size _).trans (hb2.mono (by have := hb.size; simp; omega))⟩
      · have HT := Lib.hid ht
        clear ht
        go_wp2_with fail
        refine (netHasBar A c l _ _ _ _ hl HS.out ((HB.out.below ((Below.refl _ _).alloc (Nat.le_refl _) _)).more (by simp))).mono ?_
        rintro e w2 ⟨rfl, hb2⟩
        rw [HT.out]
        go_wp2
        go_roundw
        case rel => exact ⟨3, by omega, by go_num, fun b hbm => by
          rw [show (meshBars4 x y).take 3 = (meshBars4 x y).take 2 ++ [(⟨x - 1, y, 1⟩ : Ck.Bar)] from rfl, List.mem_append] at hbm
          rcases hbm with hbm | hbm
          · exact hin.out b hbm
          · rw [List.mem_singleton] at hbm
            rw [hbm]
            exact of_decide_eq_true HT.out, (hb.alloc hb.size _).trans (hb2.mono (by have := hb.size; simp; omega))⟩
        case measure => simp [intOf]
    · have hidx := ix3 (.int .i64 (x)) (.int .i64 (y - 1)) (.int .i64 (-1)) (.int .i64 (x)) (.int .i64 (y - 1)) (.int .i64 (1)) (.int .i64 (x - 1)) (.int .i64 (y)) (.int .i64 (1)) (.int .i64 (x + 1)) (.int .i64 (y)) (.int .i64 (-1))
      cases ht : decide ((⟨x + 1, y, -1⟩ : Ck.Bar) ∈ l)
      · have HT := Lib.hid ht
        have HF := Lib.hid (allIn_no (l := l) (bs := meshBars4 x y) (b := (⟨x + 1, y, -1⟩ : Ck.Bar)) (by simp [meshBars4]) ht)
        clear ht
        go_wp2_with fail
        refine (netHasBar A c l _ _ _ _ hl HS.out ((HB.out.below ((Below.refl _ _).alloc (Nat.le_refl _) _)).more (by simp))).mono ?_
        rintro e w2 ⟨rfl, hb2⟩
        rw [HT.out]
        go_wp2
        go_ret
        exact ⟨ret_b HF.out.symm, (hb.alloc hb.size _).trans (hb2.mono (by have := hb.size; simp; omega))⟩
      · have HT := Lib.hid ht
        clear ht
        go_wp2_with fail
        refine (netHasBar A c l _ _ _ _ hl HS.out ((HB.out.below ((Below.refl _ _).alloc (Nat.le_refl _) _)).more (by simp))).mono ?_
        rintro e w2 ⟨rfl, hb2⟩
        rw [HT.out]
        go_wp2
        go_roundw
        case rel => exact ⟨4, by omega, by go_num, fun b hbm => by
          rw [show (meshBars4 x y).take 4 = (meshBars4 x y).take 3 ++ [(⟨x + 1, y, -1⟩ : Ck.Bar)] from rfl, List.mem_append] at hbm
          rcases hbm with hbm | hbm
          · exact hin.out b hbm
          · rw [List.mem_singleton] at hbm
            rw [hbm]
            exact of_decide_eq_true HT.out, (hb.alloc hb.size _).trans (hb2.mono (by have := hb.size; simp; omega))⟩
        case measure => simp [intOf]
    · have HF := Lib.hid (show allIn l (meshBars4 x y) = true by
        rw [allIn, List.all_eq_true]
        exact fun b hb => decide_eq_true (hin.out b hb))
      go_wp2
      go_ret
      exact ⟨ret_b HF.out.symm, hb⟩
end Go.Proofs.YtdeplhihcifmeaaGreatDoor

/- The contract of meshesOf. -/
namespace Go.Proofs.YtdeplhihcifmeaaGreatDoor
open Go.RowKit

theorem Tryz.info118 : (Tryz.prog.info? 118).map (fun i => (i.zero, i.size, i.bytes)) = some (some (.agg #[.int .i64 0, .int .i64 0]), 2, 16) := by kernel_rfl
def isM (l : List Ck.Bar) (b : Ck.Bar) : Bool := decide (b.s = -1) && allIn l (meshBars4 b.x (b.y + 1))
def meshL (l : List Ck.Bar) (r : List Ck.Bar) : List Ck.Bar := r.filter (isM l)
def meshCells (ms : List Ck.Bar) : List Value := ms.flatMap fun b => [.int .i64 b.x, .int .i64 (b.y + 1)]
theorem meshL_no {l : List Ck.Bar} {k : Nat} (hk : k < l.length) (h : isM l l[k] = false) : meshL l (l.take (k + 1)) = meshL l (l.take k) := by
  rw [List.take_succ_eq_append_getElem hk, meshL, List.filter_append, meshL]
  simp [h]
theorem meshL_yes {l : List Ck.Bar} {k : Nat} (hk : k < l.length) (h : isM l l[k] = true) : meshL l (l.take (k + 1)) = meshL l (l.take k) ++ [l[k]] := by
  rw [List.take_succ_eq_append_getElem hk, meshL, List.filter_append, meshL]
  simp [h]
theorem meshL_le (l : List Ck.Bar) (k : Nat) : (meshL l (l.take k)).length ≤ l.length := by
  have h1 := List.length_filter_le (isM l) (l.take k)
  have h2 := List.length_take_le' k l
  unfold meshL
  omega

theorem ownsRow_below {w w' : World} {base : Nat} {e : TypeId} {size n : Nat} {v : Value} {xs : List Value} (h : w.ownsRow base e size v n xs) (hb : Below w.heap.size w w') : w'.ownsRow base e size v n xs :=
  h.kept (row := none) ⟨hb.os, hb.tape, hb.output, hb.size, fun i hi _ => hb.block i hi⟩ (by cases v.ownBlock <;> simp)

theorem ownsRow_base {w : World} {base : Nat} {e : TypeId} {size n : Nat} {v : Value} {xs : List Value} (h : w.ownsRow base e size v n xs) : ∀ g, v.ownBlock = some g → base ≤ g := by
  intro g hg
  rcases h.2 with ⟨rfl, _⟩ | ⟨g', cap, cur, rfl, hb, _⟩
  · cases hg
  · cases hg; exact hb
theorem two_new (w : World) (a b : Value) (t : TypeId) : ∀ (j : Nat) (u : Value), [a, b][j]? = some u → (w.alloc (.cells #[a, b] t)).cell? ((⟨w.heap.size, 0, none⟩ : Addr).add j) = some u := by
  intro j u h
  match j, h with
  | 0, h => cases h; exact (box2 w a b t).choose_spec.1 ▸ (box2 w a b t).choose_spec.2.1
  | 1, h => cases h; exact (box2 w a b t).choose_spec.1 ▸ (box2 w a b t).choose_spec.2.2.1
theorem meshCells_snoc (ms : List Ck.Bar) (b : Ck.Bar) : meshCells (ms ++ [b]) = meshCells ms ++ [.int .i64 b.x, .int .i64 (b.y + 1)] := by simp [meshCells]

def MeshPost (l : List Ck.Bar) (w : World) (e : Ending) (w' : World) : Prop :=
  ∃ v, e = .returned v ∧ w'.ownsRow w.heap.size 118 2 v (meshL l l).length (meshCells (meshL l l)) ∧ Below w.heap.size w w'

set_option maxHeartbeats 2000000 in
set_option maxRecDepth 100000 in
theorem netMeshesOf (A : Option Addr) (c : Nat) (l : List Ck.Bar) (w : World) (hl : l.length ≤ 4096) (hs : l.Pairwise Ck.Blt) (hok : ∀ x ∈ l, Ck.okBar x) (h : RB w w.heap.size A l) :
    Calls Tryz.prog 103 #[.slice A l.length c] w (MeshPost l w) := by
  obtain ⟨i0, hi, hz0, hz1, hz2⟩ := info_parts Tryz.info118
  have hl' : (l.length : Int) ≤ 4096 := by omega
  have HS := Lib.hid hs
  have HR := Lib.hid h
  have HI := Lib.hid hi
  have HZ0 := Lib.hid hz0
  have HZ1 := Lib.hid hz1
  have HZ2 := Lib.hid hz2
  clear hs h hi hz0 hz1 hz2
  go_enter Tryz.func103, Tryz.ntmps103
  go_wp2_with fail
  go_loopw [3, 5, 6, 9] (fun v _ _ i wi => ∃ k : Nat, k ≤ l.length ∧ i = .int .i64 k ∧ Hid (wi.ownsRow w.heap.size 118 2 v (meshL l (l.take k)).length (meshCells (meshL l (l.take k)))) ∧ Below w.heap.size w wi) (fun _ _ _ i _ => l.length - (intOf i).toNat)
  case atStart => exact ⟨0, Nat.zero_le _, rfl, World.ownsRow_nil _ _ _ _, Below.refl _ _⟩
  case round =>
    obtain ⟨k, hk, rfl, hown, hb⟩ := hrel
    by_cases hlt : k < l.length
    · have hrb := HR.out.below hb
      have HB := Lib.hid (hrb.more hb.size)
      obtain ⟨b, off, rfl, hB, hc⟩ := hrb (by omega)
      obtain ⟨⟨⟨hx1, hx2⟩, ⟨hy1, hy2⟩, _⟩, _⟩ := hok _ (List.getElem_mem hlt)
      replace hx1 : -100000 ≤ l[k].x := hx1
      replace hx2 : l[k].x ≤ 100000 := hx2
      replace hy1 : -100000 ≤ l[k].y := hy1
      replace hy2 : l[k].y ≤ 100000 := hy2
      obtain ⟨c0, c1, c2⟩ := hc k hlt
      clear hc hrb
      by_cases hs1 : l[k].s = -1
      · have hsb : (l[k].s == -1) = true := by simpa using hs1
        cases hm : allIn l (meshBars4 l[k].x (l[k].y + 1))
        · have HM := Lib.hid hm
          have HL := Lib.hid (meshL_no hlt (by simp [isM, hm]))
          clear hm hs1
          go_wp2_with fail
          refine (netHasMesh (some ⟨b, off, none⟩) c l _ _ _ hl HS.out ?_ hx1 hx2 (by omega) (by omega)).mono ?_
          · exact (HB.out.below (((Below.refl _ _).alloc (Nat.le_refl _) _).alloc (by simp) _)).more (by simp; omega)
          rintro e w2 ⟨rfl, hb2⟩
          rw [HM.out]
          have hq : Below wr.heap.size wr w2 := (((Below.refl _ _).alloc (Nat.le_refl _) _).alloc (by simp) _).trans (hb2.mono (by simp; omega))
          go_wp2
          go_roundw
          case rel => exact ⟨k + 1, by omega, by go_num, by rw [HL.out]; exact ownsRow_below hown.out hq, hb.trans (hq.mono hb.size)⟩
          case measure => simp [intOf]; omega
        · have HM := Lib.hid hm
          have HL := Lib.hid (meshL_yes hlt (by simp [isM, hm, hs1]))
          have hle := meshL_le l k
          clear hm hs1
          go_wp2_with fail
          refine (netHasMesh (some ⟨b, off, none⟩) c l _ _ _ hl HS.out ?_ hx1 hx2 (by omega) (by omega)).mono ?_
          · exact (HB.out.below (((Below.refl _ _).alloc (Nat.le_refl _) _).alloc (by simp) _)).more (by simp; omega)
          rintro e w2 ⟨rfl, hb2⟩
          rw [HM.out]
          have hd0 : w2.cell? ⟨wr.heap.size + 1, 0, none⟩ = some (.int .i64 l[k].x) := by
            rw [hb2.cell (p := ⟨_, _, none⟩) (by simp), World.cell?_alloc_at _ _ _ _ (by simp)]; rfl
          have hd1 : w2.cell? ⟨wr.heap.size + 1, 1, none⟩ = some (.int .i64 (l[k].y + 1)) := by
            rw [hb2.cell (p := ⟨_, _, none⟩) (by simp), World.cell?_alloc_at _ _ _ _ (by simp)]; rfl
          have hq : Below wr.heap.size wr w2 := (((Below.refl _ _).alloc (Nat.le_refl _) _).alloc (by simp) _).trans (hb2.mono (by simp; omega))
          have hown2 := ownsRow_below hown.out hq
          have HO := Lib.hid hown2
          clear hown hown2
          have hbw := hb.trans (hq.mono hb.size)
          clear hb hq
          go_wp2_with (at_builtin; refine wpList_append_own _ rfl _ _ 70 rfl w.heap.size 118 i0 (.agg #[.int .i64 0, .int .i64 0]) 2 16 Tryz.underlying70 HI.out HZ0.out HZ1.out HZ2.out rfl (by decide) _ _ _ rfl (HO.out.alloc _) ⟨w2.heap.size, 0, none⟩ 1 1 [.int .i64 l[k].x, .int .i64 (l[k].y + 1)] rfl rfl ?c1 ?c2 ?c3 ?c4 ?c5 ?_)
          case c1 => exact two_new _ _ _ _
          case c2 => intro u hu; simp at hu; rcases hu with rfl | rfl <;> rfl
          case c3 => unfold maxLen; omega
          case c4 => omega
          case c5 => have := hbw.size; simp; omega
          intro v' w3 hown3 hgrow3 _
          have hbb := (hbw.alloc hbw.size (.cells #[.int .i64 l[k].x, .int .i64 (l[k].y + 1)] 118)).grown hgrow3 (by have := hbw.size; simp; omega) (ownsRow_base HO.out)
          have HO3 := Lib.hid hown3
          clear hown3 hgrow3
          go_wp2
          go_roundw
          case rel => exact ⟨k + 1, by omega, by go_num, by rw [HL.out, meshCells_snoc, List.length_append]; exact HO3.out, hbb⟩
          case measure => simp [intOf]; omega
      · have hsb : (l[k].s == -1) = false := by simpa using hs1
        have HL := Lib.hid (meshL_no hlt (by simp [isM, hs1]))
        clear hs1
        go_wp2
        go_roundw
        case rel => exact ⟨k + 1, by omega, by go_num, by rw [HL.out]; exact ownsRow_below hown.out (((Below.refl _ _).alloc (Nat.le_refl _) _).alloc (by simp) _), (hb.alloc hb.size _).alloc (by have := hb.size; simp; omega) _⟩
        case measure => simp [intOf]; omega
    · obtain rfl : k = l.length := by omega
      go_wp2
      go_ret
      have ho := hown.out
      rw [List.take_length] at ho
      exact ⟨_, rfl, ho, hb⟩
end Go.Proofs.YtdeplhihcifmeaaGreatDoor

/- Contracts of endsOf and degrees. -/
namespace Go.Proofs.YtdeplhihcifmeaaGreatDoor
open Go.RowKit

theorem box34 (w : World) (a b c d e f g : Value) (t t' : TypeId) : ∃ w1, w1 = (w.alloc (.cells #[a, b, c] t)).alloc (.cells #[d, e, f, g] t') ∧ w1.cell? ⟨w.heap.size, 0, none⟩ = some a ∧ w1.cell? ⟨w.heap.size, 1, none⟩ = some b ∧ w1.cell? ⟨w.heap.size, 2, none⟩ = some c ∧
    w1.heap[w.heap.size + 1]? = some (.cells #[d, e, f, g] t' (0, 0)) ∧ Below w.heap.size w w1 ∧ w.heap.size + 1 < w1.heap.size := by
  obtain ⟨w0, rfl, h0, h1, h2, hb0, hz⟩ := box3 w a b c t
  have hs : (w.alloc (.cells #[a, b, c] t)).heap.size = w.heap.size + 1 := by simp
  have hb : Below (w.alloc (.cells #[a, b, c] t)).heap.size (w.alloc (.cells #[a, b, c] t)) ((w.alloc (.cells #[a, b, c] t)).alloc (.cells #[d, e, f, g] t')) := (Below.refl _ _).alloc (Nat.le_refl _) _
  exact ⟨_, rfl, (hb.cell (p := ⟨_, _, none⟩) hz).trans h0, (hb.cell (p := ⟨_, _, none⟩) hz).trans h1, (hb.cell (p := ⟨_, _, none⟩) hz).trans h2, by rw [← hs]; exact heap_alloc_new _ _, hb0.trans (hb.mono (by omega)), by simp⟩
theorem four_cells {w : World} {g : Nat} {a b c d : Value} {t : TypeId} (h : w.heap[g]? = some (.cells #[a, b, c, d] t (0, 0))) : w.cell? ⟨g, 0, none⟩ = some a ∧ w.cell? ⟨g, 1, none⟩ = some b ∧ w.cell? ⟨g, 2, none⟩ = some c ∧ w.cell? ⟨g, 3, none⟩ = some d ∧ ∀ i, w.frozen? ⟨g, i, none⟩ = false := by
  refine ⟨?_, ?_, ?_, ?_, fun i => ?_⟩ <;> simp [World.cell?, World.frozen?, h]

theorem carry34 {w0 w1 : World} {g : Nat} {a b c d e f h : Value} {t : TypeId} (hb : Below w0.heap.size w0 w1) (hz : g + 1 < w0.heap.size) (c0 : w0.cell? ⟨g, 0, none⟩ = some a) (c1 : w0.cell? ⟨g, 1, none⟩ = some b) (c2 : w0.cell? ⟨g, 2, none⟩ = some c)
    (hr : w0.heap[g + 1]? = some (.cells #[d, e, f, h] t (0, 0))) :
    w1.cell? ⟨g, 0, none⟩ = some a ∧ w1.cell? ⟨g, 1, none⟩ = some b ∧ w1.cell? ⟨g, 2, none⟩ = some c ∧ w1.heap[g + 1]? = some (.cells #[d, e, f, h] t (0, 0)) ∧ g + 1 < w1.heap.size :=
  ⟨(hb.cell (p := ⟨g, _, none⟩) (by show g < _; omega)).trans c0, (hb.cell (p := ⟨g, _, none⟩) (by show g < _; omega)).trans c1, (hb.cell (p := ⟨g, _, none⟩) (by show g < _; omega)).trans c2, (hb.block _ hz).trans hr, Nat.lt_of_lt_of_le hz hb.size⟩

set_option maxHeartbeats 1000000 in
set_option maxRecDepth 100000 in
theorem netEndsOf (x y s : Int) (w : World) (hx1 : -100000 ≤ x) (hx2 : x ≤ 100000) (hy1 : -100000 ≤ y) (hy2 : y ≤ 100000) (hs1 : -1 ≤ s) (hs2 : s ≤ 1) :
    Calls Tryz.prog 90 #[.agg #[.int .i64 x, .int .i64 y, .int .i64 s]] w fun e w' => e = .returned (.agg #[.int .i64 x, .int .i64 y, .int .i64 (x + s), .int .i64 (y + 1)]) ∧ Below w.heap.size w w' := by
  obtain ⟨w0, hw0, c0, c1, c2, hr, hb0, hz0⟩ := box34 w (.int .i64 x) (.int .i64 y) (.int .i64 s) (.int .i64 0) (.int .i64 0) (.int .i64 0) (.int .i64 0) 24 37
  obtain ⟨r0, r1, r2, r3, rf⟩ := four_cells hr
  have hz00 : w.heap.size < w0.heap.size := by omega
  have HW := Lib.hid hw0
  have HR := Lib.hid hr
  clear hw0 hr
  go_enter Tryz.func90, Tryz.ntmps90
  go_wp2_with fail
  rw [← HW.out]
  go_region_with (first
    | (go_at_call 86; refine (netLower _ _ _ _).mono ?_; rintro e w1 ⟨rfl, hb1⟩; obtain ⟨d0, d1, d2, hr1, hz1⟩ := carry34 hb1 hz0 c0 c1 c2 HR.out; have HR1 := Lib.hid hr1; obtain ⟨s0, s1, s2, s3, sf⟩ := four_cells hr1; clear hr1)
    | (go_at_call 89; refine (netUpper _ _ _ _ hx1 hx2 hy1 hy2 hs1 hs2).mono ?_; rintro e w2 ⟨rfl, hb2⟩; obtain ⟨e0, e1, e2, hr2, hz2⟩ := carry34 hb2 hz1 d0 d1 d2 HR1.out; have HR2 := Lib.hid hr2; obtain ⟨t0, t1, t2, t3, tf⟩ := four_cells hr2; clear hr2))
  all_goals go_wp2
  all_goals
    exact bodyPost_ret (v := .agg #[.int .i64 x, .int .i64 y, .int .i64 (x + s), .int .i64 (y + 1)]) (by simp [results, Tryz.results90, go_sem, t0, t1, t2, t3]) rfl
      ⟨rfl, ((((((below_drew hb0).trans (hb1.mono (by show w.heap.size ≤ w0.heap.size; omega))).trans (hb2.mono (by omega))).setCell (by simp) _).setCell (by simp) _).setCell (by simp) _).setCell (by simp) _⟩
end Go.Proofs.YtdeplhihcifmeaaGreatDoor

/- The contract of degrees: a new map from the knots of a net to how many bars end there. -/
namespace Go.Proofs.YtdeplhihcifmeaaGreatDoor
open Go.RowKit

def incr (m : List (Ck.Knot × Int)) (k : Ck.Knot) : List (Ck.Knot × Int) := mput m k (mget m k + 1)
def degsL (ks : List Ck.Knot) : List (Ck.Knot × Int) := ks.foldl incr []
theorem mget_mput (m : List (Ck.Knot × Int)) (k k' : Ck.Knot) (v : Int) : mget (mput m k v) k' = if k' = k then v else mget m k' := by
  induction m with
  | nil => simp [mput, mget]
  | cons p r ih =>
    by_cases h : k = p.1
    · simp only [mput, if_pos h, mget]
      by_cases h2 : k' = k
      · simp [h2]
      · simp [h2, h ▸ h2]
    · simp only [mput, if_neg h, mget, ih]
      by_cases h2 : k' = p.1
      · have : ¬ k' = k := fun e => h (e ▸ h2)
        simp [h2]
        intro e
        exact absurd e.symm h
      · simp [h2]
theorem mget_bound (ks : List Ck.Knot) : ∀ (m : List (Ck.Knot × Int)) (c : Int), (∀ k, 0 ≤ mget m k ∧ mget m k ≤ c) → ∀ k, 0 ≤ mget (ks.foldl incr m) k ∧ mget (ks.foldl incr m) k ≤ c + ks.length := by
  induction ks with
  | nil => intro m c h k; simpa using h k
  | cons a r ih =>
    intro m c h k
    have := ih (incr m a) (c + 1) (fun k' => by
      rw [incr, mget_mput]
      have h1 := h k'
      have h2 := h a
      split <;> omega) k
    simp only [List.foldl_cons, List.length_cons] at this ⊢
    omega
theorem degs_bound (ks : List Ck.Knot) (k : Ck.Knot) : 0 ≤ mget (degsL ks) k ∧ mget (degsL ks) k ≤ ks.length := by
  have := mget_bound ks [] 0 (fun _ => by simp [mget]) k
  simpa [degsL] using this
theorem degsL_snoc (ks : List Ck.Knot) (k : Ck.Knot) : degsL (ks ++ [k]) = incr (degsL ks) k := by simp [degsL]

theorem idx0 (a b c d : Value) (w : World) : (Instr.index 37 (.agg #[a, b, c, d]) (.int .i64 0)).run Tryz.prog w = .ok (.agg #[a, b]) w := by kernel_rfl
theorem idx1 (a b c d : Value) (w : World) : (Instr.index 37 (.agg #[a, b, c, d]) (.int .i64 1)).run Tryz.prog w = .ok (.agg #[c, d]) w := by kernel_rfl
theorem extract1 (a b : Value) (w : World) : (Instr.extract (.tuple #[a, b]) 1).run Tryz.prog w = .ok b w := by kernel_rfl
/-- All that a walk wants to know where a map's count is raised. -/
theorem MIs.raise {w : World} {b g : Nat} {m : List (Ck.Knot × Int)} (h : MIs w b m) (k : Ck.Knot) (hg : g ≠ b) (hgs : g < w.heap.size) (c0 : w.cell? ⟨g, 0, none⟩ = some (.int .i64 k.x)) (c1 : w.cell? ⟨g, 1, none⟩ = some (.int .i64 k.y)) :
    ∃ we w3 st, (Instr.mapEntry 139 (.map (some b)) (.agg #[.int .i64 k.x, .int .i64 k.y])).run Tryz.prog w = .ok (.tuple #[.int .i64 (mget m k), st]) we ∧
      (Instr.lookup 139 (.map (some b)) (.agg #[.int .i64 k.x, .int .i64 k.y]) false).run Tryz.prog w = .ok (.int .i64 (mget m k)) w ∧
      (Instr.lookup 139 (.map (some b)) (.agg #[.int .i64 k.x, .int .i64 k.y]) false).run Tryz.prog we = .ok (.int .i64 (mget m k)) we ∧
      (Instr.entryStore 139 (.map (some b)) st (.int .i64 (mget m k + 1))).run Tryz.prog we = .ok () w3 ∧
      we.cell? ⟨g, 0, none⟩ = some (.int .i64 k.x) ∧ we.cell? ⟨g, 1, none⟩ = some (.int .i64 k.y) ∧ MIs w3 b (incr m k) ∧ w.grownBy w3 (some b) := by
  obtain ⟨we, st, r1, m1, g1, hst⟩ := h.entry k
  obtain ⟨w3, s1, m3, g3⟩ := hst (mget m k + 1) we rfl
  have l1 := m1.lookup k
  rw [mget_mput, if_pos rfl] at l1
  have hb : ∀ i, we.cell? ⟨g, i, none⟩ = w.cell? ⟨g, i, none⟩ := fun i => World.cell?_of_block (g1.block g hgs (fun e => hg (by injection e)))
  exact ⟨we, w3, st, r1, h.lookup k, l1, s1, (hb 0).trans c0, (hb 1).trans c1, m3, g1.trans g3⟩
theorem ends_take_succ {l : List Ck.Bar} {k : Nat} (h : k < l.length) : Ck.ends (l.take (k + 1)) = Ck.ends (l.take k) ++ [l[k].lo] ++ [l[k].hi] := by
  rw [List.take_succ_eq_append_getElem h, Ck.ends_append]
  simp [Ck.ends]
theorem ends_length (l : List Ck.Bar) : (Ck.ends l).length = 2 * l.length := by
  induction l with
  | nil => rfl
  | cons a r ih => simp [Ck.ends] at ih ⊢; omega

set_option maxHeartbeats 1000000 in
set_option maxRecDepth 100000 in
theorem netDegrees (A : Option Addr) (c : Nat) (l : List Ck.Bar) (w : World) (hl : l.length ≤ 4096) (hok : ∀ x ∈ l, Ck.okBar x) (h : RB w w.heap.size A l) :
    Calls Tryz.prog 101 #[.slice A l.length c] w fun e w' => ∃ b, e = .returned (.map (some b)) ∧ w.heap.size ≤ b ∧ MIs w' b (degsL (Ck.ends l)) ∧ Below w.heap.size w w' := by
  have hl' : (l.length : Int) ≤ 4096 := by omega
  have hmm := @run_makeMap Tryz.prog
  go_enter Tryz.func101, Tryz.ntmps101
  go_wp2_with fail
  go_loopw [5, 7, 11] (fun _ _ i wr => ∃ k : Nat, k ≤ l.length ∧ i = .int .i64 k ∧ MIs wr w.heap.size (degsL (Ck.ends (l.take k))) ∧ Below w.heap.size w wr) (fun _ _ i _ => l.length - (intOf i).toNat)
  case atStart => exact ⟨0, Nat.zero_le _, rfl, MIs.made _, (Below.refl _ _).alloc (Nat.le_refl _) _⟩
  case round =>
    obtain ⟨k, hk, rfl, hm, hb⟩ := hrel
    by_cases hlt : k < l.length
    · have h' := h.below hb
      obtain ⟨b, off, rfl, hB, hc⟩ := h' (by omega)
      have hin := hok _ (List.getElem_mem hlt)
      obtain ⟨⟨⟨hx1, hx2⟩, ⟨hy1, hy2⟩, _⟩, hs, _⟩ := hin
      have hs1 : -1 ≤ l[k].s := by omega
      have hs2 : l[k].s ≤ 1 := by omega
      replace hx1 : -100000 ≤ l[k].x := hx1
      replace hx2 : l[k].x ≤ 100000 := hx2
      replace hy1 : -100000 ≤ l[k].y := hy1
      replace hy2 : l[k].y ≤ 100000 := hy2
      obtain ⟨c0, c1, c2⟩ := hc k hlt
      have HT := Lib.hid (ends_take_succ hlt)
      have hE := ends_length (l.take k)
      rw [List.length_take, Nat.min_eq_left (by omega)] at hE
      have HE := Lib.hid hE
      clear hc h' h hs hE
      obtain ⟨wo, rfl⟩ : ∃ wo : World, wo = wr := ⟨_, rfl⟩
      go_wp2_with fail
      refine (netEndsOf _ _ _ _ hx1 hx2 hy1 hy2 hs1 hs2).mono ?_
      rintro e w1 ⟨rfl, hb1⟩
      have hz := hm.lt
      have hq1 : Below wo.heap.size wo w1 := ((Below.refl _ wo).alloc (Nat.le_refl _) _).trans (hb1.mono (by simp))
      have hmw := hm.below hq1 hz
      have hbw := hb.trans (hq1.mono hb.size)
      go_wp2_with fail
      go_loopw [7, 17] (fun _ i wi => ∃ j : Nat, j ≤ 2 ∧ i = .int .i64 j ∧ MIs wi w.heap.size (degsL (Ck.ends (l.take k) ++ [l[k].lo, l[k].hi].take j)) ∧ Below w.heap.size w wi) (fun _ i _ => 2 - (intOf i).toNat)
      case atStart => exact ⟨0, by omega, rfl, by simpa using hmw, hbw⟩
      case round =>
        obtain ⟨j, hj, rfl, hmi, hbi⟩ := hrel
        have hj' : j = 0 ∨ j = 1 ∨ j = 2 := by omega
        rcases hj' with rfl | rfl | rfl
        · have hidx := idx0 (.int .i64 l[k].x) (.int .i64 l[k].y) (.int .i64 (l[k].x + l[k].s)) (.int .i64 (l[k].y + 1))
          go_wp2_with fail
          obtain ⟨w2, hw2, d0, d1, hb2, hz2⟩ := box2 wr (.int .i64 l[k].x) (.int .i64 l[k].y) 26
          rw [← hw2]
          clear hw2
          have hm2 := hmi.below hb2 hmi.lt
          obtain ⟨we, w3, st, r1, r2, r3, r4, e0, e1, m3, g3⟩ := (hm2.drew).raise l[k].lo (by have := hmi.lt; omega) hz2 d0 d1
          have hv := degs_bound (Ck.ends (l.take k) ++ [l[k].lo, l[k].hi].take 0) l[k].lo
          have hlen : ((Ck.ends (l.take k) ++ [l[k].lo, l[k].hi].take 0).length : Int) ≤ 10000 := by rw [List.length_append, HE.out]; simp; omega
          generalize mget (degsL (Ck.ends (l.take k) ++ [l[k].lo, l[k].hi].take 0)) l[k].lo = v at r1 r2 r3 r4 hv
          have hw : IntKind.i64.wrap (v + 1) = v + 1 := by rw [IntKind.wrap_i64]; omega
          replace r1 : (Instr.mapEntry 139 (.map (some w.heap.size)) (.agg #[.int .i64 l[k].x, .int .i64 l[k].y])).run Tryz.prog w2.drew = _ := r1
          replace r2 : (Instr.lookup 139 (.map (some w.heap.size)) (.agg #[.int .i64 l[k].x, .int .i64 l[k].y]) false).run Tryz.prog w2.drew = _ := r2
          replace r3 : (Instr.lookup 139 (.map (some w.heap.size)) (.agg #[.int .i64 l[k].x, .int .i64 l[k].y]) false).run Tryz.prog we = _ := r3
          replace e0 : we.cell? ⟨wr.heap.size, 0, none⟩ = some (.int .i64 l[k].x) := e0
          replace e1 : we.cell? ⟨wr.heap.size, 1, none⟩ = some (.int .i64 l[k].y) := e1
          clear hlen
          go_region
          go_wp2
          go_roundw
          case rel => exact ⟨0 + 1, by omega, by go_num, by rw [show [l[k].lo, l[k].hi].take (0 + 1) = [l[k].lo, l[k].hi].take 0 ++ [l[k].lo] from rfl, ← List.append_assoc, degsL_snoc]; exact m3, (below_drew (hbi.trans (hb2.mono hbi.size))).grown g3 (by have := hb2.size; have := hbi.size; show w.heap.size ≤ w2.heap.size; omega) (fun q e => by cases e; exact Nat.le_refl _)⟩
          case measure => simp [intOf]
        · have hidx := idx1 (.int .i64 l[k].x) (.int .i64 l[k].y) (.int .i64 (l[k].x + l[k].s)) (.int .i64 (l[k].y + 1))
          go_wp2_with fail
          obtain ⟨w2, hw2, d0, d1, hb2, hz2⟩ := box2 wr (.int .i64 (l[k].x + l[k].s)) (.int .i64 (l[k].y + 1)) 26
          rw [← hw2]
          clear hw2
          have hm2 := hmi.below hb2 hmi.lt
          obtain ⟨we, w3, st, r1, r2, r3, r4, e0, e1, m3, g3⟩ := (hm2.drew).raise l[k].hi (by have := hmi.lt; omega) hz2 d0 d1
          have hv := degs_bound (Ck.ends (l.take k) ++ [l[k].lo, l[k].hi].take 1) l[k].hi
          have hlen : ((Ck.ends (l.take k) ++ [l[k].lo, l[k].hi].take 1).length : Int) ≤ 10000 := by rw [List.length_append, HE.out]; simp; omega
          generalize mget (degsL (Ck.ends (l.take k) ++ [l[k].lo, l[k].hi].take 1)) l[k].hi = v at r1 r2 r3 r4 hv
          have hw : IntKind.i64.wrap (v + 1) = v + 1 := by rw [IntKind.wrap_i64]; omega
          replace r1 : (Instr.mapEntry 139 (.map (some w.heap.size)) (.agg #[.int .i64 (l[k].x + l[k].s), .int .i64 (l[k].y + 1)])).run Tryz.prog w2.drew = _ := r1
          replace r2 : (Instr.lookup 139 (.map (some w.heap.size)) (.agg #[.int .i64 (l[k].x + l[k].s), .int .i64 (l[k].y + 1)]) false).run Tryz.prog w2.drew = _ := r2
          replace r3 : (Instr.lookup 139 (.map (some w.heap.size)) (.agg #[.int .i64 (l[k].x + l[k].s), .int .i64 (l[k].y + 1)]) false).run Tryz.prog we = _ := r3
          replace e0 : we.cell? ⟨wr.heap.size, 0, none⟩ = some (.int .i64 (l[k].x + l[k].s)) := e0
          replace e1 : we.cell? ⟨wr.heap.size, 1, none⟩ = some (.int .i64 (l[k].y + 1)) := e1
          clear hlen
          go_region
          go_wp2
          go_roundw
          case rel => exact ⟨1 + 1, by omega, by go_num, by rw [show [l[k].lo, l[k].hi].take (1 + 1) = [l[k].lo, l[k].hi].take 1 ++ [l[k].hi] from rfl, ← List.append_assoc, degsL_snoc]; exact m3, (below_drew (hbi.trans (hb2.mono hbi.size))).grown g3 (by have := hb2.size; have := hbi.size; show w.heap.size ≤ w2.heap.size; omega) (fun q e => by cases e; exact Nat.le_refl _)⟩
          case measure => simp [intOf]
        · go_wp2
          go_roundw
          case rel => exact ⟨k + 1, by omega, by go_num, by rw [HT.out]; simpa using hmi, hbi⟩
          case measure => simp [intOf]; omega
    · obtain rfl : k = l.length := by omega
      go_wp2
      go_ret
      exact ⟨_, rfl, Nat.le_refl _, by rwa [List.take_length] at hm, hb⟩
end Go.Proofs.YtdeplhihcifmeaaGreatDoor

/- Plain mathematics of the numbering of connected knots: what holds at each step of a search with a stack. -/
namespace Go.Proofs.YtdeplhihcifmeaaGreatDoor
open Ck

def nb (k : Knot) : List (Bar × Knot) := [(⟨k.x - 1, k.y - 1, 1⟩, ⟨k.x - 1, k.y - 1⟩), (⟨k.x + 1, k.y - 1, -1⟩, ⟨k.x + 1, k.y - 1⟩), (⟨k.x, k.y, -1⟩, ⟨k.x - 1, k.y + 1⟩), (⟨k.x, k.y, 1⟩, ⟨k.x + 1, k.y + 1⟩)]
theorem Knot.ext' {a b : Knot} (h1 : a.x = b.x) (h2 : a.y = b.y) : a = b := by
  cases a; cases b; cases h1; cases h2; rfl
theorem nb_adj {k : Knot} {p : Bar × Knot} (h : p ∈ nb k) : Adj p.1 k p.2 := by
  simp only [nb, List.mem_cons, List.not_mem_nil, or_false] at h
  rcases h with rfl | rfl | rfl | rfl
  · exact .inr ⟨Knot.ext' (by show k.x = k.x - 1 + 1; omega) (by show k.y = k.y - 1 + 1; omega), rfl⟩
  · exact .inr ⟨Knot.ext' (by show k.x = k.x + 1 + -1; omega) (by show k.y = k.y - 1 + 1; omega), rfl⟩
  · exact .inl ⟨rfl, Knot.ext' (by show k.x - 1 = k.x + -1; omega) rfl⟩
  · exact .inl ⟨rfl, rfl⟩
theorem adj_nb {b : Bar} {k m : Knot} (hs : b.s = -1 ∨ b.s = 1) (h : Adj b k m) : (b, m) ∈ nb k := by
  obtain ⟨x, y, s⟩ := b
  simp only at hs
  simp only [nb, List.mem_cons, List.not_mem_nil, or_false, Prod.mk.injEq]
  rcases h with ⟨rfl, rfl⟩ | ⟨rfl, rfl⟩
  · rcases hs with rfl | rfl
    · exact .inr (.inr (.inl ⟨rfl, Knot.ext' (by show x + -1 = x - 1; omega) rfl⟩))
    · exact .inr (.inr (.inr ⟨rfl, rfl⟩))
  · rcases hs with rfl | rfl
    · exact .inr (.inl ⟨Bar.ext' (by show x = x + -1 + 1; omega) (by show y = y + 1 - 1; omega) rfl, Knot.ext' (by show x = x + -1 + 1; omega) (by show y = y + 1 - 1; omega)⟩)
    · exact .inl ⟨Bar.ext' (by show x = x + 1 - 1; omega) (by show y = y + 1 - 1; omega) rfl, Knot.ext' (by show x = x + 1 - 1; omega) (by show y = y + 1 - 1; omega)⟩

/-- The numbered knots are closed under the bars. -/
def Closed (l : List Bar) (M : List (Knot × Int)) : Prop := ∀ b ∈ l, ∀ k m, Adj b k m → mget M k ≠ 0 → mget M m ≠ 0
theorem Closed.conn {l : List Bar} {M : List (Knot × Int)} (h : Closed l M) {k m : Knot} (hc : Conn l k m) : mget M k ≠ 0 → mget M m ≠ 0 := by
  induction hc with
  | refl => exact id
  | step b hb ha _ ih => exact fun hk => ih (h b hb _ _ ha hk)

/-- V: the knots that have been reached; S: those whose bars are still to be looked at; k0: the one whose first j bars have been looked at. -/
structure Fl (l : List Bar) (M0 : List (Knot × Int)) (src : Knot) (n : Int) (M : List (Knot × Int)) (V S : List Knot) (k0 : Option Knot) (j : Nat) : Prop where
  hM : ∀ k, mget M k = if k ∈ V then n else mget M0 k
  conn : ∀ k ∈ V, Conn l src k
  ends : ∀ k ∈ V, k ∈ ends l
  nd : V.Nodup
  nds : S.Nodup
  sub : ∀ k ∈ S, k ∈ V
  fr : src ∈ V
  cl : ∀ k ∈ V, k ∉ S → k0 ≠ some k → ∀ p ∈ nb k, p.1 ∈ l → p.2 ∈ V
  cur : ∀ k, k0 = some k → k ∈ V ∧ k ∉ S ∧ ∀ p ∈ (nb k).take j, p.1 ∈ l → p.2 ∈ V
theorem Fl.bound {l : List Bar} {M0 M : List (Knot × Int)} {src : Knot} {n : Int} {V S : List Knot} {k0 : Option Knot} {j : Nat} (h : Fl l M0 src n M V S k0 j) : V.length ≤ (Ck.ends l).length := h.nd.length_le_of_subset h.ends
theorem Fl.stack {l : List Bar} {M0 M : List (Knot × Int)} {src : Knot} {n : Int} {V S : List Knot} {k0 : Option Knot} {j : Nat} (h : Fl l M0 src n M V S k0 j) : S.length ≤ V.length := h.nds.length_le_of_subset h.sub

theorem Fl.start {l : List Bar} {M0 : List (Knot × Int)} {src : Knot} {n : Int} (hs : src ∈ Ck.ends l) : Fl l M0 src n (mput M0 src n) [src] [src] none 0 where
  hM k := by rw [mget_mput]; simp
  conn k hk := by rw [List.mem_singleton] at hk; subst hk; exact .refl _
  ends k hk := by rw [List.mem_singleton] at hk; subst hk; exact hs
  nd := by simp
  nds := by simp
  sub k hk := hk
  fr := by simp
  cl k hk hns := absurd hk hns
  cur k hk := by cases hk
theorem Fl.pop {l : List Bar} {M0 M : List (Knot × Int)} {src : Knot} {n : Int} {V S : List Knot} {k : Knot} (h : Fl l M0 src n M V (S ++ [k]) none 0) : Fl l M0 src n M V S (some k) 0 where
  hM := h.hM
  conn := h.conn
  ends := h.ends
  nd := h.nd
  nds := (List.nodup_append.1 h.nds).1
  sub m hm := h.sub m (by simp [hm])
  fr := h.fr
  cl m hm hns hne := h.cl m hm (fun hh => by
    rcases List.mem_append.1 hh with hh | hh
    · exact hns hh
    · rw [List.mem_singleton] at hh; subst hh; exact hne rfl) (by simp)
  cur m hm := by
    cases hm
    refine ⟨h.sub k (by simp), fun hk => ?_, by simp⟩
    exact (List.nodup_append.1 h.nds).2.2 k hk k (by simp) rfl
theorem Fl.done {l : List Bar} {M0 M : List (Knot × Int)} {src : Knot} {n : Int} {V S : List Knot} {k : Knot} (h : Fl l M0 src n M V S (some k) 4) : Fl l M0 src n M V S none 0 where
  hM := h.hM
  conn := h.conn
  ends := h.ends
  nd := h.nd
  nds := h.nds
  sub := h.sub
  fr := h.fr
  cl m hm hns _ p hp hl := by
    by_cases e : m = k
    · subst e; exact (h.cur m rfl).2.2 p (by simpa [nb] using hp) hl
    · exact h.cl m hm hns (fun e' => e (by cases e'; rfl)) p hp hl
  cur m hm := by cases hm
theorem take_succ_mem {α : Type} {l : List α} {j : Nat} {p q : α} (hp : l[j]? = some p) (h : q ∈ l.take (j + 1)) : q ∈ l.take j ∨ q = p := by
  rw [List.take_add_one, hp] at h
  simpa using h
/-- The bar leads to a knot that is new: it gets the number, and comes onto the stack. -/
theorem Fl.push {l : List Bar} {M0 M : List (Knot × Int)} {src : Knot} {n : Int} {V S : List Knot} {k : Knot} {j : Nat} {p : Bar × Knot} (h : Fl l M0 src n M V S (some k) j) (hn : n ≠ 0) (hp : (nb k)[j]? = some p) (hz : mget M p.2 = 0) (hl : p.1 ∈ l) :
    Fl l M0 src n (mput M p.2 n) (p.2 :: V) (S ++ [p.2]) (some k) (j + 1) := by
  have hnew : p.2 ∉ V := fun hv => hn (by rw [← hz, h.hM, if_pos hv])
  have hadj := nb_adj (List.mem_of_getElem? hp)
  obtain ⟨hkV, hkS, hkc⟩ := h.cur k rfl
  exact {
    hM := fun m => by
      rw [mget_mput, h.hM]
      by_cases e : m = p.2
      · simp [e]
      · simp [e]
    conn := fun m hm => by
      rcases List.mem_cons.1 hm with rfl | hm
      · exact (h.conn k hkV).trans (.one hl hadj)
      · exact h.conn m hm
    ends := fun m hm => by
      rcases List.mem_cons.1 hm with rfl | hm
      · exact (hadj.ends hl).2
      · exact h.ends m hm
    nd := List.nodup_cons.2 ⟨hnew, h.nd⟩
    nds := List.nodup_append.2 ⟨h.nds, by simp, fun a ha b hb e => by
      rw [List.mem_singleton] at hb
      subst hb
      subst e
      exact hnew (h.sub _ ha)⟩
    sub := fun m hm => by
      rcases List.mem_append.1 hm with hm | hm
      · exact List.mem_cons.2 (.inr (h.sub m hm))
      · rw [List.mem_singleton] at hm; subst hm; simp
    fr := List.mem_cons.2 (.inr h.fr)
    cl := fun m hm hns hne q hq hql => by
      rcases List.mem_cons.1 hm with rfl | hm
      · exact absurd (List.mem_append.2 (.inr (by simp))) hns
      · exact List.mem_cons.2 (.inr (h.cl m hm (fun hh => hns (List.mem_append.2 (.inl hh))) hne q hq hql))
    cur := fun m hm => by
      cases hm
      refine ⟨List.mem_cons.2 (.inr hkV), fun hh => ?_, fun q hq hql => ?_⟩
      · rcases List.mem_append.1 hh with hh | hh
        · exact hkS hh
        · rw [List.mem_singleton] at hh; exact hnew (hh ▸ hkV)
      · rcases take_succ_mem hp hq with hq | rfl
        · exact List.mem_cons.2 (.inr (hkc q hq hql))
        · simp }
/-- The bar isn't in the net, or leads to a knot that has a number. -/
theorem Fl.skip {l : List Bar} {M0 M : List (Knot × Int)} {src : Knot} {n : Int} {V S : List Knot} {k : Knot} {j : Nat} {p : Bar × Knot} (h : Fl l M0 src n M V S (some k) j) (hc : Closed l M0) (h0 : mget M0 src = 0) (hp : (nb k)[j]? = some p) (hz : ¬ (mget M p.2 = 0 ∧ p.1 ∈ l)) :
    Fl l M0 src n M V S (some k) (j + 1) := by
  have hadj := nb_adj (List.mem_of_getElem? hp)
  obtain ⟨hkV, hkS, hkc⟩ := h.cur k rfl
  exact { h with
    cur := fun m hm => by
      cases hm
      refine ⟨hkV, hkS, fun q hq hql => ?_⟩
      rcases take_succ_mem hp hq with hq | rfl
      · exact hkc q hq hql
      · by_cases hv : q.2 ∈ V
        · exact hv
        · exfalso
          have h1 : mget M q.2 ≠ 0 := fun e => hz ⟨e, hql⟩
          rw [h.hM, if_neg hv] at h1
          exact hc.conn (((h.conn k hkV).trans (.one hql hadj)).symm) h1 h0 }
/-- What the map holds at the end. -/
theorem Fl.result {l : List Bar} {M0 M : List (Knot × Int)} {src : Knot} {n : Int} {V : List Knot} (h : Fl l M0 src n M V [] none 0) (hok : ∀ b ∈ l, b.s = -1 ∨ b.s = 1) :
    (∀ k, Conn l src k → mget M k = n) ∧ ∀ k, ¬ Conn l src k → mget M k = mget M0 k := by
  have hall : ∀ k m, Conn l k m → k ∈ V → m ∈ V := by
    intro k m hc
    induction hc with
    | refl => exact id
    | step b hb ha _ ih => exact fun hk => ih (h.cl _ hk (by simp) (by simp) _ (adj_nb (hok b hb) ha) hb)
  exact ⟨fun k hk => by rw [h.hM, if_pos (hall _ _ hk h.fr)], fun k hk => by rw [h.hM, if_neg (fun hv => hk (h.conn k hv))]⟩
end Go.Proofs.YtdeplhihcifmeaaGreatDoor

/- Contracts of barsAround and otherEnd. -/
namespace Go.Proofs.YtdeplhihcifmeaaGreatDoor
open Go.RowKit

set_option maxHeartbeats 1000000 in
set_option maxRecDepth 100000 in
theorem netBarsAround (x y : Int) (w : World) (hx1 : -100001 ≤ x) (hx2 : x ≤ 100001) (hy1 : -100001 ≤ y) (hy2 : y ≤ 100001) :
    Calls Tryz.prog 91 #[.agg #[.int .i64 x, .int .i64 y]] w fun e w' => e = .returned (.agg #[.int .i64 (x - 1), .int .i64 (y - 1), .int .i64 1, .int .i64 (x + 1), .int .i64 (y - 1), .int .i64 (-1), .int .i64 x, .int .i64 y, .int .i64 (-1), .int .i64 x, .int .i64 y, .int .i64 1]) ∧ Below w.heap.size w w' := by
  go_enter Tryz.func91, Tryz.ntmps91
  go_wp2
  exact bodyPost_ret (v := .agg #[.int .i64 (x - 1), .int .i64 (y - 1), .int .i64 1, .int .i64 (x + 1), .int .i64 (y - 1), .int .i64 (-1), .int .i64 x, .int .i64 y, .int .i64 (-1), .int .i64 x, .int .i64 y, .int .i64 1]) (by simp [results, Tryz.results91, go_sem]) rfl ⟨rfl, (((Below.refl _ _).alloc (Nat.le_refl _) _).alloc (by simp) _)⟩

theorem box322 (w : World) (a b c d e f g : Value) (t t' t'' : TypeId) : ∃ w1, w1 = ((w.alloc (.cells #[a, b, c] t)).alloc (.cells #[d, e] t')).alloc (.cells #[f, g] t'') ∧ w1.cell? ⟨w.heap.size, 0, none⟩ = some a ∧ w1.cell? ⟨w.heap.size, 1, none⟩ = some b ∧ w1.cell? ⟨w.heap.size, 2, none⟩ = some c ∧
    w1.cell? ⟨w.heap.size + 1, 0, none⟩ = some d ∧ w1.cell? ⟨w.heap.size + 1, 1, none⟩ = some e ∧ w1.heap[w.heap.size + 2]? = some (.cells #[f, g] t'' (0, 0)) ∧ Below w.heap.size w w1 ∧ w.heap.size + 2 < w1.heap.size := by
  obtain ⟨w0, rfl, h0, h1, h2, hb0, hz⟩ := box3 w a b c t
  have hs : (w.alloc (.cells #[a, b, c] t)).heap.size = w.heap.size + 1 := by simp
  obtain ⟨w1, rfl, k0, k1, hb1, hz1⟩ := box2 (w.alloc (.cells #[a, b, c] t)) d e t'
  have hs1 : ((w.alloc (.cells #[a, b, c] t)).alloc (.cells #[d, e] t')).heap.size = w.heap.size + 2 := by simp
  rw [hs] at k0 k1
  have hb : Below (w.heap.size + 2) ((w.alloc (.cells #[a, b, c] t)).alloc (.cells #[d, e] t')) (((w.alloc (.cells #[a, b, c] t)).alloc (.cells #[d, e] t')).alloc (.cells #[f, g] t'')) := (Below.refl _ _).alloc (by simp) _
  refine ⟨_, rfl, ?_, ?_, ?_, (hb.cell (p := ⟨_, _, none⟩) (by simp)).trans k0, (hb.cell (p := ⟨_, _, none⟩) (by simp)).trans k1, by rw [← hs1]; exact heap_alloc_new _ _, (hb0.trans (hb1.mono (by omega))).trans (hb.mono (by omega)), by simp⟩
  · exact ((hb.cell (p := ⟨_, _, none⟩) (by show w.heap.size < _; omega)).trans (hb1.cell (p := ⟨_, _, none⟩) (by show w.heap.size < _; omega))).trans h0
  · exact ((hb.cell (p := ⟨_, _, none⟩) (by show w.heap.size < _; omega)).trans (hb1.cell (p := ⟨_, _, none⟩) (by show w.heap.size < _; omega))).trans h1
  · exact ((hb.cell (p := ⟨_, _, none⟩) (by show w.heap.size < _; omega)).trans (hb1.cell (p := ⟨_, _, none⟩) (by show w.heap.size < _; omega))).trans h2
end Go.Proofs.YtdeplhihcifmeaaGreatDoor

/- The contract of otherEnd. -/
namespace Go.Proofs.YtdeplhihcifmeaaGreatDoor
open Go.RowKit

theorem keep322 {W w1 w2 : World} {g : Nat} {a b c d e : Value} {o : Obj} (h : w1.cell? ⟨g, 0, none⟩ = some a ∧ w1.cell? ⟨g, 1, none⟩ = some b ∧ w1.cell? ⟨g, 2, none⟩ = some c ∧ w1.cell? ⟨g + 1, 0, none⟩ = some d ∧ w1.cell? ⟨g + 1, 1, none⟩ = some e ∧ w1.heap[g + 2]? = some o ∧ Below g W w1 ∧ g + 2 < w1.heap.size) (hb : Below w1.heap.size w1 w2) :
    w2.cell? ⟨g, 0, none⟩ = some a ∧ w2.cell? ⟨g, 1, none⟩ = some b ∧ w2.cell? ⟨g, 2, none⟩ = some c ∧ w2.cell? ⟨g + 1, 0, none⟩ = some d ∧ w2.cell? ⟨g + 1, 1, none⟩ = some e ∧ w2.heap[g + 2]? = some o ∧ Below g W w2 ∧ g + 2 < w2.heap.size := by
  obtain ⟨h0, h1, h2, h3, h4, h5, h6, h7⟩ := h
  exact ⟨(hb.cell (p := ⟨g, 0, none⟩) (by show g < _; omega)).trans h0, (hb.cell (p := ⟨g, 1, none⟩) (by show g < _; omega)).trans h1, (hb.cell (p := ⟨g, 2, none⟩) (by show g < _; omega)).trans h2,
    (hb.cell (p := ⟨g + 1, 0, none⟩) (by show g + 1 < _; omega)).trans h3, (hb.cell (p := ⟨g + 1, 1, none⟩) (by show g + 1 < _; omega)).trans h4, (hb.block _ h7).trans h5, h6.trans (hb.mono (by omega)), by have := hb.size; omega⟩
theorem two_of_block {w : World} {g : Nat} {a b : Value} {t : TypeId} (h : w.heap[g]? = some (.cells #[a, b] t (0, 0))) : w.cell? ⟨g, 0, none⟩ = some a ∧ w.cell? ⟨g, 1, none⟩ = some b ∧ ∀ i, w.frozen? ⟨g, i, none⟩ = false := by
  refine ⟨?_, ?_, fun i => ?_⟩ <;> simp [World.cell?, World.frozen?, h]
theorem eqKnot' (a b : Ck.Knot) (r : Bool) (hr : decide (a = b) = r) (w : World) : (Op.equalIn 10000 26 (.agg #[.int .i64 a.x, .int .i64 a.y]) (.agg #[.int .i64 b.x, .int .i64 b.y])).run Tryz.prog w = .ok r w := hr ▸ eqKnot a b w
theorem guardKnot : Tryz.prog.eqGuardType Tryz.prog.depth 26 = false := by kernel_rfl

set_option maxHeartbeats 2000000 in
set_option maxRecDepth 100000 in
theorem netOtherUp (x y s : Int) (w : World) (hx1 : -100000 ≤ x) (hx2 : x ≤ 100000) (hy1 : -100000 ≤ y) (hy2 : y ≤ 100000) (hs1 : -1 ≤ s) (hs2 : s ≤ 1) :
    Calls Tryz.prog 168 #[.agg #[.int .i64 x, .int .i64 y, .int .i64 s], .agg #[.int .i64 x, .int .i64 y]] w fun e w' => e = .returned (.agg #[.int .i64 (x + s), .int .i64 (y + 1)]) ∧ Below w.heap.size w w' := by
  obtain ⟨w0, hw0, c0, c1, c2, d0, d1, hr, hb0, hz0⟩ := box322 w (.int .i64 x) (.int .i64 y) (.int .i64 s) (.int .i64 x) (.int .i64 y) (.int .i64 0) (.int .i64 0) 24 26 26
  have HW := Lib.hid hw0
  have hq := eqKnot' ⟨x, y⟩ ⟨x, y⟩ true (by simp)
  have hgd := guardKnot
  clear hw0
  go_enter Tryz.func168, Tryz.ntmps168
  go_wp2_with fail
  rw [← HW.out]
  go_region_held3 (fun w' => w'.cell? ⟨w.heap.size, 0, none⟩ = some (.int .i64 x) ∧ w'.cell? ⟨w.heap.size, 1, none⟩ = some (.int .i64 y) ∧ w'.cell? ⟨w.heap.size, 2, none⟩ = some (.int .i64 s) ∧ w'.cell? ⟨w.heap.size + 1, 0, none⟩ = some (.int .i64 x) ∧ w'.cell? ⟨w.heap.size + 1, 1, none⟩ = some (.int .i64 y) ∧
      w'.heap[w.heap.size + 2]? = some (.cells #[.int .i64 0, .int .i64 0] 26 (0, 0)) ∧ Below w.heap.size w w' ∧ w.heap.size + 2 < w'.heap.size)
    (first | exact ⟨c0, c1, c2, d0, d1, hr, below_drew hb0, hz0⟩ | exact keep322 (by assumption) (by assumption) | assumption | go_keep)
    (first
      | (go_at_call 86; refine (netLower _ _ _ _).mono ?_; rintro e w' ⟨rfl, hbq⟩))
  all_goals
    rename_i hS
    clear c0 c1 c2 d0 d1 hr
    have hS2 := Lib.hid hS
    obtain ⟨c0, c1, c2, d0, d1, hr, hb1, hz1⟩ := hS
    clear hr
    go_wp2_with fail
    refine (netUpper _ _ _ _ hx1 hx2 hy1 hy2 hs1 hs2).mono ?_
    rintro e w2 ⟨rfl, hb2⟩
    obtain ⟨_, _, _, _, _, hr2, hb3, _⟩ := keep322 hS2.out hb2
    obtain ⟨t0, t1, tf⟩ := two_of_block hr2
    clear hr2 c0 c1 c2 d0 d1
    go_wp2
    exact bodyPost_ret (v := .agg #[.int .i64 (x + s), .int .i64 (y + 1)]) (by simp [results, Tryz.results168, go_sem, t0, t1]) rfl ⟨rfl, (hb3.setCell (by simp; omega) _).setCell (by simp; omega) _⟩
set_option maxHeartbeats 2000000 in
set_option maxRecDepth 100000 in
theorem netOtherDown (x y s kx ky : Int) (w : World) (hne : ¬ (x = kx ∧ y = ky)) :
    Calls Tryz.prog 168 #[.agg #[.int .i64 x, .int .i64 y, .int .i64 s], .agg #[.int .i64 kx, .int .i64 ky]] w fun e w' => e = .returned (.agg #[.int .i64 x, .int .i64 y]) ∧ Below w.heap.size w w' := by
  obtain ⟨w0, hw0, c0, c1, c2, d0, d1, hr, hb0, hz0⟩ := box322 w (.int .i64 x) (.int .i64 y) (.int .i64 s) (.int .i64 kx) (.int .i64 ky) (.int .i64 0) (.int .i64 0) 24 26 26
  have HW := Lib.hid hw0
  have hq := eqKnot' ⟨x, y⟩ ⟨kx, ky⟩ false (by simpa using hne)
  have hgd := guardKnot
  clear hne
  clear hw0
  go_enter Tryz.func168, Tryz.ntmps168
  go_wp2_with fail
  rw [← HW.out]
  go_region_held3 (fun w' => w'.cell? ⟨w.heap.size, 0, none⟩ = some (.int .i64 x) ∧ w'.cell? ⟨w.heap.size, 1, none⟩ = some (.int .i64 y) ∧ w'.cell? ⟨w.heap.size, 2, none⟩ = some (.int .i64 s) ∧ w'.cell? ⟨w.heap.size + 1, 0, none⟩ = some (.int .i64 kx) ∧ w'.cell? ⟨w.heap.size + 1, 1, none⟩ = some (.int .i64 ky) ∧
      w'.heap[w.heap.size + 2]? = some (.cells #[.int .i64 0, .int .i64 0] 26 (0, 0)) ∧ Below w.heap.size w w' ∧ w.heap.size + 2 < w'.heap.size)
    (first | exact ⟨c0, c1, c2, d0, d1, hr, below_drew hb0, hz0⟩ | exact keep322 (by assumption) (by assumption) | assumption | go_keep)
    (first
      | (go_at_call 86; refine (netLower _ _ _ _).mono ?_; rintro e w' ⟨rfl, hbq⟩))
  all_goals
    rename_i hS
    clear c0 c1 c2 d0 d1 hr
    have hS2 := Lib.hid hS
    obtain ⟨c0, c1, c2, d0, d1, hr, hb1, hz1⟩ := hS
    clear hr
    go_wp2_with fail
    refine (netLower _ _ _ _).mono ?_
    rintro e w2 ⟨rfl, hb2⟩
    obtain ⟨_, _, _, _, _, hr2, hb3, _⟩ := keep322 hS2.out hb2
    obtain ⟨t0, t1, tf⟩ := two_of_block hr2
    clear hr2 c0 c1 c2 d0 d1
    go_wp2
    exact bodyPost_ret (v := .agg #[.int .i64 x, .int .i64 y]) (by simp [results, Tryz.results168, go_sem, t0, t1]) rfl ⟨rfl, (hb3.setCell (by simp; omega) _).setCell (by simp; omega) _⟩
end Go.Proofs.YtdeplhihcifmeaaGreatDoor

/- What is kept where a map's block and a row of the call's own are written; the map's operations as laws of the walk. -/
namespace Go.Proofs.YtdeplhihcifmeaaGreatDoor
open Go.RowKit

theorem gb_of_below {w w' : World} {r : Option Nat} (h : Below w.heap.size w w') : w.grownBy w' r := ⟨h.os, h.tape, h.output, h.size, fun i hi _ => h.block i hi⟩
theorem gb_below {w w1 w2 : World} {r : Option Nat} (h : w.grownBy w1 r) (hb : Below w1.heap.size w1 w2) : w.grownBy w2 r :=
  ⟨hb.os.trans h.os, hb.tape.trans h.tape, hb.output.trans h.output, Nat.le_trans h.size hb.size, fun i hi hr => (hb.block i (Nat.lt_of_lt_of_le hi h.size)).trans (h.block i hi hr)⟩
theorem gb_row {w w1 w2 : World} {r s : Option Nat} (h : w.grownBy w1 r) (hg : w1.grownBy w2 s) (hs : ∀ g, s = some g → w.heap.size ≤ g) : w.grownBy w2 r :=
  ⟨hg.os.trans h.os, hg.tape.trans h.tape, hg.output.trans h.output, Nat.le_trans h.size hg.size, fun i hi hr => (hg.block i (Nat.lt_of_lt_of_le hi h.size) (fun e => by have := hs i e.symm; omega)).trans (h.block i hi hr)⟩
theorem RB.grown {w w' : World} {B b : Nat} {A : Option Addr} {l : List Ck.Bar} {m : List (Ck.Knot × Int)} (h : RB w B A l) (hm : MIs w b m) (hB : B ≤ w.heap.size) (hg : w.grownBy w' (some b)) : RB w' B A l := fun hl => by
  obtain ⟨b', off, rfl, hb, hc⟩ := h hl
  have hne : b' ≠ b := by
    rintro rfl
    obtain ⟨es, clock, h1, _⟩ := hm
    have := (hc 0 hl).1
    simp [World.cell?, h1] at this
  have hk : ∀ o, w'.cell? ⟨b', o, none⟩ = w.cell? ⟨b', o, none⟩ := fun o => World.cell?_of_block (hg.block b' (by omega) (fun e => hne (by injection e)))
  exact ⟨b', off, rfl, hb, fun i hi => ⟨(hk _).trans (hc i hi).1, (hk _).trans (hc i hi).2.1, (hk _).trans (hc i hi).2.2⟩⟩

theorem wpList_mapUpdate_kn (w : World) {ops : Array Oper} {rest : List Oper} {o : Oper} {a : Act} {Q : Exit → Act → World → Prop}
    (hg : o.guard = none) (m x v : Operand) (hop : o.op = Op.mapUpdate 139 m x v) (b : Nat) (M : List (Ck.Knot × Int)) (hM : MIs w b M) (k : Ck.Knot) (val : Int)
    (hm : a.eval m = .map (some b)) (hx : a.eval x = .agg #[.int .i64 k.x, .int .i64 k.y]) (hv : a.eval v = .int .i64 val)
    (hK : ∀ w', MIs w' b (mput M k val) → w.grownBy w' (some b) → wpList Tryz.prog ops Q rest (a.put o.dst undef) w') : wpList Tryz.prog ops Q (o :: rest) a w := by
  refine wpList_plain hg fun K' hK' => ?_
  obtain ⟨w', hrun, r1, r2⟩ := hM.update k val
  have hrun' : (Instr.mapUpdate 139 (.map (some b)) (.agg #[.int .i64 k.x, .int .i64 k.y]) (.int .i64 val)).run Tryz.prog w = .ok () w' := hrun
  unfold Oper.wp
  simp [execOp, hop, hm, hx, hv, hrun', Result.andThen]
  exact hK' _ _ (hK w' r1 r2)
theorem wpList_lookup_kn (w : World) {ops : Array Oper} {rest : List Oper} {o : Oper} {a : Act} {Q : Exit → Act → World → Prop}
    (hg : o.guard = none) (m x : Operand) (hop : o.op = Op.lookup 139 m x false) (b : Nat) (M : List (Ck.Knot × Int)) (hM : MIs w b M) (k : Ck.Knot)
    (hm : a.eval m = .map (some b)) (hx : a.eval x = .agg #[.int .i64 k.x, .int .i64 k.y])
    (hK : wpList Tryz.prog ops Q rest (a.put o.dst (.int .i64 (mget M k))) w) : wpList Tryz.prog ops Q (o :: rest) a w := by
  refine wpList_plain hg fun K' hK' => ?_
  have hrun' : (Instr.lookup 139 (.map (some b)) (.agg #[.int .i64 k.x, .int .i64 k.y]) false).run Tryz.prog w = .ok (.int .i64 (mget M k)) w := hM.lookup k
  unfold Oper.wp
  simp [execOp, hop, hm, hx, hrun', Result.andThen]
  exact hK' _ _ hK
def kcellsL (S : List Ck.Knot) : List Value := S.flatMap fun k => [.int .i64 k.x, .int .i64 k.y]
theorem kcellsL_snoc (S : List Ck.Knot) (k : Ck.Knot) : kcellsL (S ++ [k]) = kcellsL S ++ [.int .i64 k.x, .int .i64 k.y] := by simp [kcellsL]
theorem kcellsL_length (S : List Ck.Knot) : (kcellsL S).length = S.length * 2 := by
  induction S with
  | nil => rfl
  | cons a r ih => simp [kcellsL] at ih ⊢; omega
theorem add0 (g i : Nat) : (⟨g, 0, none⟩ : Addr).add i = ⟨g, i, none⟩ := by
  unfold Addr.add
  split
  · rename_i h; rw [h]
  · simp
/-- The top of a stack of knots. -/
theorem top_cells {w : World} {base g cap : Nat} {S : List Ck.Knot} {k : Ck.Knot} (h : w.ownsRow base 26 2 (.slice (some ⟨g, 0, none⟩) (S.length + 1) cap) (S.length + 1) (kcellsL (S ++ [k]))) :
    w.cell? ⟨g, S.length * 2, none⟩ = some (.int .i64 k.x) ∧ w.cell? ⟨g, S.length * 2 + 1, none⟩ = some (.int .i64 k.y) := by
  have hc := h.cells (g := g) rfl
  rw [kcellsL_snoc] at hc
  have hl := kcellsL_length S
  have h0 := hc (S.length * 2) (.int .i64 k.x) (by rw [List.getElem?_append_right (by omega), hl, Nat.sub_self]; rfl)
  have h1 := hc (S.length * 2 + 1) (.int .i64 k.y) (by rw [List.getElem?_append_right (by omega), hl, Nat.add_sub_cancel_left]; rfl)
  rw [add0] at h0 h1
  exact ⟨h0, h1⟩
theorem own_cap {w : World} {base g cap n : Nat} {e : TypeId} {size : Nat} {xs : List Value} (h : w.ownsRow base e size (.slice (some ⟨g, 0, none⟩) n cap) n xs) : n ≤ cap ∧ cap ≤ maxLen := by
  rcases h.2 with ⟨h0, _⟩ | ⟨g', cap', cur, hv, _, _, h1, h2, _⟩
  · cases h0
  · cases hv; exact ⟨h1, h2⟩
theorem own_form {w : World} {base n : Nat} {e : TypeId} {size : Nat} {v : Value} {xs : List Value} (h : w.ownsRow base e size v n xs) (hn : 0 < n) : ∃ g cap, v = .slice (some ⟨g, 0, none⟩) n cap ∧ base ≤ g ∧ n ≤ cap ∧ cap ≤ maxLen ∧ g < w.heap.size := by
  rcases h.2 with ⟨_, h0⟩ | ⟨g, cap, cur, hv, hb, hh, h1, h2, _⟩
  · omega
  · exact ⟨g, cap, hv, hb, h1, h2, (Array.getElem?_eq_some_iff.1 hh).1⟩
end Go.Proofs.YtdeplhihcifmeaaGreatDoor

/- The contract of numberFrom. -/
namespace Go.Proofs.YtdeplhihcifmeaaGreatDoor
open Go.RowKit

theorem Tryz.info26 : (Tryz.prog.info? 26).map (fun i => (i.zero, i.size, i.bytes)) = some (some (.agg #[.int .i64 0, .int .i64 0]), 2, 16) := by kernel_rfl
/-- The number n is given to all knots that are connected with src. -/
def Numbered (l : List Ck.Bar) (src : Ck.Knot) (n : Int) (M0 M : List (Ck.Knot × Int)) : Prop :=
  (∀ k, Ck.Conn l src k → mget M k = n) ∧ ∀ k, ¬ Ck.Conn l src k → mget M k = mget M0 k
def NumPost (l : List Ck.Bar) (src : Ck.Knot) (n : Int) (M0 : List (Ck.Knot × Int)) (b : Nat) (w : World) (e : Ending) (w' : World) : Prop :=
  e = .returned (.tuple #[]) ∧ ∃ M, Numbered l src n M0 M ∧ MIs w' b M ∧ w.grownBy w' (some b)
theorem one_row (w : World) (base : Nat) (hb : base ≤ w.heap.size) (a b : Value) (t : TypeId) : (w.alloc (.cells #[a, b] t)).ownsRow base t 2 (.slice (some ⟨w.heap.size, 0, none⟩) 1 1) 1 [a, b] :=
  ⟨rfl, .inr ⟨_, _, _, rfl, hb, heap_alloc_new _ _, Nat.le_refl _, by unfold maxLen; omega, rfl, rfl⟩⟩

def numRel (l : List Ck.Bar) (src : Ck.Knot) (n : Int) (M0 : List (Ck.Knot × Int)) (b : Nat) (w : World) (g : Nat) (v : Value) (wi : World) : Prop :=
  ∃ V S M, g = 2 * ((Ck.ends l).length - V.length) + S.length ∧ Fl l M0 src n M V S none 0 ∧ wi.ownsRow w.heap.size 26 2 v S.length (kcellsL S) ∧ MIs wi b M ∧ w.grownBy wi (some b)

theorem end_range {l : List Ck.Bar} (hok : ∀ x ∈ l, Ck.okBar x) {k : Ck.Knot} (h : k ∈ Ck.ends l) : -100000 ≤ k.x ∧ k.x ≤ 100000 ∧ -100000 ≤ k.y ∧ k.y ≤ 100000 := by
  obtain ⟨b, hb, h⟩ := Ck.mem_ends.1 h
  obtain ⟨⟨h1, h2, _⟩, _, h4, h5⟩ := hok b hb
  rcases h with rfl | rfl
  · exact ⟨h1.1, h1.2, h2.1, h2.2⟩
  · exact ⟨h4.1, h4.2, h5.1, h5.2⟩
def numIn (l : List Ck.Bar) (src : Ck.Knot) (n : Int) (M0 : List (Ck.Knot × Int)) (b : Nat) (w : World) (k : Ck.Knot) (B G : Nat) (g : Nat) (v i : Value) (wi : World) : Prop :=
  ∃ j V S M, g = 4 - j ∧ j ≤ 4 ∧ i = .int .i64 (j : Nat) ∧ Fl l M0 src n M V S (some k) j ∧ wi.ownsRow w.heap.size 26 2 v S.length (kcellsL S) ∧ v.ownBlock ≠ some B ∧ MIs wi b M ∧ w.grownBy wi (some b) ∧
    wi.cell? ⟨B, 0, none⟩ = some (.int .i64 k.x) ∧ wi.cell? ⟨B, 1, none⟩ = some (.int .i64 k.y) ∧ B < wi.heap.size ∧ 2 * ((Ck.ends l).length - V.length) + S.length < G
theorem meas_push {N v s G : Nat} (h : 2 * (N - v) + s < G) (hv : v + 1 ≤ N) : 2 * (N - (v + 1)) + (s + 1) < G := by omega

set_option maxHeartbeats 4000000 in
set_option maxRecDepth 100000 in
theorem netNumberFrom (A : Option Addr) (c b : Nat) (l : List Ck.Bar) (src : Ck.Knot) (n : Int) (M0 : List (Ck.Knot × Int)) (w : World) (hl : l.length ≤ 4096) (hs : l.Pairwise Ck.Blt) (hok : ∀ x ∈ l, Ck.okBar x) (h : RB w w.heap.size A l)
    (hsrc : src ∈ Ck.ends l) (hn : 0 < n) (hn2 : n ≤ 10000) (h0 : mget M0 src = 0) (hcl : Closed l M0) (hM : MIs w b M0) :
    Calls Tryz.prog 142 #[.slice A l.length c, .agg #[.int .i64 src.x, .int .i64 src.y], .map (some b), .int .i64 n] w (NumPost l src n M0 b w) := by
  obtain ⟨i0, hi, hz0, hz1, hz2⟩ := info_parts Tryz.info26
  have HS := Lib.hid hs
  have HR := Lib.hid h
  have HI := Lib.hid hi
  have HZ0 := Lib.hid hz0
  have HZ1 := Lib.hid hz1
  have HZ2 := Lib.hid hz2
  have H0 := Lib.hid h0
  have HCL := Lib.hid hcl
  have HOK := Lib.hid hok
  have HM := Lib.hid hM
  have hlt := hM.lt
  clear hs h hi hz0 hz1 hz2 h0 hcl hok hM
  go_enter Tryz.func142, Tryz.ntmps142
  obtain ⟨w1, hw1, c0, c1, hb1, hz1⟩ := box2 w (.int .i64 src.x) (.int .i64 src.y) 26
  have HW := Lib.hid hw1
  clear hw1
  go_wp2_with (at_mapUpdate; refine wpList_mapUpdate_kn _ rfl _ _ _ rfl b M0 (by exact HM.out.below ((Below.refl _ _).alloc (Nat.le_refl _) _) hlt) src n rfl rfl rfl ?_; intro w2 hm2 hg2; rw [← HW.out] at hg2; have e0 : w2.cell? ⟨w.heap.size, 0, none⟩ = some (.int .i64 src.x) := (World.cell?_of_block (hg2.block w.heap.size hz1 (fun e => by cases e; omega))).trans c0; have e1 : w2.cell? ⟨w.heap.size, 1, none⟩ = some (.int .i64 src.y) := (World.cell?_of_block (hg2.block w.heap.size hz1 (fun e => by cases e; omega))).trans c1)
  have hgw : w.grownBy w2 (some b) := (gb_of_below hb1).trans hg2
  have HST := Lib.hid (Fl.start (l := l) (M0 := M0) (n := n) hsrc)
  have HEL := Lib.hid (ends_length l)
  go_loopg [8, 9, 11, 12] (2 * ((Ck.ends l).length - 1) + 1) (fun g v _ _ _ wi => numRel l src n M0 b w g v wi)
  case atStart => exact ⟨[src], [src], _, rfl, HST.out, one_row _ _ (by have := hgw.size; omega) _ _ _, hm2.below ((Below.refl _ _).alloc (Nat.le_refl _) _) hm2.lt, gb_below hgw ((Below.refl _ _).alloc (Nat.le_refl _) _)⟩
  case round =>
    obtain ⟨V, S, M, hg, hfl, hown, hmi, hgi⟩ := hrel
    have HG := Lib.hid hg
    have HFL := Lib.hid hfl
    have HOW := Lib.hid hown
    clear hg hfl hown
    rcases List.eq_nil_or_concat S with rfl | ⟨S', k, hSk⟩
    · have HRES := Lib.hid (HFL.out.result (fun x hx => (HOK.out x hx).2.1))
      rw [show ([] : List Ck.Knot).length = 0 from rfl] at HOW
      have hv : u8 = .slice none 0 0 ∨ ∃ g cap, u8 = .slice (some ⟨g, 0, none⟩) 0 cap := by
        rcases HOW.out.2 with ⟨h, _⟩ | ⟨g, cap, _, h, _⟩
        · exact .inl h
        · exact .inr ⟨g, cap, h⟩
      have HGI := Lib.hid hgi
      rcases hv with rfl | ⟨g, cap, rfl⟩
      all_goals
        go_wp2
        go_end0
        exact ⟨rfl, M, HRES.out, hmi, HGI.out⟩
    · rw [List.concat_eq_append] at hSk
      subst hSk
      have hle := (HFL.out.stack)
      have hbd := HFL.out.bound
      rw [HEL.out] at hbd
      simp only [List.length_append, List.length_cons, List.length_nil, Nat.zero_add] at hle
      rw [show (S' ++ [k]).length = S'.length + 1 from by simp] at HOW
      obtain ⟨g, cap, rfl, hbg, hcap1, hcap2, hgs⟩ := own_form HOW.out (by omega)
      obtain ⟨t0, t1⟩ := top_cells HOW.out
      unfold maxLen at hcap2
      have hk1 := HFL.out.ends k (HFL.out.sub k (by simp))
      have hi0 : (0 : Int) ≤ (S'.length : Int) := by omega
      have hi1 : (S'.length : Int) < (S'.length : Int) + 1 := by omega
      have hi2 : (S'.length : Int) ≤ (cap : Int) := by omega
      obtain ⟨kx1, kx2, ky1, ky2⟩ := end_range HOK.out hk1
      have hgz := hgi.size
      have hgb : g ≠ b := by omega
      obtain ⟨wo, rfl⟩ : ∃ wo : World, wo = wr := ⟨_, rfl⟩
      obtain ⟨w3, hw3, d0, d1, hb3, hz3⟩ := box2 wo (.int .i64 k.x) (.int .i64 k.y) 26
      have HW3 := Lib.hid hw3
      clear hw3
      go_wp2_with fail
      refine (netBarsAround k.x k.y _ (by omega) (by omega) (by omega) (by omega)).mono ?_
      rintro e w4 ⟨rfl, hb4⟩
      rw [← HW3.out] at hb4
      have hq4 : Below wo.heap.size wo w4 := hb3.trans (hb4.mono (by omega))
      have hz4 : wo.heap.size < w4.heap.size := Nat.lt_of_lt_of_le hz3 hb4.size
      have f0 := (hb4.cell (p := ⟨wo.heap.size, 0, none⟩) hz3).trans d0
      have f1 := (hb4.cell (p := ⟨wo.heap.size, 1, none⟩) hz3).trans d1
      have HO4 := Lib.hid (ownsRow_below (ownsRow_pop (kcellsL_length S') (by rw [← kcellsL_snoc]; exact HOW.out)) hq4)
      have hm4 := hmi.below hq4 hmi.lt
      have hg4 := gb_below hgi hq4
      have HP := Lib.hid HFL.out.pop
      clear t0 t1 d0 d1
      go_wp2_with fail
      go_loopg [8, 11, 12, 34] 4 (fun g' v _ _ i wi => numIn l src n M0 b w k wo.heap.size gk g' v i wi)
      case atStart =>
        refine ⟨0, V, S', M, rfl, by omega, rfl, HP.out, HO4.out, ?_, hm4, hg4, f0, f1, hz4, ?_⟩
        · intro e
          have e' : g = wo.heap.size := by injection e
          omega
        · rw [HG.out]; simp
      case round =>
        obtain ⟨j, V, S, M, hgk, hj, rfl, hfl, hown, hob, hmi, hgi, e0, e1, hBz, hme⟩ := hrel
        have HFL := Lib.hid hfl
        have HOW := Lib.hid hown
        have HOB := Lib.hid hob
        have HGK := Lib.hid hgk
        have HME := Lib.hid hme
        have hj' : j = 0 ∨ j = 1 ∨ j = 2 ∨ j = 3 ∨ j = 4 := by omega
        have hgz0 := hgz
        have hgz := hgi.size
        have HB := Lib.hid (((HR.out.grown HM.out (Nat.le_refl _) hgi).more hgi.size))
        clear hfl hown hob hgk hme
        rcases hj' with rfl | rfl | rfl | rfl | rfl
        · have hidx := ix0 (.int .i64 (k.x - 1)) (.int .i64 (k.y - 1)) (.int .i64 (1)) (.int .i64 (k.x + 1)) (.int .i64 (k.y - 1)) (.int .i64 (-1)) (.int .i64 (k.x)) (.int .i64 (k.y)) (.int .i64 (-1)) (.int .i64 (k.x)) (.int .i64 (k.y)) (.int .i64 (1))
          have HP := Lib.hid (show (nb k)[0]? = some ((⟨k.x - 1, k.y - 1, 1⟩ : Ck.Bar), (⟨k.x - 1, k.y - 1⟩ : Ck.Knot)) from rfl)
          by_cases hz : mget M (⟨k.x - 1, k.y - 1⟩ : Ck.Knot) = 0
          · have hzb : (mget M (⟨k.x - 1, k.y - 1⟩ : Ck.Knot) == 0) = true := by rw [hz]; rfl
            have HZ := Lib.hid hz
            clear hz
            cases hin : decide ((⟨k.x - 1, k.y - 1, 1⟩ : Ck.Bar) ∈ l)
            · have HIN := Lib.hid hin
              clear hin
              go_wp2_with fail
              refine (netOtherDown (k.x - 1) (k.y - 1) (1) k.x k.y _ (by omega)).mono ?_
              rintro e w5 ⟨rfl, hb5⟩
              have hq5 : Below wr.heap.size wr w5 := ((Below.refl _ _).alloc (Nat.le_refl _) _).trans (hb5.mono (by simp))
              have b0 : w5.cell? ⟨wr.heap.size, 0, none⟩ = some (.int .i64 (k.x - 1)) := by
                rw [hb5.cell (p := ⟨_, _, none⟩) (by simp), World.cell?_alloc_at _ _ _ _ (by simp)]; rfl
              have b1 : w5.cell? ⟨wr.heap.size, 1, none⟩ = some (.int .i64 (k.y - 1)) := by
                rw [hb5.cell (p := ⟨_, _, none⟩) (by simp), World.cell?_alloc_at _ _ _ _ (by simp)]; rfl
              have b2 : w5.cell? ⟨wr.heap.size, 2, none⟩ = some (.int .i64 (1)) := by
                rw [hb5.cell (p := ⟨_, _, none⟩) (by simp), World.cell?_alloc_at _ _ _ _ (by simp)]; rfl
              have hz5 : wr.heap.size < w5.heap.size := by have := hb5.size; simp at this; omega
              obtain ⟨w6, hw6, q0, q1, hb6, hz6⟩ := box2 w5 (.int .i64 (k.x - 1)) (.int .i64 (k.y - 1)) 26
              have HW6 := Lib.hid hw6
              clear hw6
              have hq6 : Below wr.heap.size wr w6 := hq5.trans (hb6.mono hq5.size)
              have hm6 := hmi.below hq6 hmi.lt
              go_wp2_with (at_lookup; refine wpList_lookup_kn _ rfl _ _ rfl b M (by rw [← HW6.out]; exact hm6) (⟨k.x - 1, k.y - 1⟩ : Ck.Knot) rfl rfl ?_)
              refine (netHasBar A c l _ _ _ _ hl HS.out (by rw [← HW6.out]; exact (HB.out.below hq6).more hq6.size)).mono ?_
              rintro e w7 ⟨rfl, hb7⟩
              rw [HIN.out]
              have hq7 : Below wr.heap.size wr w7 := hq6.trans ((HW6.out ▸ hb7).mono hq6.size)
              have hm7 := hmi.below hq7 hmi.lt
              go_wp2
              go_roundg (4 - (0 + 1))
              case measure => rw [HGK.out]; decide
              case rel => exact ⟨0 + 1, V, S, M, rfl, by omega, by go_num, HFL.out.skip HCL.out H0.out HP.out (fun h => by have := HIN.out; simp [h.2] at this), ownsRow_below HOW.out hq7, HOB.out, hm7, gb_below hgi hq7, (hq7.cell (p := ⟨_, _, none⟩) hBz).trans e0, (hq7.cell (p := ⟨_, _, none⟩) hBz).trans e1, Nat.lt_of_lt_of_le hBz hq7.size, HME.out⟩
            · have HIN := Lib.hid hin
              clear hin
              go_wp2_with fail
              refine (netOtherDown (k.x - 1) (k.y - 1) (1) k.x k.y _ (by omega)).mono ?_
              rintro e w5 ⟨rfl, hb5⟩
              have hq5 : Below wr.heap.size wr w5 := ((Below.refl _ _).alloc (Nat.le_refl _) _).trans (hb5.mono (by simp))
              have b0 : w5.cell? ⟨wr.heap.size, 0, none⟩ = some (.int .i64 (k.x - 1)) := by
                rw [hb5.cell (p := ⟨_, _, none⟩) (by simp), World.cell?_alloc_at _ _ _ _ (by simp)]; rfl
              have b1 : w5.cell? ⟨wr.heap.size, 1, none⟩ = some (.int .i64 (k.y - 1)) := by
                rw [hb5.cell (p := ⟨_, _, none⟩) (by simp), World.cell?_alloc_at _ _ _ _ (by simp)]; rfl
              have b2 : w5.cell? ⟨wr.heap.size, 2, none⟩ = some (.int .i64 (1)) := by
                rw [hb5.cell (p := ⟨_, _, none⟩) (by simp), World.cell?_alloc_at _ _ _ _ (by simp)]; rfl
              have hz5 : wr.heap.size < w5.heap.size := by have := hb5.size; simp at this; omega
              obtain ⟨w6, hw6, q0, q1, hb6, hz6⟩ := box2 w5 (.int .i64 (k.x - 1)) (.int .i64 (k.y - 1)) 26
              have HW6 := Lib.hid hw6
              clear hw6
              have hq6 : Below wr.heap.size wr w6 := hq5.trans (hb6.mono hq5.size)
              have hm6 := hmi.below hq6 hmi.lt
              go_wp2_with (at_lookup; refine wpList_lookup_kn _ rfl _ _ rfl b M (by rw [← HW6.out]; exact hm6) (⟨k.x - 1, k.y - 1⟩ : Ck.Knot) rfl rfl ?_)
              refine (netHasBar A c l _ _ _ _ hl HS.out (by rw [← HW6.out]; exact (HB.out.below hq6).more hq6.size)).mono ?_
              rintro e w7 ⟨rfl, hb7⟩
              rw [HIN.out]
              have hq7 : Below wr.heap.size wr w7 := hq6.trans ((HW6.out ▸ hb7).mono hq6.size)
              have hm7 := hmi.below hq7 hmi.lt
              have u0 : w7.cell? ⟨w5.heap.size, 0, none⟩ = some (.int .i64 (k.x - 1)) := ((HW6.out ▸ hb7).cell (p := ⟨_, _, none⟩) hz6).trans q0
              have u1 : w7.cell? ⟨w5.heap.size, 1, none⟩ = some (.int .i64 (k.y - 1)) := ((HW6.out ▸ hb7).cell (p := ⟨_, _, none⟩) hz6).trans q1
              have hz7 : w5.heap.size < w7.heap.size := Nat.lt_of_lt_of_le hz6 (HW6.out ▸ hb7).size
              have hbne : wo.heap.size ≠ b := by have := hgz0; omega
              have hst := HFL.out.stack
              have hbd := HFL.out.bound
              rw [HEL.out] at hbd
              go_wp2_with (first
                | (at_mapUpdate; go_loud (refine wpList_mapUpdate_kn _ rfl _ _ _ rfl b M hm7 (⟨k.x - 1, k.y - 1⟩ : Ck.Knot) n rfl rfl rfl ?_); intro w8 hm8 hg8; go_loud (have p0 : w8.cell? ⟨w5.heap.size, 0, none⟩ = some (.int .i64 (k.x - 1)) := (World.cell?_of_block (hg8.block _ hz7 (fun e => by have e2 : w5.heap.size = b := Option.some.inj e; omega))).trans u0); go_loud (have p1 : w8.cell? ⟨w5.heap.size, 1, none⟩ = some (.int .i64 (k.y - 1)) := (World.cell?_of_block (hg8.block _ hz7 (fun e => by have e2 : w5.heap.size = b := Option.some.inj e; omega))).trans u1); go_loud (have HO8 := Lib.hid ((ownsRow_below HOW.out hq7).kept hg8 (.inr (fun e => by have := ownsRow_base HOW.out b e; omega)))); have hg80 := hg8.size)
                | (at_builtin; refine wpList_append_own_at _ rfl _ _ 62 rfl w.heap.size 26 i0 (.agg #[.int .i64 0, .int .i64 0]) 2 16 Tryz.underlying62 HI.out HZ0.out HZ1.out HZ2.out rfl (by decide) _ _ _ rfl (HO8.out.alloc _) ⟨w8.heap.size, 0, none⟩ 1 1 [.int .i64 (k.x - 1), .int .i64 (k.y - 1)] rfl rfl (two_new _ _ _ _) ?c2 ?c3 ?c4 ?c5 ?_))
              case c2 => intro u hu; simp at hu; rcases hu with rfl | rfl <;> rfl
              case c3 => unfold maxLen; omega
              case c4 => omega
              case c5 => have := hq7.size; simp; omega
              intro v' w9 hown9 hgrow9 _ hblk9
              have hq8 : Below w8.heap.size w8 (w8.alloc (.cells #[.int .i64 (k.x - 1), .int .i64 (k.y - 1)] 26)) := (Below.refl _ _).alloc (Nat.le_refl _) _
              have hB7 : wo.heap.size < w7.heap.size := Nat.lt_of_lt_of_le hBz hq7.size
              have hB8 : wo.heap.size < w8.heap.size := Nat.lt_of_lt_of_le hB7 hg80
              have keepB : ∀ i, w9.cell? ⟨wo.heap.size, i, none⟩ = wr.cell? ⟨wo.heap.size, i, none⟩ := fun i =>
                (((World.cell?_of_block (hgrow9.block wo.heap.size (by simp; omega) (fun e => HOB.out e.symm))).trans (hq8.cell (p := ⟨_, i, none⟩) hB8)).trans (World.cell?_of_block (hg8.block wo.heap.size hB7 (fun e => hbne (by injection e))))).trans (hq7.cell (p := ⟨_, i, none⟩) hBz)
              have k0 := (keepB 0).trans e0
              have k1 := (keepB 1).trans e1
              have hm9 : MIs w9 b (mput M (⟨k.x - 1, k.y - 1⟩ : Ck.Knot) n) := (hm8.below hq8 hm8.lt).of_block (hgrow9.block b (by have := hm8.lt; simp; omega) (fun e => by have := ownsRow_base HOW.out b e.symm; omega))
              have hg9 : w.grownBy w9 (some b) := gb_row (gb_below ((gb_below hgi hq7).trans hg8) hq8) hgrow9 (ownsRow_base HOW.out)
              have hob9 : v'.ownBlock ≠ some wo.heap.size := by
                rcases hblk9 with h | h
                · rw [h]; exact HOB.out
                · rw [h]; intro e; have e' : w8.heap.size + 1 = wo.heap.size := Option.some.inj e; omega
              have hB9 : wo.heap.size < w9.heap.size := by have := hgrow9.size; simp at this; omega
              have HO9 := Lib.hid hown9
              have HPU := Lib.hid (HFL.out.push (by omega) HP.out HZ.out (of_decide_eq_true HIN.out))
              have hpb := HPU.out.bound
              have HME9 := Lib.hid (meas_push HME.out hpb)
              clear keepB hown9 hgrow9 hblk9 hg8 hpb hm8 hq8 p0 p1 u0 u1
              go_wp2
              go_roundg (4 - (0 + 1))
              case measure => rw [HGK.out]; decide
              case rel => exact ⟨0 + 1, (⟨k.x - 1, k.y - 1⟩ : Ck.Knot) :: V, S ++ [(⟨k.x - 1, k.y - 1⟩ : Ck.Knot)], mput M (⟨k.x - 1, k.y - 1⟩ : Ck.Knot) n, rfl, by omega, by go_num, HPU.out, by rw [kcellsL_snoc, List.length_append]; exact HO9.out, hob9, hm9, hg9, k0, k1, hB9, by rw [List.length_append]; exact HME9.out⟩
          · have hzb : (mget M (⟨k.x - 1, k.y - 1⟩ : Ck.Knot) == 0) = false := by simpa using hz
            have HZ := Lib.hid hz
            clear hz
            go_wp2_with fail
            refine (netOtherDown (k.x - 1) (k.y - 1) (1) k.x k.y _ (by omega)).mono ?_
            rintro e w5 ⟨rfl, hb5⟩
            have hq5 : Below wr.heap.size wr w5 := ((Below.refl _ _).alloc (Nat.le_refl _) _).trans (hb5.mono (by simp))
            have b0 : w5.cell? ⟨wr.heap.size, 0, none⟩ = some (.int .i64 (k.x - 1)) := by
              rw [hb5.cell (p := ⟨_, _, none⟩) (by simp), World.cell?_alloc_at _ _ _ _ (by simp)]; rfl
            have b1 : w5.cell? ⟨wr.heap.size, 1, none⟩ = some (.int .i64 (k.y - 1)) := by
              rw [hb5.cell (p := ⟨_, _, none⟩) (by simp), World.cell?_alloc_at _ _ _ _ (by simp)]; rfl
            have b2 : w5.cell? ⟨wr.heap.size, 2, none⟩ = some (.int .i64 (1)) := by
              rw [hb5.cell (p := ⟨_, _, none⟩) (by simp), World.cell?_alloc_at _ _ _ _ (by simp)]; rfl
            have hz5 : wr.heap.size < w5.heap.size := by have := hb5.size; simp at this; omega
            obtain ⟨w6, hw6, q0, q1, hb6, hz6⟩ := box2 w5 (.int .i64 (k.x - 1)) (.int .i64 (k.y - 1)) 26
            have HW6 := Lib.hid hw6
            clear hw6
            have hq6 : Below wr.heap.size wr w6 := hq5.trans (hb6.mono hq5.size)
            have hm6 := hmi.below hq6 hmi.lt
            go_wp2_with (at_lookup; refine wpList_lookup_kn _ rfl _ _ rfl b M (by rw [← HW6.out]; exact hm6) (⟨k.x - 1, k.y - 1⟩ : Ck.Knot) rfl rfl ?_)
            go_roundg (4 - (0 + 1))
            case measure => rw [HGK.out]; decide
            case rel => rw [← HW6.out]; exact ⟨0 + 1, V, S, M, rfl, by omega, by go_num, HFL.out.skip HCL.out H0.out HP.out (fun h => HZ.out h.1), ownsRow_below HOW.out hq6, HOB.out, hm6, gb_below hgi hq6, (hq6.cell (p := ⟨_, _, none⟩) hBz).trans e0, (hq6.cell (p := ⟨_, _, none⟩) hBz).trans e1, Nat.lt_of_lt_of_le hBz hq6.size, HME.out⟩
        · have hidx := ix1 (.int .i64 (k.x - 1)) (.int .i64 (k.y - 1)) (.int .i64 (1)) (.int .i64 (k.x + 1)) (.int .i64 (k.y - 1)) (.int .i64 (-1)) (.int .i64 (k.x)) (.int .i64 (k.y)) (.int .i64 (-1)) (.int .i64 (k.x)) (.int .i64 (k.y)) (.int .i64 (1))
          have HP := Lib.hid (show (nb k)[1]? = some ((⟨k.x + 1, k.y - 1, -1⟩ : Ck.Bar), (⟨k.x + 1, k.y - 1⟩ : Ck.Knot)) from rfl)
          by_cases hz : mget M (⟨k.x + 1, k.y - 1⟩ : Ck.Knot) = 0
          · have hzb : (mget M (⟨k.x + 1, k.y - 1⟩ : Ck.Knot) == 0) = true := by rw [hz]; rfl
            have HZ := Lib.hid hz
            clear hz
            cases hin : decide ((⟨k.x + 1, k.y - 1, -1⟩ : Ck.Bar) ∈ l)
            · have HIN := Lib.hid hin
              clear hin
              go_wp2_with fail
              refine (netOtherDown (k.x + 1) (k.y - 1) (-1) k.x k.y _ (by omega)).mono ?_
              rintro e w5 ⟨rfl, hb5⟩
              have hq5 : Below wr.heap.size wr w5 := ((Below.refl _ _).alloc (Nat.le_refl _) _).trans (hb5.mono (by simp))
              have b0 : w5.cell? ⟨wr.heap.size, 0, none⟩ = some (.int .i64 (k.x + 1)) := by
                rw [hb5.cell (p := ⟨_, _, none⟩) (by simp), World.cell?_alloc_at _ _ _ _ (by simp)]; rfl
              have b1 : w5.cell? ⟨wr.heap.size, 1, none⟩ = some (.int .i64 (k.y - 1)) := by
                rw [hb5.cell (p := ⟨_, _, none⟩) (by simp), World.cell?_alloc_at _ _ _ _ (by simp)]; rfl
              have b2 : w5.cell? ⟨wr.heap.size, 2, none⟩ = some (.int .i64 (-1)) := by
                rw [hb5.cell (p := ⟨_, _, none⟩) (by simp), World.cell?_alloc_at _ _ _ _ (by simp)]; rfl
              have hz5 : wr.heap.size < w5.heap.size := by have := hb5.size; simp at this; omega
              obtain ⟨w6, hw6, q0, q1, hb6, hz6⟩ := box2 w5 (.int .i64 (k.x + 1)) (.int .i64 (k.y - 1)) 26
              have HW6 := Lib.hid hw6
              clear hw6
              have hq6 : Below wr.heap.size wr w6 := hq5.trans (hb6.mono hq5.size)
              have hm6 := hmi.below hq6 hmi.lt
              go_wp2_with (at_lookup; refine wpList_lookup_kn _ rfl _ _ rfl b M (by rw [← HW6.out]; exact hm6) (⟨k.x + 1, k.y - 1⟩ : Ck.Knot) rfl rfl ?_)
              refine (netHasBar A c l _ _ _ _ hl HS.out (by rw [← HW6.out]; exact (HB.out.below hq6).more hq6.size)).mono ?_
              rintro e w7 ⟨rfl, hb7⟩
              rw [HIN.out]
              have hq7 : Below wr.heap.size wr w7 := hq6.trans ((HW6.out ▸ hb7).mono hq6.size)
              have hm7 := hmi.below hq7 hmi.lt
              go_wp2
              go_roundg (4 - (1 + 1))
              case measure => rw [HGK.out]; decide
              case rel => exact ⟨1 + 1, V, S, M, rfl, by omega, by go_num, HFL.out.skip HCL.out H0.out HP.out (fun h => by have := HIN.out; simp [h.2] at this), ownsRow_below HOW.out hq7, HOB.out, hm7, gb_below hgi hq7, (hq7.cell (p := ⟨_, _, none⟩) hBz).trans e0, (hq7.cell (p := ⟨_, _, none⟩) hBz).trans e1, Nat.lt_of_lt_of_le hBz hq7.size, HME.out⟩
            · have HIN := Lib.hid hin
              clear hin
              go_wp2_with fail
              refine (netOtherDown (k.x + 1) (k.y - 1) (-1) k.x k.y _ (by omega)).mono ?_
              rintro e w5 ⟨rfl, hb5⟩
              have hq5 : Below wr.heap.size wr w5 := ((Below.refl _ _).alloc (Nat.le_refl _) _).trans (hb5.mono (by simp))
              have b0 : w5.cell? ⟨wr.heap.size, 0, none⟩ = some (.int .i64 (k.x + 1)) := by
                rw [hb5.cell (p := ⟨_, _, none⟩) (by simp), World.cell?_alloc_at _ _ _ _ (by simp)]; rfl
              have b1 : w5.cell? ⟨wr.heap.size, 1, none⟩ = some (.int .i64 (k.y - 1)) := by
                rw [hb5.cell (p := ⟨_, _, none⟩) (by simp), World.cell?_alloc_at _ _ _ _ (by simp)]; rfl
              have b2 : w5.cell? ⟨wr.heap.size, 2, none⟩ = some (.int .i64 (-1)) := by
                rw [hb5.cell (p := ⟨_, _, none⟩) (by simp), World.cell?_alloc_at _ _ _ _ (by simp)]; rfl
              have hz5 : wr.heap.size < w5.heap.size := by have := hb5.size; simp at this; omega
              obtain ⟨w6, hw6, q0, q1, hb6, hz6⟩ := box2 w5 (.int .i64 (k.x + 1)) (.int .i64 (k.y - 1)) 26
              have HW6 := Lib.hid hw6
              clear hw6
              have hq6 : Below wr.heap.size wr w6 := hq5.trans (hb6.mono hq5.size)
              have hm6 := hmi.below hq6 hmi.lt
              go_wp2_with (at_lookup; refine wpList_lookup_kn _ rfl _ _ rfl b M (by rw [← HW6.out]; exact hm6) (⟨k.x + 1, k.y - 1⟩ : Ck.Knot) rfl rfl ?_)
              refine (netHasBar A c l _ _ _ _ hl HS.out (by rw [← HW6.out]; exact (HB.out.below hq6).more hq6.size)).mono ?_
              rintro e w7 ⟨rfl, hb7⟩
              rw [HIN.out]
              have hq7 : Below wr.heap.size wr w7 := hq6.trans ((HW6.out ▸ hb7).mono hq6.size)
              have hm7 := hmi.below hq7 hmi.lt
              have u0 : w7.cell? ⟨w5.heap.size, 0, none⟩ = some (.int .i64 (k.x + 1)) := ((HW6.out ▸ hb7).cell (p := ⟨_, _, none⟩) hz6).trans q0
              have u1 : w7.cell? ⟨w5.heap.size, 1, none⟩ = some (.int .i64 (k.y - 1)) := ((HW6.out ▸ hb7).cell (p := ⟨_, _, none⟩) hz6).trans q1
              have hz7 : w5.heap.size < w7.heap.size := Nat.lt_of_lt_of_le hz6 (HW6.out ▸ hb7).size
              have hbne : wo.heap.size ≠ b := by have := hgz0; omega
              have hst := HFL.out.stack
              have hbd := HFL.out.bound
              rw [HEL.out] at hbd
              go_wp2_with (first
                | (at_mapUpdate; go_loud (refine wpList_mapUpdate_kn _ rfl _ _ _ rfl b M hm7 (⟨k.x + 1, k.y - 1⟩ : Ck.Knot) n rfl rfl rfl ?_); intro w8 hm8 hg8; go_loud (have p0 : w8.cell? ⟨w5.heap.size, 0, none⟩ = some (.int .i64 (k.x + 1)) := (World.cell?_of_block (hg8.block _ hz7 (fun e => by have e2 : w5.heap.size = b := Option.some.inj e; omega))).trans u0); go_loud (have p1 : w8.cell? ⟨w5.heap.size, 1, none⟩ = some (.int .i64 (k.y - 1)) := (World.cell?_of_block (hg8.block _ hz7 (fun e => by have e2 : w5.heap.size = b := Option.some.inj e; omega))).trans u1); go_loud (have HO8 := Lib.hid ((ownsRow_below HOW.out hq7).kept hg8 (.inr (fun e => by have := ownsRow_base HOW.out b e; omega)))); have hg80 := hg8.size)
                | (at_builtin; refine wpList_append_own_at _ rfl _ _ 62 rfl w.heap.size 26 i0 (.agg #[.int .i64 0, .int .i64 0]) 2 16 Tryz.underlying62 HI.out HZ0.out HZ1.out HZ2.out rfl (by decide) _ _ _ rfl (HO8.out.alloc _) ⟨w8.heap.size, 0, none⟩ 1 1 [.int .i64 (k.x + 1), .int .i64 (k.y - 1)] rfl rfl (two_new _ _ _ _) ?c2 ?c3 ?c4 ?c5 ?_))
              case c2 => intro u hu; simp at hu; rcases hu with rfl | rfl <;> rfl
              case c3 => unfold maxLen; omega
              case c4 => omega
              case c5 => have := hq7.size; simp; omega
              intro v' w9 hown9 hgrow9 _ hblk9
              have hq8 : Below w8.heap.size w8 (w8.alloc (.cells #[.int .i64 (k.x + 1), .int .i64 (k.y - 1)] 26)) := (Below.refl _ _).alloc (Nat.le_refl _) _
              have hB7 : wo.heap.size < w7.heap.size := Nat.lt_of_lt_of_le hBz hq7.size
              have hB8 : wo.heap.size < w8.heap.size := Nat.lt_of_lt_of_le hB7 hg80
              have keepB : ∀ i, w9.cell? ⟨wo.heap.size, i, none⟩ = wr.cell? ⟨wo.heap.size, i, none⟩ := fun i =>
                (((World.cell?_of_block (hgrow9.block wo.heap.size (by simp; omega) (fun e => HOB.out e.symm))).trans (hq8.cell (p := ⟨_, i, none⟩) hB8)).trans (World.cell?_of_block (hg8.block wo.heap.size hB7 (fun e => hbne (by injection e))))).trans (hq7.cell (p := ⟨_, i, none⟩) hBz)
              have k0 := (keepB 0).trans e0
              have k1 := (keepB 1).trans e1
              have hm9 : MIs w9 b (mput M (⟨k.x + 1, k.y - 1⟩ : Ck.Knot) n) := (hm8.below hq8 hm8.lt).of_block (hgrow9.block b (by have := hm8.lt; simp; omega) (fun e => by have := ownsRow_base HOW.out b e.symm; omega))
              have hg9 : w.grownBy w9 (some b) := gb_row (gb_below ((gb_below hgi hq7).trans hg8) hq8) hgrow9 (ownsRow_base HOW.out)
              have hob9 : v'.ownBlock ≠ some wo.heap.size := by
                rcases hblk9 with h | h
                · rw [h]; exact HOB.out
                · rw [h]; intro e; have e' : w8.heap.size + 1 = wo.heap.size := Option.some.inj e; omega
              have hB9 : wo.heap.size < w9.heap.size := by have := hgrow9.size; simp at this; omega
              have HO9 := Lib.hid hown9
              have HPU := Lib.hid (HFL.out.push (by omega) HP.out HZ.out (of_decide_eq_true HIN.out))
              have hpb := HPU.out.bound
              have HME9 := Lib.hid (meas_push HME.out hpb)
              clear keepB hown9 hgrow9 hblk9 hg8 hpb hm8 hq8 p0 p1 u0 u1
              go_wp2
              go_roundg (4 - (1 + 1))
              case measure => rw [HGK.out]; decide
              case rel => exact ⟨1 + 1, (⟨k.x + 1, k.y - 1⟩ : Ck.Knot) :: V, S ++ [(⟨k.x + 1, k.y - 1⟩ : Ck.Knot)], mput M (⟨k.x + 1, k.y - 1⟩ : Ck.Knot) n, rfl, by omega, by go_num, HPU.out, by rw [kcellsL_snoc, List.length_append]; exact HO9.out, hob9, hm9, hg9, k0, k1, hB9, by rw [List.length_append]; exact HME9.out⟩
          · have hzb : (mget M (⟨k.x + 1, k.y - 1⟩ : Ck.Knot) == 0) = false := by simpa using hz
            have HZ := Lib.hid hz
            clear hz
            go_wp2_with fail
            refine (netOtherDown (k.x + 1) (k.y - 1) (-1) k.x k.y _ (by omega)).mono ?_
            rintro e w5 ⟨rfl, hb5⟩
            have hq5 : Below wr.heap.size wr w5 := ((Below.refl _ _).alloc (Nat.le_refl _) _).trans (hb5.mono (by simp))
            have b0 : w5.cell? ⟨wr.heap.size, 0, none⟩ = some (.int .i64 (k.x + 1)) := by
              rw [hb5.cell (p := ⟨_, _, none⟩) (by simp), World.cell?_alloc_at _ _ _ _ (by simp)]; rfl
            have b1 : w5.cell? ⟨wr.heap.size, 1, none⟩ = some (.int .i64 (k.y - 1)) := by
              rw [hb5.cell (p := ⟨_, _, none⟩) (by simp), World.cell?_alloc_at _ _ _ _ (by simp)]; rfl
            have b2 : w5.cell? ⟨wr.heap.size, 2, none⟩ = some (.int .i64 (-1)) := by
              rw [hb5.cell (p := ⟨_, _, none⟩) (by simp), World.cell?_alloc_at _ _ _ _ (by simp)]; rfl
            have hz5 : wr.heap.size < w5.heap.size := by have := hb5.size; simp at this; omega
            obtain ⟨w6, hw6, q0, q1, hb6, hz6⟩ := box2 w5 (.int .i64 (k.x + 1)) (.int .i64 (k.y - 1)) 26
            have HW6 := Lib.hid hw6
            clear hw6
            have hq6 : Below wr.heap.size wr w6 := hq5.trans (hb6.mono hq5.size)
            have hm6 := hmi.below hq6 hmi.lt
            go_wp2_with (at_lookup; refine wpList_lookup_kn _ rfl _ _ rfl b M (by rw [← HW6.out]; exact hm6) (⟨k.x + 1, k.y - 1⟩ : Ck.Knot) rfl rfl ?_)
            go_roundg (4 - (1 + 1))
            case measure => rw [HGK.out]; decide
            case rel => rw [← HW6.out]; exact ⟨1 + 1, V, S, M, rfl, by omega, by go_num, HFL.out.skip HCL.out H0.out HP.out (fun h => HZ.out h.1), ownsRow_below HOW.out hq6, HOB.out, hm6, gb_below hgi hq6, (hq6.cell (p := ⟨_, _, none⟩) hBz).trans e0, (hq6.cell (p := ⟨_, _, none⟩) hBz).trans e1, Nat.lt_of_lt_of_le hBz hq6.size, HME.out⟩
        · have hidx := ix2 (.int .i64 (k.x - 1)) (.int .i64 (k.y - 1)) (.int .i64 (1)) (.int .i64 (k.x + 1)) (.int .i64 (k.y - 1)) (.int .i64 (-1)) (.int .i64 (k.x)) (.int .i64 (k.y)) (.int .i64 (-1)) (.int .i64 (k.x)) (.int .i64 (k.y)) (.int .i64 (1))
          have HP := Lib.hid (show (nb k)[2]? = some ((⟨k.x, k.y, -1⟩ : Ck.Bar), (⟨k.x - 1, k.y + 1⟩ : Ck.Knot)) from rfl)
          by_cases hz : mget M (⟨k.x - 1, k.y + 1⟩ : Ck.Knot) = 0
          · have hzb : (mget M (⟨k.x - 1, k.y + 1⟩ : Ck.Knot) == 0) = true := by rw [hz]; rfl
            have HZ := Lib.hid hz
            clear hz
            cases hin : decide ((⟨k.x, k.y, -1⟩ : Ck.Bar) ∈ l)
            · have HIN := Lib.hid hin
              clear hin
              go_wp2_with fail
              refine (netOtherUp k.x k.y (-1) _ kx1 kx2 ky1 ky2 (by decide) (by decide)).mono ?_
              rintro e w5 ⟨rfl, hb5⟩
              rw [show k.x + -1 = k.x - 1 from by omega]
              have hq5 : Below wr.heap.size wr w5 := ((Below.refl _ _).alloc (Nat.le_refl _) _).trans (hb5.mono (by simp))
              have b0 : w5.cell? ⟨wr.heap.size, 0, none⟩ = some (.int .i64 (k.x)) := by
                rw [hb5.cell (p := ⟨_, _, none⟩) (by simp), World.cell?_alloc_at _ _ _ _ (by simp)]; rfl
              have b1 : w5.cell? ⟨wr.heap.size, 1, none⟩ = some (.int .i64 (k.y)) := by
                rw [hb5.cell (p := ⟨_, _, none⟩) (by simp), World.cell?_alloc_at _ _ _ _ (by simp)]; rfl
              have b2 : w5.cell? ⟨wr.heap.size, 2, none⟩ = some (.int .i64 (-1)) := by
                rw [hb5.cell (p := ⟨_, _, none⟩) (by simp), World.cell?_alloc_at _ _ _ _ (by simp)]; rfl
              have hz5 : wr.heap.size < w5.heap.size := by have := hb5.size; simp at this; omega
              obtain ⟨w6, hw6, q0, q1, hb6, hz6⟩ := box2 w5 (.int .i64 (k.x - 1)) (.int .i64 (k.y + 1)) 26
              have HW6 := Lib.hid hw6
              clear hw6
              have hq6 : Below wr.heap.size wr w6 := hq5.trans (hb6.mono hq5.size)
              have hm6 := hmi.below hq6 hmi.lt
              go_wp2_with (at_lookup; refine wpList_lookup_kn _ rfl _ _ rfl b M (by rw [← HW6.out]; exact hm6) (⟨k.x - 1, k.y + 1⟩ : Ck.Knot) rfl rfl ?_)
              refine (netHasBar A c l _ _ _ _ hl HS.out (by rw [← HW6.out]; exact (HB.out.below hq6).more hq6.size)).mono ?_
              rintro e w7 ⟨rfl, hb7⟩
              rw [HIN.out]
              have hq7 : Below wr.heap.size wr w7 := hq6.trans ((HW6.out ▸ hb7).mono hq6.size)
              have hm7 := hmi.below hq7 hmi.lt
              go_wp2
              go_roundg (4 - (2 + 1))
              case measure => rw [HGK.out]; decide
              case rel => exact ⟨2 + 1, V, S, M, rfl, by omega, by go_num, HFL.out.skip HCL.out H0.out HP.out (fun h => by have := HIN.out; simp [h.2] at this), ownsRow_below HOW.out hq7, HOB.out, hm7, gb_below hgi hq7, (hq7.cell (p := ⟨_, _, none⟩) hBz).trans e0, (hq7.cell (p := ⟨_, _, none⟩) hBz).trans e1, Nat.lt_of_lt_of_le hBz hq7.size, HME.out⟩
            · have HIN := Lib.hid hin
              clear hin
              go_wp2_with fail
              refine (netOtherUp k.x k.y (-1) _ kx1 kx2 ky1 ky2 (by decide) (by decide)).mono ?_
              rintro e w5 ⟨rfl, hb5⟩
              rw [show k.x + -1 = k.x - 1 from by omega]
              have hq5 : Below wr.heap.size wr w5 := ((Below.refl _ _).alloc (Nat.le_refl _) _).trans (hb5.mono (by simp))
              have b0 : w5.cell? ⟨wr.heap.size, 0, none⟩ = some (.int .i64 (k.x)) := by
                rw [hb5.cell (p := ⟨_, _, none⟩) (by simp), World.cell?_alloc_at _ _ _ _ (by simp)]; rfl
              have b1 : w5.cell? ⟨wr.heap.size, 1, none⟩ = some (.int .i64 (k.y)) := by
                rw [hb5.cell (p := ⟨_, _, none⟩) (by simp), World.cell?_alloc_at _ _ _ _ (by simp)]; rfl
              have b2 : w5.cell? ⟨wr.heap.size, 2, none⟩ = some (.int .i64 (-1)) := by
                rw [hb5.cell (p := ⟨_, _, none⟩) (by simp), World.cell?_alloc_at _ _ _ _ (by simp)]; rfl
              have hz5 : wr.heap.size < w5.heap.size := by have := hb5.size; simp at this; omega
              obtain ⟨w6, hw6, q0, q1, hb6, hz6⟩ := box2 w5 (.int .i64 (k.x - 1)) (.int .i64 (k.y + 1)) 26
              have HW6 := Lib.hid hw6
              clear hw6
              have hq6 : Below wr.heap.size wr w6 := hq5.trans (hb6.mono hq5.size)
              have hm6 := hmi.below hq6 hmi.lt
              go_wp2_with (at_lookup; refine wpList_lookup_kn _ rfl _ _ rfl b M (by rw [← HW6.out]; exact hm6) (⟨k.x - 1, k.y + 1⟩ : Ck.Knot) rfl rfl ?_)
              refine (netHasBar A c l _ _ _ _ hl HS.out (by rw [← HW6.out]; exact (HB.out.below hq6).more hq6.size)).mono ?_
              rintro e w7 ⟨rfl, hb7⟩
              rw [HIN.out]
              have hq7 : Below wr.heap.size wr w7 := hq6.trans ((HW6.out ▸ hb7).mono hq6.size)
              have hm7 := hmi.below hq7 hmi.lt
              have u0 : w7.cell? ⟨w5.heap.size, 0, none⟩ = some (.int .i64 (k.x - 1)) := ((HW6.out ▸ hb7).cell (p := ⟨_, _, none⟩) hz6).trans q0
              have u1 : w7.cell? ⟨w5.heap.size, 1, none⟩ = some (.int .i64 (k.y + 1)) := ((HW6.out ▸ hb7).cell (p := ⟨_, _, none⟩) hz6).trans q1
              have hz7 : w5.heap.size < w7.heap.size := Nat.lt_of_lt_of_le hz6 (HW6.out ▸ hb7).size
              have hbne : wo.heap.size ≠ b := by have := hgz0; omega
              have hst := HFL.out.stack
              have hbd := HFL.out.bound
              rw [HEL.out] at hbd
              go_wp2_with (first
                | (at_mapUpdate; go_loud (refine wpList_mapUpdate_kn _ rfl _ _ _ rfl b M hm7 (⟨k.x - 1, k.y + 1⟩ : Ck.Knot) n rfl rfl rfl ?_); intro w8 hm8 hg8; go_loud (have p0 : w8.cell? ⟨w5.heap.size, 0, none⟩ = some (.int .i64 (k.x - 1)) := (World.cell?_of_block (hg8.block _ hz7 (fun e => by have e2 : w5.heap.size = b := Option.some.inj e; omega))).trans u0); go_loud (have p1 : w8.cell? ⟨w5.heap.size, 1, none⟩ = some (.int .i64 (k.y + 1)) := (World.cell?_of_block (hg8.block _ hz7 (fun e => by have e2 : w5.heap.size = b := Option.some.inj e; omega))).trans u1); go_loud (have HO8 := Lib.hid ((ownsRow_below HOW.out hq7).kept hg8 (.inr (fun e => by have := ownsRow_base HOW.out b e; omega)))); have hg80 := hg8.size)
                | (at_builtin; refine wpList_append_own_at _ rfl _ _ 62 rfl w.heap.size 26 i0 (.agg #[.int .i64 0, .int .i64 0]) 2 16 Tryz.underlying62 HI.out HZ0.out HZ1.out HZ2.out rfl (by decide) _ _ _ rfl (HO8.out.alloc _) ⟨w8.heap.size, 0, none⟩ 1 1 [.int .i64 (k.x - 1), .int .i64 (k.y + 1)] rfl rfl (two_new _ _ _ _) ?c2 ?c3 ?c4 ?c5 ?_))
              case c2 => intro u hu; simp at hu; rcases hu with rfl | rfl <;> rfl
              case c3 => unfold maxLen; omega
              case c4 => omega
              case c5 => have := hq7.size; simp; omega
              intro v' w9 hown9 hgrow9 _ hblk9
              have hq8 : Below w8.heap.size w8 (w8.alloc (.cells #[.int .i64 (k.x - 1), .int .i64 (k.y + 1)] 26)) := (Below.refl _ _).alloc (Nat.le_refl _) _
              have hB7 : wo.heap.size < w7.heap.size := Nat.lt_of_lt_of_le hBz hq7.size
              have hB8 : wo.heap.size < w8.heap.size := Nat.lt_of_lt_of_le hB7 hg80
              have keepB : ∀ i, w9.cell? ⟨wo.heap.size, i, none⟩ = wr.cell? ⟨wo.heap.size, i, none⟩ := fun i =>
                (((World.cell?_of_block (hgrow9.block wo.heap.size (by simp; omega) (fun e => HOB.out e.symm))).trans (hq8.cell (p := ⟨_, i, none⟩) hB8)).trans (World.cell?_of_block (hg8.block wo.heap.size hB7 (fun e => hbne (by injection e))))).trans (hq7.cell (p := ⟨_, i, none⟩) hBz)
              have k0 := (keepB 0).trans e0
              have k1 := (keepB 1).trans e1
              have hm9 : MIs w9 b (mput M (⟨k.x - 1, k.y + 1⟩ : Ck.Knot) n) := (hm8.below hq8 hm8.lt).of_block (hgrow9.block b (by have := hm8.lt; simp; omega) (fun e => by have := ownsRow_base HOW.out b e.symm; omega))
              have hg9 : w.grownBy w9 (some b) := gb_row (gb_below ((gb_below hgi hq7).trans hg8) hq8) hgrow9 (ownsRow_base HOW.out)
              have hob9 : v'.ownBlock ≠ some wo.heap.size := by
                rcases hblk9 with h | h
                · rw [h]; exact HOB.out
                · rw [h]; intro e; have e' : w8.heap.size + 1 = wo.heap.size := Option.some.inj e; omega
              have hB9 : wo.heap.size < w9.heap.size := by have := hgrow9.size; simp at this; omega
              have HO9 := Lib.hid hown9
              have HPU := Lib.hid (HFL.out.push (by omega) HP.out HZ.out (of_decide_eq_true HIN.out))
              have hpb := HPU.out.bound
              have HME9 := Lib.hid (meas_push HME.out hpb)
              clear keepB hown9 hgrow9 hblk9 hg8 hpb hm8 hq8 p0 p1 u0 u1
              go_wp2
              go_roundg (4 - (2 + 1))
              case measure => rw [HGK.out]; decide
              case rel => exact ⟨2 + 1, (⟨k.x - 1, k.y + 1⟩ : Ck.Knot) :: V, S ++ [(⟨k.x - 1, k.y + 1⟩ : Ck.Knot)], mput M (⟨k.x - 1, k.y + 1⟩ : Ck.Knot) n, rfl, by omega, by go_num, HPU.out, by rw [kcellsL_snoc, List.length_append]; exact HO9.out, hob9, hm9, hg9, k0, k1, hB9, by rw [List.length_append]; exact HME9.out⟩
          · have hzb : (mget M (⟨k.x - 1, k.y + 1⟩ : Ck.Knot) == 0) = false := by simpa using hz
            have HZ := Lib.hid hz
            clear hz
            go_wp2_with fail
            refine (netOtherUp k.x k.y (-1) _ kx1 kx2 ky1 ky2 (by decide) (by decide)).mono ?_
            rintro e w5 ⟨rfl, hb5⟩
            rw [show k.x + -1 = k.x - 1 from by omega]
            have hq5 : Below wr.heap.size wr w5 := ((Below.refl _ _).alloc (Nat.le_refl _) _).trans (hb5.mono (by simp))
            have b0 : w5.cell? ⟨wr.heap.size, 0, none⟩ = some (.int .i64 (k.x)) := by
              rw [hb5.cell (p := ⟨_, _, none⟩) (by simp), World.cell?_alloc_at _ _ _ _ (by simp)]; rfl
            have b1 : w5.cell? ⟨wr.heap.size, 1, none⟩ = some (.int .i64 (k.y)) := by
              rw [hb5.cell (p := ⟨_, _, none⟩) (by simp), World.cell?_alloc_at _ _ _ _ (by simp)]; rfl
            have b2 : w5.cell? ⟨wr.heap.size, 2, none⟩ = some (.int .i64 (-1)) := by
              rw [hb5.cell (p := ⟨_, _, none⟩) (by simp), World.cell?_alloc_at _ _ _ _ (by simp)]; rfl
            have hz5 : wr.heap.size < w5.heap.size := by have := hb5.size; simp at this; omega
            obtain ⟨w6, hw6, q0, q1, hb6, hz6⟩ := box2 w5 (.int .i64 (k.x - 1)) (.int .i64 (k.y + 1)) 26
            have HW6 := Lib.hid hw6
            clear hw6
            have hq6 : Below wr.heap.size wr w6 := hq5.trans (hb6.mono hq5.size)
            have hm6 := hmi.below hq6 hmi.lt
            go_wp2_with (at_lookup; refine wpList_lookup_kn _ rfl _ _ rfl b M (by rw [← HW6.out]; exact hm6) (⟨k.x - 1, k.y + 1⟩ : Ck.Knot) rfl rfl ?_)
            go_roundg (4 - (2 + 1))
            case measure => rw [HGK.out]; decide
            case rel => rw [← HW6.out]; exact ⟨2 + 1, V, S, M, rfl, by omega, by go_num, HFL.out.skip HCL.out H0.out HP.out (fun h => HZ.out h.1), ownsRow_below HOW.out hq6, HOB.out, hm6, gb_below hgi hq6, (hq6.cell (p := ⟨_, _, none⟩) hBz).trans e0, (hq6.cell (p := ⟨_, _, none⟩) hBz).trans e1, Nat.lt_of_lt_of_le hBz hq6.size, HME.out⟩
        · have hidx := ix3 (.int .i64 (k.x - 1)) (.int .i64 (k.y - 1)) (.int .i64 (1)) (.int .i64 (k.x + 1)) (.int .i64 (k.y - 1)) (.int .i64 (-1)) (.int .i64 (k.x)) (.int .i64 (k.y)) (.int .i64 (-1)) (.int .i64 (k.x)) (.int .i64 (k.y)) (.int .i64 (1))
          have HP := Lib.hid (show (nb k)[3]? = some ((⟨k.x, k.y, 1⟩ : Ck.Bar), (⟨k.x + 1, k.y + 1⟩ : Ck.Knot)) from rfl)
          by_cases hz : mget M (⟨k.x + 1, k.y + 1⟩ : Ck.Knot) = 0
          · have hzb : (mget M (⟨k.x + 1, k.y + 1⟩ : Ck.Knot) == 0) = true := by rw [hz]; rfl
            have HZ := Lib.hid hz
            clear hz
            cases hin : decide ((⟨k.x, k.y, 1⟩ : Ck.Bar) ∈ l)
            · have HIN := Lib.hid hin
              clear hin
              go_wp2_with fail
              refine (netOtherUp k.x k.y (1) _ kx1 kx2 ky1 ky2 (by decide) (by decide)).mono ?_
              rintro e w5 ⟨rfl, hb5⟩
              have hq5 : Below wr.heap.size wr w5 := ((Below.refl _ _).alloc (Nat.le_refl _) _).trans (hb5.mono (by simp))
              have b0 : w5.cell? ⟨wr.heap.size, 0, none⟩ = some (.int .i64 (k.x)) := by
                rw [hb5.cell (p := ⟨_, _, none⟩) (by simp), World.cell?_alloc_at _ _ _ _ (by simp)]; rfl
              have b1 : w5.cell? ⟨wr.heap.size, 1, none⟩ = some (.int .i64 (k.y)) := by
                rw [hb5.cell (p := ⟨_, _, none⟩) (by simp), World.cell?_alloc_at _ _ _ _ (by simp)]; rfl
              have b2 : w5.cell? ⟨wr.heap.size, 2, none⟩ = some (.int .i64 (1)) := by
                rw [hb5.cell (p := ⟨_, _, none⟩) (by simp), World.cell?_alloc_at _ _ _ _ (by simp)]; rfl
              have hz5 : wr.heap.size < w5.heap.size := by have := hb5.size; simp at this; omega
              obtain ⟨w6, hw6, q0, q1, hb6, hz6⟩ := box2 w5 (.int .i64 (k.x + 1)) (.int .i64 (k.y + 1)) 26
              have HW6 := Lib.hid hw6
              clear hw6
              have hq6 : Below wr.heap.size wr w6 := hq5.trans (hb6.mono hq5.size)
              have hm6 := hmi.below hq6 hmi.lt
              go_wp2_with (at_lookup; refine wpList_lookup_kn _ rfl _ _ rfl b M (by rw [← HW6.out]; exact hm6) (⟨k.x + 1, k.y + 1⟩ : Ck.Knot) rfl rfl ?_)
              refine (netHasBar A c l _ _ _ _ hl HS.out (by rw [← HW6.out]; exact (HB.out.below hq6).more hq6.size)).mono ?_
              rintro e w7 ⟨rfl, hb7⟩
              rw [HIN.out]
              have hq7 : Below wr.heap.size wr w7 := hq6.trans ((HW6.out ▸ hb7).mono hq6.size)
              have hm7 := hmi.below hq7 hmi.lt
              go_wp2
              go_roundg (4 - (3 + 1))
              case measure => rw [HGK.out]; decide
              case rel => exact ⟨3 + 1, V, S, M, rfl, by omega, by go_num, HFL.out.skip HCL.out H0.out HP.out (fun h => by have := HIN.out; simp [h.2] at this), ownsRow_below HOW.out hq7, HOB.out, hm7, gb_below hgi hq7, (hq7.cell (p := ⟨_, _, none⟩) hBz).trans e0, (hq7.cell (p := ⟨_, _, none⟩) hBz).trans e1, Nat.lt_of_lt_of_le hBz hq7.size, HME.out⟩
            · have HIN := Lib.hid hin
              clear hin
              go_wp2_with fail
              refine (netOtherUp k.x k.y (1) _ kx1 kx2 ky1 ky2 (by decide) (by decide)).mono ?_
              rintro e w5 ⟨rfl, hb5⟩
              have hq5 : Below wr.heap.size wr w5 := ((Below.refl _ _).alloc (Nat.le_refl _) _).trans (hb5.mono (by simp))
              have b0 : w5.cell? ⟨wr.heap.size, 0, none⟩ = some (.int .i64 (k.x)) := by
                rw [hb5.cell (p := ⟨_, _, none⟩) (by simp), World.cell?_alloc_at _ _ _ _ (by simp)]; rfl
              have b1 : w5.cell? ⟨wr.heap.size, 1, none⟩ = some (.int .i64 (k.y)) := by
                rw [hb5.cell (p := ⟨_, _, none⟩) (by simp), World.cell?_alloc_at _ _ _ _ (by simp)]; rfl
              have b2 : w5.cell? ⟨wr.heap.size, 2, none⟩ = some (.int .i64 (1)) := by
                rw [hb5.cell (p := ⟨_, _, none⟩) (by simp), World.cell?_alloc_at _ _ _ _ (by simp)]; rfl
              have hz5 : wr.heap.size < w5.heap.size := by have := hb5.size; simp at this; omega
              obtain ⟨w6, hw6, q0, q1, hb6, hz6⟩ := box2 w5 (.int .i64 (k.x + 1)) (.int .i64 (k.y + 1)) 26
              have HW6 := Lib.hid hw6
              clear hw6
              have hq6 : Below wr.heap.size wr w6 := hq5.trans (hb6.mono hq5.size)
              have hm6 := hmi.below hq6 hmi.lt
              go_wp2_with (at_lookup; refine wpList_lookup_kn _ rfl _ _ rfl b M (by rw [← HW6.out]; exact hm6) (⟨k.x + 1, k.y + 1⟩ : Ck.Knot) rfl rfl ?_)
              refine (netHasBar A c l _ _ _ _ hl HS.out (by rw [← HW6.out]; exact (HB.out.below hq6).more hq6.size)).mono ?_
              rintro e w7 ⟨rfl, hb7⟩
              rw [HIN.out]
              have hq7 : Below wr.heap.size wr w7 := hq6.trans ((HW6.out ▸ hb7).mono hq6.size)
              have hm7 := hmi.below hq7 hmi.lt
              have u0 : w7.cell? ⟨w5.heap.size, 0, none⟩ = some (.int .i64 (k.x + 1)) := ((HW6.out ▸ hb7).cell (p := ⟨_, _, none⟩) hz6).trans q0
              have u1 : w7.cell? ⟨w5.heap.size, 1, none⟩ = some (.int .i64 (k.y + 1)) := ((HW6.out ▸ hb7).cell (p := ⟨_, _, none⟩) hz6).trans q1
              have hz7 : w5.heap.size < w7.heap.size := Nat.lt_of_lt_of_le hz6 (HW6.out ▸ hb7).size
              have hbne : wo.heap.size ≠ b := by have := hgz0; omega
              have hst := HFL.out.stack
              have hbd := HFL.out.bound
              rw [HEL.out] at hbd
              go_wp2_with (first
                | (at_mapUpdate; go_loud (refine wpList_mapUpdate_kn _ rfl _ _ _ rfl b M hm7 (⟨k.x + 1, k.y + 1⟩ : Ck.Knot) n rfl rfl rfl ?_); intro w8 hm8 hg8; go_loud (have p0 : w8.cell? ⟨w5.heap.size, 0, none⟩ = some (.int .i64 (k.x + 1)) := (World.cell?_of_block (hg8.block _ hz7 (fun e => by have e2 : w5.heap.size = b := Option.some.inj e; omega))).trans u0); go_loud (have p1 : w8.cell? ⟨w5.heap.size, 1, none⟩ = some (.int .i64 (k.y + 1)) := (World.cell?_of_block (hg8.block _ hz7 (fun e => by have e2 : w5.heap.size = b := Option.some.inj e; omega))).trans u1); go_loud (have HO8 := Lib.hid ((ownsRow_below HOW.out hq7).kept hg8 (.inr (fun e => by have := ownsRow_base HOW.out b e; omega)))); have hg80 := hg8.size)
                | (at_builtin; refine wpList_append_own_at _ rfl _ _ 62 rfl w.heap.size 26 i0 (.agg #[.int .i64 0, .int .i64 0]) 2 16 Tryz.underlying62 HI.out HZ0.out HZ1.out HZ2.out rfl (by decide) _ _ _ rfl (HO8.out.alloc _) ⟨w8.heap.size, 0, none⟩ 1 1 [.int .i64 (k.x + 1), .int .i64 (k.y + 1)] rfl rfl (two_new _ _ _ _) ?c2 ?c3 ?c4 ?c5 ?_))
              case c2 => intro u hu; simp at hu; rcases hu with rfl | rfl <;> rfl
              case c3 => unfold maxLen; omega
              case c4 => omega
              case c5 => have := hq7.size; simp; omega
              intro v' w9 hown9 hgrow9 _ hblk9
              have hq8 : Below w8.heap.size w8 (w8.alloc (.cells #[.int .i64 (k.x + 1), .int .i64 (k.y + 1)] 26)) := (Below.refl _ _).alloc (Nat.le_refl _) _
              have hB7 : wo.heap.size < w7.heap.size := Nat.lt_of_lt_of_le hBz hq7.size
              have hB8 : wo.heap.size < w8.heap.size := Nat.lt_of_lt_of_le hB7 hg80
              have keepB : ∀ i, w9.cell? ⟨wo.heap.size, i, none⟩ = wr.cell? ⟨wo.heap.size, i, none⟩ := fun i =>
                (((World.cell?_of_block (hgrow9.block wo.heap.size (by simp; omega) (fun e => HOB.out e.symm))).trans (hq8.cell (p := ⟨_, i, none⟩) hB8)).trans (World.cell?_of_block (hg8.block wo.heap.size hB7 (fun e => hbne (by injection e))))).trans (hq7.cell (p := ⟨_, i, none⟩) hBz)
              have k0 := (keepB 0).trans e0
              have k1 := (keepB 1).trans e1
              have hm9 : MIs w9 b (mput M (⟨k.x + 1, k.y + 1⟩ : Ck.Knot) n) := (hm8.below hq8 hm8.lt).of_block (hgrow9.block b (by have := hm8.lt; simp; omega) (fun e => by have := ownsRow_base HOW.out b e.symm; omega))
              have hg9 : w.grownBy w9 (some b) := gb_row (gb_below ((gb_below hgi hq7).trans hg8) hq8) hgrow9 (ownsRow_base HOW.out)
              have hob9 : v'.ownBlock ≠ some wo.heap.size := by
                rcases hblk9 with h | h
                · rw [h]; exact HOB.out
                · rw [h]; intro e; have e' : w8.heap.size + 1 = wo.heap.size := Option.some.inj e; omega
              have hB9 : wo.heap.size < w9.heap.size := by have := hgrow9.size; simp at this; omega
              have HO9 := Lib.hid hown9
              have HPU := Lib.hid (HFL.out.push (by omega) HP.out HZ.out (of_decide_eq_true HIN.out))
              have hpb := HPU.out.bound
              have HME9 := Lib.hid (meas_push HME.out hpb)
              clear keepB hown9 hgrow9 hblk9 hg8 hpb hm8 hq8 p0 p1 u0 u1
              go_wp2
              go_roundg (4 - (3 + 1))
              case measure => rw [HGK.out]; decide
              case rel => exact ⟨3 + 1, (⟨k.x + 1, k.y + 1⟩ : Ck.Knot) :: V, S ++ [(⟨k.x + 1, k.y + 1⟩ : Ck.Knot)], mput M (⟨k.x + 1, k.y + 1⟩ : Ck.Knot) n, rfl, by omega, by go_num, HPU.out, by rw [kcellsL_snoc, List.length_append]; exact HO9.out, hob9, hm9, hg9, k0, k1, hB9, by rw [List.length_append]; exact HME9.out⟩
          · have hzb : (mget M (⟨k.x + 1, k.y + 1⟩ : Ck.Knot) == 0) = false := by simpa using hz
            have HZ := Lib.hid hz
            clear hz
            go_wp2_with fail
            refine (netOtherUp k.x k.y (1) _ kx1 kx2 ky1 ky2 (by decide) (by decide)).mono ?_
            rintro e w5 ⟨rfl, hb5⟩
            have hq5 : Below wr.heap.size wr w5 := ((Below.refl _ _).alloc (Nat.le_refl _) _).trans (hb5.mono (by simp))
            have b0 : w5.cell? ⟨wr.heap.size, 0, none⟩ = some (.int .i64 (k.x)) := by
              rw [hb5.cell (p := ⟨_, _, none⟩) (by simp), World.cell?_alloc_at _ _ _ _ (by simp)]; rfl
            have b1 : w5.cell? ⟨wr.heap.size, 1, none⟩ = some (.int .i64 (k.y)) := by
              rw [hb5.cell (p := ⟨_, _, none⟩) (by simp), World.cell?_alloc_at _ _ _ _ (by simp)]; rfl
            have b2 : w5.cell? ⟨wr.heap.size, 2, none⟩ = some (.int .i64 (1)) := by
              rw [hb5.cell (p := ⟨_, _, none⟩) (by simp), World.cell?_alloc_at _ _ _ _ (by simp)]; rfl
            have hz5 : wr.heap.size < w5.heap.size := by have := hb5.size; simp at this; omega
            obtain ⟨w6, hw6, q0, q1, hb6, hz6⟩ := box2 w5 (.int .i64 (k.x + 1)) (.int .i64 (k.y + 1)) 26
            have HW6 := Lib.hid hw6
            clear hw6
            have hq6 : Below wr.heap.size wr w6 := hq5.trans (hb6.mono hq5.size)
            have hm6 := hmi.below hq6 hmi.lt
            go_wp2_with (at_lookup; refine wpList_lookup_kn _ rfl _ _ rfl b M (by rw [← HW6.out]; exact hm6) (⟨k.x + 1, k.y + 1⟩ : Ck.Knot) rfl rfl ?_)
            go_roundg (4 - (3 + 1))
            case measure => rw [HGK.out]; decide
            case rel => rw [← HW6.out]; exact ⟨3 + 1, V, S, M, rfl, by omega, by go_num, HFL.out.skip HCL.out H0.out HP.out (fun h => HZ.out h.1), ownsRow_below HOW.out hq6, HOB.out, hm6, gb_below hgi hq6, (hq6.cell (p := ⟨_, _, none⟩) hBz).trans e0, (hq6.cell (p := ⟨_, _, none⟩) hBz).trans e1, Nat.lt_of_lt_of_le hBz hq6.size, HME.out⟩
        · go_wp2
          go_roundg (2 * ((Ck.ends l).length - V.length) + S.length)
          case measure => exact HME.out
          case rel => exact ⟨V, S, M, rfl, HFL.out.done, HOW.out, hmi, hgi⟩
end Go.Proofs.YtdeplhihcifmeaaGreatDoor

/- Plain mathematics of the parts: what holds of the numbers after some bars have been gone through. -/
namespace Go.Proofs.YtdeplhihcifmeaaGreatDoor
open Ck

structure Pt (l : List Bar) (i : Nat) (count : Nat) (M : List (Knot × Int)) : Prop where
  num : ∀ k, mget M k ≠ 0 ↔ ∃ b ∈ l.take i, Conn l b.lo k
  lo : ∀ k, 0 ≤ mget M k
  hi : ∀ k, mget M k ≤ count
  le : count ≤ i
  cnt : ∀ n, CntIs l ((l.take i).map Bar.lo).reverse (l.drop i) n → CntIs l [] l (count + n)
theorem Pt.start (l : List Bar) : Pt l 0 0 [] where
  num k := by simp [mget]
  lo k := by simp [mget]
  hi k := by simp [mget]
  le := Nat.le_refl _
  cnt n h := by simpa using h
theorem Pt.closed {l : List Bar} {i count : Nat} {M : List (Knot × Int)} (h : Pt l i count M) : Closed l M := fun b hb k m ha hk => by
  obtain ⟨c, hc, hcc⟩ := (h.num k).1 hk
  exact (h.num m).2 ⟨c, hc, hcc.trans (.one hb ha)⟩
theorem mem_take_succ {l : List Bar} {i : Nat} (hi : i < l.length) {b : Bar} : b ∈ l.take (i + 1) ↔ b ∈ l.take i ∨ b = l[i] := by
  rw [List.take_succ_eq_append_getElem hi, List.mem_append, List.mem_singleton]
theorem seen_iff {l : List Bar} {i : Nat} {k : Knot} : (∃ s ∈ ((l.take i).map Bar.lo).reverse, Conn l s k) ↔ ∃ b ∈ l.take i, Conn l b.lo k := by
  constructor
  · rintro ⟨s, hs, h⟩
    rw [List.mem_reverse, List.mem_map] at hs
    obtain ⟨b, hb, rfl⟩ := hs
    exact ⟨b, hb, h⟩
  · rintro ⟨b, hb, h⟩
    exact ⟨b.lo, by rw [List.mem_reverse, List.mem_map]; exact ⟨b, hb, rfl⟩, h⟩
theorem seen_succ {l : List Bar} {i : Nat} (hi : i < l.length) : ((l.take (i + 1)).map Bar.lo).reverse = l[i].lo :: ((l.take i).map Bar.lo).reverse := by
  rw [List.take_succ_eq_append_getElem hi, List.map_append, List.reverse_append]
  rfl
theorem Pt.old {l : List Bar} {i count : Nat} {M : List (Knot × Int)} (h : Pt l i count M) (hi : i < l.length) (hz : ¬ mget M l[i].lo = 0) : Pt l (i + 1) count M where
  num k := by
    rw [h.num]
    constructor
    · rintro ⟨b, hb, hc⟩
      exact ⟨b, (mem_take_succ hi).2 (.inl hb), hc⟩
    · rintro ⟨b, hb, hc⟩
      rcases (mem_take_succ hi).1 hb with hb | hb
      · exact ⟨b, hb, hc⟩
      · subst hb
        obtain ⟨c, hc2, hcc⟩ := (h.num _).1 hz
        exact ⟨c, hc2, hcc.trans hc⟩
  lo := h.lo
  hi := h.hi
  le := Nat.le_succ_of_le h.le
  cnt n hn := h.cnt n (by
    rw [List.drop_eq_getElem_cons hi]
    exact .old (seen_iff.2 ((h.num _).1 hz)) (by rw [seen_succ hi] at hn; exact hn))
theorem Pt.fresh {l : List Bar} {i count : Nat} {M M' : List (Knot × Int)} (h : Pt l i count M) (hi : i < l.length) (hz : mget M l[i].lo = 0)
    (h1 : ∀ k, Conn l l[i].lo k → mget M' k = ((count + 1 : Nat) : Int)) (h2 : ∀ k, ¬ Conn l l[i].lo k → mget M' k = mget M k) : Pt l (i + 1) (count + 1) M' where
  num k := by
    by_cases hc : Conn l l[i].lo k
    · rw [h1 k hc]
      refine ⟨fun _ => ⟨l[i], (mem_take_succ hi).2 (.inr rfl), hc⟩, fun _ => by omega⟩
    · rw [h2 k hc, h.num]
      constructor
      · rintro ⟨b, hb, hcc⟩
        exact ⟨b, (mem_take_succ hi).2 (.inl hb), hcc⟩
      · rintro ⟨b, hb, hcc⟩
        rcases (mem_take_succ hi).1 hb with hb | hb
        · exact ⟨b, hb, hcc⟩
        · subst hb
          exact absurd hcc hc
  lo k := by
    by_cases hc : Conn l l[i].lo k
    · rw [h1 k hc]; omega
    · rw [h2 k hc]; exact h.lo k
  hi k := by
    by_cases hc : Conn l l[i].lo k
    · rw [h1 k hc]; omega
    · rw [h2 k hc]; have := h.hi k; omega
  le := Nat.succ_le_succ h.le
  cnt n hn := by
    rw [show count + 1 + n = count + (n + 1) from by omega]
    refine h.cnt (n + 1) ?_
    rw [List.drop_eq_getElem_cons hi]
    exact .fresh (fun e => (h.num _).2 (seen_iff.1 e) hz) (by rw [seen_succ hi] at hn; exact hn)
theorem Pt.done {l : List Bar} {count : Nat} {M : List (Knot × Int)} (h : Pt l l.length count M) : PartsIs l count := by
  have := h.cnt 0 (by rw [List.drop_length]; exact .nil _)
  exact this
theorem Pt.pos {l : List Bar} {count : Nat} {M : List (Knot × Int)} (h : Pt l l.length count M) {b : Bar} (hb : b ∈ l) : 0 < mget M b.lo ∧ mget M b.lo ≤ count := by
  have h1 := (h.num b.lo).2 ⟨b, by rw [List.take_length]; exact hb, .refl _⟩
  have h2 := h.lo b.lo
  exact ⟨by omega, h.hi _⟩
end Go.Proofs.YtdeplhihcifmeaaGreatDoor

/- A slice of slices of bars that the call itself fills: its block, and the rows that it owns. -/
namespace Go.Proofs.YtdeplhihcifmeaaGreatDoor
open Go.RowKit

structure Heads (W : World) (base P n K : Nat) (cur : Array Value) : Prop where
  blk : W.heap[P]? = some (.cells cur 22 (0, 0))
  size : cur.size = n
  own : ∀ j (h : j < cur.size), ∃ m xs, W.ownsRow base 24 3 cur[j] m xs ∧ m ≤ K
  apart : ∀ j j' (h : j < cur.size) (h' : j' < cur.size), j ≠ j' → cur[j].ownBlock = none ∨ cur[j].ownBlock ≠ cur[j'].ownBlock
theorem Heads.lt {W : World} {base P n K : Nat} {cur : Array Value} (h : Heads W base P n K cur) : P < W.heap.size := (Array.getElem?_eq_some_iff.1 h.blk).1
theorem Heads.cell {W : World} {base P n K : Nat} {cur : Array Value} (h : Heads W base P n K cur) {q : Nat} (hq : q < cur.size) : W.cell? ⟨P, q, none⟩ = some cur[q] := by
  simp [World.cell?, h.blk, Array.getElem?_eq_getElem hq]
theorem Heads.frozen {W : World} {base P n K : Nat} {cur : Array Value} (h : Heads W base P n K cur) (q : Nat) : W.frozen? ⟨P, q, none⟩ = false := by
  simp [World.frozen?, h.blk]
theorem own_block_ne {W : World} {base P : Nat} {e t : TypeId} {size n : Nat} {v : Value} {xs : List Value} {cur : Array Value} (h : W.ownsRow base e size v n xs) (hb : W.heap[P]? = some (.cells cur t (0, 0))) (hne : e ≠ t) : v.ownBlock ≠ some P := by
  intro he
  rcases h.2 with ⟨rfl, _⟩ | ⟨g, cap, c, rfl, _, hh, _⟩
  · cases he
  · have : g = P := by injection he
    subst this
    rw [hh] at hb
    injection hb with hb
    injection hb with _ ht
    exact hne ht
theorem own_map_ne {W : World} {base b : Nat} {e : TypeId} {size n : Nat} {v : Value} {xs : List Value} {m : List (Ck.Knot × Int)} (h : W.ownsRow base e size v n xs) (hb : MIs W b m) : v.ownBlock ≠ some b := by
  intro he
  obtain ⟨es, clock, h1, _⟩ := hb
  rcases h.2 with ⟨rfl, _⟩ | ⟨g, cap, c, rfl, _, hh, _⟩
  · cases he
  · have : g = b := by injection he
    subst this
    rw [hh] at h1
    cases h1
theorem own_lt {W : World} {base : Nat} {e : TypeId} {size n g : Nat} {v : Value} {xs : List Value} (h : W.ownsRow base e size v n xs) (hb : v.ownBlock = some g) : g < W.heap.size := by
  rcases h.2 with ⟨rfl, _⟩ | ⟨g', cap, c, rfl, _, hh, _⟩
  · cases hb
  · have : g' = g := by injection hb
    subst this
    exact (Array.getElem?_eq_some_iff.1 hh).1
theorem Heads.below {W W' : World} {base P n K : Nat} {cur : Array Value} (h : Heads W base P n K cur) (hb : Below W.heap.size W W') : Heads W' base P n K cur where
  blk := (hb.block P h.lt).trans h.blk
  size := h.size
  own j hj := by
    obtain ⟨m, xs, h1, h2⟩ := h.own j hj
    exact ⟨m, xs, ownsRow_below h1 hb, h2⟩
  apart := h.apart
theorem setCell_grown (W : World) (P q : Nat) (v : Value) : W.grownBy (W.setCell ⟨P, q, none⟩ v) (some P) :=
  ⟨rfl, rfl, rfl, by simp [World.setCell], fun i _ hi => Below.heap_setCell _ _ _ _ (fun e => hi (by rw [e]))⟩
theorem Heads.step {W W1 W2 : World} {base P n K q m g cap : Nat} {cur : Array Value} {xs' : List Value} (h : Heads W base P n K cur) (hW : Below W.heap.size W W1) (hq : q < cur.size)
    (hown : W2.ownsRow base 24 3 (.slice (some ⟨g, 0, none⟩) m cap) m xs') (hm : m ≤ K + 1) (hg : W1.grownBy W2 cur[q].ownBlock) (hblk : cur[q].ownBlock = some g ∨ g = W1.heap.size) :
    Heads (W2.setCell ⟨P, q, none⟩ (.slice (some ⟨g, 0, none⟩) m cap)) base P n (K + 1) (cur.set q (.slice (some ⟨g, 0, none⟩) m cap)) := by
  have hT : (24 : Nat) ≠ 22 := by decide
  have h1 := h.below hW
  obtain ⟨mq, xq, oq, _⟩ := h1.own q hq
  have hPne := own_block_ne oq h1.blk hT
  have hP2 : W2.heap[P]? = some (.cells cur 22 (0, 0)) := (hg.block P h1.lt (fun e => hPne e.symm)).trans h1.blk
  have hs := setCell_grown W2 P q (.slice (some ⟨g, 0, none⟩) m cap)
  have hgne : (Value.slice (some ⟨g, 0, none⟩) m cap).ownBlock ≠ some P := own_block_ne hown hP2 hT
  have hold : ∀ j (hj : j < cur.size) (hjq : j ≠ q), ∃ m xs, W2.ownsRow base 24 3 cur[j] m xs ∧ m ≤ K := fun j hj hjq => by
    obtain ⟨mj, xj, oj, hmj⟩ := h1.own j hj
    exact ⟨mj, xj, oj.kept hg (h.apart j q hj hq hjq), hmj⟩
  refine ⟨?_, by rw [Array.size_set, h.size], fun j hj => ?_, fun j j' hj hj' hne => ?_⟩
  · simp only [World.setCell, Array.getElem?_modify, hP2]
    simp [Array.setIfInBounds, hq]
  · rw [Array.size_set] at hj
    by_cases hjq : q = j
    · subst hjq
      rw [Array.getElem_set_self]
      exact ⟨m, xs', hown.kept hs (.inr hgne), hm⟩
    · rw [Array.getElem_set_ne _ hj hjq]
      obtain ⟨mj, xj, oj, hmj⟩ := hold j hj (fun e => hjq e.symm)
      exact ⟨mj, xj, oj.kept hs (.inr (own_block_ne oj hP2 hT)), by omega⟩
  · rw [Array.size_set] at hj hj'
    have other : ∀ i (hi : i < cur.size), i ≠ q → cur[i].ownBlock = none ∨ cur[i].ownBlock ≠ some g := fun i hi hiq => by
      rcases hblk with hb | hb
      · rw [← hb]; exact h.apart i q hi hq hiq
      · refine .inr (fun e => ?_)
        obtain ⟨mi, xi, oi, _⟩ := h1.own i hi
        have := own_lt oi e
        omega
    by_cases e1 : q = j
    · subst e1
      rw [Array.getElem_set_self, Array.getElem_set_ne _ hj' hne]
      refine .inr (fun e => ?_)
      rcases other j' hj' (fun e => hne e.symm) with h' | h'
      · rw [h'] at e; cases e
      · exact h' e.symm
    · rw [Array.getElem_set_ne _ hj e1]
      by_cases e2 : q = j'
      · subst e2
        rw [Array.getElem_set_self]
        exact other j hj (fun e => e1 e.symm)
      · rw [Array.getElem_set_ne _ hj' e2]
        exact h.apart j j' hj hj' hne
end Go.Proofs.YtdeplhihcifmeaaGreatDoor
