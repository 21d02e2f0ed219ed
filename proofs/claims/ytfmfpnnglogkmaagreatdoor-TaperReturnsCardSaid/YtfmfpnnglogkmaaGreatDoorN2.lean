/- Helpers: N2. -/
import Derived.Test.YtfmfpnnglogkmaaGreatDoorN1
import Derived.Maps.OwnOps
import Derived.WalkSmall
import Derived.Maps.Range
import Derived.Sort.MapsRangeIn
import Derived.RangeFuncSeq
import Derived.Deep.LoopGhost
import Derived.Maps.AppendAt
import Derived.Laws.MakeOwn
import Derived.Deep.AppendLies
import Derived.Deep.RegionLaw
import Derived.RangeFuncNested
import Derived.RangeFuncBound
import Derived.RangeFuncCalls
import Derived.RangeFuncLeaves
import Derived.Shelf.Abstract
import Derived.OwnWalkIn
import Derived.TacticsInMore
import Derived.LoopNIn
import Derived.LoopIn
import Derived.Shelf.AbstractIn
import Derived.Shelf.Strings.BuilderK
/- The contract of otherEnd. -/
namespace Go.Proofs.YtfmfpnnglogkmaaGreatDoor
open Go.RowKit

theorem keep322 {W w1 w2 : World} {g : Nat} {a b c d e : Value} {o : Obj} (h : w1.cell? ⟨g, 0, none⟩ = some a ∧ w1.cell? ⟨g, 1, none⟩ = some b ∧ w1.cell? ⟨g, 2, none⟩ = some c ∧ w1.cell? ⟨g + 1, 0, none⟩ = some d ∧ w1.cell? ⟨g + 1, 1, none⟩ = some e ∧ w1.heap[g + 2]? = some o ∧ Below g W w1 ∧ g + 2 < w1.heap.size) (hb : Below w1.heap.size w1 w2) :
    w2.cell? ⟨g, 0, none⟩ = some a ∧ w2.cell? ⟨g, 1, none⟩ = some b ∧ w2.cell? ⟨g, 2, none⟩ = some c ∧ w2.cell? ⟨g + 1, 0, none⟩ = some d ∧ w2.cell? ⟨g + 1, 1, none⟩ = some e ∧ w2.heap[g + 2]? = some o ∧ Below g W w2 ∧ g + 2 < w2.heap.size := by
  obtain ⟨h0, h1, h2, h3, h4, h5, h6, h7⟩ := h
  exact ⟨(hb.cell (p := ⟨g, 0, none⟩) (by show g < _; omega)).trans h0, (hb.cell (p := ⟨g, 1, none⟩) (by show g < _; omega)).trans h1, (hb.cell (p := ⟨g, 2, none⟩) (by show g < _; omega)).trans h2,
    (hb.cell (p := ⟨g + 1, 0, none⟩) (by show g + 1 < _; omega)).trans h3, (hb.cell (p := ⟨g + 1, 1, none⟩) (by show g + 1 < _; omega)).trans h4, (hb.block _ h7).trans h5, h6.trans (hb.mono (by omega)), by have := hb.size; omega⟩
theorem two_of_block {w : World} {g : Nat} {a b : Value} {t : TypeId} (h : w.heap[g]? = some (.cells #[a, b] t (0, 0))) : w.cell? ⟨g, 0, none⟩ = some a ∧ w.cell? ⟨g, 1, none⟩ = some b ∧ ∀ i, w.frozen? ⟨g, i, none⟩ = false := by
  refine ⟨?_, ?_, fun i => ?_⟩ <;> simp [World.cell?, World.frozen?, h]
theorem eqKnot' (a b : Ck.Knot) (r : Bool) (hr : decide (a = b) = r) (w : World) : (Op.equalIn 10000 43 (.agg #[.int .i64 a.x, .int .i64 a.y]) (.agg #[.int .i64 b.x, .int .i64 b.y])).run Tryz.prog w = .ok r w := hr ▸ eqKnot a b w
theorem guardKnot : Tryz.prog.eqGuardType Tryz.prog.depth 43 = false := by kernel_rfl

end Go.Proofs.YtfmfpnnglogkmaaGreatDoor

/- What is kept where a map's block and a row of the call's own are written; the map's operations as laws of the walk. -/
namespace Go.Proofs.YtfmfpnnglogkmaaGreatDoor
open Go.RowKit

theorem gb_of_below {w w' : World} {r : Option Nat} (h : Below w.heap.size w w') : w.grownBy w' r := ⟨h.os, h.tape, h.output, h.size, fun i hi _ => h.block i hi⟩
theorem gb_below {w w1 w2 : World} {r : Option Nat} (h : w.grownBy w1 r) (hb : Below w1.heap.size w1 w2) : w.grownBy w2 r :=
  ⟨hb.os.trans h.os, hb.tape.trans h.tape, hb.output.trans h.output, Nat.le_trans h.size hb.size, fun i hi hr => (hb.block i (Nat.lt_of_lt_of_le hi h.size)).trans (h.block i hi hr)⟩
theorem gb_row {w w1 w2 : World} {r s : Option Nat} (h : w.grownBy w1 r) (hg : w1.grownBy w2 s) (hs : ∀ g, s = some g → w.heap.size ≤ g) : w.grownBy w2 r :=
  ⟨hg.os.trans h.os, hg.tape.trans h.tape, hg.output.trans h.output, Nat.le_trans h.size hg.size, fun i hi hr => (hg.block i (Nat.lt_of_lt_of_le hi h.size) (fun e => by have := hs i e.symm; omega)).trans (h.block i hi hr)⟩
theorem RB.grown {w w' : World} {B b : Nat} {A : Option Addr} {l : List Ck.Bar} {m : List (Ck.Knot × Int)} (h : RB w B A l) (hm : MIs w b m) (hB : B ≤ w.heap.size) (hg : w.grownBy w' (some b)) : RB w' B A l := fun hl => by
  obtain ⟨b', off, rfl, hb, hc⟩ := h hl
  have hne : b' ≠ b := by
    rintro rfl
    obtain ⟨es, clock, h1, _⟩ := hm
    have := (hc 0 hl).1
    simp [World.cell?, h1] at this
  have hk : ∀ o, w'.cell? ⟨b', o, none⟩ = w.cell? ⟨b', o, none⟩ := fun o => World.cell?_of_block (hg.block b' (by omega) (fun e => hne (by injection e)))
  exact ⟨b', off, rfl, hb, fun i hi => ⟨(hk _).trans (hc i hi).1, (hk _).trans (hc i hi).2.1, (hk _).trans (hc i hi).2.2⟩⟩

def kcellsL (S : List Ck.Knot) : List Value := S.flatMap fun k => [.int .i64 k.x, .int .i64 k.y]
theorem kcellsL_snoc (S : List Ck.Knot) (k : Ck.Knot) : kcellsL (S ++ [k]) = kcellsL S ++ [.int .i64 k.x, .int .i64 k.y] := by simp [kcellsL]
theorem kcellsL_length (S : List Ck.Knot) : (kcellsL S).length = S.length * 2 := by
  induction S with
  | nil => rfl
  | cons a r ih => simp [kcellsL] at ih ⊢; omega
theorem add0 (g i : Nat) : (⟨g, 0, none⟩ : Addr).add i = ⟨g, i, none⟩ := by
  unfold Addr.add
  split
  · rename_i h; rw [h]
  · simp
/-- The top of a stack of knots. -/
theorem top_cells {w : World} {base g cap : Nat} {S : List Ck.Knot} {k : Ck.Knot} (h : w.ownsRow base 43 2 (.slice (some ⟨g, 0, none⟩) (S.length + 1) cap) (S.length + 1) (kcellsL (S ++ [k]))) :
    w.cell? ⟨g, S.length * 2, none⟩ = some (.int .i64 k.x) ∧ w.cell? ⟨g, S.length * 2 + 1, none⟩ = some (.int .i64 k.y) := by
  have hc := h.cells (g := g) rfl
  rw [kcellsL_snoc] at hc
  have hl := kcellsL_length S
  have h0 := hc (S.length * 2) (.int .i64 k.x) (by rw [List.getElem?_append_right (by omega), hl, Nat.sub_self]; rfl)
  have h1 := hc (S.length * 2 + 1) (.int .i64 k.y) (by rw [List.getElem?_append_right (by omega), hl, Nat.add_sub_cancel_left]; rfl)
  rw [add0] at h0 h1
  exact ⟨h0, h1⟩
theorem own_cap {w : World} {base g cap n : Nat} {e : TypeId} {size : Nat} {xs : List Value} (h : w.ownsRow base e size (.slice (some ⟨g, 0, none⟩) n cap) n xs) : n ≤ cap ∧ cap ≤ maxLen := by
  rcases h.2 with ⟨h0, _⟩ | ⟨g', cap', cur, hv, _, _, h1, h2, _⟩
  · cases h0
  · cases hv; exact ⟨h1, h2⟩
theorem own_form {w : World} {base n : Nat} {e : TypeId} {size : Nat} {v : Value} {xs : List Value} (h : w.ownsRow base e size v n xs) (hn : 0 < n) : ∃ g cap, v = .slice (some ⟨g, 0, none⟩) n cap ∧ base ≤ g ∧ n ≤ cap ∧ cap ≤ maxLen ∧ g < w.heap.size := by
  rcases h.2 with ⟨_, h0⟩ | ⟨g, cap, cur, hv, hb, hh, h1, h2, _⟩
  · omega
  · exact ⟨g, cap, hv, hb, h1, h2, (Array.getElem?_eq_some_iff.1 hh).1⟩
end Go.Proofs.YtfmfpnnglogkmaaGreatDoor

/- The map of the letters' vectors. -/
namespace Go.Proofs.YtfmfpnnglogkmaaGreatDoor
open Go.RowKit Go.ChangeMaps Go.MapKept

def ve (c a b : Int) (n : Nat) : MapEntry := { key := .int .i32 c, val := .agg #[.int .i64 a, .int .i64 b], born := n }
/-- Block b is the map of the three vectors. -/
def VecAt (w : World) (b : Nat) : Prop := w.heap[b]? = some (.map #[ve 78 0 2 0, ve 66 1 1 1, ve 84 2 0 2] 3)
theorem VecAt.lt {w : World} {b : Nat} (h : VecAt w b) : b < w.heap.size := (Array.getElem?_eq_some_iff.1 h).1
theorem VecAt.of_block {w w' : World} {b : Nat} (h : VecAt w b) (hb : w'.heap[b]? = w.heap[b]?) : VecAt w' b := hb.trans h
theorem vecUpdate {w : World} {b : Nat} {es : Array MapEntry} {clock : Nat} (h1 : w.heap[b]? = some (.map es clock)) (c x y : Int)
    (hc : (Instr.checkKey false 10000 21 (.int .i32 c)).run Tryz.prog w = .ok () w ∧ (Instr.checkKey true 10000 21 (.int .i32 c)).run Tryz.prog w = .ok () w)
    (hf : (Instr.findKey 21 (.int .i32 c) es.toList).run Tryz.prog w = .ok none w) :
    (Instr.mapUpdate 145 (.map (some b)) (.int .i32 c) (.agg #[.int .i64 x, .int .i64 y])).run Tryz.prog w = .ok () (setBlock w b (.map (es.push (ve c x y clock)) (clock + 1))) := by
  simp [Instr.mapUpdate, run_underlying Tryz.underlying145, MapKept.run_getObj_map h1, hc.1, hf, MapKept.run_setObj_map _ h1, Result.andThen, setBlock, ve]
theorem vecLookup {w : World} {b : Nat} (h : VecAt w b) {c : UInt8} (hc : isL c) :
    (Instr.lookup 145 (.map (some b)) (.int .i32 c.toNat) false).run Tryz.prog w = .ok (.agg #[.int .i64 (dxL c), .int .i64 (dyL c)]) w := by
  rcases hc with rfl | rfl | rfl
  · have h1 : (Instr.checkKey false 10000 21 (.int .i32 78)).run Tryz.prog w = .ok () w := by kernel_rfl
    have h2 : (Instr.findKey 21 (.int .i32 78) [ve 78 0 2 0, ve 66 1 1 1, ve 84 2 0 2]).run Tryz.prog w = .ok (some (0, .agg #[.int .i64 0, .int .i64 2])) w := by kernel_rfl
    simp [Instr.lookup, run_underlying Tryz.underlying145, MapKept.run_getObj_map h, h1, h2, Result.andThen, dxL, dyL]
  · have h1 : (Instr.checkKey false 10000 21 (.int .i32 66)).run Tryz.prog w = .ok () w := by kernel_rfl
    have h2 : (Instr.findKey 21 (.int .i32 66) [ve 78 0 2 0, ve 66 1 1 1, ve 84 2 0 2]).run Tryz.prog w = .ok (some (1, .agg #[.int .i64 1, .int .i64 1])) w := by kernel_rfl
    simp [Instr.lookup, run_underlying Tryz.underlying145, MapKept.run_getObj_map h, h1, h2, Result.andThen, dxL, dyL]
  · have h1 : (Instr.checkKey false 10000 21 (.int .i32 84)).run Tryz.prog w = .ok () w := by kernel_rfl
    have h2 : (Instr.findKey 21 (.int .i32 84) [ve 78 0 2 0, ve 66 1 1 1, ve 84 2 0 2]).run Tryz.prog w = .ok (some (2, .agg #[.int .i64 2, .int .i64 0])) w := by kernel_rfl
    simp [Instr.lookup, run_underlying Tryz.underlying145, MapKept.run_getObj_map h, h1, h2, Result.andThen, dxL, dyL]

theorem vec_three (w : World) : ∃ w1 w2 w3, (Instr.mapUpdate 145 (.map (some w.heap.size)) (.int .i32 78) (.agg #[.int .i64 0, .int .i64 2])).run Tryz.prog (w.alloc (.map #[] 0)) = .ok () w1 ∧
    (Instr.mapUpdate 145 (.map (some w.heap.size)) (.int .i32 66) (.agg #[.int .i64 1, .int .i64 1])).run Tryz.prog w1 = .ok () w2 ∧
    (Instr.mapUpdate 145 (.map (some w.heap.size)) (.int .i32 84) (.agg #[.int .i64 2, .int .i64 0])).run Tryz.prog w2 = .ok () w3 ∧ VecAt w3 w.heap.size ∧ Below w.heap.size w w3 := by
  have g0 : (w.alloc (.map #[] 0)).heap[w.heap.size]? = some (.map #[] 0) := heap_alloc_new _ _
  have b0 : Below w.heap.size w (w.alloc (.map #[] 0)) := (Below.refl _ _).alloc (Nat.le_refl _) _
  have grown : ∀ (w1 : World) (es : Array MapEntry) (cl : Nat) (o : Obj), w1.heap[w.heap.size]? = some (.map es cl) → Below w.heap.size w w1 → Below w.heap.size w (setBlock w1 w.heap.size o) := fun w1 es cl o h hb =>
    hb.grown (row := some w.heap.size) ⟨rfl, rfl, rfl, by simp [setBlock], fun i _ hi => heap_setBlock_other h _ (fun e => hi (by rw [e]))⟩ hb.size (fun k e => by cases e; exact Nat.le_refl _)
  have u1 := vecUpdate g0 78 0 2 ⟨by kernel_rfl, by kernel_rfl⟩ (by kernel_rfl)
  have g1 := heap_setBlock_same g0 (.map (#[].push (ve 78 0 2 0)) 1)
  have b1 := grown _ _ _ (.map (#[].push (ve 78 0 2 0)) 1) g0 b0
  have u2 := vecUpdate g1 66 1 1 ⟨by kernel_rfl, by kernel_rfl⟩ (by kernel_rfl)
  have g2 := heap_setBlock_same g1 (.map ((#[].push (ve 78 0 2 0)).push (ve 66 1 1 1)) 2)
  have b2 := grown _ _ _ (.map ((#[].push (ve 78 0 2 0)).push (ve 66 1 1 1)) 2) g1 b1
  have u3 := vecUpdate g2 84 2 0 ⟨by kernel_rfl, by kernel_rfl⟩ (by kernel_rfl)
  have g3 := heap_setBlock_same g2 (.map (((#[].push (ve 78 0 2 0)).push (ve 66 1 1 1)).push (ve 84 2 0 2)) 3)
  have b3 := grown _ _ _ (.map (((#[].push (ve 78 0 2 0)).push (ve 66 1 1 1)).push (ve 84 2 0 2)) 3) g2 b2
  exact ⟨_, _, _, u1, u2, u3, g3, b3⟩
set_option maxHeartbeats 1000000 in
set_option maxRecDepth 100000 in
theorem tpVectors (w : World) :
    Calls Tryz.prog 100 #[] w fun e w' => e = .returned (.map (some w.heap.size)) ∧ VecAt w' w.heap.size ∧ Below w.heap.size w w' := by
  have hmm := @run_makeMap Tryz.prog
  obtain ⟨w1, w2, w3, u1, u2, u3, hv, hb⟩ := vec_three w
  go_enter Tryz.func100, Tryz.ntmps100
  go_wp2
  go_ret
  exact ⟨rfl, hv, hb⟩
end Go.Proofs.YtfmfpnnglogkmaaGreatDoor

/- A word several times; the closure of legs. -/
namespace Go.Proofs.YtfmfpnnglogkmaaGreatDoor
open Go.RowKit Go.Shelf

theorem Tryz.repX : Builder.Extra Tryz.prog Tryz.rep_ren := {
  sizeBuilder := by kernel_rfl,
  liesBuilder := by kernel_rfl,
  t5 := Tryz.rep.t5,
  a5 := Tryz.rep.a5,
  z5 := Tryz.rep.z5,
  v5 := Tryz.rep.v5,
  infoByte := by kernel_rfl,
  cellsByte := by kernel_rfl,
  sizeByte := by kernel_rfl,
  neB5 := by decide }
theorem Tryz.repF : Tryz.rep_ren.f 105 = 112 := by kernel_rfl
theorem strRepeat (s : ByteArray) (c : Nat) (w : World) (hs : s.size ≤ 64) (hc : c ≤ 256) :
    Calls Tryz.prog 112 #[.string s, .int .i64 c] w fun e w' => e = .returned (.string ⟨(Lib.repeatL s.data.toList c).toArray⟩) ∧ Below w.heap.size w w' := by
  have hb : s.size * c ≤ 140737488355328 := Nat.le_trans (Nat.mul_le_mul hs hc) (by decide)
  have h := Any.strings_Repeat Tryz.rep Tryz.repX s c w (by omega) hb
  rw [Tryz.repF] at h
  exact h
theorem tpRepeated (s : ByteArray) (c : Nat) (w : World) (hs : s.size ≤ 64) (hc : c ≤ 256) :
    Calls Tryz.prog 83 #[.string s, .int .i64 c] w fun e w' => e = .returned (.string ⟨(Lib.repeatL s.data.toList c).toArray⟩) ∧ Below w.heap.size w w' := by
  go_enter Tryz.func83, Tryz.ntmps83
  go_wp2_with fail
  refine (strRepeat s c _ hs hc).mono ?_
  rintro e w1 ⟨rfl, hb⟩
  go_wp2
  go_ret
  exact ⟨rfl, hb⟩
theorem tpLegs (x y : Int) (s : ByteArray) (n : Int) (o : Bool) (w : World) :
    Calls Tryz.prog 62 #[.agg #[.int .i64 x, .int .i64 y], .string s, .int .i64 n, .bool o] w fun e w' =>
      e = .returned (.func (.func 99) #[] #[.pointer (some ⟨w.heap.size, 0, none⟩), .pointer (some ⟨w.heap.size + 1, 0, none⟩), .pointer (some ⟨w.heap.size + 2, 0, none⟩), .pointer (some ⟨w.heap.size + 3, 0, none⟩)]) ∧
      w' = (((w.alloc (.cells #[.int .i64 x, .int .i64 y] 43)).alloc (.cells #[.string s] 9)).alloc (.cells #[.int .i64 n] 3)).alloc (.cells #[.bool o] 4) := by
  go_enter Tryz.func62, Tryz.ntmps62
  go_wp2
  go_ret
  exact ⟨by simp, rfl⟩
end Go.Proofs.YtfmfpnnglogkmaaGreatDoor

/- The range over a map from knots to ints that the call has made: what has come of it so far, and its step. -/
namespace Go.Proofs.YtfmfpnnglogkmaaGreatDoor
open Go.RowKit Go.ChangeMaps Go.MapKept

/-- Block r is an iterator over the map in block b, which holds the pairs m; the keys ks have come. -/
def KRange (w : World) (b r : Nat) (m : List (Ck.Knot × Int)) (ks : List Ck.Knot) : Prop :=
  ∃ es clock since seen c0, w.heap[b]? = some (.map es clock) ∧ Ents es m ∧ (m.map (·.1)).Nodup ∧ (es.toList.map (·.born)).Nodup ∧ w.heap[r]? = some (.mapIter (some b) since seen c0) ∧
    (∀ x ∈ es.toList, x.born < since) ∧ since ≤ c0 ∧ since ≤ clock ∧ ks.Nodup ∧ ∀ k, k ∈ ks ↔ ∃ x ∈ es.toList, x.key = kvv k ∧ seen.contains x.born = true
theorem kvv_inj {a b : Ck.Knot} (h : kvv a = kvv b) : a = b := by
  obtain ⟨x, y⟩ := a
  obtain ⟨x', y'⟩ := b
  simpa [kvv] using h
theorem Ents.keys {es : Array MapEntry} {m : List (Ck.Knot × Int)} (h : Ents es m) : es.toList.map (·.key) = m.map fun p => kvv p.1 := by
  have := congrArg (List.map Prod.fst) h
  simpa [List.map_map, Function.comp_def] using this
theorem Ents.mem {es : Array MapEntry} {m : List (Ck.Knot × Int)} (h : Ents es m) {x : MapEntry} (hx : x ∈ es.toList) : ∃ p ∈ m, x.key = kvv p.1 ∧ x.val = .int .i64 p.2 := by
  have : (x.key, x.val) ∈ m.map fun p => (kvv p.1, Value.int .i64 p.2) := h ▸ List.mem_map_of_mem (f := fun e : MapEntry => (e.key, e.val)) hx
  obtain ⟨p, hp, e⟩ := List.mem_map.1 this
  simp only [Prod.mk.injEq] at e
  exact ⟨p, hp, e.1.symm, e.2.symm⟩
theorem Ents.has {es : Array MapEntry} {m : List (Ck.Knot × Int)} (h : Ents es m) (k : Ck.Knot) : k ∈ m.map (·.1) ↔ ∃ x ∈ es.toList, x.key = kvv k := by
  constructor
  · intro hk
    obtain ⟨p, hp, rfl⟩ := List.mem_map.1 hk
    have : kvv p.1 ∈ es.toList.map (·.key) := by rw [h.keys]; exact List.mem_map_of_mem (f := fun p : Ck.Knot × Int => kvv p.1) hp
    obtain ⟨x, hx, e⟩ := List.mem_map.1 this
    exact ⟨x, hx, e⟩
  · rintro ⟨x, hx, e⟩
    obtain ⟨p, hp, e1, _⟩ := h.mem hx
    rw [e] at e1
    rw [kvv_inj e1]
    exact List.mem_map_of_mem hp
theorem Ents.one {es : Array MapEntry} {m : List (Ck.Knot × Int)} (h : Ents es m) (hn : (m.map (·.1)).Nodup) {x y : MapEntry} (hx : x ∈ es.toList) (hy : y ∈ es.toList) (e : x.key = y.key) : x = y := by
  have hk : (es.toList.map (·.key)).Nodup := by
    rw [h.keys, show (m.map fun p => kvv p.1) = (m.map (·.1)).map kvv from by simp [List.map_map, Function.comp_def]]
    exact List.pairwise_map.2 (hn.imp fun {a b} hne e => hne (kvv_inj e))
  exact entry_eq_of_key (List.pairwise_map.1 hk) hx hy e

theorem KRange.owns {w : World} {b r : Nat} {m : List (Ck.Knot × Int)} {ks : List Ck.Knot} (h : KRange w b r m ks) : ∃ es clock since seen c0, w.heap[b]? = some (.map es clock) ∧ w.heap[r]? = some (.mapIter (some b) since seen c0) := by
  obtain ⟨es, clock, since, seen, c0, h1, _, _, _, h2, _⟩ := h
  exact ⟨es, clock, since, seen, c0, h1, h2⟩
theorem KRange.iter_walk {w : World} {b r : Nat} {m : List (Ck.Knot × Int)} {ks : List Ck.Knot} (h : KRange w b r m ks) : ∃ o : Obj, w.heap[r]? = some o ∧ o.isWalk = true := by
  obtain ⟨es, clock, since, seen, c0, _, h2⟩ := h.owns
  exact ⟨_, h2, rfl⟩
theorem KRange.nodup {w : World} {b r : Nat} {m : List (Ck.Knot × Int)} {ks : List Ck.Knot} (h : KRange w b r m ks) : ks.Nodup := by
  obtain ⟨es, clock, since, seen, c0, _, _, _, _, _, _, _, _, h1, _⟩ := h
  exact h1
theorem KRange.sub {w : World} {b r : Nat} {m : List (Ck.Knot × Int)} {ks : List Ck.Knot} (h : KRange w b r m ks) : ∀ k ∈ ks, k ∈ m.map (·.1) := by
  obtain ⟨es, clock, since, seen, c0, _, h2, _, _, _, _, _, _, _, h1⟩ := h
  intro k hk
  obtain ⟨x, hx, e, _⟩ := (h1 k).1 hk
  exact (h2.has k).2 ⟨x, hx, e⟩
theorem KRange.lt_of_new {w : World} {b r : Nat} {m : List (Ck.Knot × Int)} {ks : List Ck.Knot} (h : KRange w b r m ks) {k : Ck.Knot} (hk : k ∈ m.map (·.1)) (hn : k ∉ ks) : ks.length < m.length := by
  have h1 : (k :: ks).Nodup := List.nodup_cons.2 ⟨hn, h.nodup⟩
  have h2 := h1.length_le_of_subset (l₂ := m.map (·.1)) (fun x hx => by
    rcases List.mem_cons.1 hx with rfl | hx
    · exact hk
    · exact h.sub x hx)
  simp only [List.length_cons, List.length_map] at h2; omega
theorem KRange.of_walks {w w' : World} {b r : Nat} {m : List (Ck.Knot × Int)} {ks : List Ck.Knot} (h : KRange w b r m ks) (hk : KeepsWalks w w') : KRange w' b r m ks := by
  obtain ⟨es, clock, since, seen, c0, h1, h2, h3, h4, h5, h6⟩ := h
  exact ⟨es, clock, since, seen, c0, hk.same b _ h1 rfl, h2, h3, h4, hk.same r _ h5 rfl, h6⟩
theorem KRange.left_eq {w w' : World} {b r : Nat} {m : List (Ck.Knot × Int)} {ks : List Ck.Knot} (h : KRange w b r m ks) (hk : KeepsWalks w w') : w'.rangeLeft b r = w.rangeLeft b r := by
  obtain ⟨es, clock, since, seen, c0, h1, h2⟩ := h.owns
  simp only [World.rangeLeft, h1, h2, hk.same b _ h1 rfl, hk.same r _ h2 rfl]

theorem KRange.next {w : World} {b r : Nat} {m : List (Ck.Knot × Int)} {ks : List Ck.Knot} (h : KRange w b r m ks) (ty : TypeId) :
    ((∀ k, k ∈ ks ↔ k ∈ m.map (·.1)) ∧ (Instr.next (.pointer (some ⟨r, 0, none⟩)) false ty).run Tryz.prog w = .ok (.tuple #[.bool false]) w) ∨
    ∃ k v w', (k, v) ∈ m ∧ k ∉ ks ∧ (Instr.next (.pointer (some ⟨r, 0, none⟩)) false ty).run Tryz.prog w = .ok (.tuple #[.bool true, kvv k, .int .i64 v]) w' ∧ KRange w' b r m (ks ++ [k]) ∧ w'.rangeLeft b r < w.rangeLeft b r ∧ w.grownBy w' (some r) ∧ w'.heap.size = w.heap.size ∧
      (Instr.entry (.pointer (some ⟨r, 0, none⟩))).run Tryz.prog w' = .ok (.tuple #[kvv k, .int .i64 v]) w' := by
  obtain ⟨es, clock, since, seen, c0, hb, h2, h3, h4, hr, hold, hsc, hsk, hks, hiff⟩ := h
  have hne : r ≠ b := by rintro rfl; rw [hb] at hr; cases hr
  rcases run_next_at (P := Tryz.prog) w ty r b since c0 seen es clock hr hb hold hsc with ⟨h0, hrun⟩ | ⟨e, he, w1, hal, hrun⟩
  · refine .inl ⟨fun k => ?_, hrun⟩
    rw [hiff, h2.has]
    constructor
    · rintro ⟨x, hx, hk, _⟩; exact ⟨x, hx, hk⟩
    · rintro ⟨x, hx, hk⟩; exact ⟨x, hx, hk, all_seen es seen h0 x hx⟩
  · obtain ⟨hem, hes⟩ := mem_left he
    obtain ⟨p, hp, hkey, hval⟩ := h2.mem hem
    have hr1 : w1.heap[r]? = some (.mapIter (some b) since seen c0) := by rcases hal with rfl | rfl <;> exact hr
    have hb1 : w1.heap[b]? = some (.map es clock) := by rcases hal with rfl | rfl <;> exact hb
    have hset := heap_set (o' := .mapIter (some b) since (seen.push e.born) clock) hr1
    have hb' : (setBlock w1 r (.mapIter (some b) since (seen.push e.born) clock)).heap[b]? = some (.map es clock) := (hset.2 b (fun e1 => hne e1.symm)).trans hb1
    have hnew : p.1 ∉ ks := fun hk => by
      obtain ⟨x, hx, hxk, hxs⟩ := (hiff p.1).1 hk
      rw [h2.one h3 hx hem (hxk.trans hkey.symm), hes] at hxs
      cases hxs
    refine .inr ⟨p.1, p.2, _, hp, hnew, by rw [hrun, hkey, hval], ⟨es, clock, since, seen.push e.born, clock, hb', h2, h3, h4, hset.1, hold, hsk, hsk, ?_, fun k => ?_⟩, ?_, ?_, ?_, ?_⟩
    · exact List.nodup_append.2 ⟨hks, by simp, fun a ha c hc => by
        simp at hc; subst hc; exact fun e => hnew (e ▸ ha)⟩
    · rw [List.mem_append, hiff, List.mem_singleton]
      constructor
      · rintro (⟨x, hx, hk, hs⟩ | rfl)
        · exact ⟨x, hx, hk, by rw [contains_push, hs]; rfl⟩
        · exact ⟨e, hem, hkey, by rw [contains_push]; simp⟩
      · rintro ⟨x, hx, hk, hs⟩
        rw [contains_push] at hs
        cases hc : seen.contains x.born
        · rw [hc, Bool.false_or] at hs
          have hbe : x.born = e.born := by simpa using hs
          refine .inr ?_
          have hxe : x = e := born_inj h4 hx hem hbe
          subst hxe
          exact kvv_inj (hk.symm.trans hkey)
        · exact .inl ⟨x, hx, hk, hc⟩
    · have e1 : World.rangeLeft w b r = (leftOf es seen).size := by simp only [World.rangeLeft, hb, hr]
      have e2 : ∀ W : World, W.heap[b]? = some (.map es clock) → W.heap[r]? = some (.mapIter (some b) since (seen.push e.born) clock) → W.rangeLeft b r = (leftOf es (seen.push e.born)).size := fun W h1 h2 => by simp only [World.rangeLeft, h1, h2]
      rw [e1, e2 _ hb' hset.1]
      exact left_shrinks es seen e he
    · rcases hal with rfl | rfl <;> exact ⟨rfl, rfl, rfl, by simp [setBlock], fun i _ hi => hset.2 i (fun e1 => hi (by rw [e1]))⟩
    · rcases hal with rfl | rfl <;> simp [setBlock]
    · rw [run_entry_at _ r b since seen es clock e hset.1 hb' hem h4, hkey, hval]

def PairOf (m : List (Ck.Knot × Int)) (k : Ck.Knot) (v : Int) : Prop := (k, v) ∈ m
def KeyOf (m : List (Ck.Knot × Int)) (k : Ck.Knot) : Prop := k ∈ m.map (·.1)
section
variable {F : Fence} {n : Nat} (w : World) {ops : Array Oper} {rest : List Oper} {o : Oper} {a : Act} {Q : Exit → Act → World → Prop}
theorem wpListIn_next_knots (hg : o.guard = none) (it : Operand) (hop : o.op = Op.next it false) (b r : Nat) (ps : List (Ck.Knot × Int)) (ks : List Ck.Knot) (hit : a.eval it = .pointer (some ⟨r, 0, none⟩)) (h : KRange w b r ps ks)
    (hDone : (∀ k, k ∈ ks ↔ KeyOf ps k) → wpListIn F n Tryz.prog ops Q rest (a.put o.dst (.tuple #[.bool false])) w)
    (hMore : ∀ (k : Ck.Knot) (v : Int) (w' : World), KeyOf ps k → k ∉ ks → KRange w' b r ps (ks ++ [k]) → w'.rangeLeft b r < w.rangeLeft b r → w.grownBy w' (some r) → w'.heap.size = w.heap.size →
      (Instr.entry (.pointer (some ⟨r, 0, none⟩))).run Tryz.prog w' = .ok (.tuple #[.agg #[.int .i64 k.x, .int .i64 k.y], .int .i64 v]) w' → wpListIn F n Tryz.prog ops Q rest (a.put o.dst (.tuple #[.bool true, .agg #[.int .i64 k.x, .int .i64 k.y], .int .i64 v])) w') :
    wpListIn F n Tryz.prog ops Q (o :: rest) a w := by
  refine wpListIn_plain hg fun K' hK' => ?_
  unfold Oper.wpIn
  refine ⟨by simp [Oper.about, hop], ?_⟩
  rw [Oper.semAt_plain F _ _ (by rw [hop]; intro c hc'; cases hc')]
  rcases h.next o.type with ⟨hl, hrun⟩ | ⟨k, v, w', h1, h2, hrun, h3, h4, h5, h6, h7⟩
  · simp [execOp, hop, hit, hrun, Result.andThen]
    exact hK' _ _ (hDone hl)
  · simp [execOp, hop, hit, hrun, Result.andThen]
    exact hK' _ _ (hMore k v w' (show KeyOf ps k from List.mem_map_of_mem (f := fun p : Ck.Knot × Int => p.1) h1) h2 h3 h4 h5 h6 h7)
theorem wpListIn_next_pairs (hg : o.guard = none) (it : Operand) (hop : o.op = Op.next it false) (b r : Nat) (ps : List (Ck.Knot × Int)) (ks : List Ck.Knot) (hit : a.eval it = .pointer (some ⟨r, 0, none⟩)) (h : KRange w b r ps ks)
    (hDone : (∀ k, k ∈ ks ↔ KeyOf ps k) → wpListIn F n Tryz.prog ops Q rest (a.put o.dst (.tuple #[.bool false])) w)
    (hMore : ∀ (k : Ck.Knot) (v : Int) (w' : World), PairOf ps k v → k ∉ ks → KRange w' b r ps (ks ++ [k]) → w'.rangeLeft b r < w.rangeLeft b r → w.grownBy w' (some r) → w'.heap.size = w.heap.size →
      (Instr.entry (.pointer (some ⟨r, 0, none⟩))).run Tryz.prog w' = .ok (.tuple #[.agg #[.int .i64 k.x, .int .i64 k.y], .int .i64 v]) w' → wpListIn F n Tryz.prog ops Q rest (a.put o.dst (.tuple #[.bool true, .agg #[.int .i64 k.x, .int .i64 k.y], .int .i64 v])) w') :
    wpListIn F n Tryz.prog ops Q (o :: rest) a w := by
  refine wpListIn_plain hg fun K' hK' => ?_
  unfold Oper.wpIn
  refine ⟨by simp [Oper.about, hop], ?_⟩
  rw [Oper.semAt_plain F _ _ (by rw [hop]; intro c hc'; cases hc')]
  rcases h.next o.type with ⟨hl, hrun⟩ | ⟨k, v, w', h1, h2, hrun, h3, h4, h5, h6, h7⟩
  · simp [execOp, hop, hit, hrun, Result.andThen]
    exact hK' _ _ (hDone hl)
  · simp [execOp, hop, hit, hrun, Result.andThen]
    exact hK' _ _ (hMore k v w' h1 h2 h3 h4 h5 h6 h7)
end
end Go.Proofs.YtfmfpnnglogkmaaGreatDoor

/- The contract of numberFrom. -/
namespace Go.Proofs.YtfmfpnnglogkmaaGreatDoor
open Go.RowKit

theorem Tryz.info43 : (Tryz.prog.info? 43).map (fun i => (i.zero, i.size, i.bytes)) = some (some (.agg #[.int .i64 0, .int .i64 0]), 2, 16) := by kernel_rfl
/-- The number n is given to all knots that are connected with src. -/
def Numbered (l : List Ck.Bar) (src : Ck.Knot) (n : Int) (M0 M : List (Ck.Knot × Int)) : Prop :=
  (∀ k, Ck.Conn l src k → mget M k = n) ∧ ∀ k, ¬ Ck.Conn l src k → mget M k = mget M0 k
def NumPost (l : List Ck.Bar) (src : Ck.Knot) (n : Int) (M0 : List (Ck.Knot × Int)) (b : Nat) (w : World) (e : Ending) (w' : World) : Prop :=
  e = .returned (.tuple #[]) ∧ ∃ M, Numbered l src n M0 M ∧ MIs w' b M ∧ w.grownBy w' (some b)
theorem one_row (w : World) (base : Nat) (hb : base ≤ w.heap.size) (a b : Value) (t : TypeId) : (w.alloc (.cells #[a, b] t)).ownsRow base t 2 (.slice (some ⟨w.heap.size, 0, none⟩) 1 1) 1 [a, b] :=
  ⟨rfl, .inr ⟨_, _, _, rfl, hb, heap_alloc_new _ _, Nat.le_refl _, by unfold maxLen; omega, rfl, rfl⟩⟩

def numRel (l : List Ck.Bar) (src : Ck.Knot) (n : Int) (M0 : List (Ck.Knot × Int)) (b : Nat) (w : World) (g : Nat) (v : Value) (wi : World) : Prop :=
  ∃ V S M, g = 2 * ((Ck.ends l).length - V.length) + S.length ∧ Fl l M0 src n M V S none 0 ∧ wi.ownsRow w.heap.size 43 2 v S.length (kcellsL S) ∧ MIs wi b M ∧ w.grownBy wi (some b)

theorem end_range {l : List Ck.Bar} (hok : ∀ x ∈ l, Ck.okBar x) {k : Ck.Knot} (h : k ∈ Ck.ends l) : -100000 ≤ k.x ∧ k.x ≤ 100000 ∧ -100000 ≤ k.y ∧ k.y ≤ 100000 := by
  obtain ⟨b, hb, h⟩ := Ck.mem_ends.1 h
  obtain ⟨⟨h1, h2, _⟩, _, h4, h5⟩ := hok b hb
  rcases h with rfl | rfl
  · exact ⟨h1.1, h1.2, h2.1, h2.2⟩
  · exact ⟨h4.1, h4.2, h5.1, h5.2⟩
def numIn (l : List Ck.Bar) (src : Ck.Knot) (n : Int) (M0 : List (Ck.Knot × Int)) (b : Nat) (w : World) (k : Ck.Knot) (B G : Nat) (g : Nat) (v i : Value) (wi : World) : Prop :=
  ∃ j V S M, g = 4 - j ∧ j ≤ 4 ∧ i = .int .i64 (j : Nat) ∧ Fl l M0 src n M V S (some k) j ∧ wi.ownsRow w.heap.size 43 2 v S.length (kcellsL S) ∧ v.ownBlock ≠ some B ∧ MIs wi b M ∧ w.grownBy wi (some b) ∧
    wi.cell? ⟨B, 0, none⟩ = some (.int .i64 k.x) ∧ wi.cell? ⟨B, 1, none⟩ = some (.int .i64 k.y) ∧ B < wi.heap.size ∧ 2 * ((Ck.ends l).length - V.length) + S.length < G
theorem meas_push {N v s G : Nat} (h : 2 * (N - v) + s < G) (hv : v + 1 ≤ N) : 2 * (N - (v + 1)) + (s + 1) < G := by omega

end Go.Proofs.YtfmfpnnglogkmaaGreatDoor

/- Plain mathematics of the parts: what holds of the numbers after some bars have been gone through. -/
namespace Go.Proofs.YtfmfpnnglogkmaaGreatDoor
open Ck

structure Pt (l : List Bar) (i : Nat) (count : Nat) (M : List (Knot × Int)) : Prop where
  num : ∀ k, mget M k ≠ 0 ↔ ∃ b ∈ l.take i, Conn l b.lo k
  lo : ∀ k, 0 ≤ mget M k
  hi : ∀ k, mget M k ≤ count
  le : count ≤ i
  cnt : ∀ n, CntIs l ((l.take i).map Bar.lo).reverse (l.drop i) n → CntIs l [] l (count + n)
theorem Pt.start (l : List Bar) : Pt l 0 0 [] where
  num k := by simp [mget]
  lo k := by simp [mget]
  hi k := by simp [mget]
  le := Nat.le_refl _
  cnt n h := by simpa using h
theorem Pt.closed {l : List Bar} {i count : Nat} {M : List (Knot × Int)} (h : Pt l i count M) : Closed l M := fun b hb k m ha hk => by
  obtain ⟨c, hc, hcc⟩ := (h.num k).1 hk
  exact (h.num m).2 ⟨c, hc, hcc.trans (.one hb ha)⟩
theorem mem_take_succ {l : List Bar} {i : Nat} (hi : i < l.length) {b : Bar} : b ∈ l.take (i + 1) ↔ b ∈ l.take i ∨ b = l[i] := by
  rw [List.take_succ_eq_append_getElem hi, List.mem_append, List.mem_singleton]
theorem seen_iff {l : List Bar} {i : Nat} {k : Knot} : (∃ s ∈ ((l.take i).map Bar.lo).reverse, Conn l s k) ↔ ∃ b ∈ l.take i, Conn l b.lo k := by
  constructor
  · rintro ⟨s, hs, h⟩
    rw [List.mem_reverse, List.mem_map] at hs
    obtain ⟨b, hb, rfl⟩ := hs
    exact ⟨b, hb, h⟩
  · rintro ⟨b, hb, h⟩
    exact ⟨b.lo, by rw [List.mem_reverse, List.mem_map]; exact ⟨b, hb, rfl⟩, h⟩
theorem seen_succ {l : List Bar} {i : Nat} (hi : i < l.length) : ((l.take (i + 1)).map Bar.lo).reverse = l[i].lo :: ((l.take i).map Bar.lo).reverse := by
  rw [List.take_succ_eq_append_getElem hi, List.map_append, List.reverse_append]
  rfl
theorem Pt.old {l : List Bar} {i count : Nat} {M : List (Knot × Int)} (h : Pt l i count M) (hi : i < l.length) (hz : ¬ mget M l[i].lo = 0) : Pt l (i + 1) count M where
  num k := by
    rw [h.num]
    constructor
    · rintro ⟨b, hb, hc⟩
      exact ⟨b, (mem_take_succ hi).2 (.inl hb), hc⟩
    · rintro ⟨b, hb, hc⟩
      rcases (mem_take_succ hi).1 hb with hb | hb
      · exact ⟨b, hb, hc⟩
      · subst hb
        obtain ⟨c, hc2, hcc⟩ := (h.num _).1 hz
        exact ⟨c, hc2, hcc.trans hc⟩
  lo := h.lo
  hi := h.hi
  le := Nat.le_succ_of_le h.le
  cnt n hn := h.cnt n (by
    rw [List.drop_eq_getElem_cons hi]
    exact .old (seen_iff.2 ((h.num _).1 hz)) (by rw [seen_succ hi] at hn; exact hn))
theorem Pt.fresh {l : List Bar} {i count : Nat} {M M' : List (Knot × Int)} (h : Pt l i count M) (hi : i < l.length) (hz : mget M l[i].lo = 0)
    (h1 : ∀ k, Conn l l[i].lo k → mget M' k = ((count + 1 : Nat) : Int)) (h2 : ∀ k, ¬ Conn l l[i].lo k → mget M' k = mget M k) : Pt l (i + 1) (count + 1) M' where
  num k := by
    by_cases hc : Conn l l[i].lo k
    · rw [h1 k hc]
      refine ⟨fun _ => ⟨l[i], (mem_take_succ hi).2 (.inr rfl), hc⟩, fun _ => by omega⟩
    · rw [h2 k hc, h.num]
      constructor
      · rintro ⟨b, hb, hcc⟩
        exact ⟨b, (mem_take_succ hi).2 (.inl hb), hcc⟩
      · rintro ⟨b, hb, hcc⟩
        rcases (mem_take_succ hi).1 hb with hb | hb
        · exact ⟨b, hb, hcc⟩
        · subst hb
          exact absurd hcc hc
  lo k := by
    by_cases hc : Conn l l[i].lo k
    · rw [h1 k hc]; omega
    · rw [h2 k hc]; exact h.lo k
  hi k := by
    by_cases hc : Conn l l[i].lo k
    · rw [h1 k hc]; omega
    · rw [h2 k hc]; have := h.hi k; omega
  le := Nat.succ_le_succ h.le
  cnt n hn := by
    rw [show count + 1 + n = count + (n + 1) from by omega]
    refine h.cnt (n + 1) ?_
    rw [List.drop_eq_getElem_cons hi]
    exact .fresh (fun e => (h.num _).2 (seen_iff.1 e) hz) (by rw [seen_succ hi] at hn; exact hn)
theorem Pt.done {l : List Bar} {count : Nat} {M : List (Knot × Int)} (h : Pt l l.length count M) : PartsIs l count := by
  have := h.cnt 0 (by rw [List.drop_length]; exact .nil _)
  exact this
theorem Pt.pos {l : List Bar} {count : Nat} {M : List (Knot × Int)} (h : Pt l l.length count M) {b : Bar} (hb : b ∈ l) : 0 < mget M b.lo ∧ mget M b.lo ≤ count := by
  have h1 := (h.num b.lo).2 ⟨b, by rw [List.take_length]; exact hb, .refl _⟩
  have h2 := h.lo b.lo
  exact ⟨by omega, h.hi _⟩
end Go.Proofs.YtfmfpnnglogkmaaGreatDoor

/- A slice of slices of bars that the call itself fills: its block, and the rows that it owns. -/
namespace Go.Proofs.YtfmfpnnglogkmaaGreatDoor
open Go.RowKit

structure Heads (W : World) (base P n K : Nat) (cur : Array Value) : Prop where
  blk : W.heap[P]? = some (.cells cur 49 (0, 0))
  size : cur.size = n
  own : ∀ j (h : j < cur.size), ∃ m xs, W.ownsRow base 74 3 cur[j] m xs ∧ m ≤ K
  apart : ∀ j j' (h : j < cur.size) (h' : j' < cur.size), j ≠ j' → cur[j].ownBlock = none ∨ cur[j].ownBlock ≠ cur[j'].ownBlock
theorem Heads.lt {W : World} {base P n K : Nat} {cur : Array Value} (h : Heads W base P n K cur) : P < W.heap.size := (Array.getElem?_eq_some_iff.1 h.blk).1
theorem Heads.cell {W : World} {base P n K : Nat} {cur : Array Value} (h : Heads W base P n K cur) {q : Nat} (hq : q < cur.size) : W.cell? ⟨P, q, none⟩ = some cur[q] := by
  simp [World.cell?, h.blk, Array.getElem?_eq_getElem hq]
theorem Heads.frozen {W : World} {base P n K : Nat} {cur : Array Value} (h : Heads W base P n K cur) (q : Nat) : W.frozen? ⟨P, q, none⟩ = false := by
  simp [World.frozen?, h.blk]
theorem own_block_ne {W : World} {base P : Nat} {e t : TypeId} {size n : Nat} {v : Value} {xs : List Value} {cur : Array Value} (h : W.ownsRow base e size v n xs) (hb : W.heap[P]? = some (.cells cur t (0, 0))) (hne : e ≠ t) : v.ownBlock ≠ some P := by
  intro he
  rcases h.2 with ⟨rfl, _⟩ | ⟨g, cap, c, rfl, _, hh, _⟩
  · cases he
  · have : g = P := by injection he
    subst this
    rw [hh] at hb
    injection hb with hb
    injection hb with _ ht
    exact hne ht
theorem own_map_ne {W : World} {base b : Nat} {e : TypeId} {size n : Nat} {v : Value} {xs : List Value} {m : List (Ck.Knot × Int)} (h : W.ownsRow base e size v n xs) (hb : MIs W b m) : v.ownBlock ≠ some b := by
  intro he
  obtain ⟨es, clock, h1, _⟩ := hb
  rcases h.2 with ⟨rfl, _⟩ | ⟨g, cap, c, rfl, _, hh, _⟩
  · cases he
  · have : g = b := by injection he
    subst this
    rw [hh] at h1
    cases h1
theorem own_lt {W : World} {base : Nat} {e : TypeId} {size n g : Nat} {v : Value} {xs : List Value} (h : W.ownsRow base e size v n xs) (hb : v.ownBlock = some g) : g < W.heap.size := by
  rcases h.2 with ⟨rfl, _⟩ | ⟨g', cap, c, rfl, _, hh, _⟩
  · cases hb
  · have : g' = g := by injection hb
    subst this
    exact (Array.getElem?_eq_some_iff.1 hh).1
theorem Heads.below {W W' : World} {base P n K : Nat} {cur : Array Value} (h : Heads W base P n K cur) (hb : Below W.heap.size W W') : Heads W' base P n K cur where
  blk := (hb.block P h.lt).trans h.blk
  size := h.size
  own j hj := by
    obtain ⟨m, xs, h1, h2⟩ := h.own j hj
    exact ⟨m, xs, ownsRow_below h1 hb, h2⟩
  apart := h.apart
theorem setCell_grown (W : World) (P q : Nat) (v : Value) : W.grownBy (W.setCell ⟨P, q, none⟩ v) (some P) :=
  ⟨rfl, rfl, rfl, by simp [World.setCell], fun i _ hi => Below.heap_setCell _ _ _ _ (fun e => hi (by rw [e]))⟩
theorem Heads.step {W W1 W2 : World} {base P n K q m g cap : Nat} {cur : Array Value} {xs' : List Value} (h : Heads W base P n K cur) (hW : Below W.heap.size W W1) (hq : q < cur.size)
    (hown : W2.ownsRow base 74 3 (.slice (some ⟨g, 0, none⟩) m cap) m xs') (hm : m ≤ K + 1) (hg : W1.grownBy W2 cur[q].ownBlock) (hblk : cur[q].ownBlock = some g ∨ g = W1.heap.size) :
    Heads (W2.setCell ⟨P, q, none⟩ (.slice (some ⟨g, 0, none⟩) m cap)) base P n (K + 1) (cur.set q (.slice (some ⟨g, 0, none⟩) m cap)) := by
  have hT : (74 : Nat) ≠ 49 := by decide
  have h1 := h.below hW
  obtain ⟨mq, xq, oq, _⟩ := h1.own q hq
  have hPne := own_block_ne oq h1.blk hT
  have hP2 : W2.heap[P]? = some (.cells cur 49 (0, 0)) := (hg.block P h1.lt (fun e => hPne e.symm)).trans h1.blk
  have hs := setCell_grown W2 P q (.slice (some ⟨g, 0, none⟩) m cap)
  have hgne : (Value.slice (some ⟨g, 0, none⟩) m cap).ownBlock ≠ some P := own_block_ne hown hP2 hT
  have hold : ∀ j (hj : j < cur.size) (hjq : j ≠ q), ∃ m xs, W2.ownsRow base 74 3 cur[j] m xs ∧ m ≤ K := fun j hj hjq => by
    obtain ⟨mj, xj, oj, hmj⟩ := h1.own j hj
    exact ⟨mj, xj, oj.kept hg (h.apart j q hj hq hjq), hmj⟩
  refine ⟨?_, by rw [Array.size_set, h.size], fun j hj => ?_, fun j j' hj hj' hne => ?_⟩
  · simp only [World.setCell, Array.getElem?_modify, hP2]
    simp [Array.setIfInBounds, hq]
  · rw [Array.size_set] at hj
    by_cases hjq : q = j
    · subst hjq
      rw [Array.getElem_set_self]
      exact ⟨m, xs', hown.kept hs (.inr hgne), hm⟩
    · rw [Array.getElem_set_ne _ hj hjq]
      obtain ⟨mj, xj, oj, hmj⟩ := hold j hj (fun e => hjq e.symm)
      exact ⟨mj, xj, oj.kept hs (.inr (own_block_ne oj hP2 hT)), by omega⟩
  · rw [Array.size_set] at hj hj'
    have other : ∀ i (hi : i < cur.size), i ≠ q → cur[i].ownBlock = none ∨ cur[i].ownBlock ≠ some g := fun i hi hiq => by
      rcases hblk with hb | hb
      · rw [← hb]; exact h.apart i q hi hq hiq
      · refine .inr (fun e => ?_)
        obtain ⟨mi, xi, oi, _⟩ := h1.own i hi
        have := own_lt oi e
        omega
    by_cases e1 : q = j
    · subst e1
      rw [Array.getElem_set_self, Array.getElem_set_ne _ hj' hne]
      refine .inr (fun e => ?_)
      rcases other j' hj' (fun e => hne e.symm) with h' | h'
      · rw [h'] at e; cases e
      · exact h' e.symm
    · rw [Array.getElem_set_ne _ hj e1]
      by_cases e2 : q = j'
      · subst e2
        rw [Array.getElem_set_self]
        exact other j hj (fun e => e1 e.symm)
      · rw [Array.getElem_set_ne _ hj' e2]
        exact h.apart j j' hj hj' hne
end Go.Proofs.YtfmfpnnglogkmaaGreatDoor

/- The contract of partsOf: a slice with as many parts as the net has. -/
namespace Go.Proofs.YtfmfpnnglogkmaaGreatDoor
open Go.RowKit

theorem Tryz.info74 : (Tryz.prog.info? 74).map (fun i => (i.zero, i.size, i.bytes)) = some (some (.agg #[.int .i64 0, .int .i64 0, .int .i64 0]), 3, 24) := by kernel_rfl
theorem Tryz.info49 : (Tryz.prog.info? 49).map (fun i => (i.zero, i.size, i.bytes)) = some (some (.slice none 0 0), 1, 24) := by kernel_rfl
def zeros (n : Nat) : Array Value := madeCells (Value.slice none 0 0).cells (n * 1)
theorem Heads.made (w : World) (base n : Nat) (_ : base ≤ w.heap.size) : Heads (w.alloc (.cells (zeros n) 49)) base w.heap.size n 0 (zeros n) where
  blk := heap_alloc_new _ _
  size := by rw [zeros, size_madeCells]; omega
  own j hj := by
    have : (zeros n)[j] = .slice none 0 0 := by simp [zeros, madeCells, Value.cells, Nat.mod_one]
    rw [this]
    exact ⟨0, [], World.ownsRow_nil _ _ _ _, Nat.le_refl _⟩
  apart j j' hj hj' _ := by
    have : (zeros n)[j] = .slice none 0 0 := by simp [zeros, madeCells, Value.cells, Nat.mod_one]
    rw [this]
    exact .inl rfl

theorem three_new (w : World) (a b c : Value) (t : TypeId) : ∀ (j : Nat) (u : Value), [a, b, c][j]? = some u → (w.alloc (.cells #[a, b, c] t)).cell? ((⟨w.heap.size, 0, none⟩ : Addr).add j) = some u := by
  obtain ⟨w1, rfl, h0, h1, h2, _⟩ := box3 w a b c t
  intro j u h
  rw [add0]
  match j, h with
  | 0, h => cases h; exact h0
  | 1, h => cases h; exact h1
  | 2, h => cases h; exact h2

def PartPost (l : List Ck.Bar) (w : World) (e : Ending) (w' : World) : Prop := ∃ n a c, Ck.PartsIs l n ∧ n ≤ l.length ∧ e = .returned (.slice a n c) ∧ Below w.heap.size w w'

end Go.Proofs.YtfmfpnnglogkmaaGreatDoor

/- The contract of Count at a valid net. -/
namespace Go.Proofs.YtfmfpnnglogkmaaGreatDoor
open Go.RowKit

theorem farB_iff (n : Int) : farB n = false ↔ Ck.inPlace n := by simp [farB, Ck.inPlace]
theorem knotE_ok (x y : Int) : knotE x y = 0 ↔ Ck.okKnot ⟨x, y⟩ := by
  unfold knotE Ck.okKnot
  cases hx : farB x
  · cases hy : farB y
    · have h1 := (farB_iff x).1 hx
      have h2 := (farB_iff y).1 hy
      simp [h1, h2, evenB]
    · have h2 : ¬ Ck.inPlace y := fun h => by rw [(farB_iff y).2 h] at hy; cases hy
      simp [h2]
  · have h2 : ¬ Ck.inPlace x := fun h => by rw [(farB_iff x).2 h] at hx; cases hx
    simp [h2]
theorem barE_iff (b : Ck.Bar) : barE b.x b.y b.s = 0 ↔ Ck.okBar b := by
  unfold barE Ck.okBar
  by_cases h1 : knotE b.x b.y = 0
  · by_cases h2 : b.s = 1 ∨ b.s = -1
    · simp only [h1, if_true, if_pos h2, knotE_ok]
      have hk : Ck.okKnot ⟨b.x, b.y⟩ := (knotE_ok _ _).1 h1
      constructor
      · rintro ⟨a, c, _⟩
        exact ⟨hk, h2.symm, a, c⟩
      · rintro ⟨_, _, a, c⟩
        refine ⟨a, c, ?_⟩
        have := hk.2.2
        simp only at this ⊢
        omega
    · simp only [h1, if_true, if_neg h2]
      constructor
      · intro h; omega
      · rintro ⟨_, h, _⟩; exact absurd h.symm h2
  · simp only [if_neg h1]
    constructor
    · intro h; exact absurd h h1
    · rintro ⟨h, _⟩; exact absurd ((knotE_ok _ _).2 h) h1
theorem netFrom_zero : ∀ (l : List Ck.Bar) (p : Option Ck.Bar), netFrom p l = 0 ↔ (∀ b ∈ l, Ck.okBar b) ∧ (match p with | none => l.Pairwise Ck.Blt | some a => (a :: l).Pairwise Ck.Blt)
  | [], none => by simp [netFrom]
  | [], some a => by simp [netFrom]
  | b :: r, none => by
    unfold netFrom
    by_cases h : barE b.x b.y b.s = 0
    · rw [if_pos h, netFrom_zero r (some b)]
      simp only [List.mem_cons, forall_eq_or_imp, (barE_iff b).1 h, true_and]
    · rw [if_neg h]
      constructor
      · intro h'; exact absurd h' h
      · intro h'; exact absurd ((barE_iff b).2 (h'.1 b (by simp))) h
  | b :: r, some a => by
    unfold netFrom
    by_cases h : barE b.x b.y b.s = 0
    · rw [if_pos h]
      by_cases hl : lessB a.x a.y a.s b.x b.y b.s = true
      · have hab := (lessB_iff a b).1 hl
        rw [if_pos hl, netFrom_zero r (some b)]
        simp only [List.mem_cons, forall_eq_or_imp, (barE_iff b).1 h, true_and]
        constructor
        · rintro ⟨h1, h2⟩
          exact ⟨h1, List.pairwise_cons.2 ⟨fun c hc => by
            rcases List.mem_cons.1 hc with rfl | hc
            · exact hab
            · exact hab.trans ((List.pairwise_cons.1 h2).1 c hc), h2⟩⟩
        · rintro ⟨h1, h2⟩
          exact ⟨h1, (List.pairwise_cons.1 h2).2⟩
      · rw [if_neg hl]
        constructor
        · intro h'; omega
        · rintro ⟨_, h2⟩
          exact absurd ((lessB_iff a b).2 ((List.pairwise_cons.1 h2).1 b (by simp))) hl
    · rw [if_neg h]
      constructor
      · intro h'; exact absurd h' h
      · intro h'; exact absurd ((barE_iff b).2 (h'.1 b (by simp))) h
theorem netE_zero (l : List Ck.Bar) : netE l = 0 ↔ l.length ≤ 4096 ∧ Ck.Net l := by
  unfold netE
  split
  · constructor
    · intro h; omega
    · rintro ⟨h, _⟩; omega
  · rw [netFrom_zero]
    constructor
    · rintro ⟨h1, h2⟩; exact ⟨by omega, h1, h2⟩
    · rintro ⟨_, h1, h2⟩; exact ⟨h1, h2⟩

theorem mput_keys (m : List (Ck.Knot × Int)) (k k' : Ck.Knot) (v : Int) : k' ∈ (mput m k v).map (·.1) ↔ k' = k ∨ k' ∈ m.map (·.1) := by
  induction m with
  | nil => simp [mput]
  | cons p r ih =>
    by_cases h : k = p.1
    · rw [show mput (p :: r) k v = (k, v) :: r from by simp [mput, h]]
      simp only [List.map_cons, List.mem_cons, ← h]
      constructor
      · rintro (h1 | h1)
        · exact .inl h1
        · exact .inr (.inr h1)
      · rintro (h1 | h1 | h1)
        · exact .inl h1
        · exact .inl h1
        · exact .inr h1
    · simp only [mput, if_neg h, List.map_cons, List.mem_cons, ih]
      constructor
      · rintro (h1 | h1 | h1)
        · exact .inr (.inl h1)
        · exact .inl h1
        · exact .inr (.inr h1)
      · rintro (h1 | h1 | h1)
        · exact .inr (.inl h1)
        · exact .inl h1
        · exact .inr (.inr h1)
theorem degs_keys (ks : List Ck.Knot) : ∀ (m : List (Ck.Knot × Int)) (k : Ck.Knot), k ∈ (ks.foldl incr m).map (·.1) ↔ k ∈ ks ∨ k ∈ m.map (·.1) := by
  induction ks with
  | nil => intro m k; simp
  | cons a r ih =>
    intro m k
    rw [List.foldl_cons, ih, incr, mput_keys, List.mem_cons]
    constructor
    · rintro (h | h | h)
      · exact .inl (.inr h)
      · exact .inl (.inl h)
      · exact .inr h
    · rintro ((h | h) | h)
      · exact .inr (.inl h)
      · exact .inl h
      · exact .inr (.inr h)
theorem MIs.keys_nodup {w : World} {b : Nat} {m : List (Ck.Knot × Int)} (h : MIs w b m) : (m.map (·.1)).Nodup := by
  obtain ⟨_, _, _, _, h3, _⟩ := h
  exact h3
theorem degs_length {w : World} {b : Nat} {l : List Ck.Bar} (h : MIs w b (degsL (Ck.ends l))) : (degsL (Ck.ends l)).length = Ck.nK l := by
  rw [← Ck.nK_eq h.keys_nodup (fun k => by rw [degsL, degs_keys]; simp), List.length_map]
theorem MIs.size {w : World} {b : Nat} {m : List (Ck.Knot × Int)} (h : MIs w b m) : ∃ es clock, w.heap[b]? = some (.map es clock) ∧ es.size = m.length := by
  obtain ⟨es, clock, h1, h2, _⟩ := h
  refine ⟨es, clock, h1, ?_⟩
  have := congrArg List.length h2
  simpa using this
theorem nK_le (l : List Ck.Bar) : Ck.nK l ≤ 2 * l.length := by
  rw [← ends_length l]
  exact (Ck.nub_nodup _).length_le_of_subset (fun k hk => Ck.mem_nub.1 hk)
theorem meshL_nM (l : List Ck.Bar) : (meshL l l).length = Ck.nM l := by
  rw [meshL, ← List.countP_eq_length_filter, Ck.nM]
  refine List.countP_congr fun b hb => ?_
  obtain ⟨x, y, s⟩ := b
  simp only [isM, Ck.isMesh, allIn, meshBars4, List.all_cons, List.all_nil, Bool.and_true, Bool.and_eq_true, decide_eq_true_eq]
  rw [show y + 1 - 1 = y from by omega]
  constructor
  · rintro ⟨h1, _, h2, h3, h4⟩; exact ⟨h1, h2, h3, h4⟩
  · rintro ⟨h1, h2, h3, h4⟩
    subst h1
    exact ⟨rfl, hb, h2, h3, h4⟩

theorem five_of_block {w : World} {g : Nat} {a b c d e : Value} {t : TypeId} (h : w.heap[g]? = some (.cells #[a, b, c, d, e] t (0, 0))) : w.cell? ⟨g, 0, none⟩ = some a ∧ w.cell? ⟨g, 1, none⟩ = some b ∧ w.cell? ⟨g, 2, none⟩ = some c ∧ w.cell? ⟨g, 3, none⟩ = some d ∧ w.cell? ⟨g, 4, none⟩ = some e ∧ ∀ i, w.frozen? ⟨g, i, none⟩ = false := by
  refine ⟨?_, ?_, ?_, ?_, ?_, fun i => ?_⟩ <;> simp [World.cell?, World.frozen?, h]
def CountPost (l : List Ck.Bar) (w : World) (e : Ending) (w' : World) : Prop :=
  ∃ p : Nat, Ck.PartsIs l p ∧ e = .returned (.tuple #[.agg #[.int .i64 (Ck.nK l : Nat), .int .i64 (l.length : Nat), .int .i64 (Ck.nM l : Nat), .int .i64 p, .int .i64 ((l.length : Int) - (Ck.nK l : Nat) + p - (Ck.nM l : Nat))], .int .i64 0]) ∧ Below w.heap.size w w'

end Go.Proofs.YtfmfpnnglogkmaaGreatDoor

/- Rows of bars in memory: what a slice of bars of the call's own holds. -/
namespace Go.Proofs.YtfmfpnnglogkmaaGreatDoor
open Go.RowKit Ck

theorem RB.nil (w : World) (B : Nat) (A : Option Addr) : RB w B A [] := fun h => by simp at h

def bcellsL (l : List Ck.Bar) : List Value := l.flatMap fun b => [.int .i64 b.x, .int .i64 b.y, .int .i64 b.s]
theorem bcellsL_snoc (l : List Ck.Bar) (b : Ck.Bar) : bcellsL (l ++ [b]) = bcellsL l ++ [.int .i64 b.x, .int .i64 b.y, .int .i64 b.s] := by simp [bcellsL]
theorem three_of_block {w : World} {g : Nat} {a b c : Value} {t : TypeId} (h : w.heap[g]? = some (.cells #[a, b, c] t (0, 0))) : w.cell? ⟨g, 0, none⟩ = some a ∧ w.cell? ⟨g, 1, none⟩ = some b ∧ w.cell? ⟨g, 2, none⟩ = some c ∧ ∀ i, w.frozen? ⟨g, i, none⟩ = false := by
  refine ⟨?_, ?_, ?_, fun i => ?_⟩ <;> simp [World.cell?, World.frozen?, h]
theorem ownsRow_mono {w : World} {base base' : Nat} {e : TypeId} {size n : Nat} {v : Value} {xs : List Value} (h : w.ownsRow base e size v n xs) (hb : base' ≤ base) : w.ownsRow base' e size v n xs := by
  refine ⟨h.1, ?_⟩
  rcases h.2 with h2 | ⟨g, cap, cur, h1, h2, h3⟩
  · exact .inl h2
  · exact .inr ⟨g, cap, cur, h1, by omega, h3⟩
theorem own_slice {w : World} {base : Nat} {e : TypeId} {size n : Nat} {v : Value} {xs : List Value} (h : w.ownsRow base e size v n xs) : ∃ a c, v = .slice a n c ∧ n ≤ c ∧ c ≤ maxLen := by
  rcases h.2 with ⟨rfl, rfl⟩ | ⟨g, cap, cur, rfl, _, _, h1, h2, _⟩
  · exact ⟨none, 0, rfl, Nat.le_refl _, by unfold maxLen; omega⟩
  · exact ⟨_, _, rfl, h1, h2⟩
theorem bcellsL_at (l : List Ck.Bar) : ∀ (i : Nat) (h : i < l.length), (bcellsL l)[i * 3]? = some (.int .i64 l[i].x) ∧ (bcellsL l)[i * 3 + 1]? = some (.int .i64 l[i].y) ∧ (bcellsL l)[i * 3 + 2]? = some (.int .i64 l[i].s) := by
  induction l with
  | nil => intro i h; simp at h
  | cons a r ih =>
    intro i h
    have e : bcellsL (a :: r) = [.int .i64 a.x, .int .i64 a.y, .int .i64 a.s] ++ bcellsL r := by simp [bcellsL]
    rw [e]
    cases i with
    | zero => exact ⟨rfl, rfl, rfl⟩
    | succ i =>
      have := ih i (by simpa using h)
      rw [show (i + 1) * 3 = i * 3 + 3 from by omega]
      simpa using this
theorem bcellsL_length (l : List Ck.Bar) : (bcellsL l).length = l.length * 3 := by
  induction l with
  | nil => rfl
  | cons a r ih => simp [bcellsL] at ih ⊢; omega
/-- A row of the call's own that holds the cells of bars reads as these bars. -/
theorem RB.of_own {w : World} {base c : Nat} {A : Option Addr} {l : List Ck.Bar} {n : Nat} (h : w.ownsRow base 74 3 (.slice A n c) l.length (bcellsL l)) : RB w w.heap.size A l := fun hl => by
  obtain ⟨g, cap, hv, _, _, _, hg⟩ := own_form h hl
  injection hv with hA _ _
  subst hA
  have hc := h.cells (g := g) rfl
  refine ⟨g, 0, rfl, hg, fun i hi => ?_⟩
  obtain ⟨h0, h1, h2⟩ := bcellsL_at l i hi
  have k0 := hc _ _ h0
  have k1 := hc _ _ h1
  have k2 := hc _ _ h2
  rw [add0] at k0 k1 k2
  simp only [Nat.zero_add]
  exact ⟨k0, k1, k2⟩
theorem empty_row (w : World) (base : Nat) (hb : base ≤ w.heap.size) (t : TypeId) (size : Nat) : (w.alloc (.cells #[] t)).ownsRow base t size (.slice (some ⟨w.heap.size, 0, none⟩) 0 0) 0 [] :=
  ⟨by simp, .inr ⟨_, _, _, rfl, hb, heap_alloc_new _ _, Nat.le_refl _, by unfold maxLen; omega, by simp, by simp⟩⟩
theorem RB.news {w : World} {B : Nat} {b off : Nat} {l : List Ck.Bar} (h : RB w B (some ⟨b, off, none⟩) l) (hl : 0 < l.length) : ∀ (j : Nat) (u : Value), (bcellsL l)[j]? = some u → w.cell? ((⟨b, off, none⟩ : Addr).add j) = some u := by
  intro j u hu
  obtain ⟨b', off', e, _, hc⟩ := h hl
  cases e
  have hj : j < (bcellsL l).length := (List.getElem?_eq_some_iff.1 hu).1
  rw [bcellsL_length] at hj
  have hi : j / 3 < l.length := by omega
  obtain ⟨k0, k1, k2⟩ := hc (j / 3) hi
  obtain ⟨h0, h1, h2⟩ := bcellsL_at l (j / 3) hi
  have hadd : (⟨b, off, none⟩ : Addr).add j = ⟨b, off + j, none⟩ := by
    unfold Addr.add
    split
    · rename_i e; simp
    · rfl
  rw [hadd]
  have hm : j % 3 = 0 ∨ j % 3 = 1 ∨ j % 3 = 2 := by omega
  rcases hm with hm | hm | hm
  · have e : j = j / 3 * 3 := by omega
    rw [← e] at h0 k0
    rw [k0, ← hu, h0]
  · have e : j = j / 3 * 3 + 1 := by omega
    rw [← e] at h1
    rw [Nat.add_assoc, ← e] at k1
    rw [k1, ← hu, h1]
  · have e : j = j / 3 * 3 + 2 := by omega
    rw [← e] at h2
    rw [Nat.add_assoc, ← e] at k2
    rw [k2, ← hu, h2]
theorem bcellsL_one (l : List Ck.Bar) : ∀ u ∈ bcellsL l, u.oneCell' = true := by
  intro u hu
  simp only [bcellsL, List.mem_flatMap] at hu
  obtain ⟨b, _, hu⟩ := hu
  simp at hu
  rcases hu with rfl | rfl | rfl <;> rfl
theorem cmpB_lt_iff (a b : Bar) : cmpB a b < 0 ↔ Blt a b := by
  rw [← lessB_iff, ← cmpB_neg, decide_eq_true_eq]
/-- The slice is of the call's own, or reads so. -/
def OKS (w : World) (a : Option Addr) (c : Nat) (l : List Bar) : Prop := l.length ≤ c ∧ c ≤ maxLen ∧ (a = none → c = 0) ∧ RB w w.heap.size a l
theorem OKS.below {w w' : World} {a : Option Addr} {c : Nat} {l : List Bar} (h : OKS w a c l) (hb : Below w.heap.size w w') : OKS w' a c l := ⟨h.1, h.2.1, h.2.2.1, (h.2.2.2.below hb).more hb.size⟩
theorem own_oks {w : World} {base : Nat} {v : Value} {l : List Bar} (h : w.ownsRow base 74 3 v l.length (bcellsL l)) : ∃ a c, v = .slice a l.length c ∧ OKS w a c l := by
  rcases h.2 with ⟨rfl, hz⟩ | ⟨g, cap, cur, rfl, _, _, h1, h2, _⟩
  · have : l = [] := List.eq_nil_of_length_eq_zero hz
    subst this
    exact ⟨none, 0, rfl, Nat.zero_le _, by unfold maxLen; omega, fun _ => rfl, RB.nil _ _ _⟩
  · exact ⟨_, _, rfl, h1, h2, (fun e => by cases e), RB.of_own h⟩
def SlicePost (l : List Bar) (w : World) (e : Ending) (w' : World) : Prop := ∃ a c, e = .returned (.slice a l.length c) ∧ OKS w' a c l ∧ Below w.heap.size w w'
def PairPost (l : List Bar) (w : World) (e : Ending) (w' : World) : Prop := ∃ a c, e = .returned (.tuple #[.slice a l.length c, .int .i64 0]) ∧ OKS w' a c l ∧ Below w.heap.size w w'
end Go.Proofs.YtfmfpnnglogkmaaGreatDoor

/- A sheet's bars: plain mathematics, the bars of a cell, the iterator. -/
namespace Go.Proofs.YtfmfpnnglogkmaaGreatDoor
open Go.RowKit Go.Shelf Ck

def cel0 (x y : Int) (o : Bool) : Bar := if o then ⟨x + 1, y, -1⟩ else ⟨x, y, 1⟩
def cel1 (x y : Int) (o : Bool) : Bar := if o then ⟨x + 1, y, 1⟩ else ⟨x + 2, y, -1⟩
def oddB (r : Nat) : Bool := decide (r % 2 = 1)
def cellL (x y : Int) (r c : Nat) : List Bar := [cel0 (x + 2 * (c : Int)) (y + (r : Int)) (oddB r), cel1 (x + 2 * (c : Int)) (y + (r : Int)) (oddB r)]
/-- The first k cells of the row r. -/
def rowL (x y : Int) (r k : Nat) : List Bar := (List.range k).flatMap (cellL x y r)
/-- The first r rows. -/
def sheetP (x y : Int) (cols r : Nat) : List Bar := (List.range r).flatMap fun q => rowL x y q cols
theorem rowL_succ (x y : Int) (r k : Nat) : rowL x y r (k + 1) = rowL x y r k ++ cellL x y r k := by simp [rowL, List.range_succ]
theorem sheetP_succ (x y : Int) (cols r : Nat) : sheetP x y cols (r + 1) = sheetP x y cols r ++ rowL x y r cols := by simp [sheetP, List.range_succ]
theorem rowL_length (x y : Int) (r : Nat) : ∀ k, (rowL x y r k).length = 2 * k
  | 0 => rfl
  | k + 1 => by rw [rowL_succ, List.length_append, rowL_length x y r k]; simp [cellL]; omega
theorem sheetP_length (x y : Int) (cols : Nat) : ∀ r, (sheetP x y cols r).length = 2 * (cols * r)
  | 0 => by simp [sheetP]
  | r + 1 => by rw [sheetP_succ, List.length_append, sheetP_length x y cols r, rowL_length, Nat.mul_succ]; omega
theorem pre_short (x y : Int) {cols rows r c i : Nat} (hc : cols ≤ 256) (hr : rows ≤ 256) (h1 : r < rows) (h2 : c < cols) (h3 : i ≤ 2) : (sheetP x y cols r ++ rowL x y r c ++ (cellL x y r c).take i).length < 200000 := by
  rw [List.length_append, List.length_append, sheetP_length, rowL_length, List.length_take]
  have : cols * r ≤ 256 * 256 := Nat.mul_le_mul hc (by omega)
  omega

/-- The blocks from B1 to below B2 are as they were. -/
def KR (B1 B2 : Nat) (W W' : World) : Prop := W.heap.size ≤ W'.heap.size ∧ ∀ b, B1 ≤ b → b < B2 → W'.heap[b]? = W.heap[b]?
theorem KR.refl (B1 B2 : Nat) (W : World) : KR B1 B2 W W := ⟨Nat.le_refl _, fun _ _ _ => rfl⟩
theorem KR.trans {B1 B2 : Nat} {A B C : World} (h : KR B1 B2 A B) (k : KR B1 B2 B C) : KR B1 B2 A C := ⟨Nat.le_trans h.1 k.1, fun b h1 h2 => (k.2 b h1 h2).trans (h.2 b h1 h2)⟩
theorem KR.of_below {B1 B2 : Nat} {W W' : World} (h : Below W.heap.size W W') (hB : B2 ≤ W.heap.size) : KR B1 B2 W W' := ⟨h.size, fun b _ h2 => h.block b (by omega)⟩
theorem KR.cell {B1 B2 : Nat} {W W' : World} (h : KR B1 B2 W W') {b o : Nat} (h1 : B1 ≤ b) (h2 : b < B2) : W'.cell? ⟨b, o, none⟩ = W.cell? ⟨b, o, none⟩ := World.cell?_of_block (h.2 b h1 h2)
theorem KR.put {B1 B2 : Nat} {w : World} (hB : B2 ≤ w.heap.size) (W : World) (l : Nat) (o o' : Obj) (hl : w.heap.size ≤ l) (_ : W.heap[l]? = some o) (_ : o.isCells = false) (_ : o.isWalk = false) : KR B1 B2 W (W.putObj l o') :=
  ⟨by simp, fun b _ h2 => World.putObj_heap_other (by omega)⟩
def barArr (b : Bar) : Array Value := #[.agg #[.int .i64 b.x, .int .i64 b.y, .int .i64 b.s]]
theorem grown_below {W W' : World} (hb : Below W.heap.size W W') : W.grownBy W' none := ⟨hb.os, hb.tape, hb.output, hb.size, fun i hi _ => hb.block i hi⟩

end Go.Proofs.YtfmfpnnglogkmaaGreatDoor

/- A loop over a function that keeps a variable of its own in a box of the type e: the body never leaves the loop. -/
namespace Go.Proofs.YtfmfpnnglogkmaaGreatDoor
open Go.RowKit Go.Shelf

/-- J holds on where memory grows, and where one block from B on is written that is no cells, or two cells of the type e. -/
def Bides {β : Type} (B : Nat) (e : TypeId) (J : β → World → Prop) : Prop :=
  ∀ s W W' r, J s W → W.grownBy W' r → (∀ b, r = some b → B ≤ b ∧ ∃ o, W.heap[b]? = some o ∧ (o.isCells = false ∨ ∃ cs f, o = .cells cs e f ∧ cs.size = 2)) → J s W'
theorem Bides.below {β : Type} {B : Nat} {e : TypeId} {J : β → World → Prop} (h : Bides B e J) {s : β} {W W' : World} (hs : J s W) (hb : Below W.heap.size W W') : J s W' :=
  h s W W' none hs ⟨hb.os, hb.tape, hb.output, hb.size, fun i hi _ => hb.block i hi⟩ (fun _ e => by cases e)
theorem Bides.put {β : Type} {B : Nat} {e : TypeId} {J : β → World → Prop} (h : Bides B e J) {s : β} {W : World} {l : Nat} {o : Obj} (o' : Obj) (hs : J s W) (hB : B ≤ l) (hl : W.heap[l]? = some o) (ho : o.isCells = false) : J s (W.putObj l o') :=
  h s W _ (some l) hs (grownBy_putObj' W l o') (fun b e => by cases e; exact ⟨hB, o, hl, .inl ho⟩)
theorem Bides.and {β : Type} {B : Nat} {e : TypeId} {J K : β → World → Prop} (h : Bides B e J) (k : Bides B e K) : Bides B e (fun s W => J s W ∧ K s W) := fun s W W' r hs hg hr => ⟨h s W W' r hs.1 hg hr, k s W W' r hs.2 hg hr⟩
/-- The loop's two blocks lie as they lay. -/
def Book (B : Nat) (W W' : World) : Prop := W'.heap[B]? = W.heap[B]? ∧ W'.heap[B + 1]? = W.heap[B + 1]? ∧ W.heap.size ≤ W'.heap.size
theorem Book.trans {B : Nat} {X Y Z : World} (h : Book B X Y) (k : Book B Y Z) : Book B X Z := ⟨k.1.trans h.1, k.2.1.trans h.2.1, Nat.le_trans h.2.2 k.2.2⟩
theorem Book.below {B : Nat} {W W' : World} (hB : B + 2 ≤ W.heap.size) (h : Below W.heap.size W W') : Book B W W' := ⟨h.block _ (by omega), h.block _ (by omega), h.size⟩
theorem Book.others {B : Nat} {W W' : World} (h : KeepsOthers W W') (h0 : ∃ o, W.heap[B]? = some o ∧ o.isCells = false) (h1 : ∃ o, W.heap[B + 1]? = some o ∧ o.isCells = false) : Book B W W' := by
  obtain ⟨o0, a0, b0⟩ := h0
  obtain ⟨o1, a1, b1⟩ := h1
  exact ⟨(h.same _ _ a0 b0).trans a0.symm, (h.same _ _ a1 b1).trans a1.symm, h.size⟩
def RoundEnd {α : Type} (B : Nat) (Kp : World → World → Prop) (I : List α → World → Prop) (xs : List α) (W : World) : Exit → Act → World → Prop
  | .normal, _, W' => Book B W W' ∧ Kp W W' ∧ I xs W'
  | _, _, _ => False

/-- What the loop asks of the function over which it goes. -/
def Visits {α : Type} (P : Program) (n : Nat) (e : TypeId) (gf : Nat) (lb : Array Value) (encs : α → Array Value) (Kp : World → World → Prop) (S : List α → Prop) (G : List α → α → Prop) (w : World) : Prop :=
  ∀ (l : Nat) (J : List α → World → Prop) (W : World), Below w.heap.size w W → Bides W.heap.size e J →
    (∀ pre x W1, J pre W1 → G pre x → YieldAt Fence.wide (n - 1) P l (encs x) W1 fun en W' => en = .returned (.bool true) ∧ J (pre ++ [x]) W' ∧ Kp W1 W') →
    J [] W → CallsIn Fence.wide n P gf (#[.func (.yield l) #[] #[]] ++ lb) W fun en W' => (∃ v, en = .returned v) ∧ ∃ xs, S xs ∧ J xs W'

theorem wpIn_visits {α : Type} {P : Program} {n : Nat} {e : TypeId} {g : Operand} {ps : Array Tmp} {assign body : Code} {Q : Exit → Act → World → Prop} {a : Act} {w : World} (h1 : 1 ≤ n)
    {gf : Nat} {lb : Array Value} (hg : a.eval g = .func (.func gf) #[] lb) (eg : ∀ args w, (callFunc gf args).run P w = .ok (.enter gf args) w)
    {encs : α → Array Value} {Kp : World → World → Prop} {S : List α → Prop} {G : List α → α → Prop} (hseq : Visits P (n - 1) e gf lb encs Kp S G w)
    (hKt : ∀ {A B C : World}, Kp A B → Kp B C → Kp A C) (hKb : ∀ (W : World) (l : Nat) (o o' : Obj), w.heap.size ≤ l → W.heap[l]? = some o → o.isCells = false → o.isWalk = false → Kp W (W.putObj l o')) (hps : ∀ x, (encs x).size = ps.size)
    (I : List α → World → Prop) (hI : Bides w.heap.size e I) (h0 : I [] w)
    (hround : ∀ (l : Nat) (pre : List α) (x : α) (W : World), w.heap.size + 2 ≤ W.heap.size → I pre W → G pre x →
      assign.wpIn (Fence.wide.inRound l) (n - 1 - 1) P (Exit.then (fun a' Wa => Book w.heap.size W Wa ∧ Kp W Wa ∧
        ∀ Wb, Wa.grownBy Wb (some (w.heap.size + 1)) → (∃ o, Wa.heap[w.heap.size + 1]? = some o ∧ o.isCells = false) → ((∃ o, Wb.heap[w.heap.size]? = some o ∧ o.isCells = false) ∧ ∃ o, Wb.heap[w.heap.size + 1]? = some o ∧ o.isCells = false) → body.wpIn (Fence.wide.inRound l) (n - 1 - 1) P (RoundEnd w.heap.size Kp I (pre ++ [x]) Wb) a' Wb) (fun _ _ _ => False))
        { tmps := (ps.zip (encs x)).foldl (fun t (p, v) => t.setIfInBounds p v) a.tmps, defers := [] } W)
    (hdone : ∀ (D : Nat) (xs : List α) (W : World), w.heap.size ≤ D → S xs → I xs W → W.heap[D]? = some (.deferred (some [])) → Q .normal { a with defers := { target := .collected D, args := #[] } :: a.defers } W) :
    (Code.rangeFunc g ps assign body).wpIn Fence.wide n P Q a w := by
  refine wpIn_rangeFunc fun fn _ => ?_
  obtain ⟨L, hL⟩ : ∃ L : LoopState → Option Code → Loop, L = fun s j => { state := s, pending := j, fn, tmps := a.tmps, params := ps, assign, body, defers := w.heap.size } := ⟨_, rfl⟩
  obtain ⟨W1, hW1⟩ : ∃ W1, W1 = (w.alloc (.deferred (some []))).alloc (.loop (L .ready none)) := ⟨_, rfl⟩
  have s1 : W1.heap.size = w.heap.size + 2 := by rw [hW1]; simp
  have b1 : Below w.heap.size w W1 := by rw [hW1]; exact ((Below.refl _ _).alloc (Nat.le_refl _) _).alloc (by simp) _
  have r1 : W1.heap[w.heap.size + 1]? = some (.loop (L .ready none)) := by
    rw [hW1]
    have := World.alloc_heap_new (w.alloc (.deferred (some []))) (.loop (L .ready none))
    rwa [World.size_alloc] at this
  have d1 : W1.heap[w.heap.size]? = some (.deferred (some [])) := by
    rw [hW1, Below.heap_alloc _ _ _ (by simp)]
    exact World.alloc_heap_new w _
  refine ⟨w.heap.size + 1, [{ target := .collected w.heap.size, args := #[] }], W1, { target := .fn (.func gf) lb, args := #[.func (.yield (w.heap.size + 1)) #[] #[]] }, W1, gf,
    #[.func (.yield (w.heap.size + 1)) #[] #[]] ++ lb, W1, by rw [hW1, hL]; exact run_enterLoop_outer _ _ _ _ _, ?_, fun _ _ => trivial, by simp [invoke, go_sem, eg], fun _ => h1, ?_⟩
  · simp only [resolve, hg]
    simp [go_sem]
  refine (hseq (w.heap.size + 1) (fun pre W => I pre W ∧ (W.heap[w.heap.size]? = some (.deferred (some [])) ∧ W.heap[w.heap.size + 1]? = some (.loop (L .ready none)))) W1 b1 ?bid ?yields ⟨hI.below h0 b1, d1, r1⟩).mono ?after
  case bid =>
    intro s X Y r hs hgr hr
    refine ⟨hI s X Y r hs.1 hgr fun b hb => ?_, ?_, ?_⟩
    · obtain ⟨h, o, ho⟩ := hr b hb
      exact ⟨by omega, o, ho⟩
    · exact (hgr.block _ (Array.getElem?_eq_some_iff.1 hs.2.1).1 (fun h => by have := (hr _ h.symm).1; omega)).trans hs.2.1
    · exact (hgr.block _ (Array.getElem?_eq_some_iff.1 hs.2.2).1 (fun h => by have := (hr _ h.symm).1; omega)).trans hs.2.2
  case yields =>
    rintro pre x W ⟨hi, hd, hl⟩ hlen
    have hz := (Array.getElem?_eq_some_iff.1 hl).1
    have hy := run_yield (P := P) (args := encs x) hl (by rw [hL]; exact hps x)
    rw [hL] at hy
    refine ⟨fn, _, assign, body, hy, roundIn_of_wpIn trivial (wpIn_mono (hround _ pre x W (by omega) hi hlen) ?_)⟩
    rintro en a' Wa hp
    cases en with
    | normal =>
      obtain ⟨⟨k1, k2, k3⟩, kp, hbody⟩ := hp
      have hla := k2.trans hl
      have hza := (Array.getElem?_eq_some_iff.1 hla).1
      refine ⟨_, run_beginRound hla (by rw [hL]), ?_⟩
      have hlb : (Wa.putObj (w.heap.size + 1) (.loop { L .ready none with state := .busy })).heap[w.heap.size + 1]? = some (.loop { L .ready none with state := .busy }) := World.putObj_heap_same hza
      have hdb : (Wa.putObj (w.heap.size + 1) (.loop { L .ready none with state := .busy })).heap[w.heap.size]? = some (.deferred (some [])) := (World.putObj_heap_other (by omega)).trans (k1.trans hd)
      have kb : Kp Wa (Wa.putObj (w.heap.size + 1) (.loop { L .ready none with state := .busy })) := hKb _ _ _ _ (by omega) hla rfl rfl
      refine wpIn_mono (hbody _ (grownBy_putObj' _ _ _) ⟨_, hla, rfl⟩ ⟨⟨_, hdb, rfl⟩, ⟨_, hlb, rfl⟩⟩) ?_
      rintro e3 a3 W3 hp3
      cases e3 with
      | normal =>
        obtain ⟨⟨m1, m2, m3⟩, kp3, hi3⟩ := hp3
        have hl3 := m2.trans hlb
        have hz3 := (Array.getElem?_eq_some_iff.1 hl3).1
        refine ⟨_, _, run_endRound none hl3, rfl, ⟨hI.put _ hi3 (by omega) hl3 rfl, (World.putObj_heap_other (by omega)).trans (m1.trans hdb), ?_⟩, hKt kp (hKt (hKt kb kp3) (hKb _ _ _ _ (by omega) hl3 rfl rfl))⟩
        rw [World.putObj_heap_same hz3, hL]
        rfl
      | _ => exact hp3.elim
    | _ => exact hp.elim
  case after =>
    rintro en W2 ⟨⟨v, rfl⟩, xs, hS, hi, hd, hl⟩
    exact ⟨none, _, by have := run_endLoop (P := P) hl (by rw [hL]; simp); rw [hL] at this; exact this, hdone _ xs _ (Nat.le_refl _) hS (hI.put _ hi (by omega) hl rfl) ((World.putObj_heap_other (by omega)).trans hd)⟩
end Go.Proofs.YtfmfpnnglogkmaaGreatDoor

/- The letters of an edge, one after another: what legs visits. -/
namespace Go.Proofs.YtfmfpnnglogkmaaGreatDoor
open Go.RowKit Go.Shelf Ck

def sg (o : Bool) : Int := if o then 1 else -1
theorem sg_or (o : Bool) : sg o = 1 ∨ sg o = -1 := by cases o <;> simp [sg]
def legsL (σ : Int) : Knot → List UInt8 → List (UInt8 × Knot × Knot)
  | _, [] => []
  | k, c :: r => (c, k, stepK σ k c) :: legsL σ (stepK σ k c) r
def posK (σ : Int) (k : Knot) (l : List UInt8) : Knot := l.foldl (stepK σ) k
theorem posK_snoc (σ : Int) (k : Knot) (l : List UInt8) (c : UInt8) : posK σ k (l ++ [c]) = stepK σ (posK σ k l) c := by simp [posK]
theorem legsL_snoc (σ : Int) : ∀ (l : List UInt8) (k : Knot) (c : UInt8), legsL σ k (l ++ [c]) = legsL σ k l ++ [(c, posK σ k l, stepK σ (posK σ k l) c)]
  | [], _, _ => rfl
  | a :: r, k, c => by
    rw [List.cons_append, legsL, legsL_snoc σ r]
    rfl
theorem legsL_append (σ : Int) : ∀ (l : List UInt8) (k : Knot) (r : List UInt8), legsL σ k (l ++ r) = legsL σ k l ++ legsL σ (posK σ k l) r
  | [], _, _ => rfl
  | a :: l, k, r => by
    rw [List.cons_append, legsL, legsL_append σ l]
    rfl
theorem legsL_length (σ : Int) : ∀ (l : List UInt8) (k : Knot), (legsL σ k l).length = l.length
  | [], _ => rfl
  | _ :: r, k => by rw [legsL, List.length_cons, legsL_length σ r, List.length_cons]
theorem step_near (o : Bool) {k : Knot} {c : UInt8} (hc : isL c) : (stepK (sg o) k c).x ≤ k.x + 2 ∧ k.x - 2 ≤ (stepK (sg o) k c).x ∧ (stepK (sg o) k c).y ≤ k.y + 2 ∧ k.y ≤ (stepK (sg o) k c).y := by
  rcases hc with rfl | rfl | rfl <;> cases o <;> simp [stepK, sg, dxL, dyL] <;> omega
def legArr (x : UInt8 × Knot × Knot) : Array Value := #[.agg #[.int .i32 (x.1.toNat : Int), .int .i64 x.2.1.x, .int .i64 x.2.1.y, .int .i64 x.2.2.x, .int .i64 x.2.2.y]]
/-- From block B1 on: maps, iterators, boxes of a knot, and cells of other types than e lie as they lay. -/
def KT (B1 : Nat) (e : TypeId) (W W' : World) : Prop := W.heap.size ≤ W'.heap.size ∧ ∀ b o, B1 ≤ b → W.heap[b]? = some o → (o.isWalk = true ∨ ∃ cs t f, o = .cells cs t f ∧ (t ≠ e ∨ t = 43 ∧ cs.size = 2)) → W'.heap[b]? = some o
theorem KT.trans {B1 : Nat} {e : TypeId} {A B C : World} (h : KT B1 e A B) (k : KT B1 e B C) : KT B1 e A C := ⟨Nat.le_trans h.1 k.1, fun b o hb ho hk => k.2 b o hb (h.2 b o hb ho hk) hk⟩
theorem KT.put {B1 : Nat} {e : TypeId} {w : World} (W : World) (l : Nat) (o o' : Obj) (_ : w.heap.size ≤ l) (hl : W.heap[l]? = some o) (h1 : o.isCells = false) (h2 : o.isWalk = false) : KT B1 e W (W.putObj l o') :=
  ⟨by simp, fun b ob _ hob hk => by
    have : b ≠ l := by
      rintro rfl
      rw [hl] at hob
      cases hob
      rcases hk with hk | ⟨cs, t, f, rfl, _⟩
      · rw [h2] at hk; cases hk
      · cases h1
    exact (World.putObj_heap_other this).trans hob⟩
theorem KT.of_below {B1 : Nat} {e : TypeId} {W W' : World} (h : Below W.heap.size W W') : KT B1 e W W' := ⟨h.size, fun b _ _ ho _ => (h.block b (Array.getElem?_eq_some_iff.1 ho).1).trans ho⟩

theorem tpFurtherK (k : Knot) (c : UInt8) (o : Bool) (w : World) (hc : isL c) (hx1 : -200000 ≤ k.x) (hx2 : k.x ≤ 200000) (hy1 : -200000 ≤ k.y) (hy2 : k.y ≤ 200000) :
    Calls Tryz.prog 101 #[.agg #[.int .i64 k.x, .int .i64 k.y], .agg #[.int .i64 (dxL c), .int .i64 (dyL c)], .bool o] w fun e w' => e = .returned (.agg #[.int .i64 (stepK (sg o) k c).x, .int .i64 (stepK (sg o) k c).y]) ∧ Below w.heap.size w w' := by
  have hd : 0 ≤ dxL c ∧ dxL c ≤ 2 ∧ 0 ≤ dyL c ∧ dyL c ≤ 2 := by rcases hc with rfl | rfl | rfl <;> simp [dxL, dyL]
  refine (tpFurther k.x k.y (dxL c) (dyL c) o w hx1 hx2 hy1 hy2 hd.1 hd.2.1 hd.2.2.1 hd.2.2.2).mono fun e w' h => ⟨?_, h.2⟩
  rw [h.1]
  cases o <;> simp [stepK, sg, Int.sub_eq_add_neg]
theorem two_cell {W : World} {b : Nat} {u v : Value} {t : TypeId} (h : W.heap[b]? = some (.cells #[u, v] t (0, 0))) : W.cell? ⟨b, 0, none⟩ = some u ∧ W.cell? ⟨b, 1, none⟩ = some v ∧ W.frozen? ⟨b, 0, none⟩ = false ∧ W.frozen? ⟨b, 1, none⟩ = false := by
  refine ⟨?_, ?_, ?_, ?_⟩ <;> simp [World.cell?, World.frozen?, h]
theorem two_set {W : World} {b : Nat} {u v : Value} {t : TypeId} (h : W.heap[b]? = some (.cells #[u, v] t (0, 0))) (p q : Value) :
    ((W.setCell ⟨b, 0, none⟩ p).setCell ⟨b, 1, none⟩ q).heap[b]? = some (.cells #[p, q] t (0, 0)) ∧ W.grownBy ((W.setCell ⟨b, 0, none⟩ p).setCell ⟨b, 1, none⟩ q) (some b) := by
  have e0 : (W.setCell ⟨b, 0, none⟩ p).heap[b]? = some (.cells #[p, v] t (0, 0)) := by
    simp only [World.setCell, Array.getElem?_modify, if_true, h, Option.map_some]
    rfl
  have e1 : ((W.setCell ⟨b, 0, none⟩ p).setCell ⟨b, 1, none⟩ q).heap[b]? = some (.cells #[p, q] t (0, 0)) := by
    generalize W.setCell ⟨b, 0, none⟩ p = X at *
    simp only [World.setCell, Array.getElem?_modify, if_true, e0, Option.map_some]
    rfl
  refine ⟨e1, ⟨rfl, rfl, rfl, by simp [World.setCell], fun i _ hne => ?_⟩⟩
  have : i ≠ b := fun e => hne (by rw [e])
  exact (Below.heap_setCell _ _ _ i this).trans (Below.heap_setCell _ _ _ i this)
theorem one_cell {W : World} {b : Nat} {u : Value} {t : TypeId} (h : W.heap[b]? = some (.cells #[u] t (0, 0))) : W.cell? ⟨b, 0, none⟩ = some u := by
  simp [World.cell?, h]

set_option maxHeartbeats 4000000 in
set_option maxRecDepth 100000 in
theorem legs_visits (B1 n Ba Bs Bn Bb : Nat) (te : TypeId) (hn : 3 ≤ n) (x y : Int) (s : ByteArray) (c : Nat) (o : Bool) (w : World) (ht2 : 4 ≠ te) (hs : Word s) (hlen : c * s.size ≤ 256) (hx1 : -100000 ≤ x) (hx2 : x ≤ 100000) (hy1 : -100000 ≤ y) (hy2 : y ≤ 100000)
    (hBb1 : B1 ≤ Bb) (_ : B1 ≤ w.heap.size)
    (ha : w.heap[Ba]? = some (.cells #[.int .i64 x, .int .i64 y] 43 (0, 0))) (hb : w.heap[Bs]? = some (.cells #[.string s] 9 (0, 0))) (hcn : w.heap[Bn]? = some (.cells #[.int .i64 c] 3 (0, 0))) (ho : w.heap[Bb]? = some (.cells #[.bool o] 4 (0, 0))) :
    Visits Tryz.prog n 43 99 #[.pointer (some ⟨Ba, 0, none⟩), .pointer (some ⟨Bs, 0, none⟩), .pointer (some ⟨Bn, 0, none⟩), .pointer (some ⟨Bb, 0, none⟩)] legArr (KT B1 te) (fun ss => ss = legsL (sg o) ⟨x, y⟩ (Lib.repeatL s.data.toList c)) (fun pre x' => ∃ r, legsL (sg o) ⟨x, y⟩ (Lib.repeatL s.data.toList c) = pre ++ x' :: r) w := by
  intro l J W hbw hJ hY h0
  have h1n : 1 ≤ n := by omega
  have fv : Fence.wide.fn 100 := trivial
  have fr : Fence.wide.fn 83 := trivial
  have ff : Fence.wide.fn 101 := trivial
  have za := (Array.getElem?_eq_some_iff.1 ha).1
  have zb := (Array.getElem?_eq_some_iff.1 hb).1
  have zc := (Array.getElem?_eq_some_iff.1 hcn).1
  have zo := (Array.getElem?_eq_some_iff.1 ho).1
  have hWz := hbw.size
  -- what is repeated
  have hc256 : c ≤ 256 := by have := Nat.mul_le_mul_left c hs.2.1; omega
  obtain ⟨L, hL⟩ : ∃ L, Lib.repeatL s.data.toList c = L := ⟨_, rfl⟩
  have hLl : L.length ≤ 256 := by rw [← hL, Lib.repeatL_length, ← Lib.size_eq]; exact hlen
  have hLL : ∀ q ∈ L, isL q := by
    rw [← hL]
    clear hL hLl hlen hcn hc256 hY
    induction c with
    | zero => intro q hq; simp [Lib.repeatL] at hq
    | succ c ih => intro q hq; rw [Lib.repeatL, List.mem_append] at hq; exact hq.elim (hs.1 q) (ih q)
  obtain ⟨S, hS⟩ : ∃ S : ByteArray, S = ⟨L.toArray⟩ := ⟨_, rfl⟩
  have hSz : S.size = L.length := by rw [hS]; simp [ByteArray.size]
  have hSd : S.data.toList = L := by rw [hS]
  have HS := Lib.hid hS
  have HSZ := Lib.hid hSz
  have HSD := Lib.hid hSd
  clear hS hSz hSd
  obtain ⟨a0, a1, -, -⟩ := two_cell ((hbw.block Ba za).trans ha)
  have b0 := one_cell ((hbw.block Bs zb).trans hb)
  have c0 := one_cell ((hbw.block Bn zc).trans hcn)
  have hoW := (hbw.block Bb zo).trans ho
  refine callsIn_of_wp Tryz.func99 rfl trivial ?_ rfl
  simp only [Tryz.ntmps99, List.size_toArray, List.length_cons, List.length_nil, Nat.reduceAdd, Nat.reduceSub, Array.replicate_succ, Array.replicate_zero, List.push_toArray, List.append_toArray, List.nil_append, List.cons_append]
  have hj0 := h0
  clear h0
  gi_wp2_with (first
    | (gi_at_call 100; refine (callsIn_wide.2 (tpVectors _)).mono ?_; rintro e w1 ⟨rfl, hv1, hb1⟩; have hzv := hv1.lt; have hz1 := hb1.size; have e0 := (hb1.cell (p := ⟨Ba, 0, none⟩) (by show Ba < _; omega)).trans a0; have e1 := (hb1.cell (p := ⟨Ba, 1, none⟩) (by show Ba < _; omega)).trans a1; obtain ⟨w2, hw2, -, -, hb2, hz2⟩ := box2 w1 (.int .i64 x) (.int .i64 y) 43; have e2 := ((hb2.cell (p := ⟨Bs, 0, none⟩) (by show Bs < _; omega)).trans (hb1.cell (p := ⟨Bs, 0, none⟩) (by show Bs < _; omega))).trans b0; have e3 := ((hb2.cell (p := ⟨Bn, 0, none⟩) (by show Bn < _; omega)).trans (hb1.cell (p := ⟨Bn, 0, none⟩) (by show Bn < _; omega))).trans c0; have hw2' := hw2.symm; clear hw2)
    | (gi_at_call 83; refine (callsIn_wide.2 (tpRepeated s c _ (by have := hs.2.2; omega) hc256)).mono ?_; rintro e w3 ⟨rfl, hb3⟩; rw [hL, ← HS.out]))
  have HJ := Lib.hid hJ
  have hz3 := hb3.size
  -- the worlds up to the loop
  have hjr : J [] (w3.iter S 0) := hJ.below (hJ.below (hJ.below (hJ.below hj0 (hb1.mono (Nat.le_refl _))) (hw2' ▸ hb2)) hb3) ((Below.refl _ _).alloc (Nat.le_refl _) _)
  have hBw : Below W.heap.size W (w3.iter S 0) := (((hb1.trans (hb2.mono hz1)).trans (hb3.mono (by omega)))).alloc (by omega) _
  have hit0 : (w3.iter S 0).heap[w3.heap.size]? = some (.stringIter S 0) := World.iter_heap w3 S 0
  have hv3 : VecAt (w3.iter S 0) W.heap.size := by
    have q1 := hv1.lt
    refine hv1.of_block ?_
    rw [show (w3.iter S 0).heap[W.heap.size]? = w3.heap[W.heap.size]? from Below.heap_alloc _ _ _ (by omega), hb3.block _ (by omega), hb2.block _ q1]
  have hf3 : (w3.iter S 0).heap[w1.heap.size]? = some (.cells #[.int .i64 x, .int .i64 y] 43 (0, 0)) := by
    rw [show (w3.iter S 0).heap[w1.heap.size]? = w3.heap[w1.heap.size]? from Below.heap_alloc _ _ _ (by omega), hb3.block _ hz2, ← hw2']
    exact heap_alloc_new _ _
  have ho3 := (hBw.block Bb (by omega)).trans hoW
  generalize w3.iter S 0 = w4 at *
  clear hw2' hb2 hb3 hv1 hb1 e0 e1 e2 e3 hj0 a0 a1 b0 c0
  gi_loopw [9] (fun _ wr => ∃ (pos : Nat) (k : Knot), pos ≤ L.length ∧ k = posK (sg o) ⟨x, y⟩ (L.take pos) ∧ (k.x ≤ 100000 + 2 * (pos : Int) ∧ -100000 - 2 * (pos : Int) ≤ k.x ∧ k.y ≤ 100000 + 2 * (pos : Int) ∧ -100000 ≤ k.y) ∧
      wr.heap[w3.heap.size]? = some (.stringIter S pos) ∧ VecAt wr W.heap.size ∧ wr.heap[w1.heap.size]? = some (.cells #[.int .i64 k.x, .int .i64 k.y] 43 (0, 0)) ∧ wr.heap[Bb]? = some (.cells #[.bool o] 4 (0, 0)) ∧ J (legsL (sg o) ⟨x, y⟩ (L.take pos)) wr) (fun _ wr => S.size - wr.iterPos w3.heap.size)
  case atStart => exact ⟨0, ⟨x, y⟩, Nat.zero_le _, rfl, ⟨by simp; omega, by simp; omega, by simp; omega, hy1⟩, hit0, hv3, hf3, ho3, hjr⟩
  case round =>
    obtain ⟨pos, k, hpos, hk, ⟨kx1, kx2, ky1, ky2⟩, hit, hv, hf, hob, hj⟩ := hrel
    clear hit0 hv3 hf3 ho3 hjr
    by_cases hp : pos < S.size
    · have hSz := HSZ.out
      have hpl : pos < L.length := by omega
      have hkl : pos < S.data.toList.length := by rw [HSD.out]; exact hpl
      have hel : S[pos] = L[pos] := by rw [← byte_at S pos hp hkl]; simp only [HSD.out]
      obtain ⟨q, hq⟩ : ∃ q, q = L[pos] := ⟨_, rfl⟩
      have hLq : isL q := hq ▸ hLL _ (List.getElem_mem hpl)
      rw [← hq] at hel
      have hnext : ∀ ty, (Instr.next (.pointer (some ⟨w3.heap.size, 0, none⟩)) true ty).run Tryz.prog wr = _ := fun ty => Lib.run_next_ascii_at wr w3.heap.size S pos ty hit hp (by rw [hel]; exact isL_small hLq)
      rw [hel] at hnext
      have hmu : wr.iterPos w3.heap.size = pos := by simp [World.iterPos, hit]
      have hit1 := Lib.iterAt_heap wr w3.heap.size S pos (pos + 1) hit
      have hzi := (Array.getElem?_eq_some_iff.1 hit).1
      have hv1 := hv.of_block (Lib.iterAt_other wr w3.heap.size W.heap.size S (pos + 1) (by omega))
      have hf1 := (Lib.iterAt_other wr w3.heap.size w1.heap.size S (pos + 1) (by omega)).trans hf
      have hob1 := (Lib.iterAt_other wr w3.heap.size Bb S (pos + 1) (by omega)).trans hob
      have hgi : wr.grownBy (wr.iterAt w3.heap.size S (pos + 1)) (some w3.heap.size) := ⟨rfl, rfl, rfl, by simp [World.iterAt], fun i _ hi => Lib.iterAt_other _ _ _ _ _ (fun e => hi (by rw [e]))⟩
      have hj1 := HJ.out _ _ _ (some w3.heap.size) hj hgi (fun b e => by cases e; exact ⟨by omega, _, hit, .inl rfl⟩)
      generalize wr.iterAt w3.heap.size S (pos + 1) = W1 at hnext hit1 hv1 hf1 hob1 hj1
      clear hgi
      obtain ⟨f0, f1, -, -⟩ := two_cell hf1
      have o1 := one_cell hob1
      have hlk := vecLookup hv1 hLq
      obtain ⟨k', hk'⟩ : ∃ k', k' = stepK (sg o) k q := ⟨_, rfl⟩
      obtain ⟨n1, n2, n3, n4⟩ := step_near o (k := k) hLq
      rw [← hk'] at n1 n2 n3 n4
      have HK := Lib.hid hk'
      have HKK := Lib.hid hk
      have HQ := Lib.hid hq
      have HSNOC := Lib.hid (show legsL (sg o) ⟨x, y⟩ (L.take (pos + 1)) = legsL (sg o) ⟨x, y⟩ (L.take pos) ++ [(q, k, k')] by
        rw [List.take_succ_eq_append_getElem hpl, legsL_snoc, ← hk, ← hq, ← hk'])
      have HPOS := Lib.hid (show k' = posK (sg o) ⟨x, y⟩ (L.take (pos + 1)) by
        rw [List.take_succ_eq_append_getElem hpl, posK_snoc, ← hk, ← hq, ← hk'])
      have hlen' : ∃ r, legsL (sg o) ⟨x, y⟩ (Lib.repeatL s.data.toList c) = legsL (sg o) ⟨x, y⟩ (L.take pos) ++ (q, k, k') :: r := by
        refine ⟨legsL (sg o) (posK (sg o) ⟨x, y⟩ (L.take (pos + 1))) (L.drop (pos + 1)), ?_⟩
        have e1 := legsL_append (sg o) (L.take (pos + 1)) ⟨x, y⟩ (L.drop (pos + 1))
        rw [List.take_append_drop, HSNOC.out] at e1
        rw [hL, e1]
        simp
      have HLEN := Lib.hid hlen'
      clear hk' hk hq hel hkl hlen' hf hv hob hit hj
      gi_wp2_with (gi_at_call 101; refine (callsIn_wide.2 (tpFurtherK k q o _ hLq (by omega) (by omega) (by omega) (by omega))).mono ?_; rintro e W2 ⟨rfl, hb2⟩; rw [← HK.out]; have hzi2 := (Array.getElem?_eq_some_iff.1 hit1).1; have hz2' := hb2.size; have g1 := (hb2.block _ (Array.getElem?_eq_some_iff.1 hf1).1).trans hf1; obtain ⟨W3, hW3, m0, m1, hb3, hz3'⟩ := box2 W2 (.int .i64 k'.x) (.int .i64 k'.y) 43; have b13 := hb2.trans (hb3.mono hz2'); obtain ⟨g0, g1', -, -⟩ := two_cell ((b13.block _ (Array.getElem?_eq_some_iff.1 hf1).1).trans hf1); have hj3 := HJ.out.below hj1 b13; obtain ⟨fn, tmps, assign, body, hy, hR⟩ := hY _ (q, k, k') _ hj3 HLEN.out; dsimp only [legArr] at hy; have hW3' := hW3.symm; have T3 : W3.heap[W2.heap.size]? = some (.cells #[.int .i64 k'.x, .int .i64 k'.y] 43 (0, 0)) := (by rw [hW3]; exact heap_alloc_new _ _); clear hW3; have G3 := (b13.block _ (Array.getElem?_eq_some_iff.1 hf1).1).trans hf1; have I3 := (b13.block _ (Array.getElem?_eq_some_iff.1 hit1).1).trans hit1; have V3 := hv1.of_block (b13.block _ hv1.lt); have O3 := (b13.block _ (Array.getElem?_eq_some_iff.1 hob1).1).trans hob1)
      refine hR.mono ?_
      rintro e W4 ⟨rfl, hJ4, hk4⟩
      have hzi1 := (Array.getElem?_eq_some_iff.1 I3).1
      have T4 := hk4.2 _ _ (by omega) T3 (.inr ⟨_, _, _, rfl, .inr ⟨rfl, rfl⟩⟩)
      have G4 := hk4.2 _ _ (by omega) G3 (.inr ⟨_, _, _, rfl, .inr ⟨rfl, rfl⟩⟩)
      have I4 := hk4.2 _ _ (by omega) I3 (.inl rfl)
      have V4 : VecAt W4 W.heap.size := hk4.2 _ _ (by omega) V3 (.inl rfl)
      have O4 := hk4.2 _ _ hBb1 O3 (.inr ⟨_, _, _, rfl, .inl ht2⟩)
      obtain ⟨t0, t1, -, -⟩ := two_cell T4
      obtain ⟨u0, u1, u2, u3⟩ := two_cell G4
      clear T3 G3 I3 V3 O3 g0 g1 g1' m0 m1 f0 f1 o1 hlk hnext hW3'
      gi_wp2
      obtain ⟨G5, hg5⟩ := two_set G4 (.int .i64 k'.x) (.int .i64 k'.y)
      have hj5 := HJ.out _ _ _ (some w1.heap.size) hJ4 hg5 (fun b e => by cases e; exact ⟨hz1, _, G4, .inr ⟨_, _, rfl, rfl⟩⟩)
      rw [← HSNOC.out] at hj5
      have I5 := (hg5.block _ (Array.getElem?_eq_some_iff.1 I4).1 (fun e => by injection e; omega)).trans I4
      have V5 : VecAt _ W.heap.size := (hg5.block _ V4.lt (fun e => by injection e; omega)).trans V4
      have O5 := (hg5.block _ (Array.getElem?_eq_some_iff.1 O4).1 (fun e => by injection e; omega)).trans O4
      generalize (W4.setCell ⟨w1.heap.size, 0, none⟩ (.int .i64 k'.x)).setCell ⟨w1.heap.size, 1, none⟩ (.int .i64 k'.y) = W5 at *
      have hmu5 : W5.iterPos w3.heap.size = pos + 1 := by simp [World.iterPos, I5]
      go_roundw
      case rel => exact ⟨pos + 1, k', by omega, HPOS.out, ⟨by omega, by omega, by omega, by omega⟩, I5, V5, G5, O5, hj5⟩
      case measure =>
        rw [hmu, hmu5]
        omega
    · have hSz := HSZ.out
      obtain rfl : pos = L.length := by omega
      have hnext : ∀ ty, (Instr.next (.pointer (some ⟨w3.heap.size, 0, none⟩)) true ty).run Tryz.prog wr = _ := fun ty => Lib.run_next_end_at wr w3.heap.size S L.length ty hit hp
      rw [List.take_length] at hj
      have HJE := Lib.hid hj
      clear hj hk
      gi_wp2
      go_end0
      exact ⟨⟨_, rfl⟩, _, by rw [hL], HJE.out⟩
end Go.Proofs.YtfmfpnnglogkmaaGreatDoor

/- Spread words, and how near they stay to the line of their ratio: plain mathematics. -/
namespace Go.Proofs.YtfmfpnnglogkmaaGreatDoor
open Ck

/-- The first k pieces of the spread of m times v among n times w. -/
def spreadL (v : List UInt8) (m : Nat) (w : List UInt8) (n : Nat) : Nat → List UInt8
  | 0 => []
  | k + 1 => spreadL v m w n k ++ (if k * m / (m + n) < (k + 1) * m / (m + n) then v else w)
theorem floor_period {m n : Nat} (h : 0 < m + n) (i : Nat) : (m + n + i) * m / (m + n) = m + i * m / (m + n) := by
  rw [Nat.add_mul, Nat.add_comm ((m + n) * m) (i * m), Nat.mul_comm (m + n) m, Nat.add_mul_div_right _ _ h, Nat.add_comm]
theorem spreadL_period {v w : List UInt8} {m n : Nat} (h : 0 < m + n) : ∀ j, spreadL v m w n (m + n + j) = spreadL v m w n (m + n) ++ spreadL v m w n j
  | 0 => by simp [spreadL]
  | j + 1 => by
    have ih := spreadL_period (v := v) (w := w) h j
    have e1 := floor_period h j
    have e2 := floor_period h (j + 1)
    have hc : (m + n + j) * m / (m + n) < (m + n + (j + 1)) * m / (m + n) ↔ j * m / (m + n) < (j + 1) * m / (m + n) := by rw [e1, e2]; omega
    show spreadL v m w n (m + n + j) ++ (if (m + n + j) * m / (m + n) < (m + n + (j + 1)) * m / (m + n) then v else w) = spreadL v m w n (m + n) ++ (spreadL v m w n j ++ (if j * m / (m + n) < (j + 1) * m / (m + n) then v else w))
    rw [ih, List.append_assoc]
    by_cases hd : j * m / (m + n) < (j + 1) * m / (m + n)
    · rw [if_pos hd, if_pos (hc.2 hd)]
    · rw [if_neg hd, if_neg (fun h' => hd (hc.1 h'))]
theorem spreadL_repeat {v w : List UInt8} {m n : Nat} (h : 0 < m + n) : ∀ c, Lib.repeatL (spreadL v m w n (m + n)) c = spreadL v m w n (c * (m + n))
  | 0 => by simp [Lib.repeatL, spreadL]
  | c + 1 => by rw [Lib.repeatL, spreadL_repeat h c, ← spreadL_period h, Nat.add_mul, Nat.one_mul, Nat.add_comm]
theorem spreadL_len {a b : UInt8} {m n : Nat} : ∀ k, (spreadL [a] m [b] n k).length = k
  | 0 => rfl
  | k + 1 => by
    rw [spreadL, List.length_append, spreadL_len k]
    split <;> rfl
theorem spreadL_mem {a b : UInt8} {m n : Nat} : ∀ k, ∀ c ∈ spreadL [a] m [b] n k, c = a ∨ c = b
  | 0, c, h => by simp [spreadL] at h
  | k + 1, c, h => by
    rw [spreadL, List.mem_append] at h
    rcases h with h | h
    · exact spreadL_mem k c h
    · split at h <;> simp at h <;> simp [h]
theorem floor_step {m S : Nat} (k : Nat) (hm : m ≤ S) (hS : 0 < S) : k * m / S ≤ (k + 1) * m / S ∧ (k + 1) * m / S ≤ k * m / S + 1 := by
  rw [Nat.add_mul, Nat.one_mul]
  refine ⟨Nat.div_le_div_right (by omega), ?_⟩
  rw [← Nat.add_div_right _ hS]
  exact Nat.div_le_div_right (by omega)
theorem spreadL_bars {b : UInt8} {m n : Nat} (hb : b ≠ 66) (h : 0 < m + n) : ∀ k, barsN (spreadL [66] m [b] n k) = k * m / (m + n)
  | 0 => by simp [spreadL, barsN]
  | k + 1 => by
    have ih := spreadL_bars hb h k
    have hs := floor_step (m := m) (S := m + n) k (by omega) h
    have he : barsN (spreadL [66] m [b] n (k + 1)) = barsN (spreadL [66] m [b] n k) + barsN (if k * m / (m + n) < (k + 1) * m / (m + n) then [66] else [b]) := by
      rw [spreadL, barsN, List.countP_append]
      rfl
    rw [he, ih]
    split
    · have : barsN [66] = 1 := rfl
      omega
    · have : barsN [b] = 0 := by simp [barsN, hb]
      omega
theorem spreadL_take {a b : UInt8} {m n : Nat} : ∀ K k, k ≤ K → (spreadL [a] m [b] n K).take k = spreadL [a] m [b] n k
  | 0, k, h => by
    obtain rfl : k = 0 := by omega
    rfl
  | K + 1, k, h => by
    by_cases hk : k = K + 1
    · subst hk
      exact List.take_of_length_le (by rw [spreadL_len]; exact Nat.le_refl _)
    · rw [spreadL, List.take_append_of_le_length (by rw [spreadL_len]; omega)]
      exact spreadL_take K k (by omega)
theorem posK_flat : ∀ (l : List UInt8) (k : Knot), (∀ c ∈ l, c = 66 ∨ c = 78) → posK 1 k l = ⟨k.x + barsN l, k.y + (2 * (l.length : Int) - barsN l)⟩
  | [], k, _ => by simp [posK, barsN]
  | c :: r, k, h => by
    have ih := posK_flat r (stepK 1 k c) (fun c' h' => h c' (by simp [h']))
    have e : posK 1 k (c :: r) = posK 1 (stepK 1 k c) r := rfl
    rw [e, ih]
    have hb : barsN (c :: r) = barsN r + (if c = 66 then 1 else 0) := by simp [barsN, List.countP_cons]
    rw [hb]
    rcases h c (by simp) with rfl | rfl
    · simp [stepK, dxL, dyL]
      omega
    · simp [stepK, dxL, dyL]
      omega
theorem posK_steep : ∀ (l : List UInt8) (k : Knot), (∀ c ∈ l, c = 66 ∨ c = 84) → posK 1 k l = ⟨k.x + (2 * (l.length : Int) - barsN l), k.y + barsN l⟩
  | [], k, _ => by simp [posK, barsN]
  | c :: r, k, h => by
    have ih := posK_steep r (stepK 1 k c) (fun c' h' => h c' (by simp [h']))
    have e : posK 1 k (c :: r) = posK 1 (stepK 1 k c) r := rfl
    rw [e, ih]
    have hb : barsN (c :: r) = barsN r + (if c = 66 then 1 else 0) := by simp [barsN, List.countP_cons]
    rw [hb]
    rcases h c (by simp) with rfl | rfl
    · simp [stepK, dxL, dyL]
      omega
    · simp [stepK, dxL, dyL]
      omega

/-! ### shares -/
theorem lowest_facts {m S : Nat} (hS : 0 < S) (hm : m ≤ S) : m / m.gcd S ≤ S / m.gcd S ∧ 0 < S / m.gcd S ∧ S / m.gcd S ≤ S ∧ (∀ i, i * (m / m.gcd S) / (S / m.gcd S) = i * m / S) ∧ ∀ q, q * (S / m.gcd S) * m % S = 0 := by
  have hg : 0 < m.gcd S := Nat.gcd_pos_of_pos_right _ hS
  have e1 : m / m.gcd S * m.gcd S = m := Nat.div_mul_cancel (Nat.gcd_dvd_left _ _)
  have e2 : S / m.gcd S * m.gcd S = S := Nat.div_mul_cancel (Nat.gcd_dvd_right _ _)
  generalize m / m.gcd S = B at *
  generalize S / m.gcd S = L at *
  generalize m.gcd S = g at *
  have hL : 0 < L := by
    rcases Nat.eq_zero_or_pos L with h | h
    · subst h; omega
    · exact h
  refine ⟨?_, hL, ?_, fun i => ?_, fun q => ?_⟩
  · rw [← e1, ← e2] at hm
    exact Nat.le_of_mul_le_mul_right hm hg
  · rw [← e2]; exact Nat.le_mul_of_pos_right _ hg
  · rw [← e1, ← e2, ← Nat.mul_assoc, Nat.mul_div_mul_right _ _ hg]
  · rw [← e1, ← e2, Nat.mul_assoc q L, Nat.mul_left_comm L B g, ← Nat.mul_assoc, Nat.mul_mod_left]

/-- The share of bars of a ratio: bars and letters. -/
def shareB (P D : Nat) : Nat := 2 * min P D / (2 * min P D).gcd (P + D)
def shareL (P D : Nat) : Nat := (P + D) / (2 * min P D).gcd (P + D)
/-- The other letter of a ratio. -/
def otherC (P D : Nat) : UInt8 := if D < P then 84 else 78
def slW (P D : Nat) : List UInt8 := spreadL [66] (shareB P D) [otherC P D] (shareL P D - shareB P D) (shareL P D)
def slC (P D i : Nat) : Nat := i * (2 * min P D) / (P + D)
def slPos (P D i : Nat) : Knot := if D < P then ⟨2 * (i : Int) - slC P D i, slC P D i⟩ else ⟨slC P D i, 2 * (i : Int) - slC P D i⟩

theorem otherC_ne (P D : Nat) : otherC P D ≠ 66 := by unfold otherC; split <;> decide
theorem otherC_isL (P D : Nat) : isL (otherC P D) := by unfold otherC isL; split <;> simp
theorem min2 (P D : Nat) : 2 * min P D ≤ P + D := by omega
theorem slW_len (P D : Nat) : (slW P D).length = shareL P D := spreadL_len _
theorem slW_isL (P D : Nat) : ∀ c ∈ slW P D, isL c := fun c h => by
  rcases spreadL_mem _ c h with rfl | rfl
  · exact .inr (.inl rfl)
  · exact otherC_isL P D
theorem slW_take {P D : Nat} (hD : 1 ≤ D) (n i : Nat) (hi : i ≤ n * shareL P D) : (Lib.repeatL (slW P D) n).take i = spreadL [66] (shareB P D) [otherC P D] (shareL P D - shareB P D) i := by
  obtain ⟨h1, h2, -, -, -⟩ := lowest_facts (m := 2 * min P D) (S := P + D) (by omega) (min2 P D)
  change shareB P D ≤ shareL P D at h1
  change 0 < shareL P D at h2
  have e : shareB P D + (shareL P D - shareB P D) = shareL P D := by omega
  have h := spreadL_repeat (v := [66]) (w := [otherC P D]) (m := shareB P D) (n := shareL P D - shareB P D) (by omega) n
  rw [e] at h
  rw [slW, h]
  exact spreadL_take _ _ hi
theorem sl_pos {P D : Nat} (hD : 1 ≤ D) (n i : Nat) (hi : i ≤ n * shareL P D) : posK 1 ⟨0, 0⟩ ((Lib.repeatL (slW P D) n).take i) = slPos P D i := by
  obtain ⟨h1, h2, -, h4, -⟩ := lowest_facts (m := 2 * min P D) (S := P + D) (by omega) (min2 P D)
  change shareB P D ≤ shareL P D at h1
  change 0 < shareL P D at h2
  have hb := spreadL_bars (m := shareB P D) (n := shareL P D - shareB P D) (otherC_ne P D) (by omega) i
  rw [show shareB P D + (shareL P D - shareB P D) = shareL P D from by omega] at hb
  have hb' : barsN (spreadL [66] (shareB P D) [otherC P D] (shareL P D - shareB P D) i) = slC P D i := hb.trans (h4 i)
  have hl := spreadL_len (a := 66) (b := otherC P D) (m := shareB P D) (n := shareL P D - shareB P D) i
  have hm := spreadL_mem (a := 66) (b := otherC P D) (m := shareB P D) (n := shareL P D - shareB P D) i
  rw [slW_take hD n i hi]
  unfold slPos
  by_cases h : D < P
  · have ho : otherC P D = 84 := by simp [otherC, h]
    rw [ho] at hm hl hb' ⊢
    rw [posK_steep _ _ hm, hl, hb', if_pos h]
    simp
  · have ho : otherC P D = 78 := by simp [otherC, h]
    rw [ho] at hm hl hb' ⊢
    rw [posK_flat _ _ hm, hl, hb', if_neg h]
    simp
def slFar (P D i : Nat) : Int := (slPos P D i).x * D - P * (slPos P D i).y
theorem sl_far {P D : Nat} (hD : 1 ≤ D) (i : Nat) : (P ≤ D → slFar P D i ≤ 0 ∧ -(P : Int) - D < slFar P D i) ∧ (D < P → 0 ≤ slFar P D i ∧ slFar P D i < (P : Int) + D) ∧ ∀ q, slFar P D (q * shareL P D) = 0 := by
  have hmod : ∀ i, (P ≤ D → slFar P D i = -((i * (2 * min P D) % (P + D) : Nat) : Int)) ∧ (D < P → slFar P D i = ((i * (2 * min P D) % (P + D) : Nat) : Int)) := by
    intro i
    have e := Nat.div_add_mod (i * (2 * min P D)) (P + D)
    have e' : ((P : Int) + D) * (slC P D i : Int) + ((i * (2 * min P D) % (P + D) : Nat) : Int) = (i : Int) * (2 * (min P D : Nat)) := by
      have := congrArg (Nat.cast (R := Int)) e
      simpa [slC] using this
    generalize ((i * (2 * min P D) % (P + D) : Nat) : Int) = r at *
    constructor
    · intro h
      have hm : min P D = P := by omega
      rw [hm] at e'
      rw [slFar, slPos, if_neg (by omega)]
      simp only
      generalize (slC P D i : Int) = c at *
      grind
    · intro h
      have hm : min P D = D := by omega
      rw [hm] at e'
      rw [slFar, slPos, if_pos h]
      simp only
      generalize (slC P D i : Int) = c at *
      grind
  have hlt : ∀ i, i * (2 * min P D) % (P + D) < P + D := fun i => Nat.mod_lt _ (by omega)
  refine ⟨fun h => ?_, fun h => ?_, fun q => ?_⟩
  · rw [(hmod i).1 h]
    have := hlt i
    omega
  · rw [(hmod i).2 h]
    have := hlt i
    omega
  · obtain ⟨-, -, -, -, h5⟩ := lowest_facts (m := 2 * min P D) (S := P + D) (by omega) (min2 P D)
    have hz : q * shareL P D * (2 * min P D) % (P + D) = 0 := h5 q
    by_cases h : P ≤ D
    · rw [(hmod _).1 h, hz]; rfl
    · rw [(hmod _).2 (by omega), hz]; rfl
theorem slC_le (P D i : Nat) (hD : 1 ≤ D) : slC P D i ≤ i := by
  unfold slC
  have := Nat.div_le_div_right (c := P + D) (Nat.mul_le_mul_left i (min2 P D))
  rwa [Nat.mul_div_cancel _ (by omega)] at this
theorem sl_near (P D i : Nat) (hD : 1 ≤ D) : 0 ≤ (slPos P D i).x ∧ (slPos P D i).x ≤ 2 * i ∧ 0 ≤ (slPos P D i).y ∧ (slPos P D i).y ≤ 2 * i := by
  have := slC_le P D i hD
  unfold slPos
  split <;> simp only <;> omega
/-- The vector of the word has the ratio. -/
theorem sl_rate {P D : Nat} (hD : 1 ≤ D) (hg : P.gcd D = 1) : ∃ X Y : Nat, slPos P D (shareL P D) = ⟨X, Y⟩ ∧ 1 ≤ Y ∧ X / X.gcd Y = P ∧ Y / X.gcd Y = D ∧ X ≤ 2 * shareL P D ∧ Y ≤ 2 * shareL P D := by
  obtain ⟨h1, h2, -, h4, -⟩ := lowest_facts (m := 2 * min P D) (S := P + D) (by omega) (min2 P D)
  have h2' : 0 < shareL P D := h2
  have hfar := (sl_far (P := P) hD 0).2.2 1
  rw [Nat.one_mul, slFar] at hfar
  obtain ⟨n1, n2, n3, n4⟩ := sl_near P D (shareL P D) hD
  have hY : 1 ≤ (slPos P D (shareL P D)).y := by
    have hle := slC_le P D (shareL P D) hD
    unfold slPos
    by_cases h : D < P
    · rw [if_pos h]
      have hc : slC P D (shareL P D) = shareB P D := by
        have e : shareL P D * shareB P D / shareL P D = shareL P D * (2 * min P D) / (P + D) := h4 _
        rw [slC, ← e, Nat.mul_div_cancel_left _ h2']
      have hB : 0 < shareB P D := Nat.div_pos (Nat.le_of_dvd (by omega) (Nat.gcd_dvd_left _ _)) (Nat.gcd_pos_of_pos_right _ (by omega))
      simp only
      rw [hc]
      omega
    · rw [if_neg h]
      simp only
      omega
  generalize slPos P D (shareL P D) = K at *
  obtain ⟨x, y⟩ := K
  simp only at *
  refine ⟨x.toNat, y.toNat, by rw [Int.toNat_of_nonneg n1, Int.toNat_of_nonneg n3], by omega, ?_⟩
  have hx : ((x.toNat : Nat) : Int) = x := Int.toNat_of_nonneg n1
  have hy : ((y.toNat : Nat) : Int) = y := Int.toNat_of_nonneg n3
  generalize x.toNat = X at *
  generalize y.toNat = Y at *
  subst hx hy
  have hXY : X * D = P * Y := by
    have : ((X * D : Nat) : Int) = ((P * Y : Nat) : Int) := by push_cast; omega
    exact Int.ofNat.inj this
  have hdvd : D ∣ Y := by
    have : D ∣ P * Y := ⟨X, by rw [← hXY, Nat.mul_comm]⟩
    exact Nat.Coprime.dvd_of_dvd_mul_left (show D.Coprime P from (Nat.gcd_comm D P).trans hg) this
  obtain ⟨k, rfl⟩ := hdvd
  have hk : 0 < k := by
    rcases Nat.eq_zero_or_pos k with rfl | h
    · simp at hY
    · exact h
  have hX : X = P * k := by
    have e : X * D = (P * k) * D := by rw [hXY]; rw [Nat.mul_assoc, Nat.mul_comm D k]
    exact Nat.eq_of_mul_eq_mul_right (by omega) e
  subst hX
  have hgc : (P * k).gcd (D * k) = k := by rw [Nat.gcd_mul_right, hg, Nat.one_mul]
  rw [hgc]
  refine ⟨Nat.mul_div_cancel _ hk, Nat.mul_div_cancel _ hk, by omega, by omega⟩
theorem shareL_le {P D : Nat} (hD : 1 ≤ D) : 1 ≤ shareL P D ∧ shareL P D ≤ P + D ∧ shareB P D ≤ shareL P D := by
  obtain ⟨h1, h2, h3, -, -⟩ := lowest_facts (m := 2 * min P D) (S := P + D) (by omega) (min2 P D)
  exact ⟨h2, h3, h1⟩
end Go.Proofs.YtfmfpnnglogkmaaGreatDoor

/- Divisors and quotients in lowest terms: the program's and the reference's. -/
namespace Go.Proofs.YtfmfpnnglogkmaaGreatDoor
open Go.RowKit

theorem boxH2 (w : World) (u v : Value) (t : TypeId) : ∃ w1, w1 = w.alloc (.cells #[u, v] t) ∧ w1.heap[w.heap.size]? = some (.cells #[u, v] t (0, 0)) ∧ Below w.heap.size w w1 ∧ w.heap.size < w1.heap.size :=
  ⟨_, rfl, heap_alloc_new _ _, (Below.refl _ _).alloc (Nat.le_refl _) _, by simp⟩
theorem nat_tmod (p q : Nat) : (p : Int).tmod (q : Int) = ((p % q : Nat) : Int) := by rw [Int.tmod_eq_emod_of_nonneg (by omega)]; rfl
theorem nat_tdiv (p q : Nat) : (p : Int).tdiv (q : Int) = ((p / q : Nat) : Int) := by rw [Int.tdiv_eq_ediv_of_nonneg (by omega)]; rfl

set_option maxHeartbeats 1000000 in
set_option maxRecDepth 100000 in
theorem tpDivisor (a b : Nat) (w : World) (ha : a ≤ 4000000000) (hb : b ≤ 4000000000) :
    Calls Tryz.prog 104 #[.int .i64 a, .int .i64 b] w fun e w' => e = .returned (.int .i64 (a.gcd b : Nat)) ∧ Below w.heap.size w w' := by
  obtain ⟨g, hg⟩ : ∃ g, a.gcd b = g := ⟨_, rfl⟩
  rw [hg]
  have HG := Lib.hid hg
  clear hg
  go_enter Tryz.func104, Tryz.ntmps104
  go_wp2_with fail
  go_loopw [0, 1] (fun x y wr => ∃ p q : Nat, p ≤ 4000000000 ∧ q ≤ 4000000000 ∧ x = .int .i64 p ∧ y = .int .i64 q ∧ p.gcd q = g ∧ Below w.heap.size w wr) (fun _ y _ => (intOf y).toNat)
  case atStart => exact ⟨a, b, ha, hb, rfl, rfl, HG.out, Below.refl _ _⟩
  case round =>
    obtain ⟨p, q, hp, hq, rfl, rfl, hgg, hbw⟩ := hrel
    by_cases hz : q = 0
    · subst hz
      rw [Nat.gcd_zero_right] at hgg
      subst hgg
      go_wp2
      go_ret
      exact ⟨rfl, hbw⟩
    · have hz0 : ((q : Int) != 0) = true := by rw [bne_iff_ne]; omega
      have hz1 : ¬ (q : Int) = 0 := by omega
      have hm := nat_tmod p q
      have hlt : p % q < q := Nat.mod_lt _ (by omega)
      have HGG := Lib.hid (show q.gcd (p % q) = g by rw [← hgg, Nat.gcd_comm p q, Nat.gcd_rec q p, Nat.gcd_comm])
      clear hgg
      obtain ⟨r, hr⟩ : ∃ r, p % q = r := ⟨_, rfl⟩
      rw [hr] at hm hlt HGG
      clear hr hz
      go_wp2_with fail
      go_quiet (fail)
      have hb8 := below_drewN hbw nq
      go_wp2
      go_roundw
      case rel => exact ⟨q, r, hq, by omega, rfl, rfl, HGG.out, hb8⟩
      case measure => simp [intOf]; omega

set_option maxHeartbeats 1000000 in
set_option maxRecDepth 100000 in
theorem refGcd (a b : Nat) (w : World) (ha : a ≤ 4000000000) (hb : b ≤ 4000000000) :
    Calls Tryz.prog 27 #[.int .i64 a, .int .i64 b] w fun e w' => e = .returned (.int .i64 (a.gcd b : Nat)) ∧ Below w.heap.size w w' := by
  obtain ⟨g, hg⟩ : ∃ g, a.gcd b = g := ⟨_, rfl⟩
  rw [hg]
  have HG := Lib.hid hg
  clear hg
  go_enter Tryz.func27, Tryz.ntmps27
  go_wp2_with fail
  go_loopw [0, 1] (fun x y wr => ∃ p q : Nat, p ≤ 4000000000 ∧ q ≤ 4000000000 ∧ x = .int .i64 p ∧ y = .int .i64 q ∧ p.gcd q = g ∧ Below w.heap.size w wr) (fun _ y _ => (intOf y).toNat)
  case atStart => exact ⟨a, b, ha, hb, rfl, rfl, HG.out, Below.refl _ _⟩
  case round =>
    obtain ⟨p, q, hp, hq, rfl, rfl, hgg, hbw⟩ := hrel
    by_cases hz : q = 0
    · subst hz
      rw [Nat.gcd_zero_right] at hgg
      subst hgg
      go_wp2
      go_ret
      exact ⟨rfl, hbw⟩
    · have hz0 : ((q : Int) != 0) = true := by rw [bne_iff_ne]; omega
      have hz1 : ¬ (q : Int) = 0 := by omega
      have hm := nat_tmod p q
      have hlt : p % q < q := Nat.mod_lt _ (by omega)
      have HGG := Lib.hid (show q.gcd (p % q) = g by rw [← hgg, Nat.gcd_comm p q, Nat.gcd_rec q p, Nat.gcd_comm])
      clear hgg
      obtain ⟨r, hr⟩ : ∃ r, p % q = r := ⟨_, rfl⟩
      rw [hr] at hm hlt HGG
      clear hr hz
      go_wp2_with fail
      go_quiet (fail)
      have hb8 := below_drewN hbw nq
      go_wp2
      go_roundw
      case rel => exact ⟨q, r, hq, by omega, rfl, rfl, HGG.out, hb8⟩
      case measure => simp [intOf]; omega

set_option maxHeartbeats 1000000 in
set_option maxRecDepth 100000 in
theorem tpLowest (a b : Nat) (w : World) (ha : a ≤ 4000000000) (hb : b ≤ 4000000000) (h : 0 < b) :
    Calls Tryz.prog 92 #[.int .i64 a, .int .i64 b] w fun e w' => e = .returned (.agg #[.int .i64 (a / a.gcd b : Nat), .int .i64 (b / a.gcd b : Nat)]) ∧ Below w.heap.size w w' := by
  obtain ⟨g, hg⟩ : ∃ g, a.gcd b = g := ⟨_, rfl⟩
  have hg0 : 0 < g := by rw [← hg]; exact Nat.gcd_pos_of_pos_right _ h
  have hz1 : ¬ (g : Int) = 0 := by omega
  have hz0 : ((g : Int) != 0) = true := by rw [bne_iff_ne]; omega
  have h1 := nat_tdiv a g
  have h2 := nat_tdiv b g
  have h3 : a / g ≤ a := Nat.div_le_self _ _
  have h4 : b / g ≤ b := Nat.div_le_self _ _
  rw [hg]
  have HG := Lib.hid hg
  obtain ⟨u, hu⟩ : ∃ u, a / g = u := ⟨_, rfl⟩
  obtain ⟨v, hv⟩ : ∃ v, b / g = v := ⟨_, rfl⟩
  rw [hu] at h1 h3 ⊢
  rw [hv] at h2 h4 ⊢
  have hw1 : IntKind.i64.wrap (u : Int) = (u : Int) := by rw [IntKind.wrap_i64]; omega
  have hw2 : IntKind.i64.wrap (v : Int) = (v : Int) := by rw [IntKind.wrap_i64]; omega
  clear hu hv hg
  obtain ⟨w0, hw0, hB, hb0, hz⟩ := boxH2 w (.int .i64 0) (.int .i64 0) 23
  have hg1 : ¬ g = 0 := by omega
  have HW0 := Lib.hid hw0
  clear hw0
  go_enter Tryz.func92, Tryz.ntmps92
  go_wp2_with fail
  rw [← HW0.out]
  refine (tpDivisor a b _ ha hb).mono ?_
  rintro e w1 ⟨rfl, hb1⟩
  rw [HG.out]
  have hB1 := (hb1.block _ hz).trans hB
  have hbw := hb0.trans (hb1.mono hb0.size)
  obtain ⟨p0, p1, p2, p3⟩ := two_cell hB1
  obtain ⟨s1, s2⟩ := two_set hB1 (.int .i64 u) (.int .i64 v)
  obtain ⟨t0, t1, -, -⟩ := two_cell s1
  have hbf := hbw.grown s2 hbw.size (fun j e => by cases e; exact Nat.le_refl _)
  clear hB hb1 hB1 hbw hb0
  go_wp2_with fail
  go_region
  go_wp2
  exact bodyPost_ret (v := .agg #[.int .i64 u, .int .i64 v]) (by simp [results, Tryz.results92, go_sem, t0, t1]) rfl ⟨rfl, below_drew hbf⟩

set_option maxHeartbeats 1000000 in
set_option maxRecDepth 100000 in
theorem refLowest (a b : Nat) (w : World) (ha : a ≤ 4000000000) (hb : b ≤ 4000000000) (h : 0 < b) :
    Calls Tryz.prog 97 #[.int .i64 a, .int .i64 b] w fun e w' => e = .returned (.agg #[.int .i64 (a / a.gcd b : Nat), .int .i64 (b / a.gcd b : Nat)]) ∧ Below w.heap.size w w' := by
  obtain ⟨g, hg⟩ : ∃ g, a.gcd b = g := ⟨_, rfl⟩
  have hg0 : 0 < g := by rw [← hg]; exact Nat.gcd_pos_of_pos_right _ h
  have hz1 : ¬ (g : Int) = 0 := by omega
  have hz0 : ((g : Int) != 0) = true := by rw [bne_iff_ne]; omega
  have h1 := nat_tdiv a g
  have h2 := nat_tdiv b g
  have h3 : a / g ≤ a := Nat.div_le_self _ _
  have h4 : b / g ≤ b := Nat.div_le_self _ _
  rw [hg]
  have HG := Lib.hid hg
  obtain ⟨u, hu⟩ : ∃ u, a / g = u := ⟨_, rfl⟩
  obtain ⟨v, hv⟩ : ∃ v, b / g = v := ⟨_, rfl⟩
  rw [hu] at h1 h3 ⊢
  rw [hv] at h2 h4 ⊢
  have hw1 : IntKind.i64.wrap (u : Int) = (u : Int) := by rw [IntKind.wrap_i64]; omega
  have hw2 : IntKind.i64.wrap (v : Int) = (v : Int) := by rw [IntKind.wrap_i64]; omega
  clear hu hv hg
  obtain ⟨w0, hw0, hB, hb0, hz⟩ := boxH2 w (.int .i64 0) (.int .i64 0) 23
  have hg1 : ¬ g = 0 := by omega
  have HW0 := Lib.hid hw0
  clear hw0
  go_enter Tryz.func97, Tryz.ntmps97
  go_wp2_with fail
  rw [← HW0.out]
  refine (refGcd a b _ ha hb).mono ?_
  rintro e w1 ⟨rfl, hb1⟩
  rw [HG.out]
  have hB1 := (hb1.block _ hz).trans hB
  have hbw := hb0.trans (hb1.mono hb0.size)
  obtain ⟨p0, p1, p2, p3⟩ := two_cell hB1
  obtain ⟨s1, s2⟩ := two_set hB1 (.int .i64 u) (.int .i64 v)
  obtain ⟨t0, t1, -, -⟩ := two_cell s1
  have hbf := hbw.grown s2 hbw.size (fun j e => by cases e; exact Nat.le_refl _)
  clear hB hb1 hB1 hbw hb0
  go_wp2_with fail
  go_region
  go_wp2
  exact bodyPost_ret (v := .agg #[.int .i64 u, .int .i64 v]) (by simp [results, Tryz.results97, go_sem, t0, t1]) rfl ⟨rfl, below_drew hbf⟩
end Go.Proofs.YtfmfpnnglogkmaaGreatDoor

/- Spread words in memory: spread. -/
namespace Go.Proofs.YtfmfpnnglogkmaaGreatDoor
open Go.RowKit Go.Shelf

theorem Tryz.repT72 : Tryz.rep_ren.t 72 = 122 := by kernel_rfl
theorem Tryz.repT5 : Tryz.rep_ren.t 5 = 5 := by kernel_rfl
theorem Tryz.repF166 : Tryz.rep_ren.f 166 = 78 := by kernel_rfl
theorem Tryz.repF169 : Tryz.rep_ren.f 169 = 81 := by kernel_rfl
def BldIs (B b : Nat) (l : List UInt8) (w : World) : Prop := Lib.IsBuilderF 122 5 B b (Lib.byteCells l) w
theorem bldNew (w : World) : BldIs w.heap.size w.heap.size [] (w.alloc (.cells #[.pointer none, .slice none 0 0] 122)) := Lib.IsBuilderF.of (Lib.fresh_isBuilder 122 5 w)
theorem bldWrite (B b : Nat) (l : List UInt8) (s : ByteArray) (w : World) (h : BldIs B b l w) (hlen : l.length + s.size ≤ 1000000) (hBw : B ≤ w.heap.size) :
    Calls Tryz.prog 78 #[.pointer (some ⟨b, 0, none⟩), .string s] w fun e w' => e = .returned (.tuple #[.int .i64 s.size, .nilIface]) ∧ BldIs B b (l ++ s.data.toList) w' ∧ Below B w w' := by
  have k := Any.Builder_WriteString_k { Tryz.rep with } Tryz.repX B b (Lib.byteCells l) s w (by rw [Tryz.repT72, Tryz.repT5]; exact h) (by rw [Lib.byteCells_length]; omega) hBw
  rw [Tryz.repF166] at k
  refine k.mono fun e w' ⟨he, h1, h2, _⟩ => ⟨he, ?_, h2⟩
  rw [Tryz.repT72, Tryz.repT5, Lib.strCells_eq, ← Lib.byteCells_append] at h1
  exact .inr h1
theorem bldString (B b : Nat) (l : List UInt8) (w : World) (h : BldIs B b l w) (hBw : B ≤ w.heap.size) :
    Calls Tryz.prog 81 #[.pointer (some ⟨b, 0, none⟩)] w fun e w' => e = .returned (.string ⟨l.toArray⟩) ∧ BldIs B b l w' ∧ Below B w w' := by
  have k := Any.Builder_String_any_k { Tryz.rep with } Tryz.repX B b l w (by rw [Tryz.repT72, Tryz.repT5]; exact h) hBw
  rw [Tryz.repF169] at k
  refine k.mono fun e w' ⟨he, h1, h2, _⟩ => ⟨he, ?_, h2⟩
  rw [Tryz.repT72, Tryz.repT5] at h1
  exact h1
theorem BldIs.drewN {B b : Nat} {l : List UInt8} {w : World} (h : BldIs B b l w) (n : Nat) : BldIs B b l (World.drewN w n) := h
theorem spreadL_short {v u : List UInt8} {m n N : Nat} (hv : v.length ≤ N) (hu : u.length ≤ N) : ∀ k, (spreadL v m u n k).length ≤ k * N
  | 0 => by simp [spreadL]
  | k + 1 => by
    have ih := spreadL_short (m := m) (n := n) hv hu k
    have e : (k + 1) * N = k * N + N := by rw [Nat.add_mul, Nat.one_mul]
    rw [spreadL, List.length_append, e]
    split <;> omega

set_option maxHeartbeats 4000000 in
set_option maxRecDepth 100000 in
theorem tpSpread (v u : ByteArray) (m n : Nat) (w : World) (hv : v.size ≤ 100) (hu : u.size ≤ 100) (hm : m ≤ 1000) (hn : n ≤ 1000) :
    Calls Tryz.prog 105 #[.string v, .int .i64 m, .string u, .int .i64 n] w fun e w' => e = .returned (.string ⟨(spreadL v.data.toList m u.data.toList n (m + n)).toArray⟩) ∧ Below w.heap.size w w' := by
  have HSP := Lib.hid (show ∀ k, (spreadL v.data.toList m u.data.toList n k).length ≤ k * 100 from spreadL_short (by rw [← Lib.size_eq]; exact hv) (by rw [← Lib.size_eq]; exact hu))
  have HV := Lib.hid hv
  have HU := Lib.hid hu
  obtain ⟨S, hS⟩ : ∃ S : Nat → List UInt8, S = spreadL v.data.toList m u.data.toList n := ⟨_, rfl⟩
  have HS := Lib.hid hS
  rw [← hS] at HSP ⊢
  clear hv hu hS
  have b0 := bldNew w
  have bb0 : Below w.heap.size w (w.alloc (.cells #[.pointer none, .slice none 0 0] 122)) := (Below.refl _ _).alloc (Nat.le_refl _) _
  have m0 : (0 : Int) ≤ (m : Int) := by omega
  have n0 : (0 : Int) ≤ (n : Int) := by omega
  go_enter Tryz.func105, Tryz.ntmps105
  go_wp2_with fail
  go_loopw [10, 14] (fun _ x wr => ∃ k : Nat, k ≤ m + n ∧ x = .int .i64 k ∧ BldIs w.heap.size w.heap.size (S k) wr ∧ Below w.heap.size w wr) (fun _ x _ => m + n - (intOf x).toNat)
  case atStart => exact ⟨0, Nat.zero_le _, rfl, by rw [HS.out]; exact b0, bb0⟩
  case round =>
    obtain ⟨k, hk, rfl, hI, hb⟩ := hrel
    clear b0 bb0
    by_cases hlt : k < m + n
    · have q0 : ((k : Int) < (m : Int) + (n : Int)) := by omega
      have q1 : decide ((k : Int) < (m : Int) + (n : Int)) = true := by simpa using q0
      have hs0 : ¬ ((m : Int) + (n : Int)) = 0 := by omega
      have p1 : (k + 1) * m ≤ 3000000 := Nat.le_trans (Nat.mul_le_mul (by omega : k + 1 ≤ 2000) hm) (by decide)
      have p2 : k * m ≤ 3000000 := Nat.le_trans (Nat.mul_le_mul (by omega : k ≤ 2000) hm) (by decide)
      have t1 : (((k : Int) + 1) * (m : Int)).tdiv ((m : Int) + (n : Int)) = (((k + 1) * m / (m + n) : Nat) : Int) := by rw [← nat_tdiv]; push_cast; rfl
      have t2 : ((k : Int) * (m : Int)).tdiv ((m : Int) + (n : Int)) = ((k * m / (m + n) : Nat) : Int) := by rw [← nat_tdiv]; push_cast; rfl
      have w1 : IntKind.i64.wrap ((k : Int) + 1) = (k : Int) + 1 := by rw [IntKind.wrap_i64]; omega
      have w2 : IntKind.i64.wrap (((k : Int) + 1) * (m : Int)) = ((k : Int) + 1) * (m : Int) := by
        have e : ((k : Int) + 1) * (m : Int) = (((k + 1) * m : Nat) : Int) := by push_cast; rfl
        rw [e, IntKind.wrap_i64]; omega
      have w3 : IntKind.i64.wrap ((m : Int) + (n : Int)) = (m : Int) + (n : Int) := by rw [IntKind.wrap_i64]; omega
      have w4 : IntKind.i64.wrap ((k : Int) * (m : Int)) = (k : Int) * (m : Int) := by
        have e : (k : Int) * (m : Int) = ((k * m : Nat) : Int) := by push_cast; rfl
        rw [e, IntKind.wrap_i64]; omega
      have l1 : (k + 1) * m / (m + n) ≤ 3000000 := Nat.le_trans (Nat.div_le_self _ _) p1
      have l2 : k * m / (m + n) ≤ 3000000 := Nat.le_trans (Nat.div_le_self _ _) p2
      have HST := Lib.hid (show S (k + 1) = S k ++ (if k * m / (m + n) < (k + 1) * m / (m + n) then v.data.toList else u.data.toList) by rw [HS.out, spreadL])
      obtain ⟨x, hx⟩ : ∃ x, (k + 1) * m / (m + n) = x := ⟨_, rfl⟩
      obtain ⟨y, hy⟩ : ∃ y, k * m / (m + n) = y := ⟨_, rfl⟩
      rw [hx] at t1 l1 HST
      rw [hy] at t2 l2 HST
      have w5 : IntKind.i64.wrap (x : Int) = (x : Int) := by rw [IntKind.wrap_i64]; omega
      have w6 : IntKind.i64.wrap (y : Int) = (y : Int) := by rw [IntKind.wrap_i64]; omega
      have hlen := HSP.out k
      have hkn : k ≤ 2000 := by omega
      clear hx hy p1 p2
      by_cases hd : y < x
      · have hd1 : (y : Int) < (x : Int) := by omega
        have hd2 : decide ((y : Int) < (x : Int)) = true := by simpa using hd1
        rw [if_pos hd] at HST
        go_wp2_with fail
        go_quiet (fail)
        have hb8 := below_drewN hb nq
        have hI8 := hI.drewN nq
        generalize World.drewN wr nq = W8 at *
        clear nq
        have hz8 := hb8.size
        go_wp2_with fail
        refine (bldWrite _ _ _ v _ hI8 (by have := HV.out; omega) hz8).mono ?_
        rintro e W9 ⟨rfl, hI9, hb9⟩
        go_wp2
        go_roundw
        case rel => exact ⟨k + 1, by omega, by go_num, by rw [HST.out]; exact hI9, hb8.trans hb9⟩
        case measure => simp [intOf]; omega
      · have hd1 : ¬ (y : Int) < (x : Int) := by omega
        have hd2 : decide ((y : Int) < (x : Int)) = false := by simpa using hd1
        rw [if_neg hd] at HST
        go_wp2_with fail
        go_quiet (fail)
        have hb8 := below_drewN hb nq
        have hI8 := hI.drewN nq
        generalize World.drewN wr nq = W8 at *
        clear nq
        have hz8 := hb8.size
        go_wp2_with fail
        refine (bldWrite _ _ _ u _ hI8 (by have := HU.out; omega) hz8).mono ?_
        rintro e W9 ⟨rfl, hI9, hb9⟩
        go_wp2
        go_roundw
        case rel => exact ⟨k + 1, by omega, by go_num, by rw [HST.out]; exact hI9, hb8.trans hb9⟩
        case measure => simp [intOf]; omega
    · obtain rfl : k = m + n := by omega
      have hg1 : decide (((m + n : Nat) : Int) < (m : Int) + (n : Int)) = false := by simp
      have hz8 := hb.size
      go_wp2_with fail
      refine (bldString _ _ _ _ hI hz8).mono ?_
      rintro e W9 ⟨rfl, hI9, hb9⟩
      go_wp2
      go_ret
      exact ⟨rfl, hb.trans hb9⟩
end Go.Proofs.YtfmfpnnglogkmaaGreatDoor

/- The word of a ratio: shareOf, checkRatio, spreadWord, Exact. -/
namespace Go.Proofs.YtfmfpnnglogkmaaGreatDoor
open Go.RowKit Go.Shelf

theorem tpSpreadI (v u : ByteArray) (m n : Nat) (d : Int) (w : World) (hd : d = (n : Int)) (hv : v.size ≤ 100) (hu : u.size ≤ 100) (hm : m ≤ 1000) (hn : n ≤ 1000) :
    Calls Tryz.prog 105 #[.string v, .int .i64 m, .string u, .int .i64 d] w fun e w' => e = .returned (.string ⟨(spreadL v.data.toList m u.data.toList n (m + n)).toArray⟩) ∧ Below w.heap.size w w' := by
  subst hd
  exact tpSpread v u m n w hv hu hm hn
theorem tpLowestI (a b : Nat) (x y : Int) (w : World) (hx : x = (a : Int)) (hy : y = (b : Int)) (ha : a ≤ 4000000000) (hb : b ≤ 4000000000) (h : 0 < b) :
    Calls Tryz.prog 92 #[.int .i64 x, .int .i64 y] w fun e w' => e = .returned (.agg #[.int .i64 (a / a.gcd b : Nat), .int .i64 (b / a.gcd b : Nat)]) ∧ Below w.heap.size w w' := by
  subst hx hy
  exact tpLowest a b w ha hb h
theorem boxH22 (w : World) (a b c d : Value) (t t' : TypeId) : ∃ w1, w1 = (w.alloc (.cells #[a, b] t)).alloc (.cells #[c, d] t') ∧ w1.heap[w.heap.size]? = some (.cells #[a, b] t (0, 0)) ∧ w1.heap[w.heap.size + 1]? = some (.cells #[c, d] t' (0, 0)) ∧ Below w.heap.size w w1 ∧ w1.heap.size = w.heap.size + 2 := by
  refine ⟨_, rfl, ?_, ?_, ((Below.refl _ _).alloc (Nat.le_refl _) _).alloc (by simp) _, by simp⟩
  · rw [Below.heap_alloc _ _ _ (by simp)]
    exact heap_alloc_new _ _
  · have := heap_alloc_new (w.alloc (.cells #[a, b] t)) (.cells #[c, d] t')
    rwa [World.size_alloc] at this

set_option maxHeartbeats 2000000 in
set_option maxRecDepth 100000 in
theorem tpSpreadWord (P D B L : Nat) (w : World) (hBL : B ≤ L) (hL : L ≤ 1000) (_ : P ≤ 1000000000) (_ : D ≤ 1000000000) :
    Calls Tryz.prog 71 #[.agg #[.int .i64 P, .int .i64 D], .agg #[.int .i64 B, .int .i64 L]] w fun e w' => e = .returned (.string ⟨(spreadL [66] B [otherC P D] (L - B) L).toArray⟩) ∧ Below w.heap.size w w' := by
  obtain ⟨w1, hw1, h0, h1, hb1, hz1⟩ := boxH22 w (.int .i64 P) (.int .i64 D) (.int .i64 B) (.int .i64 L) 23 28
  obtain ⟨p0, p1, -, -⟩ := two_cell h0
  obtain ⟨q0, q1, -, -⟩ := two_cell h1
  have HW1 := Lib.hid hw1
  have hsub : (L : Int) - (B : Int) = ((L - B : Nat) : Int) := by omega
  have hE : B + (L - B) = L := by omega
  clear hw1 h0 h1 hz1
  by_cases h : D < P
  · have HO := Lib.hid (show otherC P D = 84 by simp [otherC, h])
    have hd1 : (D : Int) < (P : Int) := by omega
    have hd2 : decide ((D : Int) < (P : Int)) = true := by simpa using hd1
    go_enter Tryz.func71, Tryz.ntmps71
    go_wp2_with fail
    rw [← HW1.out]
    go_wp2_with fail
    refine (tpSpreadI ⟨#[66]⟩ ⟨#[84]⟩ B (L - B) _ _ (by omega) (by decide) (by decide) (by omega) (by omega)).mono ?_
    rintro e w2 ⟨rfl, hb2⟩
    go_wp2
    go_ret
    rw [HO.out]
    exact ⟨rfl, hb1.trans (hb2.mono hb1.size)⟩
  · have HO := Lib.hid (show otherC P D = 78 by simp [otherC, h])
    have hd1 : ¬ (D : Int) < (P : Int) := by omega
    have hd2 : decide ((D : Int) < (P : Int)) = false := by simpa using hd1
    go_enter Tryz.func71, Tryz.ntmps71
    go_wp2_with fail
    rw [← HW1.out]
    go_wp2_with fail
    refine (tpSpreadI ⟨#[66]⟩ ⟨#[78]⟩ B (L - B) _ _ (by omega) (by decide) (by decide) (by omega) (by omega)).mono ?_
    rintro e w2 ⟨rfl, hb2⟩
    go_wp2
    go_ret
    rw [HO.out]
    exact ⟨rfl, hb1.trans (hb2.mono hb1.size)⟩

set_option maxHeartbeats 2000000 in
set_option maxRecDepth 100000 in
theorem tpShareOf (P D : Nat) (w : World) (hD0 : 1 ≤ D) (hP : P ≤ 1000000000) (hD : D ≤ 1000000000) :
    Calls Tryz.prog 45 #[.agg #[.int .i64 P, .int .i64 D]] w fun e w' => e = .returned (.agg #[.int .i64 (shareB P D), .int .i64 (shareL P D)]) ∧ Below w.heap.size w w' := by
  obtain ⟨w1, hw1, h0, h1, hb1, hz1⟩ := boxH22 w (.int .i64 P) (.int .i64 D) (.int .i64 0) (.int .i64 0) 23 23
  obtain ⟨p0, p1, -, -⟩ := two_cell h0
  have HW1 := Lib.hid hw1
  obtain ⟨m, hm⟩ : ∃ m, min P D = m := ⟨_, rfl⟩
  have hmi : (if (D : Int) < (P : Int) then (D : Int) else (P : Int)) = (m : Int) := by
    subst hm
    split <;> omega
  have hm1 : m ≤ 1000000000 := by omega
  have hm2 : m ≤ D := by omega
  obtain ⟨B, hB⟩ : ∃ B, shareB P D = B := ⟨_, rfl⟩
  obtain ⟨L, hL⟩ : ∃ L, shareL P D = L := ⟨_, rfl⟩
  have HB := Lib.hid (show 2 * m / (2 * m).gcd (P + D) = B by rw [← hB, shareB, hm])
  have HL := Lib.hid (show (P + D) / (2 * m).gcd (P + D) = L by rw [← hL, shareL, hm])
  rw [hB, hL]
  clear hw1 hm hB hL
  go_enter Tryz.func45, Tryz.ntmps45
  go_wp2_with fail
  rw [← HW1.out]
  go_wp2_with fail
  refine (tpLowestI (2 * m) (P + D) _ _ _ (by omega) (by omega) (by omega) (by omega) (by omega)).mono ?_
  rintro e w2 ⟨rfl, hb2⟩
  have hbw := hb1.trans (hb2.mono hb1.size)
  have h2 := (hb2.block _ (by omega)).trans h1
  rw [HB.out, HL.out]
  obtain ⟨r0, r1, r2, r3⟩ := two_cell h2
  obtain ⟨s1, s2⟩ := two_set h2 (.int .i64 B) (.int .i64 L)
  obtain ⟨t0, t1, -, -⟩ := two_cell s1
  have hbf := hbw.grown s2 hbw.size (fun j e => by cases e; omega)
  clear h0 h1 h2 hb2 hbw
  go_wp2
  exact bodyPost_ret (v := .agg #[.int .i64 B, .int .i64 L]) (by simp [results, Tryz.results45, go_sem, t0, t1]) rfl ⟨rfl, hbf⟩

set_option maxHeartbeats 2000000 in
set_option maxRecDepth 100000 in
theorem tpCheckRatio (P D : Nat) (w : World) (hD0 : 1 ≤ D) (hP : P ≤ 999999999) (hD : D ≤ 999999999) (hg : P.gcd D = 1) :
    Calls Tryz.prog 69 #[.agg #[.int .i64 P, .int .i64 D]] w fun e w' => e = .returned (.int .i64 0) ∧ Below w.heap.size w w' := by
  obtain ⟨w1, hw1, h0, hb1, hz1⟩ := boxH2 w (.int .i64 P) (.int .i64 D) 23
  obtain ⟨p0, p1, -, -⟩ := two_cell h0
  have HW1 := Lib.hid hw1
  have HG := Lib.hid hg
  have HR0 := Lib.hid (show (if (P : Int) < 0 ∨ 999999999 < (P : Int) then (3 : Int) else 0) = 0 by rw [if_neg]; omega)
  have HR1 := Lib.hid (show (if (D : Int) < 1 ∨ 999999999 < (D : Int) then (3 : Int) else 0) = 0 by rw [if_neg]; omega)
  clear hw1 hg
  go_enter Tryz.func69, Tryz.ntmps69
  go_wp2_with fail
  rw [← HW1.out]
  go_wp2_with fail
  refine wp_region_still_tail 6 (by kernel_rfl) (by kernel_rfl) ?_
  simp only [List.take_succ_cons, List.take_zero, List.drop_succ_cons, List.drop_zero]
  still_step
  still_step
  still_call (Calls.mono (tpCheckRange _ _ _ _) fun _ _ h => ⟨h.1, h.2.symm⟩)
  still_step
  still_step
  still_call (Calls.mono (tpCheckRange _ _ _ _) fun _ _ h => ⟨h.1, h.2.symm⟩)
  refine wpStill_nil ?_
  change wpList _ _ _ _ _ w1.drew
  rw [HR0.out, HR1.out]
  go_wp2_with fail
  refine (tpFirst2 _ _ 0 0 30 _ (by exact heap_alloc_new _ _)).mono ?_
  rintro e w3 ⟨rfl, rfl⟩
  rw [show firstE [0, 0] = 0 from rfl]
  obtain ⟨w4, hw4, hb4, e0, e1⟩ : ∃ w4, w4 = (w1.alloc (.cells #[.int .i64 0, .int .i64 0] 30)).drew ∧ Below w1.heap.size w1 w4 ∧ w4.cell? ⟨w.heap.size, 0, none⟩ = some (.int .i64 P) ∧ w4.cell? ⟨w.heap.size, 1, none⟩ = some (.int .i64 D) := by
    have hb : Below w1.heap.size w1 (w1.alloc (.cells #[.int .i64 0, .int .i64 0] 30)).drew := below_drew ((Below.refl _ _).alloc (Nat.le_refl _) _)
    exact ⟨_, rfl, hb, (hb.cell (p := ⟨w.heap.size, 0, none⟩) hz1).trans p0, (hb.cell (p := ⟨w.heap.size, 1, none⟩) hz1).trans p1⟩
  rw [← hw4]
  clear hw4
  go_wp2_with fail
  refine (tpDivisor P D _ (by omega) (by omega)).mono ?_
  rintro e w5 ⟨rfl, hb5⟩
  rw [HG.out]
  go_wp2
  go_ret
  have hb14 := hb1.trans (hb4.mono hb1.size)
  exact ⟨rfl, hb14.trans (hb5.mono hb14.size)⟩

/-- The word that Exact returns. -/
def slB (P D : Nat) : ByteArray := ⟨(slW P D).toArray⟩
set_option maxHeartbeats 2000000 in
set_option maxRecDepth 100000 in
theorem tpExact (P D : Nat) (w : World) (hD0 : 1 ≤ D) (hS : P + D ≤ 64) (hg : P.gcd D = 1) :
    Calls Tryz.prog 32 #[.agg #[.int .i64 P, .int .i64 D]] w fun e w' => e = .returned (.tuple #[.string (slB P D), .int .i64 0]) ∧ Below w.heap.size w w' := by
  obtain ⟨w1, hw1, p0, p1, hb1, hz1⟩ := box2 w (.int .i64 P) (.int .i64 D) 23
  have HW1 := Lib.hid hw1
  have HG := Lib.hid hg
  obtain ⟨l1, l2, l3⟩ := shareL_le (P := P) hD0
  have HSW := Lib.hid (show (⟨(spreadL [66] (shareB P D) [otherC P D] (shareL P D - shareB P D) (shareL P D)).toArray⟩ : ByteArray) = slB P D from rfl)
  clear hw1 hg
  go_enter Tryz.func32, Tryz.ntmps32
  go_wp2_with fail
  rw [← HW1.out]
  go_wp2_with fail
  refine (tpCheckRatio P D _ hD0 (by omega) (by omega) HG.out).mono ?_
  rintro e w2 ⟨rfl, hb2⟩
  have p2 := (hb2.cell (p := ⟨w.heap.size, 0, none⟩) hz1).trans p0
  have p3 := (hb2.cell (p := ⟨w.heap.size, 1, none⟩) hz1).trans p1
  have hz2 := hb2.size
  have b2 := hb1.trans (hb2.mono hb1.size)
  go_wp2_with fail
  refine (tpShareOf P D _ hD0 (by omega) (by omega)).mono ?_
  rintro e w3 ⟨rfl, hb3⟩
  have p4 := (hb3.cell (p := ⟨w.heap.size, 0, none⟩) (by show w.heap.size < _; omega)).trans p2
  have p5 := (hb3.cell (p := ⟨w.heap.size, 1, none⟩) (by show w.heap.size < _; omega)).trans p3
  have hz3 := hb3.size
  have b3 := b2.trans (hb3.mono b2.size)
  obtain ⟨B, hB⟩ : ∃ B, shareB P D = B := ⟨_, rfl⟩
  obtain ⟨L, hL⟩ : ∃ L, shareL P D = L := ⟨_, rfl⟩
  rw [hB, hL] at HSW
  rw [hB] at l3 ⊢
  rw [hL] at l1 l2 l3 ⊢
  clear hB hL p0 p1 p2 p3
  obtain ⟨w4, hw4, q0, q1, hb4, hz4⟩ := box2 w3 (.int .i64 B) (.int .i64 L) 23
  have p6 := (hb4.cell (p := ⟨w.heap.size, 0, none⟩) (by show w.heap.size < _; omega)).trans p4
  have p7 := (hb4.cell (p := ⟨w.heap.size, 1, none⟩) (by show w.heap.size < _; omega)).trans p5
  have HW4 := Lib.hid hw4
  have hL64 : (L : Int) ≤ 64 := by omega
  have b4 := b3.trans (hb4.mono b3.size)
  clear hw4 p4 p5
  go_wp2_with fail
  rw [← HW4.out]
  go_wp2_with fail
  refine (tpCheckLength _ _ hL64).mono ?_
  rintro e w5 ⟨rfl, rfl⟩
  go_wp2_with fail
  refine (tpSpreadWord P D B L _ l3 (by omega) (by omega) (by omega)).mono ?_
  rintro e w6 ⟨rfl, hb6⟩
  rw [HSW.out]
  go_wp2
  go_ret2
  exact ⟨rfl, b4.trans (hb6.mono b4.size)⟩
end Go.Proofs.YtfmfpnnglogkmaaGreatDoor

/- The reference's Power at words without an error. -/
namespace Go.Proofs.YtfmfpnnglogkmaaGreatDoor
open Go.RowKit Go.Shelf Ck

theorem repeat_comm (l : List UInt8) : ∀ c, Lib.repeatL l c ++ l = l ++ Lib.repeatL l c
  | 0 => by simp [Lib.repeatL]
  | c + 1 => by rw [Lib.repeatL, List.append_assoc, repeat_comm l c]
def strL (l : List UInt8) : ByteArray := ⟨l.toArray⟩
theorem strL_data (l : List UInt8) : (strL l).data.toList = l := rfl
theorem strL_size (l : List UInt8) : (strL l).size = l.length := by simp [strL, ByteArray.size]
end Go.Proofs.YtfmfpnnglogkmaaGreatDoor
