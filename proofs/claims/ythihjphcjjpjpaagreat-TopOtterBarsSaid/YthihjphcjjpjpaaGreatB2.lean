/- Helpers, part 2. -/
import Derived.Test.YthihjphcjjpjpaaGreatB1
import Derived.WideKeyEntry
import Derived.Carry
import Derived.Laws.BitsAllLaws
import Derived.Maps.OwnOps
import Derived.WalkSmall
/- m[k]++ on such a map: the entry, and the store into it. -/
namespace Go.Proofs.YthihjphcjjpjpaaGreat
open Go.RowKit Go.ChangeMaps Go.MapKept

theorem map_fst_set {m : List (Ck.Knot × Int)} {j : Nat} {k : Ck.Knot} {u : Int} (h : m[j]? = some (k, u)) (v : Int) : (m.set j (k, v)).map (·.1) = m.map (·.1) := by
  rw [List.map_set]
  apply List.ext_getElem?
  intro i
  rw [List.getElem?_set]
  split
  · rename_i hi
    subst hi
    simp [h]
    exact (List.getElem?_eq_some_iff.1 h).1
  · rfl
theorem map_born_set {l : List MapEntry} {j : Nat} {e e' : MapEntry} (h : l[j]? = some e) (hb : e'.born = e.born) : (l.set j e').map (·.born) = l.map (·.born) := by
  rw [List.map_set]
  apply List.ext_getElem?
  intro i
  rw [List.getElem?_set]
  split
  · rename_i hi
    subst hi
    simp [h, hb]
    exact (List.getElem?_eq_some_iff.1 h).1
  · rfl
theorem mem_set_born {l : List MapEntry} {j c : Nat} {e e' : MapEntry} (h : l[j]? = some e) (hb : e'.born = e.born) (h5 : ∀ x ∈ l, x.born < c) : ∀ x ∈ l.set j e', x.born < c := by
  intro x hx
  rcases List.mem_or_eq_of_mem_set hx with hx | rfl
  · exact h5 x hx
  · rw [hb]; exact h5 e (List.mem_of_getElem? h)

theorem entryStore_run {w : World} {b : Nat} {m : List (Ck.Knot × Int)} {es : Array MapEntry} {clock j : Nat} {k : Ck.Knot} {u : Int} {e : MapEntry} (h1 : w.heap[b]? = some (.map es clock)) (h2 : Ents es m) (h3 : (m.map (·.1)).Nodup) (h4 : (es.toList.map (·.born)).Nodup)
    (h5 : ∀ e ∈ es.toList, e.born < clock) (he : es.toList[j]? = some e) (hk : e.key = kvv k) (hj : m[j]? = some (k, u)) (v : Int) :
    ∃ w', (Instr.entryStore 62 (.map (some b)) (goInt e.born) (.int .i64 v)).run Tryz.prog w = .ok () w' ∧ MIs w' b (m.set j (k, v)) ∧ w.grownBy w' (some b) := by
  have hf : es.findIdx? (fun x => ((x.born : Nat) : Int) == ((e.born : Nat) : Int)) = some j := by rw [WideElems.findIdx_arr]; exact WideElems.findIdx_born h4 he
  have hm := modify_set es j e (fun e => { e with val := .int .i64 v }) he
  refine ⟨setBlock w b (.map (es.modify j fun e => { e with val := .int .i64 v }) clock), ?_, ⟨_, _, heap_setBlock_same h1 _, h2.set hm hk rfl, ?_, ?_, ?_⟩, ⟨rfl, rfl, rfl, by simp [setBlock], fun i _ hi => heap_setBlock_other h1 _ (fun e => hi (by rw [e]))⟩⟩
  · have ha : (asIntOf (.int .i64 (e.born : Int))).run Tryz.prog w = .ok (.i64, (e.born : Int)) w := rfl
    simp [ha, Instr.entryStore, MapKept.run_getObj_map h1, MapKept.run_setObj_map _ h1, Result.andThen, setBlock, goInt, asInt, hf]
  · rw [map_fst_set hj]; exact h3
  · rw [hm, map_born_set (e := e) (e' := { e with val := .int .i64 v }) he rfl]; exact h4
  · rw [hm]; exact mem_set_born (e := e) (e' := { e with val := .int .i64 v }) he rfl h5

theorem mput_self_set {m : List (Ck.Knot × Int)} {j : Nat} {k : Ck.Knot} (h : m[j]? = some (k, mget m k)) : m.set j (k, mget m k) = m := by
  apply List.ext_getElem?
  intro i
  rw [List.getElem?_set]
  split
  · rename_i hi
    subst hi
    rw [if_pos (List.getElem?_eq_some_iff.1 h).1, h]
  · rfl

theorem MIs.entry {w : World} {b : Nat} {m : List (Ck.Knot × Int)} (h : MIs w b m) (k : Ck.Knot) :
    ∃ w' st, (Instr.mapEntry 62 (.map (some b)) (kvv k)).run Tryz.prog w = .ok (.tuple #[.int .i64 (mget m k), st]) w' ∧ MIs w' b (mput m k (mget m k)) ∧ w.grownBy w' (some b) ∧
      ∀ (v : Int) (w2 : World), w2.heap[b]? = w'.heap[b]? → ∃ w3, (Instr.entryStore 62 (.map (some b)) st (.int .i64 v)).run Tryz.prog w2 = .ok () w3 ∧ MIs w3 b (mput m k v) ∧ w2.grownBy w3 (some b) := by
  obtain ⟨es, clock, h1, h2, h3, h4, h5⟩ := h
  have hz : (zeroValue 3).run Tryz.prog w = .ok (.int .i64 0) w := by kernel_rfl
  have grown : ∀ o, w.grownBy (setBlock w b o) (some b) := fun o => ⟨rfl, rfl, rfl, by simp [setBlock], fun i _ hi => heap_setBlock_other h1 _ (fun e => hi (by rw [e]))⟩
  rcases fnd_spec k m 0 with ⟨g1, g2, g3, g4⟩ | ⟨j, g1, g2, g3⟩
  · have e2 : Ents (es.push { key := kvv k, val := .int .i64 0, born := clock }) (m ++ [(k, 0)]) := by unfold Ents at h2 ⊢; simp [h2]
    have e3 : ((m ++ [(k, (0 : Int))]).map (·.1)).Nodup := by
      rw [List.map_append]
      exact List.nodup_append.2 ⟨h3, by simp, fun x hx y hy e => g2 (by simp at hy; rw [← hy, ← e]; exact hx)⟩
    have e4 : ((es.push { key := kvv k, val := .int .i64 0, born := clock }).toList.map (·.born)).Nodup := by
      simp only [Array.toList_push, List.map_append]
      exact List.nodup_append.2 ⟨h4, by simp, fun x hx y hy e => by
        simp at hy
        obtain ⟨e', he', rfl⟩ := List.mem_map.1 hx
        have := h5 e' he'
        omega⟩
    have e5 : ∀ x ∈ (es.push { key := kvv k, val := .int .i64 0, born := clock }).toList, x.born < clock + 1 := by
      intro x hx
      simp at hx
      rcases hx with hx | rfl
      · have := h5 x (by simpa using hx); omega
      · simp
    have hlen : es.toList.length = m.length := by have := congrArg List.length h2; simpa using this
    have he : (es.push { key := kvv k, val := .int .i64 0, born := clock }).toList[m.length]? = some { key := kvv k, val := .int .i64 0, born := clock } := by
      simp [← hlen]
    refine ⟨setBlock w b (.map (es.push { key := kvv k, val := .int .i64 0, born := clock }) (clock + 1)), goInt clock, ?_, ?_, grown _, fun v w2 hw2 => ?_⟩
    · simp [Instr.mapEntry, run_underlying Tryz.underlying62, MapKept.run_getObj_map h1, run_checkKnot, run_findKey k w es m h2, g1, g3, hz, MapKept.run_setObj_map _ h1, Result.andThen, setBlock]
    · rw [g4, g3]; exact ⟨_, _, heap_setBlock_same h1 _, e2, e3, e4, e5⟩
    · rw [g4]
      rw [heap_setBlock_same h1] at hw2
      obtain ⟨w3, r1, r2, r3⟩ := entryStore_run (k := k) (u := 0) hw2 e2 e3 e4 e5 he rfl (by simp) v
      exact ⟨w3, r1, by simpa using r2, r3⟩
  · obtain ⟨e, he, hek, hev⟩ := h2.key g2
    have he' : es[j]? = some e := by simpa using he
    have hm := modify_set es j e (fun e => { e with key := kvv k }) he
    have e2 : Ents (es.modify j fun e => { e with key := kvv k }) m := by
      have := h2.set (p := (k, mget m k)) (e := { e with key := kvv k }) hm rfl hev
      rwa [mput_self_set g2] at this
    have e4 : ((es.modify j fun e => { e with key := kvv k }).toList.map (·.born)).Nodup := by rw [hm, map_born_set (e := e) (e' := { e with key := kvv k }) he rfl]; exact h4
    have e5 : ∀ x ∈ (es.modify j fun e => { e with key := kvv k }).toList, x.born < clock := by rw [hm]; exact mem_set_born (e := e) (e' := { e with key := kvv k }) he rfl h5
    have he2 : (es.modify j fun e => { e with key := kvv k }).toList[j]? = some { e with key := kvv k } := by
      rw [hm, List.getElem?_set_self (List.getElem?_eq_some_iff.1 he).1]
    refine ⟨setBlock w b (.map (es.modify j fun e => { e with key := kvv k }) clock), goInt e.born, ?_, ?_, grown _, fun v w2 hw2 => ?_⟩
    · simp [Instr.mapEntry, run_underlying Tryz.underlying62, MapKept.run_getObj_map h1, run_checkKnot, run_findKey k w es m h2, g1, MapKept.run_setObj_map _ h1, Result.andThen, setBlock, he', stays k w e.key hek]
    · rw [g3, mput_self_set g2]; exact ⟨_, _, heap_setBlock_same h1 _, e2, h3, e4, e5⟩
    · rw [g3]
      rw [heap_setBlock_same h1] at hw2
      exact entryStore_run (e := { e with key := kvv k }) hw2 e2 h3 e4 e5 he2 rfl g2 v
end Go.Proofs.YthihjphcjjpjpaaGreat

/- Contracts of endsOf and degrees. -/
namespace Go.Proofs.YthihjphcjjpjpaaGreat
open Go.RowKit

theorem box34 (w : World) (a b c d e f g : Value) (t t' : TypeId) : ∃ w1, w1 = (w.alloc (.cells #[a, b, c] t)).alloc (.cells #[d, e, f, g] t') ∧ w1.cell? ⟨w.heap.size, 0, none⟩ = some a ∧ w1.cell? ⟨w.heap.size, 1, none⟩ = some b ∧ w1.cell? ⟨w.heap.size, 2, none⟩ = some c ∧
    w1.heap[w.heap.size + 1]? = some (.cells #[d, e, f, g] t' (0, 0)) ∧ Below w.heap.size w w1 ∧ w.heap.size + 1 < w1.heap.size := by
  obtain ⟨w0, rfl, h0, h1, h2, hb0, hz⟩ := box3 w a b c t
  have hs : (w.alloc (.cells #[a, b, c] t)).heap.size = w.heap.size + 1 := by simp
  have hb : Below (w.alloc (.cells #[a, b, c] t)).heap.size (w.alloc (.cells #[a, b, c] t)) ((w.alloc (.cells #[a, b, c] t)).alloc (.cells #[d, e, f, g] t')) := (Below.refl _ _).alloc (Nat.le_refl _) _
  exact ⟨_, rfl, (hb.cell (p := ⟨_, _, none⟩) hz).trans h0, (hb.cell (p := ⟨_, _, none⟩) hz).trans h1, (hb.cell (p := ⟨_, _, none⟩) hz).trans h2, by rw [← hs]; exact heap_alloc_new _ _, hb0.trans (hb.mono (by omega)), by simp⟩
theorem four_cells {w : World} {g : Nat} {a b c d : Value} {t : TypeId} (h : w.heap[g]? = some (.cells #[a, b, c, d] t (0, 0))) : w.cell? ⟨g, 0, none⟩ = some a ∧ w.cell? ⟨g, 1, none⟩ = some b ∧ w.cell? ⟨g, 2, none⟩ = some c ∧ w.cell? ⟨g, 3, none⟩ = some d ∧ ∀ i, w.frozen? ⟨g, i, none⟩ = false := by
  refine ⟨?_, ?_, ?_, ?_, fun i => ?_⟩ <;> simp [World.cell?, World.frozen?, h]

theorem carry34 {w0 w1 : World} {g : Nat} {a b c d e f h : Value} {t : TypeId} (hb : Below w0.heap.size w0 w1) (hz : g + 1 < w0.heap.size) (c0 : w0.cell? ⟨g, 0, none⟩ = some a) (c1 : w0.cell? ⟨g, 1, none⟩ = some b) (c2 : w0.cell? ⟨g, 2, none⟩ = some c)
    (hr : w0.heap[g + 1]? = some (.cells #[d, e, f, h] t (0, 0))) :
    w1.cell? ⟨g, 0, none⟩ = some a ∧ w1.cell? ⟨g, 1, none⟩ = some b ∧ w1.cell? ⟨g, 2, none⟩ = some c ∧ w1.heap[g + 1]? = some (.cells #[d, e, f, h] t (0, 0)) ∧ g + 1 < w1.heap.size :=
  ⟨(hb.cell (p := ⟨g, _, none⟩) (by show g < _; omega)).trans c0, (hb.cell (p := ⟨g, _, none⟩) (by show g < _; omega)).trans c1, (hb.cell (p := ⟨g, _, none⟩) (by show g < _; omega)).trans c2, (hb.block _ hz).trans hr, Nat.lt_of_lt_of_le hz hb.size⟩

set_option maxHeartbeats 1000000 in
set_option maxRecDepth 100000 in
theorem netEndsOf (x y s : Int) (w : World) (hx1 : -100000 ≤ x) (hx2 : x ≤ 100000) (hy1 : -100000 ≤ y) (hy2 : y ≤ 100000) (hs1 : -1 ≤ s) (hs2 : s ≤ 1) :
    Calls Tryz.prog 50 #[.agg #[.int .i64 x, .int .i64 y, .int .i64 s]] w fun e w' => e = .returned (.agg #[.int .i64 x, .int .i64 y, .int .i64 (x + s), .int .i64 (y + 1)]) ∧ Below w.heap.size w w' := by
  obtain ⟨w0, hw0, c0, c1, c2, hr, hb0, hz0⟩ := box34 w (.int .i64 x) (.int .i64 y) (.int .i64 s) (.int .i64 0) (.int .i64 0) (.int .i64 0) (.int .i64 0) 52 93
  obtain ⟨r0, r1, r2, r3, rf⟩ := four_cells hr
  have hz00 : w.heap.size < w0.heap.size := by omega
  have HW := Lib.hid hw0
  have HR := Lib.hid hr
  clear hw0 hr
  go_enter Tryz.func50, Tryz.ntmps50
  go_wp2_with fail
  rw [← HW.out]
  go_region_with (first
    | (go_at_call 52; refine (netLower _ _ _ _).mono ?_; rintro e w1 ⟨rfl, hb1⟩; obtain ⟨d0, d1, d2, hr1, hz1⟩ := carry34 hb1 hz0 c0 c1 c2 HR.out; have HR1 := Lib.hid hr1; obtain ⟨s0, s1, s2, s3, sf⟩ := four_cells hr1; clear hr1)
    | (go_at_call 55; refine (netUpper _ _ _ _ hx1 hx2 hy1 hy2 hs1 hs2).mono ?_; rintro e w2 ⟨rfl, hb2⟩; obtain ⟨e0, e1, e2, hr2, hz2⟩ := carry34 hb2 hz1 d0 d1 d2 HR1.out; have HR2 := Lib.hid hr2; obtain ⟨t0, t1, t2, t3, tf⟩ := four_cells hr2; clear hr2))
  all_goals go_wp2
  all_goals
    exact bodyPost_ret (v := .agg #[.int .i64 x, .int .i64 y, .int .i64 (x + s), .int .i64 (y + 1)]) (by simp [results, Tryz.results50, go_sem, t0, t1, t2, t3]) rfl
      ⟨rfl, ((((((below_drew hb0).trans (hb1.mono (by show w.heap.size ≤ w0.heap.size; omega))).trans (hb2.mono (by omega))).setCell (by simp) _).setCell (by simp) _).setCell (by simp) _).setCell (by simp) _⟩
end Go.Proofs.YthihjphcjjpjpaaGreat

/- The contract of degrees: a new map from the knots of a net to how many bars end there. -/
namespace Go.Proofs.YthihjphcjjpjpaaGreat
open Go.RowKit

def incr (m : List (Ck.Knot × Int)) (k : Ck.Knot) : List (Ck.Knot × Int) := mput m k (mget m k + 1)
def degsL (ks : List Ck.Knot) : List (Ck.Knot × Int) := ks.foldl incr []
theorem mget_mput (m : List (Ck.Knot × Int)) (k k' : Ck.Knot) (v : Int) : mget (mput m k v) k' = if k' = k then v else mget m k' := by
  induction m with
  | nil => simp [mput, mget]
  | cons p r ih =>
    by_cases h : k = p.1
    · simp only [mput, if_pos h, mget]
      by_cases h2 : k' = k
      · simp [h2]
      · simp [h2, h ▸ h2]
    · simp only [mput, if_neg h, mget, ih]
      by_cases h2 : k' = p.1
      · have : ¬ k' = k := fun e => h (e ▸ h2)
        simp [h2]
        intro e
        exact absurd e.symm h
      · simp [h2]
theorem mget_bound (ks : List Ck.Knot) : ∀ (m : List (Ck.Knot × Int)) (c : Int), (∀ k, 0 ≤ mget m k ∧ mget m k ≤ c) → ∀ k, 0 ≤ mget (ks.foldl incr m) k ∧ mget (ks.foldl incr m) k ≤ c + ks.length := by
  induction ks with
  | nil => intro m c h k; simpa using h k
  | cons a r ih =>
    intro m c h k
    have := ih (incr m a) (c + 1) (fun k' => by
      rw [incr, mget_mput]
      have h1 := h k'
      have h2 := h a
      split <;> omega) k
    simp only [List.foldl_cons, List.length_cons] at this ⊢
    omega
theorem degs_bound (ks : List Ck.Knot) (k : Ck.Knot) : 0 ≤ mget (degsL ks) k ∧ mget (degsL ks) k ≤ ks.length := by
  have := mget_bound ks [] 0 (fun _ => by simp [mget]) k
  simpa [degsL] using this
theorem degsL_snoc (ks : List Ck.Knot) (k : Ck.Knot) : degsL (ks ++ [k]) = incr (degsL ks) k := by simp [degsL]

theorem idx0 (a b c d : Value) (w : World) : (Instr.index 93 (.agg #[a, b, c, d]) (.int .i64 0)).run Tryz.prog w = .ok (.agg #[a, b]) w := by kernel_rfl
theorem idx1 (a b c d : Value) (w : World) : (Instr.index 93 (.agg #[a, b, c, d]) (.int .i64 1)).run Tryz.prog w = .ok (.agg #[c, d]) w := by kernel_rfl
theorem extract1 (a b : Value) (w : World) : (Instr.extract (.tuple #[a, b]) 1).run Tryz.prog w = .ok b w := by kernel_rfl
/-- All that a walk wants to know where a map's count is raised. -/
theorem MIs.raise {w : World} {b g : Nat} {m : List (Ck.Knot × Int)} (h : MIs w b m) (k : Ck.Knot) (hg : g ≠ b) (hgs : g < w.heap.size) (c0 : w.cell? ⟨g, 0, none⟩ = some (.int .i64 k.x)) (c1 : w.cell? ⟨g, 1, none⟩ = some (.int .i64 k.y)) :
    ∃ we w3 st, (Instr.mapEntry 62 (.map (some b)) (.agg #[.int .i64 k.x, .int .i64 k.y])).run Tryz.prog w = .ok (.tuple #[.int .i64 (mget m k), st]) we ∧
      (Instr.lookup 62 (.map (some b)) (.agg #[.int .i64 k.x, .int .i64 k.y]) false).run Tryz.prog w = .ok (.int .i64 (mget m k)) w ∧
      (Instr.lookup 62 (.map (some b)) (.agg #[.int .i64 k.x, .int .i64 k.y]) false).run Tryz.prog we = .ok (.int .i64 (mget m k)) we ∧
      (Instr.entryStore 62 (.map (some b)) st (.int .i64 (mget m k + 1))).run Tryz.prog we = .ok () w3 ∧
      we.cell? ⟨g, 0, none⟩ = some (.int .i64 k.x) ∧ we.cell? ⟨g, 1, none⟩ = some (.int .i64 k.y) ∧ MIs w3 b (incr m k) ∧ w.grownBy w3 (some b) := by
  obtain ⟨we, st, r1, m1, g1, hst⟩ := h.entry k
  obtain ⟨w3, s1, m3, g3⟩ := hst (mget m k + 1) we rfl
  have l1 := m1.lookup k
  rw [mget_mput, if_pos rfl] at l1
  have hb : ∀ i, we.cell? ⟨g, i, none⟩ = w.cell? ⟨g, i, none⟩ := fun i => World.cell?_of_block (g1.block g hgs (fun e => hg (by injection e)))
  exact ⟨we, w3, st, r1, h.lookup k, l1, s1, (hb 0).trans c0, (hb 1).trans c1, m3, g1.trans g3⟩
theorem ends_take_succ {l : List Ck.Bar} {k : Nat} (h : k < l.length) : Ck.ends (l.take (k + 1)) = Ck.ends (l.take k) ++ [l[k].lo] ++ [l[k].hi] := by
  rw [List.take_succ_eq_append_getElem h, Ck.ends_append]
  simp [Ck.ends]
theorem ends_length (l : List Ck.Bar) : (Ck.ends l).length = 2 * l.length := by
  induction l with
  | nil => rfl
  | cons a r ih => simp [Ck.ends] at ih ⊢; omega

set_option maxHeartbeats 1000000 in
set_option maxRecDepth 100000 in
theorem netDegrees (A : Option Addr) (c : Nat) (l : List Ck.Bar) (w : World) (hl : l.length ≤ 4096) (hok : ∀ x ∈ l, Ck.okBar x) (h : RB w w.heap.size A l) :
    Calls Tryz.prog 23 #[.slice A l.length c] w fun e w' => ∃ b, e = .returned (.map (some b)) ∧ w.heap.size ≤ b ∧ MIs w' b (degsL (Ck.ends l)) ∧ Below w.heap.size w w' := by
  have hl' : (l.length : Int) ≤ 4096 := by omega
  have hmm := @run_makeMap Tryz.prog
  go_enter Tryz.func23, Tryz.ntmps23
  go_wp2_with fail
  go_loopw [5, 7, 11] (fun _ _ i wr => ∃ k : Nat, k ≤ l.length ∧ i = .int .i64 k ∧ MIs wr w.heap.size (degsL (Ck.ends (l.take k))) ∧ Below w.heap.size w wr) (fun _ _ i _ => l.length - (intOf i).toNat)
  case atStart => exact ⟨0, Nat.zero_le _, rfl, MIs.made _, (Below.refl _ _).alloc (Nat.le_refl _) _⟩
  case round =>
    obtain ⟨k, hk, rfl, hm, hb⟩ := hrel
    by_cases hlt : k < l.length
    · have h' := h.below hb
      obtain ⟨b, off, rfl, hB, hc⟩ := h' (by omega)
      have hin := hok _ (List.getElem_mem hlt)
      obtain ⟨⟨⟨hx1, hx2⟩, ⟨hy1, hy2⟩, _⟩, hs, _⟩ := hin
      have hs1 : -1 ≤ l[k].s := by omega
      have hs2 : l[k].s ≤ 1 := by omega
      replace hx1 : -100000 ≤ l[k].x := hx1
      replace hx2 : l[k].x ≤ 100000 := hx2
      replace hy1 : -100000 ≤ l[k].y := hy1
      replace hy2 : l[k].y ≤ 100000 := hy2
      obtain ⟨c0, c1, c2⟩ := hc k hlt
      have HT := Lib.hid (ends_take_succ hlt)
      have hE := ends_length (l.take k)
      rw [List.length_take, Nat.min_eq_left (by omega)] at hE
      have HE := Lib.hid hE
      clear hc h' h hs hE
      obtain ⟨wo, rfl⟩ : ∃ wo : World, wo = wr := ⟨_, rfl⟩
      go_wp2_with fail
      refine (netEndsOf _ _ _ _ hx1 hx2 hy1 hy2 hs1 hs2).mono ?_
      rintro e w1 ⟨rfl, hb1⟩
      have hz := hm.lt
      have hq1 : Below wo.heap.size wo w1 := ((Below.refl _ wo).alloc (Nat.le_refl _) _).trans (hb1.mono (by simp))
      have hmw := hm.below hq1 hz
      have hbw := hb.trans (hq1.mono hb.size)
      go_wp2_with fail
      go_loopw [7, 17] (fun _ i wi => ∃ j : Nat, j ≤ 2 ∧ i = .int .i64 j ∧ MIs wi w.heap.size (degsL (Ck.ends (l.take k) ++ [l[k].lo, l[k].hi].take j)) ∧ Below w.heap.size w wi) (fun _ i _ => 2 - (intOf i).toNat)
      case atStart => exact ⟨0, by omega, rfl, by simpa using hmw, hbw⟩
      case round =>
        obtain ⟨j, hj, rfl, hmi, hbi⟩ := hrel
        have hj' : j = 0 ∨ j = 1 ∨ j = 2 := by omega
        rcases hj' with rfl | rfl | rfl
        · have hidx := idx0 (.int .i64 l[k].x) (.int .i64 l[k].y) (.int .i64 (l[k].x + l[k].s)) (.int .i64 (l[k].y + 1))
          go_wp2_with fail
          obtain ⟨w2, hw2, d0, d1, hb2, hz2⟩ := box2 wr (.int .i64 l[k].x) (.int .i64 l[k].y) 23
          rw [← hw2]
          clear hw2
          have hm2 := hmi.below hb2 hmi.lt
          obtain ⟨we, w3, st, r1, r2, r3, r4, e0, e1, m3, g3⟩ := (hm2.drew).raise l[k].lo (by have := hmi.lt; omega) hz2 d0 d1
          have hv := degs_bound (Ck.ends (l.take k) ++ [l[k].lo, l[k].hi].take 0) l[k].lo
          have hlen : ((Ck.ends (l.take k) ++ [l[k].lo, l[k].hi].take 0).length : Int) ≤ 10000 := by rw [List.length_append, HE.out]; simp; omega
          generalize mget (degsL (Ck.ends (l.take k) ++ [l[k].lo, l[k].hi].take 0)) l[k].lo = v at r1 r2 r3 r4 hv
          have hw : IntKind.i64.wrap (v + 1) = v + 1 := by rw [IntKind.wrap_i64]; omega
          replace r1 : (Instr.mapEntry 62 (.map (some w.heap.size)) (.agg #[.int .i64 l[k].x, .int .i64 l[k].y])).run Tryz.prog w2.drew = _ := r1
          replace r2 : (Instr.lookup 62 (.map (some w.heap.size)) (.agg #[.int .i64 l[k].x, .int .i64 l[k].y]) false).run Tryz.prog w2.drew = _ := r2
          replace r3 : (Instr.lookup 62 (.map (some w.heap.size)) (.agg #[.int .i64 l[k].x, .int .i64 l[k].y]) false).run Tryz.prog we = _ := r3
          replace e0 : we.cell? ⟨wr.heap.size, 0, none⟩ = some (.int .i64 l[k].x) := e0
          replace e1 : we.cell? ⟨wr.heap.size, 1, none⟩ = some (.int .i64 l[k].y) := e1
          clear hlen
          go_region
          go_wp2
          go_roundw
          case rel => exact ⟨0 + 1, by omega, by go_num, by rw [show [l[k].lo, l[k].hi].take (0 + 1) = [l[k].lo, l[k].hi].take 0 ++ [l[k].lo] from rfl, ← List.append_assoc, degsL_snoc]; exact m3, (below_drew (hbi.trans (hb2.mono hbi.size))).grown g3 (by have := hb2.size; have := hbi.size; show w.heap.size ≤ w2.heap.size; omega) (fun q e => by cases e; exact Nat.le_refl _)⟩
          case measure => simp [intOf]
        · have hidx := idx1 (.int .i64 l[k].x) (.int .i64 l[k].y) (.int .i64 (l[k].x + l[k].s)) (.int .i64 (l[k].y + 1))
          go_wp2_with fail
          obtain ⟨w2, hw2, d0, d1, hb2, hz2⟩ := box2 wr (.int .i64 (l[k].x + l[k].s)) (.int .i64 (l[k].y + 1)) 23
          rw [← hw2]
          clear hw2
          have hm2 := hmi.below hb2 hmi.lt
          obtain ⟨we, w3, st, r1, r2, r3, r4, e0, e1, m3, g3⟩ := (hm2.drew).raise l[k].hi (by have := hmi.lt; omega) hz2 d0 d1
          have hv := degs_bound (Ck.ends (l.take k) ++ [l[k].lo, l[k].hi].take 1) l[k].hi
          have hlen : ((Ck.ends (l.take k) ++ [l[k].lo, l[k].hi].take 1).length : Int) ≤ 10000 := by rw [List.length_append, HE.out]; simp; omega
          generalize mget (degsL (Ck.ends (l.take k) ++ [l[k].lo, l[k].hi].take 1)) l[k].hi = v at r1 r2 r3 r4 hv
          have hw : IntKind.i64.wrap (v + 1) = v + 1 := by rw [IntKind.wrap_i64]; omega
          replace r1 : (Instr.mapEntry 62 (.map (some w.heap.size)) (.agg #[.int .i64 (l[k].x + l[k].s), .int .i64 (l[k].y + 1)])).run Tryz.prog w2.drew = _ := r1
          replace r2 : (Instr.lookup 62 (.map (some w.heap.size)) (.agg #[.int .i64 (l[k].x + l[k].s), .int .i64 (l[k].y + 1)]) false).run Tryz.prog w2.drew = _ := r2
          replace r3 : (Instr.lookup 62 (.map (some w.heap.size)) (.agg #[.int .i64 (l[k].x + l[k].s), .int .i64 (l[k].y + 1)]) false).run Tryz.prog we = _ := r3
          replace e0 : we.cell? ⟨wr.heap.size, 0, none⟩ = some (.int .i64 (l[k].x + l[k].s)) := e0
          replace e1 : we.cell? ⟨wr.heap.size, 1, none⟩ = some (.int .i64 (l[k].y + 1)) := e1
          clear hlen
          go_region
          go_wp2
          go_roundw
          case rel => exact ⟨1 + 1, by omega, by go_num, by rw [show [l[k].lo, l[k].hi].take (1 + 1) = [l[k].lo, l[k].hi].take 1 ++ [l[k].hi] from rfl, ← List.append_assoc, degsL_snoc]; exact m3, (below_drew (hbi.trans (hb2.mono hbi.size))).grown g3 (by have := hb2.size; have := hbi.size; show w.heap.size ≤ w2.heap.size; omega) (fun q e => by cases e; exact Nat.le_refl _)⟩
          case measure => simp [intOf]
        · go_wp2
          go_roundw
          case rel => exact ⟨k + 1, by omega, by go_num, by rw [HT.out]; simpa using hmi, hbi⟩
          case measure => simp [intOf]; omega
    · obtain rfl : k = l.length := by omega
      go_wp2
      go_ret
      exact ⟨_, rfl, Nat.le_refl _, by rwa [List.take_length] at hm, hb⟩
end Go.Proofs.YthihjphcjjpjpaaGreat

/- How many knots have one leg, and how many two: plain mathematics of the bars along an edge. -/
namespace Go.Proofs.YthihjphcjjpjpaaGreat
open Ck

theorem foldl_count (k : Knot) : ∀ (ks : List Knot) (m : List (Knot × Int)), mget (ks.foldl incr m) k = mget m k + (ks.count k : Int)
  | [], m => by simp
  | a :: r, m => by
    rw [List.foldl_cons, foldl_count k r, incr, mget_mput, List.count_cons]
    by_cases h : k = a
    · subst h
      simp
      omega
    · have h' : ¬ (a == k) = true := by rw [beq_iff_eq]; exact fun e => h e.symm
      rw [if_neg h, if_neg h']
      simp
theorem degs_count (ks : List Knot) (k : Knot) : mget (degsL ks) k = (ks.count k : Int) := by
  rw [degsL, foldl_count]
  simp [mget]
/-- How many of the knots have so many legs. -/
def legN (l : List Bar) (i : Nat) : Nat := ((degsL (ends l)).map (·.1)).countP fun k => decide ((ends l).count k = i)

theorem sum_ones {a : Knot} : ∀ {K : List Knot}, K.Nodup → a ∈ K → ∀ f : Knot → Nat, (K.map fun k => f k + if a = k then 1 else 0).sum = (K.map f).sum + 1
  | [], _, h, _ => by simp at h
  | b :: r, hn, h, f => by
    obtain ⟨h1, h2⟩ := List.nodup_cons.1 hn
    by_cases hab : a = b
    · subst hab
      have e : (r.map fun k => f k + if a = k then 1 else 0) = r.map f := List.map_congr_left fun k hk => by
        have hne : ¬ a = k := fun e => h1 (by rw [e]; exact hk)
        rw [if_neg hne]
        rfl
      simp only [List.map_cons, List.sum_cons, e, if_true]
      omega
    · have hr : a ∈ r := by
        rcases List.mem_cons.1 h with h | h
        · exact absurd h hab
        · exact h
      have ih := sum_ones h2 hr f
      simp only [List.map_cons, List.sum_cons, ih, if_neg hab]
      omega
theorem sum_counts {K : List Knot} (hn : K.Nodup) : ∀ es : List Knot, (∀ x ∈ es, x ∈ K) → (K.map fun k => es.count k).sum = es.length
  | [], _ => by
    have e : (K.map fun k => List.count k ([] : List Knot)) = K.map fun _ => 0 := List.map_congr_left fun k _ => by simp
    rw [e]
    have : ∀ L : List Knot, (L.map fun _ => 0).sum = 0 := fun L => by induction L with
      | nil => rfl
      | cons a r ih => simpa using ih
    exact this K
  | a :: r, h => by
    have ih := sum_counts hn r fun x hx => h x (by simp [hx])
    have e : (K.map fun k => List.count k (a :: r)) = K.map fun k => r.count k + if a = k then 1 else 0 := List.map_congr_left fun k _ => by
      rw [List.count_cons]
      by_cases hk : a = k <;> simp [hk]
    rw [e, sum_ones hn (h a (by simp)), ih, List.length_cons]
theorem count_two {f : Knot → Nat} : ∀ K : List Knot, (∀ k ∈ K, f k = 1 ∨ f k = 2) → (K.map f).sum = K.countP (fun k => decide (f k = 1)) + 2 * K.countP (fun k => decide (f k = 2)) ∧ K.length = K.countP (fun k => decide (f k = 1)) + K.countP (fun k => decide (f k = 2))
  | [], _ => by simp
  | a :: r, h => by
    obtain ⟨i1, i2⟩ := count_two r fun k hk => h k (by simp [hk])
    rw [List.map_cons, List.sum_cons, List.countP_cons, List.countP_cons, List.length_cons]
    rcases h a (by simp) with h1 | h1 <;> rw [h1] <;> simp <;> omega
theorem one_lo {k : Knot} : ∀ {l : List Bar}, l.Pairwise (fun a b => a.y < b.y) → l.countP (fun b => decide (b.lo = k)) ≤ 1
  | [], _ => by simp
  | b :: r, h => by
    obtain ⟨h1, h2⟩ := List.pairwise_cons.1 h
    rw [List.countP_cons]
    by_cases hb : b.lo = k
    · have h0 : r.countP (fun b => decide (b.lo = k)) = 0 := by
        rw [List.countP_eq_zero]
        intro c hc hk
        have hk' : c.lo = k := by simpa using hk
        have := h1 c hc
        have e : c.lo.y = b.lo.y := by rw [hk', hb]
        simp only [Bar.lo] at e
        omega
      rw [h0]
      simp [hb]
    · have := one_lo (k := k) h2
      simp [hb]
      exact this
theorem one_hi {k : Knot} : ∀ {l : List Bar}, l.Pairwise (fun a b => a.y < b.y) → l.countP (fun b => decide (b.hi = k)) ≤ 1
  | [], _ => by simp
  | b :: r, h => by
    obtain ⟨h1, h2⟩ := List.pairwise_cons.1 h
    rw [List.countP_cons]
    by_cases hb : b.hi = k
    · have h0 : r.countP (fun b => decide (b.hi = k)) = 0 := by
        rw [List.countP_eq_zero]
        intro c hc hk
        have hk' : c.hi = k := by simpa using hk
        have := h1 c hc
        have e : c.hi.y = b.hi.y := by rw [hk', hb]
        simp only [Bar.hi] at e
        omega
      rw [h0]
      simp [hb]
    · have := one_hi (k := k) h2
      simp [hb]
      exact this
theorem ends_count (k : Knot) : ∀ l : List Bar, (ends l).count k = l.countP (fun b => decide (b.lo = k)) + l.countP (fun b => decide (b.hi = k))
  | [] => by simp [ends]
  | b :: r => by
    have ih := ends_count k r
    have e : ends (b :: r) = b.lo :: b.hi :: ends r := by simp [ends]
    rw [e, List.count_cons, List.count_cons, ih, List.countP_cons, List.countP_cons]
    by_cases h1 : b.lo = k <;> by_cases h2 : b.hi = k <;> simp [h1, h2] <;> omega
theorem degs_le {l : List Bar} (h : l.Pairwise fun a b => a.y < b.y) (k : Knot) : mget (degsL (ends l)) k ≤ 2 := by
  rw [degs_count, ends_count]
  have h1 := one_lo (k := k) h
  have h2 := one_hi (k := k) h
  omega
/-- The numbers of legs of the knots along an edge. -/
theorem edge_legs {σ : Int} (hσ : σ = 1 ∨ σ = -1) {L : List UInt8} {k : Knot} (hl : ∀ c ∈ L, isL c) {K : List Knot} (hK : K = (degsL (ends (barsP σ k L))).map (·.1)) (hn : K.Nodup) (hm : ∀ x, x ∈ K ↔ x ∈ ends (barsP σ k L)) :
    legN (barsP σ k L) 0 = 0 ∧ legN (barsP σ k L) 1 = 2 * endsR L ∧ legN (barsP σ k L) 2 + endsR L = barsN L ∧ legN (barsP σ k L) 3 = 0 ∧ legN (barsP σ k L) 4 = 0 := by
  have hp := barsP_pair (σ := σ) L k
  obtain ⟨-, hnk⟩ := barsP_parts hσ (l := L) (k := k) hl
  have hlen : (barsP σ k L).length = barsN L := barsP_length L k
  have hKl : K.length = barsN L + endsR L := by
    rw [← hnk]
    exact nK_eq hn hm
  have hsum := sum_counts hn (ends (barsP σ k L)) fun x hx => (hm x).2 hx
  have hel : (ends (barsP σ k L)).length = 2 * barsN L := by
    rw [← hlen]
    generalize barsP σ k L = l
    induction l with
    | nil => rfl
    | cons a r ih => simp [ends] at ih ⊢; omega
  have hf : ∀ x ∈ K, (ends (barsP σ k L)).count x = 1 ∨ (ends (barsP σ k L)).count x = 2 := fun x hx => by
    have h1 := one_lo (k := x) hp
    have h2 := one_hi (k := x) hp
    have h3 := List.count_pos_iff.2 ((hm x).1 hx)
    rw [ends_count] at h3 ⊢
    omega
  obtain ⟨c1, c2⟩ := count_two (f := fun x => (ends (barsP σ k L)).count x) K hf
  have hz : ∀ i, i ≠ 1 → i ≠ 2 → K.countP (fun x => decide ((ends (barsP σ k L)).count x = i)) = 0 := fun i h1 h2 => by
    rw [List.countP_eq_zero]
    intro x hx h
    have h' : (ends (barsP σ k L)).count x = i := by simpa using h
    rcases hf x hx with e | e <;> omega
  simp only [legN, ← hK]
  refine ⟨hz 0 (by decide) (by decide), by omega, by omega, hz 3 (by decide) (by decide), hz 4 (by decide) (by decide)⟩
end Go.Proofs.YthihjphcjjpjpaaGreat

/- Plain mathematics of the numbering of connected knots: what holds at each step of a search with a stack. -/
namespace Go.Proofs.YthihjphcjjpjpaaGreat
open Ck

def nb (k : Knot) : List (Bar × Knot) := [(⟨k.x - 1, k.y - 1, 1⟩, ⟨k.x - 1, k.y - 1⟩), (⟨k.x + 1, k.y - 1, -1⟩, ⟨k.x + 1, k.y - 1⟩), (⟨k.x, k.y, -1⟩, ⟨k.x - 1, k.y + 1⟩), (⟨k.x, k.y, 1⟩, ⟨k.x + 1, k.y + 1⟩)]
theorem Knot.ext' {a b : Knot} (h1 : a.x = b.x) (h2 : a.y = b.y) : a = b := by
  cases a; cases b; cases h1; cases h2; rfl
theorem nb_adj {k : Knot} {p : Bar × Knot} (h : p ∈ nb k) : Adj p.1 k p.2 := by
  simp only [nb, List.mem_cons, List.not_mem_nil, or_false] at h
  rcases h with rfl | rfl | rfl | rfl
  · exact .inr ⟨Knot.ext' (by show k.x = k.x - 1 + 1; omega) (by show k.y = k.y - 1 + 1; omega), rfl⟩
  · exact .inr ⟨Knot.ext' (by show k.x = k.x + 1 + -1; omega) (by show k.y = k.y - 1 + 1; omega), rfl⟩
  · exact .inl ⟨rfl, Knot.ext' (by show k.x - 1 = k.x + -1; omega) rfl⟩
  · exact .inl ⟨rfl, rfl⟩
theorem adj_nb {b : Bar} {k m : Knot} (hs : b.s = -1 ∨ b.s = 1) (h : Adj b k m) : (b, m) ∈ nb k := by
  obtain ⟨x, y, s⟩ := b
  simp only at hs
  simp only [nb, List.mem_cons, List.not_mem_nil, or_false, Prod.mk.injEq]
  rcases h with ⟨rfl, rfl⟩ | ⟨rfl, rfl⟩
  · rcases hs with rfl | rfl
    · exact .inr (.inr (.inl ⟨rfl, Knot.ext' (by show x + -1 = x - 1; omega) rfl⟩))
    · exact .inr (.inr (.inr ⟨rfl, rfl⟩))
  · rcases hs with rfl | rfl
    · exact .inr (.inl ⟨Bar.ext' (by show x = x + -1 + 1; omega) (by show y = y + 1 - 1; omega) rfl, Knot.ext' (by show x = x + -1 + 1; omega) (by show y = y + 1 - 1; omega)⟩)
    · exact .inl ⟨Bar.ext' (by show x = x + 1 - 1; omega) (by show y = y + 1 - 1; omega) rfl, Knot.ext' (by show x = x + 1 - 1; omega) (by show y = y + 1 - 1; omega)⟩

/-- The numbered knots are closed under the bars. -/
def Closed (l : List Bar) (M : List (Knot × Int)) : Prop := ∀ b ∈ l, ∀ k m, Adj b k m → mget M k ≠ 0 → mget M m ≠ 0
theorem Closed.conn {l : List Bar} {M : List (Knot × Int)} (h : Closed l M) {k m : Knot} (hc : Conn l k m) : mget M k ≠ 0 → mget M m ≠ 0 := by
  induction hc with
  | refl => exact id
  | step b hb ha _ ih => exact fun hk => ih (h b hb _ _ ha hk)

/-- V: the knots that have been reached; S: those whose bars are still to be looked at; k0: the one whose first j bars have been looked at. -/
structure Fl (l : List Bar) (M0 : List (Knot × Int)) (src : Knot) (n : Int) (M : List (Knot × Int)) (V S : List Knot) (k0 : Option Knot) (j : Nat) : Prop where
  hM : ∀ k, mget M k = if k ∈ V then n else mget M0 k
  conn : ∀ k ∈ V, Conn l src k
  ends : ∀ k ∈ V, k ∈ ends l
  nd : V.Nodup
  nds : S.Nodup
  sub : ∀ k ∈ S, k ∈ V
  fr : src ∈ V
  cl : ∀ k ∈ V, k ∉ S → k0 ≠ some k → ∀ p ∈ nb k, p.1 ∈ l → p.2 ∈ V
  cur : ∀ k, k0 = some k → k ∈ V ∧ k ∉ S ∧ ∀ p ∈ (nb k).take j, p.1 ∈ l → p.2 ∈ V
theorem Fl.bound {l : List Bar} {M0 M : List (Knot × Int)} {src : Knot} {n : Int} {V S : List Knot} {k0 : Option Knot} {j : Nat} (h : Fl l M0 src n M V S k0 j) : V.length ≤ (Ck.ends l).length := h.nd.length_le_of_subset h.ends
theorem Fl.stack {l : List Bar} {M0 M : List (Knot × Int)} {src : Knot} {n : Int} {V S : List Knot} {k0 : Option Knot} {j : Nat} (h : Fl l M0 src n M V S k0 j) : S.length ≤ V.length := h.nds.length_le_of_subset h.sub

theorem Fl.start {l : List Bar} {M0 : List (Knot × Int)} {src : Knot} {n : Int} (hs : src ∈ Ck.ends l) : Fl l M0 src n (mput M0 src n) [src] [src] none 0 where
  hM k := by rw [mget_mput]; simp
  conn k hk := by rw [List.mem_singleton] at hk; subst hk; exact .refl _
  ends k hk := by rw [List.mem_singleton] at hk; subst hk; exact hs
  nd := by simp
  nds := by simp
  sub k hk := hk
  fr := by simp
  cl k hk hns := absurd hk hns
  cur k hk := by cases hk
theorem Fl.pop {l : List Bar} {M0 M : List (Knot × Int)} {src : Knot} {n : Int} {V S : List Knot} {k : Knot} (h : Fl l M0 src n M V (S ++ [k]) none 0) : Fl l M0 src n M V S (some k) 0 where
  hM := h.hM
  conn := h.conn
  ends := h.ends
  nd := h.nd
  nds := (List.nodup_append.1 h.nds).1
  sub m hm := h.sub m (by simp [hm])
  fr := h.fr
  cl m hm hns hne := h.cl m hm (fun hh => by
    rcases List.mem_append.1 hh with hh | hh
    · exact hns hh
    · rw [List.mem_singleton] at hh; subst hh; exact hne rfl) (by simp)
  cur m hm := by
    cases hm
    refine ⟨h.sub k (by simp), fun hk => ?_, by simp⟩
    exact (List.nodup_append.1 h.nds).2.2 k hk k (by simp) rfl
theorem Fl.done {l : List Bar} {M0 M : List (Knot × Int)} {src : Knot} {n : Int} {V S : List Knot} {k : Knot} (h : Fl l M0 src n M V S (some k) 4) : Fl l M0 src n M V S none 0 where
  hM := h.hM
  conn := h.conn
  ends := h.ends
  nd := h.nd
  nds := h.nds
  sub := h.sub
  fr := h.fr
  cl m hm hns _ p hp hl := by
    by_cases e : m = k
    · subst e; exact (h.cur m rfl).2.2 p (by simpa [nb] using hp) hl
    · exact h.cl m hm hns (fun e' => e (by cases e'; rfl)) p hp hl
  cur m hm := by cases hm
theorem take_succ_mem {α : Type} {l : List α} {j : Nat} {p q : α} (hp : l[j]? = some p) (h : q ∈ l.take (j + 1)) : q ∈ l.take j ∨ q = p := by
  rw [List.take_add_one, hp] at h
  simpa using h
/-- The bar leads to a knot that is new: it gets the number, and comes onto the stack. -/
theorem Fl.push {l : List Bar} {M0 M : List (Knot × Int)} {src : Knot} {n : Int} {V S : List Knot} {k : Knot} {j : Nat} {p : Bar × Knot} (h : Fl l M0 src n M V S (some k) j) (hn : n ≠ 0) (hp : (nb k)[j]? = some p) (hz : mget M p.2 = 0) (hl : p.1 ∈ l) :
    Fl l M0 src n (mput M p.2 n) (p.2 :: V) (S ++ [p.2]) (some k) (j + 1) := by
  have hnew : p.2 ∉ V := fun hv => hn (by rw [← hz, h.hM, if_pos hv])
  have hadj := nb_adj (List.mem_of_getElem? hp)
  obtain ⟨hkV, hkS, hkc⟩ := h.cur k rfl
  exact {
    hM := fun m => by
      rw [mget_mput, h.hM]
      by_cases e : m = p.2
      · simp [e]
      · simp [e]
    conn := fun m hm => by
      rcases List.mem_cons.1 hm with rfl | hm
      · exact (h.conn k hkV).trans (.one hl hadj)
      · exact h.conn m hm
    ends := fun m hm => by
      rcases List.mem_cons.1 hm with rfl | hm
      · exact (hadj.ends hl).2
      · exact h.ends m hm
    nd := List.nodup_cons.2 ⟨hnew, h.nd⟩
    nds := List.nodup_append.2 ⟨h.nds, by simp, fun a ha b hb e => by
      rw [List.mem_singleton] at hb
      subst hb
      subst e
      exact hnew (h.sub _ ha)⟩
    sub := fun m hm => by
      rcases List.mem_append.1 hm with hm | hm
      · exact List.mem_cons.2 (.inr (h.sub m hm))
      · rw [List.mem_singleton] at hm; subst hm; simp
    fr := List.mem_cons.2 (.inr h.fr)
    cl := fun m hm hns hne q hq hql => by
      rcases List.mem_cons.1 hm with rfl | hm
      · exact absurd (List.mem_append.2 (.inr (by simp))) hns
      · exact List.mem_cons.2 (.inr (h.cl m hm (fun hh => hns (List.mem_append.2 (.inl hh))) hne q hq hql))
    cur := fun m hm => by
      cases hm
      refine ⟨List.mem_cons.2 (.inr hkV), fun hh => ?_, fun q hq hql => ?_⟩
      · rcases List.mem_append.1 hh with hh | hh
        · exact hkS hh
        · rw [List.mem_singleton] at hh; exact hnew (hh ▸ hkV)
      · rcases take_succ_mem hp hq with hq | rfl
        · exact List.mem_cons.2 (.inr (hkc q hq hql))
        · simp }
/-- The bar isn't in the net, or leads to a knot that has a number. -/
theorem Fl.skip {l : List Bar} {M0 M : List (Knot × Int)} {src : Knot} {n : Int} {V S : List Knot} {k : Knot} {j : Nat} {p : Bar × Knot} (h : Fl l M0 src n M V S (some k) j) (hc : Closed l M0) (h0 : mget M0 src = 0) (hp : (nb k)[j]? = some p) (hz : ¬ (mget M p.2 = 0 ∧ p.1 ∈ l)) :
    Fl l M0 src n M V S (some k) (j + 1) := by
  have hadj := nb_adj (List.mem_of_getElem? hp)
  obtain ⟨hkV, hkS, hkc⟩ := h.cur k rfl
  exact { h with
    cur := fun m hm => by
      cases hm
      refine ⟨hkV, hkS, fun q hq hql => ?_⟩
      rcases take_succ_mem hp hq with hq | rfl
      · exact hkc q hq hql
      · by_cases hv : q.2 ∈ V
        · exact hv
        · exfalso
          have h1 : mget M q.2 ≠ 0 := fun e => hz ⟨e, hql⟩
          rw [h.hM, if_neg hv] at h1
          exact hc.conn (((h.conn k hkV).trans (.one hql hadj)).symm) h1 h0 }
/-- What the map holds at the end. -/
theorem Fl.result {l : List Bar} {M0 M : List (Knot × Int)} {src : Knot} {n : Int} {V : List Knot} (h : Fl l M0 src n M V [] none 0) (hok : ∀ b ∈ l, b.s = -1 ∨ b.s = 1) :
    (∀ k, Conn l src k → mget M k = n) ∧ ∀ k, ¬ Conn l src k → mget M k = mget M0 k := by
  have hall : ∀ k m, Conn l k m → k ∈ V → m ∈ V := by
    intro k m hc
    induction hc with
    | refl => exact id
    | step b hb ha _ ih => exact fun hk => ih (h.cl _ hk (by simp) (by simp) _ (adj_nb (hok b hb) ha) hb)
  exact ⟨fun k hk => by rw [h.hM, if_pos (hall _ _ hk h.fr)], fun k hk => by rw [h.hM, if_neg (fun hv => hk (h.conn k hv))]⟩
end Go.Proofs.YthihjphcjjpjpaaGreat

/- Contracts of slices.BinarySearchFunc over bars in their order, and of hasBar. -/
namespace Go.Proofs.YthihjphcjjpjpaaGreat
open Go.RowKit

theorem cmpB_neg (p b : Ck.Bar) : decide (cmpB p b < 0) = lessB p.x p.y p.s b.x b.y b.s := by
  have h := cmpB_less p b
  cases hl : lessB p.x p.y p.s b.x b.y b.s
  · rw [hl] at h; simp at h ⊢; omega
  · rw [hl] at h; simp at h ⊢; omega
theorem lessB_iff (p b : Ck.Bar) : lessB p.x p.y p.s b.x b.y b.s = true ↔ Ck.Blt p b := by
  unfold lessB Ck.Blt
  split
  · split <;> simp <;> omega
  · simp; omega
theorem cmpE_zero (a b : Int) : cmpE a b = 0 ↔ a = b := by
  unfold cmpE
  split
  · omega
  · split <;> omega
theorem firstE_zero : ∀ es : List Int, firstE es = 0 ↔ ∀ e ∈ es, e = 0
  | [] => by simp [firstE]
  | e :: r => by
    unfold firstE
    split
    · rename_i h; simp [h, firstE_zero r]
    · rename_i h; simp [h]
theorem cmpB_zero (p b : Ck.Bar) : cmpB p b = 0 ↔ p = b := by
  rw [cmpB, firstE_zero]
  simp only [List.mem_cons, List.not_mem_nil, or_false, forall_eq_or_imp, forall_eq, cmpE_zero]
  constructor
  · rintro ⟨h1, h2, h3⟩; exact Ck.Bar.ext' h2 h1 h3
  · rintro rfl; exact ⟨rfl, rfl, rfl⟩
theorem cmpB_mono {l : List Ck.Bar} (hs : l.Pairwise Ck.Blt) {t : Ck.Bar} {i j : Nat} (hi : i < l.length) (hj : j < l.length) (hij : i ≤ j) (h : cmpB l[j] t < 0) : cmpB l[i] t < 0 := by
  rcases Nat.lt_or_ge i j with hlt | hge
  · have h1 := (List.pairwise_iff_getElem.1 hs) i j hi hj hlt
    have h2 : lessB l[j].x l[j].y l[j].s t.x t.y t.s = true := by rw [← cmpB_neg]; simpa using h
    have h3 := (lessB_iff _ _).2 (h1.trans ((lessB_iff _ _).1 h2))
    rw [← cmpB_neg] at h3
    simpa using h3
  · obtain rfl : i = j := by omega
    exact h
theorem found_mem {l : List Ck.Bar} {t : Ck.Bar} {p : Nat} (h1 : ∀ k (hk : k < l.length), k < p → cmpB l[k] t < 0) (h2 : ∀ k (hk : k < l.length), p ≤ k → 0 ≤ cmpB l[k] t) (hs : l.Pairwise Ck.Blt) (hp : p < l.length) : decide (t ∈ l) = decide (cmpB l[p] t = 0) := by
  rw [decide_eq_decide]
  constructor
  · intro hm
    obtain ⟨k, hk, rfl⟩ := List.getElem_of_mem hm
    have hk0 : cmpB l[k] l[k] = 0 := (cmpB_zero _ _).2 rfl
    rcases Nat.lt_trichotomy k p with hlt | rfl | hgt
    · have := h1 k hk hlt; omega
    · exact hk0
    · have h3 := (List.pairwise_iff_getElem.1 hs) p k hp hk hgt
      have h4 := (lessB_iff _ _).2 h3
      rw [← cmpB_neg] at h4
      have := h2 p hp (Nat.le_refl _)
      simp at h4
      omega
  · intro h
    rw [← (cmpB_zero _ _).1 h]
    exact List.getElem_mem hp
theorem end_mem {l : List Ck.Bar} {t : Ck.Bar} (h1 : ∀ k (hk : k < l.length), k < l.length → cmpB l[k] t < 0) : decide (t ∈ l) = false := by
  rw [decide_eq_false_iff_not]
  intro hm
  obtain ⟨k, hk, rfl⟩ := List.getElem_of_mem hm
  have := h1 k hk hk
  have hk0 : cmpB l[k] l[k] = 0 := (cmpB_zero _ _).2 rfl
  omega

def BSPost (t : Ck.Bar) (l : List Ck.Bar) (w : World) (e : Ending) (w' : World) : Prop := ∃ i : Nat, e = .returned (.tuple #[.int .i64 i, .bool (decide (t ∈ l))]) ∧ Below w.heap.size w w'
set_option maxHeartbeats 2000000 in
set_option maxRecDepth 100000 in
theorem binSearch (A : Option Addr) (c : Nat) (l : List Ck.Bar) (t : Ck.Bar) (w : World) (hl : l.length ≤ 4096) (hs : l.Pairwise Ck.Blt) (h : RB w w.heap.size A l) :
    Calls Tryz.prog 63 #[.slice A l.length c, .agg #[.int .i64 t.x, .int .i64 t.y, .int .i64 t.s], .func (.func 57) #[] #[]] w (BSPost t l w) := by
  have hl' : (l.length : Int) ≤ 4096 := by omega
  have HS := Lib.hid hs
  clear hs
  go_enter Tryz.func63, Tryz.ntmps63
  go_wp2_with fail
  go_loopw [9, 10, 11] (fun i j _ wr => ∃ p q : Nat, p ≤ q ∧ q ≤ l.length ∧ i = .int .i64 p ∧ j = .int .i64 q ∧ Hid (∀ k (hk : k < l.length), k < p → cmpB l[k] t < 0) ∧ Hid (∀ k (hk : k < l.length), q ≤ k → 0 ≤ cmpB l[k] t) ∧ wr.cell? ⟨w.heap.size, 0, none⟩ = some (.int .i64 t.x) ∧ wr.cell? ⟨w.heap.size, 1, none⟩ = some (.int .i64 t.y) ∧ wr.cell? ⟨w.heap.size, 2, none⟩ = some (.int .i64 t.s) ∧ w.heap.size < wr.heap.size ∧ Below w.heap.size w wr) (fun i j _ _ => (intOf j).toNat - (intOf i).toNat)
  case atStart =>
    obtain ⟨w1, hw1, e0, e1, e2, hb1, hz1⟩ := box3 w (.int .i64 t.x) (.int .i64 t.y) (.int .i64 t.s) 52
    rw [← hw1]
    exact ⟨0, l.length, Nat.zero_le _, Nat.le_refl _, rfl, rfl, fun k _ h => by omega, fun k hk h => by omega, e0, e1, e2, hz1, hb1⟩
  case round =>
    obtain ⟨p, q, hpq, hq, rfl, rfl, h1, h2, d0, d1, d2, hz, hb⟩ := hrel
    by_cases hlt : p < q
    · have h' := h.below hb
      obtain ⟨b, off, rfl, hB, hc⟩ := h' (by omega)
      have HC := Lib.hid hc
      clear hc h' h
      go_wp2_with fail
      obtain ⟨m, hm⟩ : ∃ m : Nat, ((p : Int) + (q : Int)) / 2 = m := ⟨(p + q) / 2, by omega⟩
      have hpm : p ≤ m := by omega
      have hmq : m < q := by omega
      rw [hm]
      clear hm
      have hml : m < l.length := by omega
      obtain ⟨c0, c1, c2⟩ := HC.out m hml
      have hw1 : IntKind.i64.wrap (m : Int) = (m : Int) := by rw [IntKind.wrap_i64]; omega
      have hm0 : 0 ≤ (m : Int) := by omega
      refine wp_region_still_tail 6 (by kernel_rfl) (by kernel_rfl) ?_
      simp only [List.take_succ_cons, List.take_zero, List.drop_succ_cons, List.drop_zero]
      repeat still_step
      refine wpStill_nil ?_
      change wpList _ _ _ _ _ wr.drew
      clear hw1 hm0
      go_wp2_with fail
      refine (netCompareBars_below _ _ _ _ _ _ _).mono ?_
      rintro e w2 ⟨rfl, hb2⟩
      have hbw : Below w.heap.size w w2 := (below_drew hb).trans (hb2.mono (by show w.heap.size ≤ wr.heap.size; omega))
      obtain ⟨f0, f1, f2, _, hz2⟩ := keep3 (W := w) ⟨d0, d1, d2, hb, hz⟩ (show Below wr.heap.size wr w2 from ⟨hb2.os, hb2.tape, hb2.output, hb2.size, hb2.block⟩)
      clear c0 c1 c2 d0 d1 d2
      by_cases hneg : cmpB l[m] t < 0
      · have hneg2 : decide (cmpB ⟨l[m].x, l[m].y, l[m].s⟩ ⟨t.x, t.y, t.s⟩ < 0) = true := by simpa using hneg
        have HN := Lib.hid hneg
        clear hneg
        go_wp2
        go_roundw
        case rel => exact ⟨m + 1, q, by omega, hq, by go_num, rfl, fun k hk hkm => cmpB_mono HS.out hk hml (by omega) HN.out, h2, f0, f1, f2, hz2, hbw⟩
        case measure => simp [intOf]; omega
      · have hneg2 : decide (cmpB ⟨l[m].x, l[m].y, l[m].s⟩ ⟨t.x, t.y, t.s⟩ < 0) = false := by simpa using hneg
        replace hneg : 0 ≤ cmpB l[m] t := by omega
        have HN := Lib.hid hneg
        clear hneg
        go_wp2
        go_roundw
        case rel => exact ⟨p, m, by omega, by omega, rfl, rfl, h1, fun k hk hkm => by
          rcases Int.lt_or_le (cmpB l[k] t) 0 with hc | hc
          · have := cmpB_mono HS.out hml hk hkm hc
            have := HN.out
            omega
          · exact hc, f0, f1, f2, hz2, hbw⟩
        case measure => simp [intOf]; omega
    · obtain rfl : p = q := by omega
      by_cases hp : p < l.length
      · have h' := h.below hb
        obtain ⟨b, off, rfl, hB, hc⟩ := h' (by omega)
        obtain ⟨c0, c1, c2⟩ := hc p hp
        have HF := Lib.hid (found_mem h1.out h2.out HS.out hp)
        clear hc h' h
        have hg1 : decide (p < l.length) = true := by simpa using hp
        have hw1 : IntKind.i64.wrap (p : Int) = (p : Int) := by rw [IntKind.wrap_i64]; omega
        have hm0 : 0 ≤ (p : Int) := by omega
        go_wp2_with fail
        go_region_held3 (fun w' => w'.cell? ⟨w.heap.size, 0, none⟩ = some (.int .i64 t.x) ∧ w'.cell? ⟨w.heap.size, 1, none⟩ = some (.int .i64 t.y) ∧ w'.cell? ⟨w.heap.size, 2, none⟩ = some (.int .i64 t.s) ∧
            w'.cell? ⟨b, off + p * 3, none⟩ = some (.int .i64 l[p].x) ∧ w'.cell? ⟨b, off + p * 3 + 1, none⟩ = some (.int .i64 l[p].y) ∧ w'.cell? ⟨b, off + p * 3 + 2, none⟩ = some (.int .i64 l[p].s) ∧ Below w.heap.size w w' ∧ b < w.heap.size ∧ w.heap.size < w'.heap.size)
          (first | exact ⟨d0, d1, d2, c0, c1, c2, below_drew hb, hB, hz⟩ | exact keep6 (by assumption) (by assumption) | assumption | go_keep)
          (first
            | (go_at_call 57; refine (netCompareBars_below _ _ _ _ _ _ _).mono ?_; rintro e w' ⟨rfl, hbq⟩))
        all_goals go_wp2
        all_goals go_ret2
        all_goals exact ⟨p, by rw [HF.out]; rfl, belowOf6 (by assumption)⟩
      · obtain rfl : p = l.length := by omega
        have HF := Lib.hid (end_mem h1.out)
        have hg1 : decide (l.length < l.length) = false := by simp
        go_wp2_with fail
        go_quiet (fail)
        go_wp2
        go_ret2
        exact ⟨l.length, by rw [HF.out]; rfl, below_drewN hb _⟩
end Go.Proofs.YthihjphcjjpjpaaGreat

/- Contracts of hasBar, meshBars, hasMesh. -/
namespace Go.Proofs.YthihjphcjjpjpaaGreat
open Go.RowKit

set_option maxHeartbeats 1000000 in
set_option maxRecDepth 100000 in
theorem netHasBar (A : Option Addr) (c : Nat) (l : List Ck.Bar) (x y s : Int) (w : World) (hl : l.length ≤ 4096) (hs : l.Pairwise Ck.Blt) (h : RB w w.heap.size A l) :
    Calls Tryz.prog 39 #[.slice A l.length c, .agg #[.int .i64 x, .int .i64 y, .int .i64 s]] w fun e w' => e = .returned (.bool (decide ((⟨x, y, s⟩ : Ck.Bar) ∈ l))) ∧ Below w.heap.size w w' := by
  have HS := Lib.hid hs
  clear hs
  have ex0 : ∀ (a b : Value) (w : World), (Instr.extract (.tuple #[a, b]) 0).run Tryz.prog w = .ok a w := fun _ _ _ => by kernel_rfl
  have ex1 : ∀ (a b : Value) (w : World), (Instr.extract (.tuple #[a, b]) 1).run Tryz.prog w = .ok b w := fun _ _ _ => by kernel_rfl
  go_enter Tryz.func39, Tryz.ntmps39
  go_wp2_with fail
  refine (binSearch A c l ⟨x, y, s⟩ _ hl HS.out ((h.below ((Below.refl _ _).alloc (Nat.le_refl _) _)).more (by simp))).mono ?_
  rintro e w1 ⟨i, rfl, hb1⟩
  generalize hr : decide ((⟨x, y, s⟩ : Ck.Bar) ∈ l) = r
  have HR := Lib.hid hr
  clear hr
  go_wp2
  go_ret
  exact ⟨by rw [HR.out]; rfl, ((Below.refl _ _).alloc (Nat.le_refl _) _).trans (hb1.mono (by simp))⟩

def meshBars4 (x y : Int) : List Ck.Bar := [⟨x, y - 1, -1⟩, ⟨x, y - 1, 1⟩, ⟨x - 1, y, 1⟩, ⟨x + 1, y, -1⟩]
set_option maxHeartbeats 1000000 in
set_option maxRecDepth 100000 in
theorem netMeshBars (x y : Int) (w : World) (hx1 : -100000 ≤ x) (hx2 : x ≤ 100000) (hy1 : -100001 ≤ y) (hy2 : y ≤ 100001) :
    Calls Tryz.prog 67 #[.agg #[.int .i64 x, .int .i64 y]] w fun e w' => e = .returned (.agg #[.int .i64 x, .int .i64 (y - 1), .int .i64 (-1), .int .i64 x, .int .i64 (y - 1), .int .i64 1, .int .i64 (x - 1), .int .i64 y, .int .i64 1, .int .i64 (x + 1), .int .i64 y, .int .i64 (-1)]) ∧ Below w.heap.size w w' := by
  go_enter Tryz.func67, Tryz.ntmps67
  go_wp2
  exact bodyPost_ret (v := .agg #[.int .i64 x, .int .i64 (y - 1), .int .i64 (-1), .int .i64 x, .int .i64 (y - 1), .int .i64 1, .int .i64 (x - 1), .int .i64 y, .int .i64 1, .int .i64 (x + 1), .int .i64 y, .int .i64 (-1)]) (by simp [results, Tryz.results67, go_sem]) rfl ⟨rfl, (((Below.refl _ _).alloc (Nat.le_refl _) _).alloc (by simp) _)⟩
end Go.Proofs.YthihjphcjjpjpaaGreat

/- The contract of hasMesh. -/
namespace Go.Proofs.YthihjphcjjpjpaaGreat
open Go.RowKit

theorem ix0 (a b c d e f g h i j k l : Value) (w : World) : (Instr.index 107 (.agg #[a, b, c, d, e, f, g, h, i, j, k, l]) (.int .i64 0)).run Tryz.prog w = .ok (.agg #[a, b, c]) w := by kernel_rfl
theorem ix1 (a b c d e f g h i j k l : Value) (w : World) : (Instr.index 107 (.agg #[a, b, c, d, e, f, g, h, i, j, k, l]) (.int .i64 1)).run Tryz.prog w = .ok (.agg #[d, e, f]) w := by kernel_rfl
theorem ix2 (a b c d e f g h i j k l : Value) (w : World) : (Instr.index 107 (.agg #[a, b, c, d, e, f, g, h, i, j, k, l]) (.int .i64 2)).run Tryz.prog w = .ok (.agg #[g, h, i]) w := by kernel_rfl
theorem ix3 (a b c d e f g h i j k l : Value) (w : World) : (Instr.index 107 (.agg #[a, b, c, d, e, f, g, h, i, j, k, l]) (.int .i64 3)).run Tryz.prog w = .ok (.agg #[j, k, l]) w := by kernel_rfl
def allIn (l : List Ck.Bar) (bs : List Ck.Bar) : Bool := bs.all fun b => decide (b ∈ l)
theorem allIn_no {l bs : List Ck.Bar} {b : Ck.Bar} (hb : b ∈ bs) (h : decide (b ∈ l) = false) : allIn l bs = false := by
  rw [allIn, List.all_eq_false]
  exact ⟨b, hb, by simpa using h⟩

set_option maxHeartbeats 2000000 in
set_option maxRecDepth 100000 in
theorem netHasMesh (A : Option Addr) (c : Nat) (l : List Ck.Bar) (x y : Int) (w : World) (hl : l.length ≤ 4096) (hs : l.Pairwise Ck.Blt) (h : RB w w.heap.size A l) (hx1 : -100000 ≤ x) (hx2 : x ≤ 100000) (hy1 : -100001 ≤ y) (hy2 : y ≤ 100001) :
    Calls Tryz.prog 51 #[.slice A l.length c, .agg #[.int .i64 x, .int .i64 y]] w fun e w' => e = .returned (.bool (allIn l (meshBars4 x y))) ∧ Below w.heap.size w w' := by
  have HS := Lib.hid hs
  have HR := Lib.hid h
  clear hs h
  go_enter Tryz.func51, Tryz.ntmps51
  go_wp2_with fail
  refine (netMeshBars x y _ hx1 hx2 hy1 hy2).mono ?_
  rintro e w1 ⟨rfl, hb1⟩
  have hbw : Below w.heap.size w w1 := ((Below.refl _ _).alloc (Nat.le_refl _) _).trans (hb1.mono (by simp))
  go_wp2_with fail
  go_loopw [6, 9] (fun _ i wi => ∃ j : Nat, j ≤ 4 ∧ i = .int .i64 j ∧ Hid (∀ b ∈ (meshBars4 x y).take j, b ∈ l) ∧ Below w.heap.size w wi) (fun _ i _ => 4 - (intOf i).toNat)
  case atStart => exact ⟨0, by omega, rfl, fun b hb => by simp at hb, hbw⟩
  case round =>
    obtain ⟨j, hj, rfl, hin, hb⟩ := hrel
    have hj' : j = 0 ∨ j = 1 ∨ j = 2 ∨ j = 3 ∨ j = 4 := by omega
    have hrb := HR.out.below hb
    have hrb2 := hrb.more hb.size
    have HB := Lib.hid hrb2
    clear hrb hrb2
    rcases hj' with rfl | rfl | rfl | rfl | rfl
    · have hidx := ix0 (.int .i64 (x)) (.int .i64 (y - 1)) (.int .i64 (-1)) (.int .i64 (x)) (.int .i64 (y - 1)) (.int .i64 (1)) (.int .i64 (x - 1)) (.int .i64 (y)) (.int .i64 (1)) (.int .i64 (x + 1)) (.int .i64 (y)) (.int .i64 (-1))
      cases ht : decide ((⟨x, y - 1, -1⟩ : Ck.Bar) ∈ l)
      · have HT := Lib.hid ht
        have HF := Lib.hid (allIn_no (l := l) (bs := meshBars4 x y) (b := (⟨x, y - 1, -1⟩ : Ck.Bar)) (by simp [meshBars4]) ht)
        clear ht
        go_wp2_with fail
        refine (netHasBar A c l _ _ _ _ hl HS.out ((HB.out.below ((Below.refl _ _).alloc (Nat.le_refl _) _)).more (by simp))).mono ?_
        rintro e w2 ⟨rfl, hb2⟩
        rw [HT.out]
        go_wp2
        go_ret
        exact ⟨ret_b HF.out.symm, (hb.alloc hb.size _).trans (hb2.mono (by have := hb.size; simp; omega))⟩
      · have HT := Lib.hid ht
        clear ht
        go_wp2_with fail
        refine (netHasBar A c l _ _ _ _ hl HS.out ((HB.out.below ((Below.refl _ _).alloc (Nat.le_refl _) _)).more (by simp))).mono ?_
        rintro e w2 ⟨rfl, hb2⟩
        rw [HT.out]
        go_wp2
        go_roundw
        case rel => exact ⟨1, by omega, by go_num, fun b hbm => by
          rw [show (meshBars4 x y).take 1 = (meshBars4 x y).take 0 ++ [(⟨x, y - 1, -1⟩ : Ck.Bar)] from rfl, List.mem_append] at hbm
          rcases hbm with hbm | hbm
          · exact hin.out b hbm
          · rw [List.mem_singleton] at hbm
            rw [hbm]
            exact of_decide_eq_true HT.out, (hb.alloc hb.size _).trans (hb2.mono (by have := hb.size; simp; omega))⟩
        case measure => simp [intOf]
    · have hidx := ix1 (.int .i64 (x)) (.int .i64 (y - 1)) (.int .i64 (-1)) (.int .i64 (x)) (.int .i64 (y - 1)) (.int .i64 (1)) (.int .i64 (x - 1)) (.int .i64 (y)) (.int .i64 (1)) (.int .i64 (x + 1)) (.int .i64 (y)) (.int .i64 (-1))
      cases ht : decide ((⟨x, y - 1, 1⟩ : Ck.Bar) ∈ l)
      · have HT := Lib.hid ht
        have HF := Lib.hid (allIn_no (l := l) (bs := meshBars4 x y) (b := (⟨x, y - 1, 1⟩ : Ck.Bar)) (by simp [meshBars4]) ht)
        clear ht
        go_wp2_with fail
        refine (netHasBar A c l _ _ _ _ hl HS.out ((HB.out.below ((Below.refl _ _).alloc (Nat.le_refl _) _)).more (by simp))).mono ?_
        rintro e w2 ⟨rfl, hb2⟩
        rw [HT.out]
        go_wp2
        go_ret
        exact ⟨ret_b HF.out.symm, (hb.alloc hb.size _).trans (hb2.mono (by have := hb.size; simp; omega))⟩
      · have HT := Lib.hid ht
        clear ht
        go_wp2_with fail
        refine (netHasBar A c l _ _ _ _ hl HS.out ((HB.out.below ((Below.refl _ _).alloc (Nat.le_refl _) _)).more (by simp))).mono ?_
        rintro e w2 ⟨rfl, hb2⟩
        rw [HT.out]
        go_wp2
        go_roundw
        case rel => exact ⟨2, by omega, by go_num, fun b hbm => by
          rw [show (meshBars4 x y).take 2 = (meshBars4 x y).take 1 ++ [(⟨x, y - 1, 1⟩ : Ck.Bar)] from rfl, List.mem_append] at hbm
          rcases hbm with hbm | hbm
          · exact hin.out b hbm
          · rw [List.mem_singleton] at hbm
            rw [hbm]
            exact of_decide_eq_true HT.out, (hb.alloc hb.size _).trans (hb2.mono (by have := hb.size; simp; omega))⟩
        case measure => simp [intOf]
    · have hidx := ix2 (.int .i64 (x)) (.int .i64 (y - 1)) (.int .i64 (-1)) (.int .i64 (x)) (.int .i64 (y - 1)) (.int .i64 (1)) (.int .i64 (x - 1)) (.int .i64 (y)) (.int .i64 (1)) (.int .i64 (x + 1)) (.int .i64 (y)) (.int .i64 (-1))
      cases ht : decide ((⟨x - 1, y, 1⟩ : Ck.Bar) ∈ l)
      · have HT := Lib.hid ht
        have HF := Lib.hid (allIn_no (l := l) (bs := meshBars4 x y) (b := (⟨x - 1, y, 1⟩ : Ck.Bar)) (by simp [meshBars4]) ht)
        clear ht
        go_wp2_with fail
        refine (netHasBar A c l _ _ _ _ hl HS.out ((HB.out.below ((Below.refl _ _).alloc (Nat.le_refl _) _)).more (by simp))).mono ?_
        rintro e w2 ⟨rfl, hb2⟩
        rw [HT.out]
        go_wp2
        go_ret
        exact ⟨ret_b HF.out.symm, (hb.alloc hb.size _).trans (hb2.mono (by have := hb.size; simp; omega))⟩
      · have HT := Lib.hid ht
        clear ht
        go_wp2_with fail
        refine (netHasBar A c l _ _ _ _ hl HS.out ((HB.out.below ((Below.refl _ _).alloc (Nat.le_refl _) _)).more (by simp))).mono ?_
        rintro e w2 ⟨rfl, hb2⟩
        rw [HT.out]
        go_wp2
        go_roundw
        case rel => exact ⟨3, by omega, by go_num, fun b hbm => by
          rw [show (meshBars4 x y).take 3 = (meshBars4 x y).take 2 ++ [(⟨x - 1, y, 1⟩ : Ck.Bar)] from rfl, List.mem_append] at hbm
          rcases hbm with hbm | hbm
          · exact hin.out b hbm
          · rw [List.mem_singleton] at hbm
            rw [hbm]
            exact of_decide_eq_true HT.out, (hb.alloc hb.size _).trans (hb2.mono (by have := hb.size; simp; omega))⟩
        case measure => simp [intOf]
    · have hidx := ix3 (.int .i64 (x)) (.int .i64 (y - 1)) (.int .i64 (-1)) (.int .i64 (x)) (.int .i64 (y - 1)) (.int .i64 (1)) (.int .i64 (x - 1)) (.int .i64 (y)) (.int .i64 (1)) (.int .i64 (x + 1)) (.int .i64 (y)) (.int .i64 (-1))
      cases ht : decide ((⟨x + 1, y, -1⟩ : Ck.Bar) ∈ l)
      · have HT := Lib.hid ht
        have HF := Lib.hid (allIn_no (l := l) (bs := meshBars4 x y) (b := (⟨x + 1, y, -1⟩ : Ck.Bar)) (by simp [meshBars4]) ht)
        clear ht
        go_wp2_with fail
        refine (netHasBar A c l _ _ _ _ hl HS.out ((HB.out.below ((Below.refl _ _).alloc (Nat.le_refl _) _)).more (by simp))).mono ?_
        rintro e w2 ⟨rfl, hb2⟩
        rw [HT.out]
        go_wp2
        go_ret
        exact ⟨ret_b HF.out.symm, (hb.alloc hb.size _).trans (hb2.mono (by have := hb.size; simp; omega))⟩
      · have HT := Lib.hid ht
        clear ht
        go_wp2_with fail
        refine (netHasBar A c l _ _ _ _ hl HS.out ((HB.out.below ((Below.refl _ _).alloc (Nat.le_refl _) _)).more (by simp))).mono ?_
        rintro e w2 ⟨rfl, hb2⟩
        rw [HT.out]
        go_wp2
        go_roundw
        case rel => exact ⟨4, by omega, by go_num, fun b hbm => by
          rw [show (meshBars4 x y).take 4 = (meshBars4 x y).take 3 ++ [(⟨x + 1, y, -1⟩ : Ck.Bar)] from rfl, List.mem_append] at hbm
          rcases hbm with hbm | hbm
          · exact hin.out b hbm
          · rw [List.mem_singleton] at hbm
            rw [hbm]
            exact of_decide_eq_true HT.out, (hb.alloc hb.size _).trans (hb2.mono (by have := hb.size; simp; omega))⟩
        case measure => simp [intOf]
    · have HF := Lib.hid (show allIn l (meshBars4 x y) = true by
        rw [allIn, List.all_eq_true]
        exact fun b hb => decide_eq_true (hin.out b hb))
      go_wp2
      go_ret
      exact ⟨ret_b HF.out.symm, hb⟩
end Go.Proofs.YthihjphcjjpjpaaGreat

/- The contract of meshesOf. -/
namespace Go.Proofs.YthihjphcjjpjpaaGreat
open Go.RowKit

theorem Tryz.info95 : (Tryz.prog.info? 95).map (fun i => (i.zero, i.size, i.bytes)) = some (some (.agg #[.int .i64 0, .int .i64 0]), 2, 16) := by kernel_rfl
def isM (l : List Ck.Bar) (b : Ck.Bar) : Bool := decide (b.s = -1) && allIn l (meshBars4 b.x (b.y + 1))
def meshL (l : List Ck.Bar) (r : List Ck.Bar) : List Ck.Bar := r.filter (isM l)
def meshCells (ms : List Ck.Bar) : List Value := ms.flatMap fun b => [.int .i64 b.x, .int .i64 (b.y + 1)]
theorem meshL_no {l : List Ck.Bar} {k : Nat} (hk : k < l.length) (h : isM l l[k] = false) : meshL l (l.take (k + 1)) = meshL l (l.take k) := by
  rw [List.take_succ_eq_append_getElem hk, meshL, List.filter_append, meshL]
  simp [h]
theorem meshL_yes {l : List Ck.Bar} {k : Nat} (hk : k < l.length) (h : isM l l[k] = true) : meshL l (l.take (k + 1)) = meshL l (l.take k) ++ [l[k]] := by
  rw [List.take_succ_eq_append_getElem hk, meshL, List.filter_append, meshL]
  simp [h]
theorem meshL_le (l : List Ck.Bar) (k : Nat) : (meshL l (l.take k)).length ≤ l.length := by
  have h1 := List.length_filter_le (isM l) (l.take k)
  have h2 := List.length_take_le' k l
  unfold meshL
  omega

theorem ownsRow_below {w w' : World} {base : Nat} {e : TypeId} {size n : Nat} {v : Value} {xs : List Value} (h : w.ownsRow base e size v n xs) (hb : Below w.heap.size w w') : w'.ownsRow base e size v n xs :=
  h.kept (row := none) ⟨hb.os, hb.tape, hb.output, hb.size, fun i hi _ => hb.block i hi⟩ (by cases v.ownBlock <;> simp)

theorem ownsRow_base {w : World} {base : Nat} {e : TypeId} {size n : Nat} {v : Value} {xs : List Value} (h : w.ownsRow base e size v n xs) : ∀ g, v.ownBlock = some g → base ≤ g := by
  intro g hg
  rcases h.2 with ⟨rfl, _⟩ | ⟨g', cap, cur, rfl, hb, _⟩
  · cases hg
  · cases hg; exact hb
theorem two_new (w : World) (a b : Value) (t : TypeId) : ∀ (j : Nat) (u : Value), [a, b][j]? = some u → (w.alloc (.cells #[a, b] t)).cell? ((⟨w.heap.size, 0, none⟩ : Addr).add j) = some u := by
  intro j u h
  match j, h with
  | 0, h => cases h; exact (box2 w a b t).choose_spec.1 ▸ (box2 w a b t).choose_spec.2.1
  | 1, h => cases h; exact (box2 w a b t).choose_spec.1 ▸ (box2 w a b t).choose_spec.2.2.1
theorem meshCells_snoc (ms : List Ck.Bar) (b : Ck.Bar) : meshCells (ms ++ [b]) = meshCells ms ++ [.int .i64 b.x, .int .i64 (b.y + 1)] := by simp [meshCells]

def MeshPost (l : List Ck.Bar) (w : World) (e : Ending) (w' : World) : Prop :=
  ∃ v, e = .returned v ∧ w'.ownsRow w.heap.size 95 2 v (meshL l l).length (meshCells (meshL l l)) ∧ Below w.heap.size w w'

set_option maxHeartbeats 2000000 in
set_option maxRecDepth 100000 in
theorem netMeshesOf (A : Option Addr) (c : Nat) (l : List Ck.Bar) (w : World) (hl : l.length ≤ 4096) (hs : l.Pairwise Ck.Blt) (hok : ∀ x ∈ l, Ck.okBar x) (h : RB w w.heap.size A l) :
    Calls Tryz.prog 24 #[.slice A l.length c] w (MeshPost l w) := by
  obtain ⟨i0, hi, hz0, hz1, hz2⟩ := info_parts Tryz.info95
  have hl' : (l.length : Int) ≤ 4096 := by omega
  have HS := Lib.hid hs
  have HR := Lib.hid h
  have HI := Lib.hid hi
  have HZ0 := Lib.hid hz0
  have HZ1 := Lib.hid hz1
  have HZ2 := Lib.hid hz2
  clear hs h hi hz0 hz1 hz2
  go_enter Tryz.func24, Tryz.ntmps24
  go_wp2_with fail
  go_loopw [3, 5, 6, 9] (fun v _ _ i wi => ∃ k : Nat, k ≤ l.length ∧ i = .int .i64 k ∧ Hid (wi.ownsRow w.heap.size 95 2 v (meshL l (l.take k)).length (meshCells (meshL l (l.take k)))) ∧ Below w.heap.size w wi) (fun _ _ _ i _ => l.length - (intOf i).toNat)
  case atStart => exact ⟨0, Nat.zero_le _, rfl, World.ownsRow_nil _ _ _ _, Below.refl _ _⟩
  case round =>
    obtain ⟨k, hk, rfl, hown, hb⟩ := hrel
    by_cases hlt : k < l.length
    · have hrb := HR.out.below hb
      have HB := Lib.hid (hrb.more hb.size)
      obtain ⟨b, off, rfl, hB, hc⟩ := hrb (by omega)
      obtain ⟨⟨⟨hx1, hx2⟩, ⟨hy1, hy2⟩, _⟩, _⟩ := hok _ (List.getElem_mem hlt)
      replace hx1 : -100000 ≤ l[k].x := hx1
      replace hx2 : l[k].x ≤ 100000 := hx2
      replace hy1 : -100000 ≤ l[k].y := hy1
      replace hy2 : l[k].y ≤ 100000 := hy2
      obtain ⟨c0, c1, c2⟩ := hc k hlt
      clear hc hrb
      by_cases hs1 : l[k].s = -1
      · have hsb : (l[k].s == -1) = true := by simpa using hs1
        cases hm : allIn l (meshBars4 l[k].x (l[k].y + 1))
        · have HM := Lib.hid hm
          have HL := Lib.hid (meshL_no hlt (by simp [isM, hm]))
          clear hm hs1
          go_wp2_with fail
          refine (netHasMesh (some ⟨b, off, none⟩) c l _ _ _ hl HS.out ?_ hx1 hx2 (by omega) (by omega)).mono ?_
          · exact (HB.out.below (((Below.refl _ _).alloc (Nat.le_refl _) _).alloc (by simp) _)).more (by simp; omega)
          rintro e w2 ⟨rfl, hb2⟩
          rw [HM.out]
          have hq : Below wr.heap.size wr w2 := (((Below.refl _ _).alloc (Nat.le_refl _) _).alloc (by simp) _).trans (hb2.mono (by simp; omega))
          go_wp2
          go_roundw
          case rel => exact ⟨k + 1, by omega, by go_num, by rw [HL.out]; exact ownsRow_below hown.out hq, hb.trans (hq.mono hb.size)⟩
          case measure => simp [intOf]; omega
        · have HM := Lib.hid hm
          have HL := Lib.hid (meshL_yes hlt (by simp [isM, hm, hs1]))
          have hle := meshL_le l k
          clear hm hs1
          go_wp2_with fail
          refine (netHasMesh (some ⟨b, off, none⟩) c l _ _ _ hl HS.out ?_ hx1 hx2 (by omega) (by omega)).mono ?_
          · exact (HB.out.below (((Below.refl _ _).alloc (Nat.le_refl _) _).alloc (by simp) _)).more (by simp; omega)
          rintro e w2 ⟨rfl, hb2⟩
          rw [HM.out]
          have hd0 : w2.cell? ⟨wr.heap.size + 1, 0, none⟩ = some (.int .i64 l[k].x) := by
            rw [hb2.cell (p := ⟨_, _, none⟩) (by simp), World.cell?_alloc_at _ _ _ _ (by simp)]; rfl
          have hd1 : w2.cell? ⟨wr.heap.size + 1, 1, none⟩ = some (.int .i64 (l[k].y + 1)) := by
            rw [hb2.cell (p := ⟨_, _, none⟩) (by simp), World.cell?_alloc_at _ _ _ _ (by simp)]; rfl
          have hq : Below wr.heap.size wr w2 := (((Below.refl _ _).alloc (Nat.le_refl _) _).alloc (by simp) _).trans (hb2.mono (by simp; omega))
          have hown2 := ownsRow_below hown.out hq
          have HO := Lib.hid hown2
          clear hown hown2
          have hbw := hb.trans (hq.mono hb.size)
          clear hb hq
          go_wp2_with (at_builtin; refine wpList_append_own _ rfl _ _ 64 rfl w.heap.size 95 i0 (.agg #[.int .i64 0, .int .i64 0]) 2 16 Tryz.underlying64 HI.out HZ0.out HZ1.out HZ2.out rfl (by decide) _ _ _ rfl (HO.out.alloc _) ⟨w2.heap.size, 0, none⟩ 1 1 [.int .i64 l[k].x, .int .i64 (l[k].y + 1)] rfl rfl ?c1 ?c2 ?c3 ?c4 ?c5 ?_)
          case c1 => exact two_new _ _ _ _
          case c2 => intro u hu; simp at hu; rcases hu with rfl | rfl <;> rfl
          case c3 => unfold maxLen; omega
          case c4 => omega
          case c5 => have := hbw.size; simp; omega
          intro v' w3 hown3 hgrow3 _
          have hbb := (hbw.alloc hbw.size (.cells #[.int .i64 l[k].x, .int .i64 (l[k].y + 1)] 95)).grown hgrow3 (by have := hbw.size; simp; omega) (ownsRow_base HO.out)
          have HO3 := Lib.hid hown3
          clear hown3 hgrow3
          go_wp2
          go_roundw
          case rel => exact ⟨k + 1, by omega, by go_num, by rw [HL.out, meshCells_snoc, List.length_append]; exact HO3.out, hbb⟩
          case measure => simp [intOf]; omega
      · have hsb : (l[k].s == -1) = false := by simpa using hs1
        have HL := Lib.hid (meshL_no hlt (by simp [isM, hs1]))
        clear hs1
        go_wp2
        go_roundw
        case rel => exact ⟨k + 1, by omega, by go_num, by rw [HL.out]; exact ownsRow_below hown.out (((Below.refl _ _).alloc (Nat.le_refl _) _).alloc (by simp) _), (hb.alloc hb.size _).alloc (by have := hb.size; simp; omega) _⟩
        case measure => simp [intOf]; omega
    · obtain rfl : k = l.length := by omega
      go_wp2
      go_ret
      have ho := hown.out
      rw [List.take_length] at ho
      exact ⟨_, rfl, ho, hb⟩
end Go.Proofs.YthihjphcjjpjpaaGreat

/- Contracts of barsAround and otherEnd. -/
namespace Go.Proofs.YthihjphcjjpjpaaGreat
open Go.RowKit

set_option maxHeartbeats 1000000 in
set_option maxRecDepth 100000 in
theorem netBarsAround (x y : Int) (w : World) (hx1 : -100001 ≤ x) (hx2 : x ≤ 100001) (hy1 : -100001 ≤ y) (hy2 : y ≤ 100001) :
    Calls Tryz.prog 68 #[.agg #[.int .i64 x, .int .i64 y]] w fun e w' => e = .returned (.agg #[.int .i64 (x - 1), .int .i64 (y - 1), .int .i64 1, .int .i64 (x + 1), .int .i64 (y - 1), .int .i64 (-1), .int .i64 x, .int .i64 y, .int .i64 (-1), .int .i64 x, .int .i64 y, .int .i64 1]) ∧ Below w.heap.size w w' := by
  go_enter Tryz.func68, Tryz.ntmps68
  go_wp2
  exact bodyPost_ret (v := .agg #[.int .i64 (x - 1), .int .i64 (y - 1), .int .i64 1, .int .i64 (x + 1), .int .i64 (y - 1), .int .i64 (-1), .int .i64 x, .int .i64 y, .int .i64 (-1), .int .i64 x, .int .i64 y, .int .i64 1]) (by simp [results, Tryz.results68, go_sem]) rfl ⟨rfl, (((Below.refl _ _).alloc (Nat.le_refl _) _).alloc (by simp) _)⟩

theorem box322 (w : World) (a b c d e f g : Value) (t t' t'' : TypeId) : ∃ w1, w1 = ((w.alloc (.cells #[a, b, c] t)).alloc (.cells #[d, e] t')).alloc (.cells #[f, g] t'') ∧ w1.cell? ⟨w.heap.size, 0, none⟩ = some a ∧ w1.cell? ⟨w.heap.size, 1, none⟩ = some b ∧ w1.cell? ⟨w.heap.size, 2, none⟩ = some c ∧
    w1.cell? ⟨w.heap.size + 1, 0, none⟩ = some d ∧ w1.cell? ⟨w.heap.size + 1, 1, none⟩ = some e ∧ w1.heap[w.heap.size + 2]? = some (.cells #[f, g] t'' (0, 0)) ∧ Below w.heap.size w w1 ∧ w.heap.size + 2 < w1.heap.size := by
  obtain ⟨w0, rfl, h0, h1, h2, hb0, hz⟩ := box3 w a b c t
  have hs : (w.alloc (.cells #[a, b, c] t)).heap.size = w.heap.size + 1 := by simp
  obtain ⟨w1, rfl, k0, k1, hb1, hz1⟩ := box2 (w.alloc (.cells #[a, b, c] t)) d e t'
  have hs1 : ((w.alloc (.cells #[a, b, c] t)).alloc (.cells #[d, e] t')).heap.size = w.heap.size + 2 := by simp
  rw [hs] at k0 k1
  have hb : Below (w.heap.size + 2) ((w.alloc (.cells #[a, b, c] t)).alloc (.cells #[d, e] t')) (((w.alloc (.cells #[a, b, c] t)).alloc (.cells #[d, e] t')).alloc (.cells #[f, g] t'')) := (Below.refl _ _).alloc (by simp) _
  refine ⟨_, rfl, ?_, ?_, ?_, (hb.cell (p := ⟨_, _, none⟩) (by simp)).trans k0, (hb.cell (p := ⟨_, _, none⟩) (by simp)).trans k1, by rw [← hs1]; exact heap_alloc_new _ _, (hb0.trans (hb1.mono (by omega))).trans (hb.mono (by omega)), by simp⟩
  · exact ((hb.cell (p := ⟨_, _, none⟩) (by show w.heap.size < _; omega)).trans (hb1.cell (p := ⟨_, _, none⟩) (by show w.heap.size < _; omega))).trans h0
  · exact ((hb.cell (p := ⟨_, _, none⟩) (by show w.heap.size < _; omega)).trans (hb1.cell (p := ⟨_, _, none⟩) (by show w.heap.size < _; omega))).trans h1
  · exact ((hb.cell (p := ⟨_, _, none⟩) (by show w.heap.size < _; omega)).trans (hb1.cell (p := ⟨_, _, none⟩) (by show w.heap.size < _; omega))).trans h2
end Go.Proofs.YthihjphcjjpjpaaGreat

/- The contract of otherEnd. -/
namespace Go.Proofs.YthihjphcjjpjpaaGreat
open Go.RowKit

theorem keep322 {W w1 w2 : World} {g : Nat} {a b c d e : Value} {o : Obj} (h : w1.cell? ⟨g, 0, none⟩ = some a ∧ w1.cell? ⟨g, 1, none⟩ = some b ∧ w1.cell? ⟨g, 2, none⟩ = some c ∧ w1.cell? ⟨g + 1, 0, none⟩ = some d ∧ w1.cell? ⟨g + 1, 1, none⟩ = some e ∧ w1.heap[g + 2]? = some o ∧ Below g W w1 ∧ g + 2 < w1.heap.size) (hb : Below w1.heap.size w1 w2) :
    w2.cell? ⟨g, 0, none⟩ = some a ∧ w2.cell? ⟨g, 1, none⟩ = some b ∧ w2.cell? ⟨g, 2, none⟩ = some c ∧ w2.cell? ⟨g + 1, 0, none⟩ = some d ∧ w2.cell? ⟨g + 1, 1, none⟩ = some e ∧ w2.heap[g + 2]? = some o ∧ Below g W w2 ∧ g + 2 < w2.heap.size := by
  obtain ⟨h0, h1, h2, h3, h4, h5, h6, h7⟩ := h
  exact ⟨(hb.cell (p := ⟨g, 0, none⟩) (by show g < _; omega)).trans h0, (hb.cell (p := ⟨g, 1, none⟩) (by show g < _; omega)).trans h1, (hb.cell (p := ⟨g, 2, none⟩) (by show g < _; omega)).trans h2,
    (hb.cell (p := ⟨g + 1, 0, none⟩) (by show g + 1 < _; omega)).trans h3, (hb.cell (p := ⟨g + 1, 1, none⟩) (by show g + 1 < _; omega)).trans h4, (hb.block _ h7).trans h5, h6.trans (hb.mono (by omega)), by have := hb.size; omega⟩
theorem two_of_block {w : World} {g : Nat} {a b : Value} {t : TypeId} (h : w.heap[g]? = some (.cells #[a, b] t (0, 0))) : w.cell? ⟨g, 0, none⟩ = some a ∧ w.cell? ⟨g, 1, none⟩ = some b ∧ ∀ i, w.frozen? ⟨g, i, none⟩ = false := by
  refine ⟨?_, ?_, fun i => ?_⟩ <;> simp [World.cell?, World.frozen?, h]
theorem eqKnot' (a b : Ck.Knot) (r : Bool) (hr : decide (a = b) = r) (w : World) : (Op.equalIn 10000 23 (.agg #[.int .i64 a.x, .int .i64 a.y]) (.agg #[.int .i64 b.x, .int .i64 b.y])).run Tryz.prog w = .ok r w := hr ▸ eqKnot a b w
theorem guardKnot : Tryz.prog.eqGuardType Tryz.prog.depth 23 = false := by kernel_rfl

set_option maxHeartbeats 2000000 in
set_option maxRecDepth 100000 in
theorem netOtherUp (x y s : Int) (w : World) (hx1 : -100000 ≤ x) (hx2 : x ≤ 100000) (hy1 : -100000 ≤ y) (hy2 : y ≤ 100000) (hs1 : -1 ≤ s) (hs2 : s ≤ 1) :
    Calls Tryz.prog 69 #[.agg #[.int .i64 x, .int .i64 y, .int .i64 s], .agg #[.int .i64 x, .int .i64 y]] w fun e w' => e = .returned (.agg #[.int .i64 (x + s), .int .i64 (y + 1)]) ∧ Below w.heap.size w w' := by
  obtain ⟨w0, hw0, c0, c1, c2, d0, d1, hr, hb0, hz0⟩ := box322 w (.int .i64 x) (.int .i64 y) (.int .i64 s) (.int .i64 x) (.int .i64 y) (.int .i64 0) (.int .i64 0) 52 23 23
  have HW := Lib.hid hw0
  have hq := eqKnot' ⟨x, y⟩ ⟨x, y⟩ true (by simp)
  have hgd := guardKnot
  clear hw0
  go_enter Tryz.func69, Tryz.ntmps69
  go_wp2_with fail
  rw [← HW.out]
  go_region_held3 (fun w' => w'.cell? ⟨w.heap.size, 0, none⟩ = some (.int .i64 x) ∧ w'.cell? ⟨w.heap.size, 1, none⟩ = some (.int .i64 y) ∧ w'.cell? ⟨w.heap.size, 2, none⟩ = some (.int .i64 s) ∧ w'.cell? ⟨w.heap.size + 1, 0, none⟩ = some (.int .i64 x) ∧ w'.cell? ⟨w.heap.size + 1, 1, none⟩ = some (.int .i64 y) ∧
      w'.heap[w.heap.size + 2]? = some (.cells #[.int .i64 0, .int .i64 0] 23 (0, 0)) ∧ Below w.heap.size w w' ∧ w.heap.size + 2 < w'.heap.size)
    (first | exact ⟨c0, c1, c2, d0, d1, hr, below_drew hb0, hz0⟩ | exact keep322 (by assumption) (by assumption) | assumption | go_keep)
    (first
      | (go_at_call 52; refine (netLower _ _ _ _).mono ?_; rintro e w' ⟨rfl, hbq⟩))
  all_goals
    rename_i hS
    clear c0 c1 c2 d0 d1 hr
    have hS2 := Lib.hid hS
    obtain ⟨c0, c1, c2, d0, d1, hr, hb1, hz1⟩ := hS
    clear hr
    go_wp2_with fail
    refine (netUpper _ _ _ _ hx1 hx2 hy1 hy2 hs1 hs2).mono ?_
    rintro e w2 ⟨rfl, hb2⟩
    obtain ⟨_, _, _, _, _, hr2, hb3, _⟩ := keep322 hS2.out hb2
    obtain ⟨t0, t1, tf⟩ := two_of_block hr2
    clear hr2 c0 c1 c2 d0 d1
    go_wp2
    exact bodyPost_ret (v := .agg #[.int .i64 (x + s), .int .i64 (y + 1)]) (by simp [results, Tryz.results69, go_sem, t0, t1]) rfl ⟨rfl, (hb3.setCell (by simp; omega) _).setCell (by simp; omega) _⟩
set_option maxHeartbeats 2000000 in
set_option maxRecDepth 100000 in
theorem netOtherDown (x y s kx ky : Int) (w : World) (hne : ¬ (x = kx ∧ y = ky)) :
    Calls Tryz.prog 69 #[.agg #[.int .i64 x, .int .i64 y, .int .i64 s], .agg #[.int .i64 kx, .int .i64 ky]] w fun e w' => e = .returned (.agg #[.int .i64 x, .int .i64 y]) ∧ Below w.heap.size w w' := by
  obtain ⟨w0, hw0, c0, c1, c2, d0, d1, hr, hb0, hz0⟩ := box322 w (.int .i64 x) (.int .i64 y) (.int .i64 s) (.int .i64 kx) (.int .i64 ky) (.int .i64 0) (.int .i64 0) 52 23 23
  have HW := Lib.hid hw0
  have hq := eqKnot' ⟨x, y⟩ ⟨kx, ky⟩ false (by simpa using hne)
  have hgd := guardKnot
  clear hne
  clear hw0
  go_enter Tryz.func69, Tryz.ntmps69
  go_wp2_with fail
  rw [← HW.out]
  go_region_held3 (fun w' => w'.cell? ⟨w.heap.size, 0, none⟩ = some (.int .i64 x) ∧ w'.cell? ⟨w.heap.size, 1, none⟩ = some (.int .i64 y) ∧ w'.cell? ⟨w.heap.size, 2, none⟩ = some (.int .i64 s) ∧ w'.cell? ⟨w.heap.size + 1, 0, none⟩ = some (.int .i64 kx) ∧ w'.cell? ⟨w.heap.size + 1, 1, none⟩ = some (.int .i64 ky) ∧
      w'.heap[w.heap.size + 2]? = some (.cells #[.int .i64 0, .int .i64 0] 23 (0, 0)) ∧ Below w.heap.size w w' ∧ w.heap.size + 2 < w'.heap.size)
    (first | exact ⟨c0, c1, c2, d0, d1, hr, below_drew hb0, hz0⟩ | exact keep322 (by assumption) (by assumption) | assumption | go_keep)
    (first
      | (go_at_call 52; refine (netLower _ _ _ _).mono ?_; rintro e w' ⟨rfl, hbq⟩))
  all_goals
    rename_i hS
    clear c0 c1 c2 d0 d1 hr
    have hS2 := Lib.hid hS
    obtain ⟨c0, c1, c2, d0, d1, hr, hb1, hz1⟩ := hS
    clear hr
    go_wp2_with fail
    refine (netLower _ _ _ _).mono ?_
    rintro e w2 ⟨rfl, hb2⟩
    obtain ⟨_, _, _, _, _, hr2, hb3, _⟩ := keep322 hS2.out hb2
    obtain ⟨t0, t1, tf⟩ := two_of_block hr2
    clear hr2 c0 c1 c2 d0 d1
    go_wp2
    exact bodyPost_ret (v := .agg #[.int .i64 x, .int .i64 y]) (by simp [results, Tryz.results69, go_sem, t0, t1]) rfl ⟨rfl, (hb3.setCell (by simp; omega) _).setCell (by simp; omega) _⟩
end Go.Proofs.YthihjphcjjpjpaaGreat

/- What is kept where a map's block and a row of the call's own are written; the map's operations as laws of the walk. -/
namespace Go.Proofs.YthihjphcjjpjpaaGreat
open Go.RowKit

theorem gb_of_below {w w' : World} {r : Option Nat} (h : Below w.heap.size w w') : w.grownBy w' r := ⟨h.os, h.tape, h.output, h.size, fun i hi _ => h.block i hi⟩
theorem gb_below {w w1 w2 : World} {r : Option Nat} (h : w.grownBy w1 r) (hb : Below w1.heap.size w1 w2) : w.grownBy w2 r :=
  ⟨hb.os.trans h.os, hb.tape.trans h.tape, hb.output.trans h.output, Nat.le_trans h.size hb.size, fun i hi hr => (hb.block i (Nat.lt_of_lt_of_le hi h.size)).trans (h.block i hi hr)⟩
theorem gb_row {w w1 w2 : World} {r s : Option Nat} (h : w.grownBy w1 r) (hg : w1.grownBy w2 s) (hs : ∀ g, s = some g → w.heap.size ≤ g) : w.grownBy w2 r :=
  ⟨hg.os.trans h.os, hg.tape.trans h.tape, hg.output.trans h.output, Nat.le_trans h.size hg.size, fun i hi hr => (hg.block i (Nat.lt_of_lt_of_le hi h.size) (fun e => by have := hs i e.symm; omega)).trans (h.block i hi hr)⟩
theorem RB.grown {w w' : World} {B b : Nat} {A : Option Addr} {l : List Ck.Bar} {m : List (Ck.Knot × Int)} (h : RB w B A l) (hm : MIs w b m) (hB : B ≤ w.heap.size) (hg : w.grownBy w' (some b)) : RB w' B A l := fun hl => by
  obtain ⟨b', off, rfl, hb, hc⟩ := h hl
  have hne : b' ≠ b := by
    rintro rfl
    obtain ⟨es, clock, h1, _⟩ := hm
    have := (hc 0 hl).1
    simp [World.cell?, h1] at this
  have hk : ∀ o, w'.cell? ⟨b', o, none⟩ = w.cell? ⟨b', o, none⟩ := fun o => World.cell?_of_block (hg.block b' (by omega) (fun e => hne (by injection e)))
  exact ⟨b', off, rfl, hb, fun i hi => ⟨(hk _).trans (hc i hi).1, (hk _).trans (hc i hi).2.1, (hk _).trans (hc i hi).2.2⟩⟩

theorem wpList_mapUpdate_kn (w : World) {ops : Array Oper} {rest : List Oper} {o : Oper} {a : Act} {Q : Exit → Act → World → Prop}
    (hg : o.guard = none) (m x v : Operand) (hop : o.op = Op.mapUpdate 62 m x v) (b : Nat) (M : List (Ck.Knot × Int)) (hM : MIs w b M) (k : Ck.Knot) (val : Int)
    (hm : a.eval m = .map (some b)) (hx : a.eval x = .agg #[.int .i64 k.x, .int .i64 k.y]) (hv : a.eval v = .int .i64 val)
    (hK : ∀ w', MIs w' b (mput M k val) → w.grownBy w' (some b) → wpList Tryz.prog ops Q rest (a.put o.dst undef) w') : wpList Tryz.prog ops Q (o :: rest) a w := by
  refine wpList_plain hg fun K' hK' => ?_
  obtain ⟨w', hrun, r1, r2⟩ := hM.update k val
  have hrun' : (Instr.mapUpdate 62 (.map (some b)) (.agg #[.int .i64 k.x, .int .i64 k.y]) (.int .i64 val)).run Tryz.prog w = .ok () w' := hrun
  unfold Oper.wp
  simp [execOp, hop, hm, hx, hv, hrun', Result.andThen]
  exact hK' _ _ (hK w' r1 r2)
theorem wpList_lookup_kn (w : World) {ops : Array Oper} {rest : List Oper} {o : Oper} {a : Act} {Q : Exit → Act → World → Prop}
    (hg : o.guard = none) (m x : Operand) (hop : o.op = Op.lookup 62 m x false) (b : Nat) (M : List (Ck.Knot × Int)) (hM : MIs w b M) (k : Ck.Knot)
    (hm : a.eval m = .map (some b)) (hx : a.eval x = .agg #[.int .i64 k.x, .int .i64 k.y])
    (hK : wpList Tryz.prog ops Q rest (a.put o.dst (.int .i64 (mget M k))) w) : wpList Tryz.prog ops Q (o :: rest) a w := by
  refine wpList_plain hg fun K' hK' => ?_
  have hrun' : (Instr.lookup 62 (.map (some b)) (.agg #[.int .i64 k.x, .int .i64 k.y]) false).run Tryz.prog w = .ok (.int .i64 (mget M k)) w := hM.lookup k
  unfold Oper.wp
  simp [execOp, hop, hm, hx, hrun', Result.andThen]
  exact hK' _ _ hK
def kcellsL (S : List Ck.Knot) : List Value := S.flatMap fun k => [.int .i64 k.x, .int .i64 k.y]
theorem kcellsL_snoc (S : List Ck.Knot) (k : Ck.Knot) : kcellsL (S ++ [k]) = kcellsL S ++ [.int .i64 k.x, .int .i64 k.y] := by simp [kcellsL]
theorem kcellsL_length (S : List Ck.Knot) : (kcellsL S).length = S.length * 2 := by
  induction S with
  | nil => rfl
  | cons a r ih => simp [kcellsL] at ih ⊢; omega
theorem add0 (g i : Nat) : (⟨g, 0, none⟩ : Addr).add i = ⟨g, i, none⟩ := by
  unfold Addr.add
  split
  · rename_i h; rw [h]
  · simp
/-- The top of a stack of knots. -/
theorem top_cells {w : World} {base g cap : Nat} {S : List Ck.Knot} {k : Ck.Knot} (h : w.ownsRow base 23 2 (.slice (some ⟨g, 0, none⟩) (S.length + 1) cap) (S.length + 1) (kcellsL (S ++ [k]))) :
    w.cell? ⟨g, S.length * 2, none⟩ = some (.int .i64 k.x) ∧ w.cell? ⟨g, S.length * 2 + 1, none⟩ = some (.int .i64 k.y) := by
  have hc := h.cells (g := g) rfl
  rw [kcellsL_snoc] at hc
  have hl := kcellsL_length S
  have h0 := hc (S.length * 2) (.int .i64 k.x) (by rw [List.getElem?_append_right (by omega), hl, Nat.sub_self]; rfl)
  have h1 := hc (S.length * 2 + 1) (.int .i64 k.y) (by rw [List.getElem?_append_right (by omega), hl, Nat.add_sub_cancel_left]; rfl)
  rw [add0] at h0 h1
  exact ⟨h0, h1⟩
theorem own_cap {w : World} {base g cap n : Nat} {e : TypeId} {size : Nat} {xs : List Value} (h : w.ownsRow base e size (.slice (some ⟨g, 0, none⟩) n cap) n xs) : n ≤ cap ∧ cap ≤ maxLen := by
  rcases h.2 with ⟨h0, _⟩ | ⟨g', cap', cur, hv, _, _, h1, h2, _⟩
  · cases h0
  · cases hv; exact ⟨h1, h2⟩
theorem own_form {w : World} {base n : Nat} {e : TypeId} {size : Nat} {v : Value} {xs : List Value} (h : w.ownsRow base e size v n xs) (hn : 0 < n) : ∃ g cap, v = .slice (some ⟨g, 0, none⟩) n cap ∧ base ≤ g ∧ n ≤ cap ∧ cap ≤ maxLen ∧ g < w.heap.size := by
  rcases h.2 with ⟨_, h0⟩ | ⟨g, cap, cur, hv, hb, hh, h1, h2, _⟩
  · omega
  · exact ⟨g, cap, hv, hb, h1, h2, (Array.getElem?_eq_some_iff.1 hh).1⟩
end Go.Proofs.YthihjphcjjpjpaaGreat
