/- HangSums: sums of turned lists and of parts of them are what they should be, for all tables, lines and numbers that the statement asks about. -/
import Derived.Test.YtlkeejhaodedmaaGreatDoorHxHnC
import Derived.Deep.Slices
import Derived.Deep.Fields
/- Two small numbers as an argument. -/
namespace Go.Proofs.YtlkeejhaodedmaaGreatDoor
open Go.ChangeShapes Go.WideShapes Go.ChangeAt Go.WideMaps Go.WideElems Go.RowKit

set_option maxRecDepth 100000 in
theorem row_twoB {w : World} {r : Reach} {b0 : Nat} {t u : TypeId} {k : IntKind} {cs : Array Value} (ht : Tryz.prog.cellTypes Tryz.prog.depth t = some [u, u]) (hu : Tryz.prog.underlying u = some (.int k)) (hs : cs.size = 2) (h : Row.okWide Tryz.prog w r b0 t cs) : ∃ a b, cs = #[.int k a, .int k b] ∧ k.has a ∧ k.has b := by
  obtain ⟨ts, hts, -, hrow⟩ := h
  rw [ht] at hts
  cases hts
  obtain ⟨l⟩ := cs
  match l, hs with
  | [c0, c1], _ =>
    obtain ⟨u0, hu0, h0⟩ := hrow 0 c0 rfl
    obtain ⟨u1, hu1, h1⟩ := hrow 1 c1 rfl
    simp at hu0 hu1
    subst hu0 hu1
    obtain ⟨a, rfl, ha⟩ := cell_intT hu h0
    obtain ⟨b, rfl, hb⟩ := cell_intT hu h1
    exact ⟨a, b, rfl, ha, hb⟩
set_option maxRecDepth 100000 in
theorem open_u8x2 {w : World} {r : Reach} {b0 : Nat} {v : Value} (h : Value.okWide Tryz.prog w r b0 117 v) : ∃ x y, v = .agg #[.int .u8 x, .int .u8 y] ∧ 0 ≤ x ∧ x < 256 ∧ 0 ≤ y ∧ y < 256 := by
  have hS : Tryz.prog.underlying 117 = some (.array 2 5) := by kernel_rfl
  have hC : Tryz.prog.cellsOf 117 = 2 := by kernel_rfl
  simp only [Value.okWide, hS] at h
  obtain ⟨cs, rfl, hsz, hr⟩ := h
  rw [hC] at hsz
  obtain ⟨a, b, rfl, ha, hb⟩ := row_twoB (u := 5) (k := .u8) (by kernel_rfl) (by kernel_rfl) hsz hr
  simp only [IntKind.has, IntKind.min, IntKind.max, IntKind.signed, IntKind.bits] at ha hb
  refine ⟨a, b, rfl, ?_, ?_, ?_, ?_⟩ <;> simp at ha hb <;> omega
end Go.Proofs.YtlkeejhaodedmaaGreatDoor

/- Lists of the small structs of chapter 6 as arguments. -/
namespace Go.Proofs.YtlkeejhaodedmaaGreatDoor
open Go.ChangeShapes Go.WideShapes Go.ChangeAt Go.WideMaps Go.WideElems Go.RowKit Go.Deep

section
variable {H : Type} {enc : TypeId × Value → H} {w : World} {spare : Nat → Bool} {held : Bool}
set_option maxRecDepth 100000 in
/-- The argument is nil, or a slice that reads as a list. -/
theorem open_rows {α : Type} {cd : α → List Value} {k : Nat} (dflt : α) (hk0 : 0 < k) (hlen : ∀ a, (cd a).length = k) {S T : TypeId} (hS : Tryz.prog.underlying S = some (.slice T)) (hC : Tryz.prog.cellsOf T = k)
    (hcell : ∀ (n : Nat) (cs : List Value) (x : DataW H × List MemPlace), DataW.trod enc Tryz.prog w 0 spare held n T cs = some x → ∃ a, cs = cd a)
    {v : Value} {d : DataW H} {p : List MemPlace} {r : Reach} {b0 : Nat} (hv : Value.okWide Tryz.prog w r b0 S v) (h : DataW.Trod enc Tryz.prog w 0 spare held S v d p) :
    ∃ (A : Option Addr) (c : Nat) (l : List α), v = .slice A l.length c ∧ OKV cd k w A c l := by
  obtain ⟨a, len, cap, rfl⟩ := okWide_slice hS hv
  obtain ⟨fuel, hf⟩ := h
  rcases open_slice hS hf with ⟨hcs, _⟩ | ⟨a', len', cap', m, n, D, Pl, hcs, hb, hl, hm, hmm, hx, hi⟩
  · simp [Value.cells] at hcs
    obtain ⟨rfl, rfl, rfl⟩ := hcs
    exact ⟨none, 0, [], rfl, Nat.le_refl _, by unfold maxLen; omega, fun _ => rfl, RV.nil _ _ _⟩
  · simp [Value.cells] at hcs
    obtain ⟨rfl, rfl, rfl⟩ := hcs
    rw [hC] at hi hx
    have hle : len ≤ m := by rw [hmm]; split <;> omega
    have each : ∀ i, ∃ b : α, i < len → ∀ j, j < k → w.cell? ((a'.add (i * k)).add j) = (cd b)[j]? := fun i => by
      by_cases hi' : i < len
      · obtain ⟨cs', h1, h2⟩ := hi i (by omega)
        obtain ⟨b, rfl⟩ := hcell _ _ _ h2
        obtain ⟨_, _, h3⟩ := World.cells?_some h1
        exact ⟨b, fun _ => h3⟩
      · exact ⟨dflt, fun h => absurd h hi'⟩
    obtain ⟨f, hf'⟩ := Classical.axiomOfChoice each
    have hlenL : ((List.range len).map f).length = len := by simp
    refine ⟨some a', cap, (List.range len).map f, by rw [hlenL], by rw [hlenL]; exact hl, hm, (fun h => by cases h), fun hpos => ?_⟩
    rw [hlenL] at hpos
    obtain ⟨blk, off, spot⟩ := a'
    have h0 := hf' 0 hpos 0 hk0
    obtain ⟨u0, hu0⟩ : ∃ u, (cd (f 0))[0]? = some u := ⟨_, List.getElem?_eq_getElem (by rw [hlen]; exact hk0)⟩
    rw [hu0] at h0
    have hspot : spot = none := by
      cases spot with
      | none => rfl
      | some s =>
        simp [Addr.add, World.cell?] at h0
        split at h0 <;> simp at h0
    subst hspot
    have hadd : ∀ o j, (⟨blk, o, none⟩ : Addr).add j = ⟨blk, o + j, none⟩ := fun o j => by
      unfold Addr.add
      split
      · simp
      · rfl
    have hblk : blk < w.heap.size := by
      rw [hadd, hadd] at h0
      unfold World.cell? at h0
      cases hh : w.heap[blk]? with
      | none => simp [hh] at h0
      | some o => exact (Array.getElem?_eq_some_iff.1 hh).1
    refine ⟨blk, off, rfl, hblk, fun i hi' j u hu => ?_⟩
    rw [hlenL] at hi'
    have hg : ((List.range len).map f)[i]'(by simpa using hi') = f i := by simp
    rw [hg] at hu
    have hj : j < k := by rw [← hlen (f i)]; exact (List.getElem?_eq_some_iff.1 hu).1
    have h3 := hf' i hi' j hj
    rw [hadd, hadd, hu] at h3
    exact h3
set_option maxRecDepth 100000 in
theorem rat_cells {n : Nat} {cs : List Value} {x : DataW H × List MemPlace} (h : DataW.trod enc Tryz.prog w 0 spare held n 23 cs = some x) : ∃ a b, cs = [.int .i64 a, .int .i64 b] := by
  have hS : Tryz.prog.underlying 23 = some (.struct (Tryz.prog.fieldsOf 23)) := by kernel_rfl
  obtain ⟨xs, m, _, _, hl, hx, hf⟩ := DataW.trod_struct Tryz.underlying23 h
  have hC : Tryz.prog.cellsOf 23 = 2 := by kernel_rfl
  have c3 : Tryz.prog.cellsOf 3 = 1 := by kernel_rfl
  rw [hC] at hl
  match cs, hl, xs, hx with
  | [c0, c1], _, [x0, x1], _ =>
    have h0 := hf 0 _ rfl
    have h1 := hf 1 _ rfl
    simp [c3] at h0 h1
    obtain ⟨n0, e0, _⟩ := DataW.trod_int Tryz.underlying3 h0
    obtain ⟨n1, e1, _⟩ := DataW.trod_int Tryz.underlying3 h1
    simp only [List.cons.injEq, and_true] at e0 e1
    exact ⟨n0, n1, by rw [e0, e1]⟩
set_option maxRecDepth 100000 in
theorem sec_cells (n : Nat) (cs : List Value) (x : DataW H × List MemPlace) (h : DataW.trod enc Tryz.prog w 0 spare held n 112 cs = some x) : ∃ a : Sec, cs = a.c := by
  obtain ⟨xs, m, _, _, hl, hx, hf⟩ := DataW.trod_struct Tryz.underlying112 h
  have hC : Tryz.prog.cellsOf 112 = 3 := by kernel_rfl
  have c3 : Tryz.prog.cellsOf 3 = 1 := by kernel_rfl
  have c4 : Tryz.prog.cellsOf 23 = 2 := by kernel_rfl
  rw [hC] at hl
  match cs, hl, xs, hx with
  | [c0, c1, c2], _, [x0, x1], _ =>
    have h0 := hf 0 _ rfl
    have h1 := hf 1 _ rfl
    simp [c3, c4] at h0 h1
    obtain ⟨n0, e0, _⟩ := DataW.trod_int Tryz.underlying3 h0
    obtain ⟨n1, n2, e1⟩ := rat_cells h1
    simp only [List.cons.injEq, and_true] at e0 e1
    exact ⟨⟨n0, n1, n2⟩, by rw [e0, e1.1, e1.2]; rfl⟩
set_option maxRecDepth 100000 in
theorem twn_cells (n : Nat) (cs : List Value) (x : DataW H × List MemPlace) (h : DataW.trod enc Tryz.prog w 0 spare held n 121 cs = some x) : ∃ a : Twn, cs = a.c := by
  obtain ⟨xs, m, _, _, hl, hx, hf⟩ := DataW.trod_struct Tryz.underlying121 h
  have hC : Tryz.prog.cellsOf 121 = 3 := by kernel_rfl
  have c3 : Tryz.prog.cellsOf 3 = 1 := by kernel_rfl
  have c4 : Tryz.prog.cellsOf 9 = 1 := by kernel_rfl
  rw [hC] at hl
  match cs, hl, xs, hx with
  | [c0, c1, c2], _, [x0, x1, x2], _ =>
    have h0 := hf 0 _ rfl
    have h1 := hf 1 _ rfl
    have h2 := hf 2 _ rfl
    simp [c3, c4] at h0 h1 h2
    obtain ⟨n0, e0, _⟩ := DataW.trod_string Tryz.underlying9 h0
    obtain ⟨n1, e1, _⟩ := DataW.trod_int Tryz.underlying3 h1
    obtain ⟨n2, e2, _⟩ := DataW.trod_int Tryz.underlying3 h2
    simp only [List.cons.injEq, and_true] at e0 e1 e2
    exact ⟨⟨n0, n1, n2⟩, by rw [e0, e1, e2]; rfl⟩
set_option maxRecDepth 100000 in
theorem lin_cells (n : Nat) (cs : List Value) (x : DataW H × List MemPlace) (h : DataW.trod enc Tryz.prog w 0 spare held n 119 cs = some x) : ∃ a : Lin, cs = a.c := by
  obtain ⟨xs, m, _, _, hl, hx, hf⟩ := DataW.trod_struct Tryz.underlying119 h
  have hC : Tryz.prog.cellsOf 119 = 4 := by kernel_rfl
  have c3 : Tryz.prog.cellsOf 3 = 1 := by kernel_rfl
  have c4 : Tryz.prog.cellsOf 9 = 1 := by kernel_rfl
  rw [hC] at hl
  match cs, hl, xs, hx with
  | [c0, c1, c2, c3'], _, [x0, x1, x2, x3], _ =>
    have h0 := hf 0 _ rfl
    have h1 := hf 1 _ rfl
    have h2 := hf 2 _ rfl
    have h3 := hf 3 _ rfl
    simp [c3, c4] at h0 h1 h2 h3
    obtain ⟨n0, e0, _⟩ := DataW.trod_int Tryz.underlying3 h0
    obtain ⟨n1, e1, _⟩ := DataW.trod_int Tryz.underlying3 h1
    obtain ⟨n2, e2, _⟩ := DataW.trod_int Tryz.underlying3 h2
    obtain ⟨n3, e3, _⟩ := DataW.trod_string Tryz.underlying9 h3
    simp only [List.cons.injEq, and_true] at e0 e1 e2 e3
    exact ⟨⟨n0, n1, n2, n3⟩, by rw [e0, e1, e2, e3]; rfl⟩
end
set_option maxRecDepth 100000 in
theorem open_secs {H : Type} {enc : TypeId × Value → H} {w : World} {spare : Nat → Bool} {held : Bool} {v : Value} {d : DataW H} {p : List MemPlace} {r : Reach} {b0 : Nat} (hv : Value.okWide Tryz.prog w r b0 60 v) (h : DataW.Trod enc Tryz.prog w 0 spare held 60 v d p) :
    ∃ (A : Option Addr) (c : Nat) (l : List Sec), v = .slice A l.length c ∧ OKV Sec.c 3 w A c l :=
  open_rows ⟨0, 0, 0⟩ (by decide) Sec.c3 Tryz.underlying60 (by kernel_rfl) sec_cells hv h
set_option maxRecDepth 100000 in
theorem open_twns {H : Type} {enc : TypeId × Value → H} {w : World} {spare : Nat → Bool} {held : Bool} {v : Value} {d : DataW H} {p : List MemPlace} {r : Reach} {b0 : Nat} (hv : Value.okWide Tryz.prog w r b0 78 v) (h : DataW.Trod enc Tryz.prog w 0 spare held 78 v d p) :
    ∃ (A : Option Addr) (c : Nat) (l : List Twn), v = .slice A l.length c ∧ OKV Twn.c 3 w A c l :=
  open_rows ⟨⟨#[]⟩, 0, 0⟩ (by decide) Twn.c3 Tryz.underlying78 (by kernel_rfl) twn_cells hv h
set_option maxRecDepth 100000 in
theorem open_lins {H : Type} {enc : TypeId × Value → H} {w : World} {spare : Nat → Bool} {held : Bool} {v : Value} {d : DataW H} {p : List MemPlace} {r : Reach} {b0 : Nat} (hv : Value.okWide Tryz.prog w r b0 94 v) (h : DataW.Trod enc Tryz.prog w 0 spare held 94 v d p) :
    ∃ (A : Option Addr) (c : Nat) (l : List Lin), v = .slice A l.length c ∧ OKV Lin.c 4 w A c l :=
  open_rows ⟨0, 0, 0, ⟨#[]⟩⟩ (by decide) Lin.c4 Tryz.underlying94 (by kernel_rfl) lin_cells hv h
end Go.Proofs.YtlkeejhaodedmaaGreatDoor

namespace Go.Proofs.YtlkeejhaodedmaaGreatDoor
open Go.ChangeShapes Go.WideShapes Go.ChangeAt Go.WideMaps Go.WideElems Go.RowKit

set_option maxRecDepth 100000 in
theorem sums_lifted (os : Os) (started : os.Started) (H : Type) (enc : TypeId × Value → H) :
    ReturnsInHanded {} Tryz.checked os 13 .any (fun w args => (Rows.hangSumsSpec.pre enc Tryz.prog Tryz.f13 [] false w args ∧ laidMetH Tryz.prog haLaid w) ∧ sizedMet enc Tryz.prog Tryz.f13 (OpenSpec.ofChange Rows.hangSumsSpec) false w args)
      (Rows.hangSumsSpec.post enc Tryz.prog Tryz.f13 false true false false) := by
  refine returnsInHanded_of_change_and (C := Tryz.checked) (X := fun w _ => laidMetH Tryz.prog haLaid w) (fun _ _ _ hh h => h.of_heap hh) Tryz.ownT started (by kernel_rfl) Tryz.func13
    (ChangeSpec.witness_shaped (enc := enc) (C := Tryz.checked) (os := os) (X := fun w _ => laidMetH Tryz.prog haLaid w) false (World.laidAll Tryz.prog os haLaid) #[.slice none 0 0, .slice none 0 0, .agg #[.int .u8 0, .int .u8 0]] 8 (World.laidAll_os _ _ _) (World.shaped_of_ZipB (by kernel_rfl) (by kernel_rfl)) (by kernel_rfl) (by kernel_rfl) (by kernel_rfl) (door_met os _)) ?_
  intro W base args ds gs before hval0 hW _ _ hL _
  have hval : ∀ (j : Nat) t v, Tryz.f13.params[j]? = some t → args[j]? = some v → Value.okWide Tryz.prog W .any base t v := hval0
  have hW' := hW
  obtain ⟨p, q, hA0, hV, rfl, hfz, hnd⟩ := hW
  have hA : DataW.TrodAll enc Tryz.prog W 0 (fun _ => true) true Tryz.f13.params.toList args.toList ds p := hA0
  rw [Tryz.params13] at hA hval
  obtain ⟨v0, v1, v2, d0, d1, d2, p0, p1, p2, rfl, rfl, rfl, h0, h1, h2⟩ := trodAll_three hA
  obtain ⟨rfl, rfl⟩ := trodVars_none hV
  clear hA0 hval0
  simp only [List.append_nil] at hW'
  have hlt : ∀ x ∈ p0 ++ p1 ++ p2, x.block < W.heap.size := fun x hx => by simpa using hW'.lt x hx
  obtain ⟨A0, c0, l0, rfl, ok0⟩ := open_twns (hval 0 78 v0 rfl rfl) h0
  obtain ⟨A1, c1, l1, rfl, ok1⟩ := open_lins (hval 1 94 v1 rfl rfl) h1
  obtain ⟨z20, z21, rfl, y20, y21, y22, y23⟩ := open_u8x2 (hval 2 117 v2 rfl rfl)
  have harg0 : ∀ (W' : World), Below W.heap.size W W' → DataW.Trod enc Tryz.prog W' 0 (fun b => decide (b < W.heap.size)) true 78 (.slice A0 l0.length c0) d0 p0 :=
    fun W' hn => Below.trod Tryz.laidOutT (by kernel_rfl) (of_decide_eq_true (by kernel_rfl)) h0 hn (fun x hx => hlt x (List.mem_append_left _ (List.mem_append_left _ hx)))
  have harg1 : ∀ (W' : World), Below W.heap.size W W' → DataW.Trod enc Tryz.prog W' 0 (fun b => decide (b < W.heap.size)) true 94 (.slice A1 l1.length c1) d1 p1 :=
    fun W' hn => Below.trod Tryz.laidOutT (by kernel_rfl) (of_decide_eq_true (by kernel_rfl)) h1 hn (fun x hx => hlt x (List.mem_append_left _ (List.mem_append_right _ hx)))
  have harg2 : ∀ (W' : World), Below W.heap.size W W' → DataW.Trod enc Tryz.prog W' 0 (fun b => decide (b < W.heap.size)) true 117 (.agg #[.int .u8 z20, .int .u8 z21]) d2 p2 :=
    fun W' hn => Below.trod Tryz.laidOutT (by kernel_rfl) (of_decide_eq_true (by kernel_rfl)) h2 hn (fun x hx => hlt x (List.mem_append_right _ hx))
  refine (lawHangSumsZ A0 c0 l0 A1 c1 l1 z20 z21 W (tab_met hL) ok0 ok1 y20 y21 y22 y23).mono fun e W' ⟨he, hb⟩ => ?_
  subst he
  refine ⟨_, rfl, _, _, _, [], p0 ++ p1 ++ p2, [], hW', ?_, by rw [List.append_assoc]; exact trodAll_mk3 (harg0 W' hb) (harg1 W' hb) (harg2 W' hb), rfl, hb.frame _, fun h => by cases h⟩
  exact trodAll_mk1 (shut_bool Tryz.underlying4 true)
set_option maxHeartbeats 8000000 in
theorem sums_joined : joinedFacts Tryz.prog 13 Tryz.f13 Rows.hangSumsSpec Rows.hangSumsRow = true := by
  unfold joinedFacts
  simp only [Bool.and_eq_true]
  and_intros
  all_goals (as_aux_lemma => kernel_rfl)
theorem sums_holds : Rows.HangSumsSaid :=
  OpenClaim.holds_of_wide 13 Tryz.f13 rfl rfl rfl rfl rfl rfl rfl ⟨rfl, rfl, rfl, rfl, rfl⟩ rfl rfl rfl rfl rfl (by kernel_rfl) Tryz.func13 sums_joined
    (of_decide_eq_true (by kernel_rfl)) (by unfold Func.isWrapper; first | (rw [if_pos (by decide +kernel)]; kernel_rfl) | (rw [if_neg (by decide +kernel)]; exact ⟨rfl, rfl⟩))
    (fun os started H enc _ => sums_lifted os started H enc)
theorem sums_card : Rows.HangSumsCardSaid :=
  Claim7.holds_tied_plain_at .later [] [.data] true (true, "bb9c8a1f3b87a99a73053614bf73ec5a74d01f458fba8a9eee33de806b476934") false
    sums_holds (fun _ h => by cases h) (by kernel_rfl) (fun _ h => by cases h) hangSums_row_tie rfl ⟨rfl, rfl⟩ (by kernel_rfl) rfl
    (fun f fn hf hfn => by
      obtain rfl : f = 13 := Option.some.inj ((show Tryz.prog.funcNamed "codend/codendlaw06.HangSums" = some 13 by kernel_rfl).symm.trans hf) |>.symm
      obtain rfl : fn = Tryz.f13 := (Option.some.inj (Tryz.func13.symm.trans hfn)).symm
      exact ⟨by kernel_rfl, fun j t ht => by
        rw [Tryz.params13] at ht
        have hm : t ∈ [78, 94, 117] := by simpa using Array.mem_of_getElem? ht
        have hall : ([78, 94, 117].all fun u => !Tryz.prog.wantsStandIn u) = true := by kernel_rfl
        exact (show Tryz.prog.wantsStandIn t = false by simpa using List.all_eq_true.1 hall t hm)⟩)
    (by kernel_rfl)
#print axioms sums_card
end Go.Proofs.YtlkeejhaodedmaaGreatDoor
