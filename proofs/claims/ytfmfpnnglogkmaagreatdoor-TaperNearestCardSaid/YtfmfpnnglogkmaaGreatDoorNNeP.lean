/- TaperNearest returns true for every ratio, every number of letters and every two parts; the library's tables that its row lists are tied to the program's text. Conditions: none beside that. -/
import Derived.Test.YtfmfpnnglogkmaaGreatDoorN7
/- Two parts as an argument, opened. -/
namespace Go.Proofs.YtfmfpnnglogkmaaGreatDoor
open Go.ChangeShapes Go.WideShapes Go.ChangeAt Go.WideMaps Go.WideElems Go.RowKit

set_option maxRecDepth 100000 in
theorem open_parts {w : World} {r : Reach} {b0 : Nat} {v : Value} (h : Value.okWide Tryz.prog w r b0 26 v) : ∃ a m b n, v = .agg #[.int .i64 a, .int .i64 m, .int .i64 b, .int .i64 n] := by
  have hS : Tryz.prog.underlying 26 = some (.array 2 25) := by kernel_rfl
  have hC : Tryz.prog.cellsOf 26 = 4 := by kernel_rfl
  simp only [Value.okWide, hS] at h
  obtain ⟨cs, rfl, hsz, hr⟩ := h
  rw [hC] at hsz
  obtain ⟨ts, hts, -, hrow⟩ := hr
  have ht : Tryz.prog.cellTypes Tryz.prog.depth 26 = some [3, 3, 3, 3] := by kernel_rfl
  rw [ht] at hts
  cases hts
  obtain ⟨l⟩ := cs
  match l, hsz with
  | [c0, c1, c2, c3], _ =>
    obtain ⟨u0, hu0, h0⟩ := hrow 0 c0 rfl
    obtain ⟨u1, hu1, h1⟩ := hrow 1 c1 rfl
    obtain ⟨u2, hu2, h2⟩ := hrow 2 c2 rfl
    obtain ⟨u3, hu3, h3⟩ := hrow 3 c3 rfl
    simp at hu0 hu1 hu2 hu3
    subst hu0 hu1 hu2 hu3
    obtain ⟨a, rfl, -⟩ := cell_intT Tryz.underlying3 h0
    obtain ⟨m, rfl, -⟩ := cell_intT Tryz.underlying3 h1
    obtain ⟨b, rfl, -⟩ := cell_intT Tryz.underlying3 h2
    obtain ⟨n, rfl, -⟩ := cell_intT Tryz.underlying3 h3
    exact ⟨a, m, b, n, rfl⟩
end Go.Proofs.YtfmfpnnglogkmaaGreatDoor

namespace Go.Proofs.YtfmfpnnglogkmaaGreatDoor
open Go.ChangeShapes Go.WideShapes Go.ChangeAt Go.WideMaps Go.WideElems Go.RowKit

set_option maxRecDepth 100000 in
theorem nearest_lifted (os : Os) (started : os.Started) (H : Type) (enc : TypeId × Value → H) :
    ReturnsInHanded {} Tryz.checked os 3 .any (fun w args => (Rows.taperNearestSpec.pre enc Tryz.prog Tryz.f3 [] false w args ∧ laidMetH Tryz.prog taLaid w) ∧ sizedMet enc Tryz.prog Tryz.f3 (OpenSpec.ofChange Rows.taperNearestSpec) false w args)
      (Rows.taperNearestSpec.post enc Tryz.prog Tryz.f3 false true false false) := by
  refine returnsInHanded_of_change_and (C := Tryz.checked) (X := fun w _ => laidMetH Tryz.prog taLaid w) (fun _ _ _ hh h => h.of_heap hh) Tryz.ownT started (by kernel_rfl) Tryz.func3
    (ChangeSpec.witness_shaped (enc := enc) (C := Tryz.checked) (os := os) (X := fun w _ => laidMetH Tryz.prog taLaid w) false (World.doorLaid Tryz.prog 400 os) #[.agg #[.int .i64 0, .int .i64 0], .int .i64 0, .agg #[.int .i64 0, .int .i64 0, .int .i64 0, .int .i64 0]] 8 rfl (World.shaped_of_RefB (by kernel_rfl) (by kernel_rfl)) (by kernel_rfl) (by kernel_rfl) (by kernel_rfl) (door_met os _)) ?_
  intro W base args ds gs before hval0 hW _ _ hL _
  have hval : ∀ (j : Nat) t v, Tryz.f3.params[j]? = some t → args[j]? = some v → Value.okWide Tryz.prog W .any base t v := hval0
  have hW' := hW
  obtain ⟨p, q, hA0, hV, rfl, hfz, hnd⟩ := hW
  have hA : DataW.TrodAll enc Tryz.prog W 0 (fun _ => true) true Tryz.f3.params.toList args.toList ds p := hA0
  rw [Tryz.params3] at hA hval
  obtain ⟨v0, v1, v2, d0, d1, d2, p0, p1, p2, rfl, rfl, rfl, h0, h1, h2⟩ := trodAll_three hA
  obtain ⟨rfl, rfl⟩ := trodVars_none hV
  clear hA0 hval0
  simp only [List.append_nil] at hW'
  have hlt : ∀ x ∈ p0 ++ p1 ++ p2, x.block < W.heap.size := fun x hx => by simpa using hW'.lt x hx
  obtain ⟨z00, z01, rfl⟩ := open_ratio (hval 0 23 v0 rfl rfl)
  obtain ⟨z10, rfl, b10, b11⟩ := open_intv (hval 1 3 v1 rfl rfl)
  obtain ⟨z20, z21, z22, z23, rfl⟩ := open_parts (hval 2 26 v2 rfl rfl)
  have harg0 : ∀ (W' : World), Below W.heap.size W W' → DataW.Trod enc Tryz.prog W' 0 (fun b => decide (b < W.heap.size)) true 23 (.agg #[.int .i64 z00, .int .i64 z01]) d0 p0 :=
    fun W' hn => Below.trod Tryz.laidOutT (by kernel_rfl) (of_decide_eq_true (by kernel_rfl)) h0 hn (fun x hx => hlt x (List.mem_append_left _ (List.mem_append_left _ hx)))
  have harg1 : ∀ (W' : World), Below W.heap.size W W' → DataW.Trod enc Tryz.prog W' 0 (fun b => decide (b < W.heap.size)) true 3 (.int .i64 z10) d1 p1 :=
    fun W' hn => Below.trod Tryz.laidOutT (by kernel_rfl) (of_decide_eq_true (by kernel_rfl)) h1 hn (fun x hx => hlt x (List.mem_append_left _ (List.mem_append_right _ hx)))
  have harg2 : ∀ (W' : World), Below W.heap.size W W' → DataW.Trod enc Tryz.prog W' 0 (fun b => decide (b < W.heap.size)) true 26 (.agg #[.int .i64 z20, .int .i64 z21, .int .i64 z22, .int .i64 z23]) d2 p2 :=
    fun W' hn => Below.trod Tryz.laidOutT (by kernel_rfl) (of_decide_eq_true (by kernel_rfl)) h2 hn (fun x hx => hlt x (List.mem_append_right _ hx))
  refine (lawNearestO z00 z01 z10 z20 z21 z22 z23 W b10 b11).mono fun e W' ⟨he, hb⟩ => ?_
  subst he
  refine ⟨_, rfl, _, _, _, [], p0 ++ p1 ++ p2, [], hW', ?_, by rw [List.append_assoc]; exact trodAll_mk3 (harg0 W' hb) (harg1 W' hb) (harg2 W' hb), rfl, hb.frame _, fun h => by cases h⟩
  exact trodAll_mk1 (shut_bool Tryz.underlying4 true)
theorem nearest_holds : Rows.TaperNearestSaid :=
  OpenClaim.holds_of_wide 3 Tryz.f3 rfl rfl rfl rfl rfl rfl rfl ⟨rfl, rfl, rfl, rfl, rfl⟩ rfl rfl rfl rfl rfl (by kernel_rfl) Tryz.func3 (by kernel_rfl)
    (of_decide_eq_true (by kernel_rfl)) (by unfold Func.isWrapper; first | (rw [if_pos (by decide +kernel)]; kernel_rfl) | (rw [if_neg (by decide +kernel)]; exact ⟨rfl, rfl⟩))
    (fun os started H enc _ => nearest_lifted os started H enc)
theorem nearest_card : Rows.TaperNearestCardSaid :=
  Claim7.holds_tied_plain_at .later [] [.data, .data, .data] true (true, "3823d907170410e42e340bbfdfca02892b9123d616746790992431e86ef115c4") false
    nearest_holds (fun _ h => by cases h) (by kernel_rfl) (fun _ h => by cases h) taperNearest_row_tie rfl ⟨rfl, rfl⟩ (by kernel_rfl) rfl
    (fun f fn hf hfn => by
      obtain rfl : f = 3 := Option.some.inj ((show Tryz.prog.funcNamed "codend/codendlaw02.TaperNearest" = some 3 by kernel_rfl).symm.trans hf) |>.symm
      obtain rfl : fn = Tryz.f3 := (Option.some.inj (Tryz.func3.symm.trans hfn)).symm
      exact ⟨by kernel_rfl, fun j t ht => by
        rw [Tryz.params3] at ht
        have hm : t ∈ [23, 3, 26] := by simpa using Array.mem_of_getElem? ht
        have hall : ([23, 3, 26].all fun u => !Tryz.prog.wantsStandIn u) = true := by kernel_rfl
        exact (show Tryz.prog.wantsStandIn t = false by simpa using List.all_eq_true.1 hall t hm)⟩)
    (by kernel_rfl)
#print axioms nearest_card
end Go.Proofs.YtfmfpnnglogkmaaGreatDoor
