/- TaperReturns returns true for every knot, every edge and every number; the library's tables that its row lists are tied to the program's text. Conditions: none beside that. -/
import Derived.Test.YtfmfpnnglogkmaaGreatDoorNxWkY
/- TaperReturns at all arguments. -/
namespace Go.Proofs.YtfmfpnnglogkmaaGreatDoor
open Go.RowKit Go.Shelf Ck

theorem wkWordE {s : ByteArray} (h : Word s) : wordE s.data.toList = 0 := by
  have hz := Lib.size_eq s
  have h1 := h.2.1
  have h2 := h.2.2
  have h0 : ¬ s.data.toList = [] := fun e => by rw [e, List.length_nil] at hz; omega
  rw [wordE, if_neg h0, if_neg (show ¬ 64 < s.data.toList.length by omega), if_pos]
  rw [List.all_eq_true]
  exact fun c hc => (okC_iff c).2 (h.1 c hc)
theorem wr_calls {x y t : Int} {s : ByteArray} {c : Nat} (hs : Word s) (h10 : s.size ≤ 10) (c1 : 1 ≤ c) (c6 : c ≤ 6) (hk : okKnot ⟨x, y⟩) (x1 : -1000 ≤ x) (x2 : x ≤ 1000) (y2 : y ≤ 1000) (t1 : 0 ≤ t) (t2 : t < 256) :
    ∃ R, WrC x y s R c t (c * (vecL s.data.toList).1) (c * (vecL s.data.toList).2) (vecL s.data.toList).1 (vecL s.data.toList).2 (walkK 1 ⟨x, y⟩ (Lib.repeatL s.data.toList c)) (walkK (-1) ⟨x, y⟩ (Lib.repeatL s.data.toList c)) (walkK (-1) ⟨x + c * (vecL s.data.toList).1, y + c * (vecL s.data.toList).2⟩ (Lib.repeatL s.data.toList c)) (walkK 1 ⟨x, y⟩ (Lib.repeatL R.data.toList c)) (barsP 1 ⟨x, y⟩ (Lib.repeatL s.data.toList c)) (midsP 1 ⟨x, y⟩ (Lib.repeatL s.data.toList c)) ∧ R.size = s.size ∧ vecL R.data.toList = vecL s.data.toList := by
  have hz := Lib.size_eq s
  have hs1 := hs.2.1
  have hm : c * s.size ≤ 6 * 10 := Nat.mul_le_mul c6 h10
  obtain ⟨N, rfl⟩ : ∃ N : Nat, t = (N : Int) := ⟨t.toNat, by omega⟩
  have hr : N % s.size ≤ s.size := Nat.le_of_lt (Nat.mod_lt _ (by omega))
  have hW : wordE s.data.toList = 0 := wkWordE hs
  have hR0 : rotE s (N : Int) = 0 := by
    rw [rotE, hW, rngE, if_neg (by omega)]
    rfl
  have hRw := rotWord hs hr
  have hRs : (⟨(rotA s.data.toList (N % s.size)).toArray⟩ : ByteArray).size = s.size := by
    have h := strL_size (rotA s.data.toList (N % s.size))
    have hl : (rotA s.data.toList (N % s.size)).length = s.data.toList.length := by
      simp only [rotA, List.length_append, List.length_drop, List.length_take]
      omega
    rw [hl, ← hz] at h
    exact h
  have hRv : vecL (⟨(rotA s.data.toList (N % s.size)).toArray⟩ : ByteArray).data.toList = vecL s.data.toList := vec_rot _ _
  obtain ⟨v1, v2, v3, v4⟩ := vecL_near s.data.toList
  have cb : ∀ u : Int, 0 ≤ u → u ≤ 20 → 0 ≤ (c : Int) * u ∧ (c : Int) * u ≤ 120 := fun u h1 h2 => ⟨Int.mul_nonneg (by omega) h1, Int.le_trans (Int.mul_le_mul (show (c : Int) ≤ 6 by omega) h2 h1 (by omega)) (by decide)⟩
  obtain ⟨a1, a2⟩ := cb _ v1 (by omega)
  obtain ⟨a3, a4⟩ := cb _ v3 (by omega)
  have hE : ∀ o, EdgeG x y s c o := fun o => edgeG_of o hs c1 (by omega) hk (by omega) (by omega) (by omega)
  have hER : EdgeG x y ⟨(rotA s.data.toList (N % s.size)).toArray⟩ c true := edgeG_of true hRw c1 (by rw [hRs]; omega) hk (by omega) (by omega) (by omega)
  have hkl : okKnot ⟨x + c * (vecL s.data.toList).1, y + c * (vecL s.data.toList).2⟩ := by
    obtain ⟨-, -, -, -, hq⟩ := hE true
    have hL : 0 < (Lib.repeatL s.data.toList c).length := by rw [rep_len]; exact Nat.mul_pos c1 hs1
    have hmem : posK 1 ⟨x, y⟩ (Lib.repeatL s.data.toList c) ∈ walkK (sg true) ⟨x, y⟩ (Lib.repeatL s.data.toList c) := by
      have := walkK_get (σ := 1) (k := ⟨x, y⟩) (L := Lib.repeatL s.data.toList c) (Nat.le_refl _)
      rw [List.take_length] at this
      exact List.mem_of_getElem? this
    rw [posK_vec, vec_repeat] at hmem
    simp only [Int.one_mul] at hmem
    rcases walkK_mem.1 hmem with h | ⟨p, hp, h⟩
    · rw [h]; exact hk
    · rw [h]; exact hq p hp
  have hE3 : EdgeG (x + c * (vecL s.data.toList).1) (y + c * (vecL s.data.toList).2) s c false := edgeG_of false hs c1 (by omega) hkl (by omega) (by omega) (by omega)
  refine ⟨⟨(rotA s.data.toList (N % s.size)).toArray⟩, ⟨fun w => walkSG x y s c true _ w rfl (hE true), fun w => walkSG x y s c false _ w rfl (hE false), fun w => walkSG _ _ s c false _ w rfl hE3, fun w => walkSG x y _ c true _ w rfl hER, fun w => barsSG x y s c true _ w rfl (hE true), fun w => meshesSG x y s c true _ w rfl (hE true), fun w => tpVectorOk s w hs, fun w => ?_⟩, hRs, hRv⟩
  have h := tpRotate s (N : Int) w
  rwa [hR0, rotS, if_pos hR0, Int.toNat_natCast] at h
theorem lawReturnsO (x y : Int) (s : ByteArray) (z : Int) (o : Bool) (t : Int) (w : World) (t1 : 0 ≤ t) (t2 : t < 256) :
    Calls Tryz.prog 6 #[.agg #[.int .i64 x, .int .i64 y], .agg #[.string s, .int .i64 z, .bool o], .int .u8 t] w fun e w' => e = .returned (.bool true) ∧ Below w.heap.size w w' := by
  by_cases g1 : (10 : Int) < (s.size : Int)
  · exact lawReturnsN x y z t s o w (.long g1)
  by_cases g2 : z < 1
  · exact lawReturnsN x y z t s o w (.few g1 g2)
  by_cases g3 : 6 < z
  · exact lawReturnsN x y z t s o w (.many g1 g2 g3)
  by_cases g4 : wlkE x y s z o = 0
  · by_cases g5 : x < -1000
    · exact lawReturnsN x y z t s o w (.left g1 g2 g3 g4 g5)
    by_cases g6 : 1000 < x
    · exact lawReturnsN x y z t s o w (.right g1 g2 g3 g4 g5 g6)
    by_cases g7 : 1000 < y
    · exact lawReturnsN x y z t s o w (.high g1 g2 g3 g4 g5 g6 g7)
    obtain ⟨c, rfl, hs, c1, hlen, hk, -⟩ := wlkE_zero g4
    obtain ⟨R, hC, hRs, hRv⟩ := wr_calls (t := t) hs (by omega) c1 (by omega) hk (by omega) (by omega) (by omega) t1 t2
    have hL := wr_lists (R := R) hs (by omega) c1 (by omega) hk (by omega) (by omega) (by omega) hRs hRv
    exact lawReturnsY x y _ t _ _ _ _ s R c _ _ _ _ _ _ _ _ o w hC hL rfl (by omega) (by omega) (by omega) (by omega) (by omega) hk.2.1.1 (by omega) g4 t1 t2
  · exact lawReturnsN x y z t s o w (.bad g1 g2 g3 _ rfl (by rw [bne_iff_ne]; exact g4))
end Go.Proofs.YtfmfpnnglogkmaaGreatDoor

namespace Go.Proofs.YtfmfpnnglogkmaaGreatDoor
open Go.ChangeShapes Go.WideShapes Go.ChangeAt Go.WideMaps Go.WideElems Go.RowKit

set_option maxRecDepth 100000 in
theorem returns_lifted (os : Os) (started : os.Started) (H : Type) (enc : TypeId × Value → H) :
    ReturnsInHanded {} Tryz.checked os 6 .any (fun w args => (Rows.taperReturnsSpec.pre enc Tryz.prog Tryz.f6 [] false w args ∧ laidMetH Tryz.prog taLaid w) ∧ sizedMet enc Tryz.prog Tryz.f6 (OpenSpec.ofChange Rows.taperReturnsSpec) false w args)
      (Rows.taperReturnsSpec.post enc Tryz.prog Tryz.f6 false true false false) := by
  refine returnsInHanded_of_change_and (C := Tryz.checked) (X := fun w _ => laidMetH Tryz.prog taLaid w) (fun _ _ _ hh h => h.of_heap hh) Tryz.ownT started (by kernel_rfl) Tryz.func6
    (ChangeSpec.witness_shaped (enc := enc) (C := Tryz.checked) (os := os) (X := fun w _ => laidMetH Tryz.prog taLaid w) false (World.doorLaid Tryz.prog 400 os) #[.agg #[.int .i64 0, .int .i64 0], .agg #[.string ByteArray.empty, .int .i64 0, .bool false], .int .u8 0] 8 rfl (World.shaped_of_RefB (by kernel_rfl) (by kernel_rfl)) (by kernel_rfl) (by kernel_rfl) (by kernel_rfl) (door_met os _)) ?_
  intro W base args ds gs before hval0 hW _ _ hL _
  have hval : ∀ (j : Nat) t v, Tryz.f6.params[j]? = some t → args[j]? = some v → Value.okWide Tryz.prog W .any base t v := hval0
  have hW' := hW
  obtain ⟨p, q, hA0, hV, rfl, hfz, hnd⟩ := hW
  have hA : DataW.TrodAll enc Tryz.prog W 0 (fun _ => true) true Tryz.f6.params.toList args.toList ds p := hA0
  rw [Tryz.params6] at hA hval
  obtain ⟨v0, v1, v2, d0, d1, d2, p0, p1, p2, rfl, rfl, rfl, h0, h1, h2⟩ := trodAll_three hA
  obtain ⟨rfl, rfl⟩ := trodVars_none hV
  clear hA0 hval0
  simp only [List.append_nil] at hW'
  have hlt : ∀ x ∈ p0 ++ p1 ++ p2, x.block < W.heap.size := fun x hx => by simpa using hW'.lt x hx
  obtain ⟨z00, z01, rfl⟩ := open_knot (hval 0 43 v0 rfl rfl)
  obtain ⟨z10, z11, z12, rfl⟩ := open_edge (hval 1 45 v1 rfl rfl)
  obtain ⟨z20, rfl, b20, b21⟩ := open_bytev (hval 2 5 v2 rfl rfl)
  have harg0 : ∀ (W' : World), Below W.heap.size W W' → DataW.Trod enc Tryz.prog W' 0 (fun b => decide (b < W.heap.size)) true 43 (.agg #[.int .i64 z00, .int .i64 z01]) d0 p0 :=
    fun W' hn => Below.trod Tryz.laidOutT (by kernel_rfl) (of_decide_eq_true (by kernel_rfl)) h0 hn (fun x hx => hlt x (List.mem_append_left _ (List.mem_append_left _ hx)))
  have harg1 : ∀ (W' : World), Below W.heap.size W W' → DataW.Trod enc Tryz.prog W' 0 (fun b => decide (b < W.heap.size)) true 45 (.agg #[.string z10, .int .i64 z11, .bool z12]) d1 p1 :=
    fun W' hn => Below.trod Tryz.laidOutT (by kernel_rfl) (of_decide_eq_true (by kernel_rfl)) h1 hn (fun x hx => hlt x (List.mem_append_left _ (List.mem_append_right _ hx)))
  have harg2 : ∀ (W' : World), Below W.heap.size W W' → DataW.Trod enc Tryz.prog W' 0 (fun b => decide (b < W.heap.size)) true 5 (.int .u8 z20) d2 p2 :=
    fun W' hn => Below.trod Tryz.laidOutT (by kernel_rfl) (of_decide_eq_true (by kernel_rfl)) h2 hn (fun x hx => hlt x (List.mem_append_right _ hx))
  refine (lawReturnsO z00 z01 z10 z11 z12 z20 W b20 b21).mono fun e W' ⟨he, hb⟩ => ?_
  subst he
  refine ⟨_, rfl, _, _, _, [], p0 ++ p1 ++ p2, [], hW', ?_, by rw [List.append_assoc]; exact trodAll_mk3 (harg0 W' hb) (harg1 W' hb) (harg2 W' hb), rfl, hb.frame _, fun h => by cases h⟩
  exact trodAll_mk1 (shut_bool Tryz.underlying4 true)
theorem returns_holds : Rows.TaperReturnsSaid :=
  OpenClaim.holds_of_wide 6 Tryz.f6 rfl rfl rfl rfl rfl rfl rfl ⟨rfl, rfl, rfl, rfl, rfl⟩ rfl rfl rfl rfl rfl (by kernel_rfl) Tryz.func6 (by kernel_rfl)
    (of_decide_eq_true (by kernel_rfl)) (by unfold Func.isWrapper; first | (rw [if_pos (by decide +kernel)]; kernel_rfl) | (rw [if_neg (by decide +kernel)]; exact ⟨rfl, rfl⟩))
    (fun os started H enc _ => returns_lifted os started H enc)
theorem returns_card : Rows.TaperReturnsCardSaid :=
  Claim7.holds_tied_plain_at .later [] [.data, .data, .data] true (true, "3823d907170410e42e340bbfdfca02892b9123d616746790992431e86ef115c4") false
    returns_holds (fun _ h => by cases h) (by kernel_rfl) (fun _ h => by cases h) taperReturns_row_tie rfl ⟨rfl, rfl⟩ (by kernel_rfl) rfl
    (fun f fn hf hfn => by
      obtain rfl : f = 6 := Option.some.inj ((show Tryz.prog.funcNamed "codend/codendlaw02.TaperReturns" = some 6 by kernel_rfl).symm.trans hf) |>.symm
      obtain rfl : fn = Tryz.f6 := (Option.some.inj (Tryz.func6.symm.trans hfn)).symm
      exact ⟨by kernel_rfl, fun j t ht => by
        rw [Tryz.params6] at ht
        have hm : t ∈ [43, 45, 5] := by simpa using Array.mem_of_getElem? ht
        have hall : ([43, 45, 5].all fun u => !Tryz.prog.wantsStandIn u) = true := by kernel_rfl
        exact (show Tryz.prog.wantsStandIn t = false by simpa using List.all_eq_true.1 hall t hm)⟩)
    (by kernel_rfl)
#print axioms returns_card
end Go.Proofs.YtfmfpnnglogkmaaGreatDoor
