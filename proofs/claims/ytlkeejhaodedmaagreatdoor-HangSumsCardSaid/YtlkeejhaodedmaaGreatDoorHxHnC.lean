/- Helpers: HxHnC. -/
import Derived.Test.YtlkeejhaodedmaaGreatDoorHxHmB
import Derived.Laws.AppendOwnNone
/- The law HangSums. -/
namespace Go.Proofs.YtlkeejhaodedmaaGreatDoor
open Go.RowKit

theorem infoRL : (Tryz.prog.info? 119).map (fun i => (i.zero, i.size, i.bytes)) = some (some (.agg #[.int .i64 0, .int .i64 0, .int .i64 0, .string ByteArray.empty]), 4, 40) := by kernel_rfl
theorem infoRT : (Tryz.prog.info? 121).map (fun i => (i.zero, i.size, i.bytes)) = some (some (.agg #[.string ByteArray.empty, .int .i64 0, .int .i64 0]), 3, 32) := by kernel_rfl
theorem nxV {P : Program} {s : Sem Value} {w : World} {v : Value} (h : s.run P w = .ok v w) : Sem.run P (do pure (Next.value (← s))) w = .ok (.value v) w := by
  simp [h, Result.andThen]
theorem slL (A : Option Addr) (n c q : Nat) (hq : q ≤ n) (w : World) : (Instr.sliceAt 94 (.slice A n c) (some (.int .i64 q)) none none).run Tryz.prog w = .ok (.slice (if c = q then A else A.map (fun p => p.add (q * 4))) (n - q) (c - q)) w := by
  have hu : Tryz.prog.underlying 94 = some (.slice (Tryz.prog.elem 94)) := by kernel_rfl
  have hz : (Tryz.prog.info? (Tryz.prog.elem 94)).map (fun i => i.size) = some 4 := by kernel_rfl
  obtain ⟨i, hi, h4⟩ := Option.map_eq_some_iff.1 hz
  rw [run_sliceAt_slice _ _ _ _ _ _ hu, run_slice_l _ _ _ _ _ hu _ _ (by omega) (by omega)]
  have hs : (sizeOf (Tryz.prog.elem 94)).run Tryz.prog w = .ok 4 w := by
    have hi' := hi
    simp [sizeOf, typeInfo, go_sem]
    rw [show Tryz.prog.info? (Tryz.prog.elem 94) = Tryz.prog.info? 119 by kernel_rfl] at hi
    simp [hi, h4, Result.andThen]
  rw [hs]
  rfl
theorem okv_dropA {α : Type} {enc : α → List Value} {k : Nat} {w : World} {A : Option Addr} {c : Nat} {l : List α} (h : OKV enc k w A c l) (n : Nat) (hn : n ≤ l.length) : OKV enc k w (if c = n then A else A.map (fun p => p.add (n * k))) (c - n) (l.drop n) := by
  have h1 := h.1
  have h2 := h.2.1
  by_cases hc : c = n
  · rw [if_pos hc]
    refine ⟨by rw [List.length_drop]; omega, by omega, fun _ => by omega, fun hp => ?_⟩
    rw [List.length_drop] at hp
    omega
  · rw [if_neg hc]
    by_cases hl : 0 < l.length
    · obtain ⟨b, off, rfl, hB, hx⟩ := h.2.2.2 hl
      have := okv_drop h n hn
      have e : (some (⟨b, off, none⟩ : Addr)).map (fun p => p.add (n * k)) = some ⟨b, off + n * k, none⟩ := by
        simp only [Option.map_some, Addr.add]
        split
        · rename_i h0
          rw [h0]
          rfl
        · rfl
      rw [e]
      exact this
    · refine ⟨by rw [List.length_drop]; omega, by omega, fun hA => ?_, fun hp => ?_⟩
      · have : A = none := by cases A with
          | none => rfl
          | some p => cases hA
        have := h.2.2.1 this
        omega
      · rw [List.length_drop] at hp
        omega
set_option maxHeartbeats 16000000 in
set_option maxRecDepth 100000 in
theorem lawSumsN (At : Option Addr) (ct : Nat) (tb : List Twn) (A : Option Addr) (c : Nat) (l : List Lin) (P Q a : Nat) (w : World) (hT : Tab w) (hTb : OKV Twn.c 3 w At ct tb) (hA : OKV Lin.c 4 w A c l) (hP : P < 256) (hQ : Q < 256) (ha : P % 101 = a) (hB : Bil tb l a) (hl8 : l.length ≤ 8) :
    Calls Tryz.prog 13 #[.slice At tb.length ct, .slice A l.length c, .agg #[.int .u8 P, .int .u8 Q]] w fun e w' => e = .returned (.bool true) ∧ Below w.heap.size w w' := by
  have HA := Lib.hid hA
  have HTB := Lib.hid hTb
  have HBI := Lib.hid hB
  have htl : tb.length ≤ 32 := (twsX_zero hB.tw).1
  have HSH := fun w h => rfShortTwines At ct tb w h
  have HSL := fun w h => rfShortLines A c l w h
  have HCT := fun w h => rfCheckTwines At ct tb w (by omega) h
  have HCI := fun w h h' => rfCheckLines At ct tb A c l w (by omega) (by omega) h h'
  rw [hB.tw] at HCT
  rw [hB.ln] at HCI
  have HCV := fun (A : Option Addr) (c : Nat) (l' : List Twn) (n : Nat) (hn : l'.length = n) (hl' : l'.length ≤ 1000) (w : World) (h : OKV Twn.c 3 w A c l') => (show Calls Tryz.prog 51 #[.slice A n c] w (fun e w' => ∃ a c', e = .returned (.slice a n c') ∧ OKV Twn.c 3 w' a c' l' ∧ Below w.heap.size w w') by
    subst hn
    exact law_twines A c l' w hl' h)
  have HCL := fun (A : Option Addr) (c : Nat) (l' : List Lin) (n : Nat) (hn : l'.length = n) (hl' : l'.length ≤ 1000) (w : World) (h : OKV Lin.c 4 w A c l') => (show Calls Tryz.prog 62 #[.slice A n c] w (fun e w' => ∃ a c', e = .returned (.slice a n c') ∧ OKV Lin.c 4 w' a c' l' ∧ Below w.heap.size w w') by
    subst hn
    exact law_lines A c l' w hl' h)
  obtain ⟨iL, hi, hz0, hz1, hz2⟩ := info_parts infoRL
  have HIL := Lib.hid hi
  have HZ0L := Lib.hid hz0
  have HZ1L := Lib.hid hz1
  have HZ2L := Lib.hid hz2
  clear hi hz0 hz1 hz2
  obtain ⟨iT, hi, hz0, hz1, hz2⟩ := info_parts infoRT
  have HIT := Lib.hid hi
  have HZ0T := Lib.hid hz0
  have HZ1T := Lib.hid hz1
  have HZ2T := Lib.hid hz2
  clear hi hz0 hz1 hz2 hA hTb hB
  obtain ⟨w1, hw1, k5, hb1, hz1⟩ := boxS w (.cells #[.int .u8 P, .int .u8 Q] 117)
  have hl8i : ¬ (8 : Int) < (l.length : Int) := by omega
  go_enter Tryz.func13, Tryz.ntmps13
  go_wp2_with fail
  refine (HSH _ (OKV.below HTB.out hb1)).mono ?_
  rintro e w2 ⟨p, rfl, -, rfl⟩
  cases p
  · clear HSH HSL
    go_wp2_with fail
    refine (awake6 _ (hT.below hb1)).mono ?_
    rintro e w20 ⟨rfl, hb20⟩
    go_wp2
    go_ret
    exact ⟨rfl, tw hb1 hb20⟩
  · clear HSH
    go_wp2_with fail
    refine (HSL _ (OKV.below HA.out hb1)).mono ?_
    rintro e w2 ⟨p, rfl, -, rfl⟩
    cases p
    · clear HSL
      go_wp2_with fail
      refine (awake6 _ (hT.below hb1)).mono ?_
      rintro e w20 ⟨rfl, hb20⟩
      go_wp2
      go_ret
      exact ⟨rfl, tw hb1 hb20⟩
    · clear HSL
      go_wp2_with fail
      refine (HCT _ (OKV.below HTB.out hb1)).mono ?_
      rintro e w3 ⟨rfl, hb3⟩
      have B3 := tw hb1 hb3
      replace k5 := blkT k5 hb3
      clear hb1 hb3
      go_wp2_with fail
      refine (HCI _ (OKV.below HTB.out B3) (OKV.below HA.out B3)).mono ?_
      rintro e w4 ⟨rfl, hb4⟩
      replace B3 := tw B3 hb4
      replace k5 := blkT k5 hb4
      clear hb4 HCT HCI
      obtain ⟨c0, c1, -, -⟩ := cel2 k5
      have m1 : (P : Int).tmod 101 = (a : Int) := by rw [← ha]; exact modN P 101
      have m2 : (Q : Int).tmod ((l.length : Int) + 1) = ((Q % (l.length + 1) : Nat) : Int) := modN Q (l.length + 1)
      have hq := Nat.mod_lt Q (show 0 < l.length + 1 by omega)
      have ha9 : a < 101 := by rw [← ha]; exact Nat.mod_lt _ (by decide)
      generalize Q % (l.length + 1) = q at m2 hq
      have v1 : IntKind.i64.wrap (P : Int) = (P : Int) := wr64 (by omega) (by omega)
      have v2 : IntKind.i64.wrap (Q : Int) = (Q : Int) := wr64 (by omega) (by omega)
      have v3 : IntKind.i64.wrap (a : Int) = (a : Int) := wr64 (by omega) (by omega)
      have v4 : IntKind.i64.wrap (q : Int) = (q : Int) := wr64 (by omega) (by omega)
      have v5 : IntKind.i64.wrap ((l.length : Int) + 1) = (l.length : Int) + 1 := wr64 (by omega) (by omega)
      have v6 : ¬ (l.length : Int) + 1 = 0 := by omega
      have v7 : ((l.length : Int) + 1 != 0) = true := by rw [bne_iff_ne]; exact v6
      clear ha
      go_wp2_with fail
      go_quiet (fail)
      replace B3 := below_drewN B3 nq
      generalize World.drewN w4 nq = w5' at B3 ⊢
      clear k5 c0 c1 m1 m2
      go_wp2_with fail
      refine (HCV _ _ tb _ rfl (by omega) _ (OKV.below HTB.out B3)).mono ?_
      rintro e x1 ⟨a1, c1, rfl, h1, hx1⟩
      have H1 := Lib.hid h1
      replace B3 := tw B3 hx1
      clear h1 hx1
      go_wp2_with fail
      refine (HCL _ _ l _ rfl (by omega) _ (OKV.below HA.out B3)).mono ?_
      rintro e x2 ⟨a2, c2, rfl, h2, hx2⟩
      have H2 := Lib.hid h2
      replace H1 := Lib.hid (OKV.below H1.out hx2)
      replace B3 := tw B3 hx2
      clear h2 hx2
      go_wp2_with fail
      refine (bilN _ _ _ tb _ _ _ l a _ HBI.out rfl rfl H1.out H2.out).mono ?_
      rintro e x3 ⟨a9, c9, rfl, h9, hx3⟩
      have H9 := Lib.hid h9
      replace B3 := tw B3 hx3
      clear h9 hx3 H1 H2
      as_aux_lemma =>
        go_wp2_with fail
        go_loopw [11, 89] (fun v i wr => ∃ j : Nat, j ≤ l.length ∧ i = .int .i64 j ∧ Hid (wr.ownsRow x3.heap.size 119 4 v j ((l.take j).reverse.flatMap Lin.c)) ∧ Hid (j = 0 → v = .slice none 0 0) ∧ Below x3.heap.size x3 wr) (fun _ i _ => l.length - (intOf i).toNat)
        case atStart => exact ⟨0, Nat.zero_le _, rfl, World.ownsRow_nil _ _ _ _, Lib.hid (fun _ => rfl), Below.refl _ _⟩
        case round =>
          obtain ⟨j, hj, rfl, hown, hnil, hb⟩ := hrel
          by_cases hlt : j < l.length
          · have hki : (j : Int) < (l.length : Int) := by omega
            have hk0 : (0 : Int) ≤ (j : Int) := by omega
            obtain ⟨b, off, hAe, hB, c0, c1, c2, c3⟩ := atL (OKV.below HA.out (tw B3 hb)).2.2.2 hlt
            subst hAe
            have HSN := Lib.hid (show (l.take (j + 1)).reverse.flatMap Lin.c = [.int .i64 l[j].b, .int .i64 l[j].k, .int .i64 l[j].r, .string l[j].s] ++ (l.take j).reverse.flatMap Lin.c by rw [List.take_succ_eq_append_getElem hlt, List.reverse_append, List.flatMap_append]; simp; rfl)
            generalize l[j].b = yy0 at c0 HSN
            generalize l[j].k = yy1 at c1 HSN
            generalize l[j].r = yy2 at c2 HSN
            generalize l[j].s = yy3 at c3 HSN
            obtain ⟨w5, hw5, k5, hb5, hz5⟩ := boxS wr (.cells #[.int .i64 yy0, .int .i64 yy1, .int .i64 yy2, .string yy3] 119)
            obtain ⟨d0, d1, d2, d3, -, -, -, -⟩ := cel4 k5
            have hb5w := tw hb hb5
            have hown5 := Lib.hid (ownTo hown.out hb5)
            have hbz5 := hb5w.size
            have hlit := Lib.hid (World.ownsRow_lit (base := x3.heap.size) (e := 119) (size := 4) w5 #[.int .i64 yy0, .int .i64 yy1, .int .i64 yy2, .string yy3] 1 hbz5 (by unfold maxLen; omega) rfl)
            have HUN := Lib.hid (hb5w.alloc hbz5 (.cells #[.int .i64 yy0, .int .i64 yy1, .int .i64 yy2, .string yy3] 119))
            by_cases hj0 : j = 0
            · obtain rfl := hnil.out hj0
              have HJ0 := Lib.hid hj0
              clear hj0
              go_wp2_with (at_builtin; refine wpList_append_own_none rfl _ _ 94 rfl x3.heap.size 119 iL 4 Tryz.underlying94 HIL.out _ _ _ rfl hlit.out rfl ?_)
              have HO6 := Lib.hid (show (w5.alloc (.cells #[.int .i64 yy0, .int .i64 yy1, .int .i64 yy2, .string yy3] 119)).ownsRow x3.heap.size 119 4 (.slice (some ⟨w5.heap.size, 0, none⟩) 1 1) (j + 1) ((l.take (j + 1)).reverse.flatMap Lin.c) by
                have h := hlit.out
                rw [HSN.out, HJ0.out]
                simpa using h)
              go_wp2
              go_roundw
              case rel => exact ⟨j + 1, by omega, by go_num, HO6, Lib.hid (fun h => by omega), HUN.out⟩
              case measure => simp [intOf]; omega
            · rcases hown5.out.2 with ⟨-, h0⟩ | ⟨gt, capt, cur, rfl, -⟩
              · exact absurd h0 hj0
              have hcl := Lib.hid (fun (X : World) (h : Below w5.heap.size w5 X) => (ownTo hown5.out h).cells (g := gt) rfl)
              have hlx : ((l.take j).reverse.flatMap Lin.c).length = j * 4 := hown5.out.1
              have h1c : ∀ u ∈ (l.take j).reverse.flatMap Lin.c, u.oneCell' = true := by
                intro u hu
                obtain ⟨y, -, hy⟩ := List.mem_flatMap.1 hu
                simp [Lin.c] at hy
                rcases hy with rfl | rfl | rfl | rfl <;> rfl
              have HCL := Lib.hid (hcl.out (w5.alloc (.cells #[.int .i64 yy0, .int .i64 yy1, .int .i64 yy2, .string yy3] 119)) ((Below.refl _ _).alloc (Nat.le_refl _) _))
              go_wp2_with (at_builtin; refine wpList_append_own _ rfl _ _ 94 rfl x3.heap.size 119 iL (.agg #[.int .i64 0, .int .i64 0, .int .i64 0, .string ByteArray.empty]) 4 40 Tryz.underlying94 HIL.out HZ0L.out HZ1L.out HZ2L.out rfl (by decide) _ _ _ rfl hlit.out ⟨gt, 0, none⟩ j capt ((l.take j).reverse.flatMap Lin.c) rfl hlx HCL.out h1c ?c3 ?c4 ?c5 ?_)
              case c3 => unfold maxLen; omega
              case c4 => omega
              case c5 => first | omega | (simp; omega)
              intro v' w6 hown6 hgrow6 _
              have hq6 : Below x3.heap.size x3 w6 := HUN.out.grown hgrow6 (by simp; omega) (fun j e => by cases e; exact hbz5)
              have HO6 := Lib.hid (show w6.ownsRow x3.heap.size 119 4 v' (j + 1) ((l.take (j + 1)).reverse.flatMap Lin.c) by rw [HSN.out, Nat.add_comm]; exact hown6)
              clear hown6 hgrow6 hown hown5 hlx h1c
              go_wp2
              go_roundw
              case rel => exact ⟨j + 1, by omega, by go_num, HO6, Lib.hid (fun h => by omega), hq6⟩
              case measure => simp [intOf]; omega
          · obtain rfl : j = l.length := by omega
            have hki : ¬ (l.length : Int) < (l.length : Int) := by omega
            have ho := hown.out
            rw [List.take_length] at ho
            obtain ⟨a11, c11, rfl, h11⟩ := OKV.ownN Lin.c4 ho (List.length_reverse)
            have H11 := Lib.hid h11
            replace H9 := Lib.hid (OKV.below H9.out hb)
            replace B3 := tw B3 hb
            obtain ⟨y1, rfl⟩ : ∃ W, W = wr := ⟨_, rfl⟩
            clear ho hown hb h11 hnil
            as_aux_lemma =>
              go_wp2_with fail
              go_loopw [14, 100] (fun v i wr => ∃ j : Nat, j ≤ tb.length ∧ i = .int .i64 j ∧ Hid (wr.ownsRow y1.heap.size 121 3 v j ((tb.take j).reverse.flatMap Twn.c)) ∧ Hid (j = 0 → v = .slice none 0 0) ∧ Below y1.heap.size y1 wr) (fun _ i _ => tb.length - (intOf i).toNat)
              case atStart => exact ⟨0, Nat.zero_le _, rfl, World.ownsRow_nil _ _ _ _, Lib.hid (fun _ => rfl), Below.refl _ _⟩
              case round =>
                obtain ⟨j, hj, rfl, hown, hnil, hb⟩ := hrel
                by_cases hlt : j < tb.length
                · have hki : (j : Int) < (tb.length : Int) := by omega
                  have hk0 : (0 : Int) ≤ (j : Int) := by omega
                  obtain ⟨b, off, hAe, hB, c0, c1, c2⟩ := atT (OKV.below HTB.out (tw B3 hb)).2.2.2 hlt
                  subst hAe
                  have HSN := Lib.hid (show (tb.take (j + 1)).reverse.flatMap Twn.c = [.string tb[j].s, .int .i64 tb[j].x, .int .i64 tb[j].h] ++ (tb.take j).reverse.flatMap Twn.c by rw [List.take_succ_eq_append_getElem hlt, List.reverse_append, List.flatMap_append]; simp; rfl)
                  generalize tb[j].s = yy0 at c0 HSN
                  generalize tb[j].x = yy1 at c1 HSN
                  generalize tb[j].h = yy2 at c2 HSN
                  obtain ⟨w5, hw5, k5, hb5, hz5⟩ := boxS wr (.cells #[.string yy0, .int .i64 yy1, .int .i64 yy2] 121)
                  obtain ⟨d0, d1, d2, -, -, -⟩ := cel3 k5
                  have hb5w := tw hb hb5
                  have hown5 := Lib.hid (ownTo hown.out hb5)
                  have hbz5 := hb5w.size
                  have hlit := Lib.hid (World.ownsRow_lit (base := y1.heap.size) (e := 121) (size := 3) w5 #[.string yy0, .int .i64 yy1, .int .i64 yy2] 1 hbz5 (by unfold maxLen; omega) rfl)
                  have HUN := Lib.hid (hb5w.alloc hbz5 (.cells #[.string yy0, .int .i64 yy1, .int .i64 yy2] 121))
                  by_cases hj0 : j = 0
                  · obtain rfl := hnil.out hj0
                    have HJ0 := Lib.hid hj0
                    clear hj0
                    go_wp2_with (at_builtin; refine wpList_append_own_none rfl _ _ 78 rfl y1.heap.size 121 iT 3 Tryz.underlying78 HIT.out _ _ _ rfl hlit.out rfl ?_)
                    have HO6 := Lib.hid (show (w5.alloc (.cells #[.string yy0, .int .i64 yy1, .int .i64 yy2] 121)).ownsRow y1.heap.size 121 3 (.slice (some ⟨w5.heap.size, 0, none⟩) 1 1) (j + 1) ((tb.take (j + 1)).reverse.flatMap Twn.c) by
                      have h := hlit.out
                      rw [HSN.out, HJ0.out]
                      simpa using h)
                    go_wp2
                    go_roundw
                    case rel => exact ⟨j + 1, by omega, by go_num, HO6, Lib.hid (fun h => by omega), HUN.out⟩
                    case measure => simp [intOf]; omega
                  · rcases hown5.out.2 with ⟨-, h0⟩ | ⟨gt, capt, cur, rfl, -⟩
                    · exact absurd h0 hj0
                    have hcl := Lib.hid (fun (X : World) (h : Below w5.heap.size w5 X) => (ownTo hown5.out h).cells (g := gt) rfl)
                    have hlx : ((tb.take j).reverse.flatMap Twn.c).length = j * 3 := hown5.out.1
                    have h1c : ∀ u ∈ (tb.take j).reverse.flatMap Twn.c, u.oneCell' = true := by
                      intro u hu
                      obtain ⟨y, -, hy⟩ := List.mem_flatMap.1 hu
                      simp [Twn.c] at hy
                      rcases hy with rfl | rfl | rfl <;> rfl
                    have HCL := Lib.hid (hcl.out (w5.alloc (.cells #[.string yy0, .int .i64 yy1, .int .i64 yy2] 121)) ((Below.refl _ _).alloc (Nat.le_refl _) _))
                    go_wp2_with (at_builtin; refine wpList_append_own _ rfl _ _ 78 rfl y1.heap.size 121 iT (.agg #[.string ByteArray.empty, .int .i64 0, .int .i64 0]) 3 32 Tryz.underlying78 HIT.out HZ0T.out HZ1T.out HZ2T.out rfl (by decide) _ _ _ rfl hlit.out ⟨gt, 0, none⟩ j capt ((tb.take j).reverse.flatMap Twn.c) rfl hlx HCL.out h1c ?c3 ?c4 ?c5 ?_)
                    case c3 => unfold maxLen; omega
                    case c4 => omega
                    case c5 => first | omega | (simp; omega)
                    intro v' w6 hown6 hgrow6 _
                    have hq6 : Below y1.heap.size y1 w6 := HUN.out.grown hgrow6 (by simp; omega) (fun j e => by cases e; exact hbz5)
                    have HO6 := Lib.hid (show w6.ownsRow y1.heap.size 121 3 v' (j + 1) ((tb.take (j + 1)).reverse.flatMap Twn.c) by rw [HSN.out, Nat.add_comm]; exact hown6)
                    clear hown6 hgrow6 hown hown5 hlx h1c
                    go_wp2
                    go_roundw
                    case rel => exact ⟨j + 1, by omega, by go_num, HO6, Lib.hid (fun h => by omega), hq6⟩
                    case measure => simp [intOf]; omega
                · obtain rfl : j = tb.length := by omega
                  have hki : ¬ (tb.length : Int) < (tb.length : Int) := by omega
                  have ho := hown.out
                  rw [List.take_length] at ho
                  obtain ⟨a14, c14, rfl, h14⟩ := OKV.ownN Twn.c3 ho (List.length_reverse)
                  have H14 := Lib.hid h14
                  replace H9 := Lib.hid (OKV.below H9.out hb)
                  replace H11 := Lib.hid (OKV.below H11.out hb)
                  replace B3 := tw B3 hb
                  obtain ⟨y2, rfl⟩ : ∃ W, W = wr := ⟨_, rfl⟩
                  clear ho hown hb h14 hnil
                  have hsr : tb.map (smL a l.reverse) = tb.map (smL a l) := by
                    congr 1
                    funext t
                    rw [smL, smL, sumN_rev]
                  as_aux_lemma =>
                    go_wp2_with fail
                    refine (HCV _ _ tb _ rfl (by omega) _ (OKV.below HTB.out B3)).mono ?_
                    rintro e x1 ⟨a1, c1, rfl, h1, hx1⟩
                    have H1 := Lib.hid h1
                    replace H9 := Lib.hid (OKV.below H9.out hx1)
                    replace H11 := Lib.hid (OKV.below H11.out hx1)
                    replace H14 := Lib.hid (OKV.below H14.out hx1)
                    replace B3 := tw B3 hx1
                    clear h1 hx1
                    go_wp2_with fail
                    refine (HCL _ _ l.reverse _ List.length_reverse (by rw [List.length_reverse]; omega) _ H11.out).mono ?_
                    rintro e x2 ⟨a2, c2, rfl, h2, hx2⟩
                    have H2 := Lib.hid h2
                    replace H9 := Lib.hid (OKV.below H9.out hx2)
                    replace H11 := Lib.hid (OKV.below H11.out hx2)
                    replace H14 := Lib.hid (OKV.below H14.out hx2)
                    replace H1 := Lib.hid (OKV.below H1.out hx2)
                    replace B3 := tw B3 hx2
                    clear h2 hx2
                    go_wp2_with fail
                    refine (bilN _ _ _ tb _ _ _ l.reverse a _ HBI.out.rev rfl List.length_reverse H1.out H2.out).mono ?_
                    rintro e x3 ⟨a17, c17, rfl, h9, hx3⟩
                    rw [hsr] at h9
                    have H17 := Lib.hid h9
                    replace H9 := Lib.hid (OKV.below H9.out hx3)
                    replace H11 := Lib.hid (OKV.below H11.out hx3)
                    replace H14 := Lib.hid (OKV.below H14.out hx3)
                    replace B3 := tw B3 hx3
                    clear h9 hx3 H1 H2
                    as_aux_lemma =>
                      clear H11 hsr
                      go_wp2_with fail
                      refine (HCV _ _ tb.reverse _ List.length_reverse (by rw [List.length_reverse]; omega) _ H14.out).mono ?_
                      rintro e x1 ⟨a1, c1, rfl, h1, hx1⟩
                      have H1 := Lib.hid h1
                      replace H9 := Lib.hid (OKV.below H9.out hx1)
                      replace H17 := Lib.hid (OKV.below H17.out hx1)
                      replace H14 := Lib.hid (OKV.below H14.out hx1)
                      replace B3 := tw B3 hx1
                      clear h1 hx1
                      go_wp2_with fail
                      refine (HCL _ _ l _ rfl (by omega) _ (OKV.below HA.out B3)).mono ?_
                      rintro e x2 ⟨a2, c2, rfl, h2, hx2⟩
                      have H2 := Lib.hid h2
                      replace H9 := Lib.hid (OKV.below H9.out hx2)
                      replace H17 := Lib.hid (OKV.below H17.out hx2)
                      replace H14 := Lib.hid (OKV.below H14.out hx2)
                      replace H1 := Lib.hid (OKV.below H1.out hx2)
                      replace B3 := tw B3 hx2
                      clear h2 hx2
                      go_wp2_with fail
                      refine (bilN _ _ _ tb.reverse _ _ _ l a _ HBI.out.tab List.length_reverse rfl H1.out H2.out).mono ?_
                      rintro e x3 ⟨a19, c19, rfl, h9, hx3⟩
                      have H19 := Lib.hid h9
                      replace H9 := Lib.hid (OKV.below H9.out hx3)
                      replace H17 := Lib.hid (OKV.below H17.out hx3)
                      replace H14 := Lib.hid (OKV.below H14.out hx3)
                      replace B3 := tw B3 hx3
                      clear h9 hx3 H1 H2
                      as_aux_lemma =>
                        clear H14
                        have hqc : (q : Int) ≤ (c : Int) := by have := HA.out.1; omega
                        have hql : (q : Int) ≤ (l.length : Int) := by omega
                        have hqn : (0 : Int) ≤ (q : Int) := by omega
                        have hlc2 : (l.length : Int) ≤ (c : Int) := by have := HA.out.1; omega
                        have hpart := HBI.out.part (List.take_append_drop q l).symm
                        go_wp2_with fail
                        have hqN : q ≤ l.length := by omega
                        have okvT : ∀ {W : World}, OKV Lin.c 4 W A c l → OKV Lin.c 4 W A c (l.take q) := fun h => okv_take h q
                        have hln : (l.take q).length ≤ 1000 := by rw [List.length_take]; omega
                        refine wp_region_held_drew (S := (fun X => Below x3.heap.size x3 X)) (by kernel_rfl) ?_ (fun hHeld => ?_)
                        · exact below_drew (Below.refl _ _)
                        refine wpAnyH_take (i := 0) (oi := _) (v := ?vm0) rfl (by kernel_rfl) (by kernel_rfl) (by kernel_rfl) (fun _ _ _ h => h) (Or.inl ⟨by rfl, ?hym0⟩) (by assumption) ?restm0
                        case hym0 => (intro w hSw; (try dsimp only at hSw); go_simp; first | done | rfl)
                        try simp only [layAH]
                        refine wpAnyH_take (i := 2) (oi := _) (v := ?vm2) rfl (by kernel_rfl) (by kernel_rfl) (by kernel_rfl) (fun _ _ _ h => h) (Or.inl ⟨by rfl, ?hym2⟩) (by assumption) ?restm2
                        case hym2 => (intro w hSw; (try dsimp only at hSw); go_simp; first | done | rfl)
                        try simp only [layAH]
                        refine wpAnyH_take (i := 3) (oi := _) (v := ?vm3) rfl (by kernel_rfl) (by kernel_rfl) (by kernel_rfl) (fun _ _ _ h => h) (Or.inl ⟨by rfl, ?hym3⟩) (by assumption) ?restm3
                        case hym3 => (intro w hSw; (try dsimp only at hSw); go_simp; first | done | rfl)
                        try simp only [layAH]
                        refine wpAnyH_take (i := 4) (oi := _) (v := ?vm4) rfl (by kernel_rfl) (by kernel_rfl) (by kernel_rfl) (fun _ _ _ h => h) (Or.inl ⟨by rfl, ?hym4⟩) (by assumption) ?restm4
                        case hym4 => (intro w hSw; (try dsimp only at hSw); go_simp; first | done | rfl)
                        try simp only [layAH]
                        refine wpAnyH_take (i := 6) (oi := _) (v := ?vm6) rfl (by kernel_rfl) (by kernel_rfl) (by kernel_rfl) (fun _ _ _ h => h) (Or.inl ⟨by rfl, ?hym6⟩) (by assumption) ?restm6
                        case hym6 => (intro w hSw; (try dsimp only at hSw); go_simp; first | done | rfl)
                        try simp only [layAH]
                        refine wpAnyH_ready (rs := [1]) (by kernel_rfl) (by simp) ?_
                        refine AllReadyH.cons (o := _) rfl (fun K hK => ?_) AllReadyH.nil
                        simp only [layGH]
                        go_simp
                        go_at_call 51
                        refine (HCV _ _ tb _ rfl (by omega) _ (OKV.below HTB.out (tw B3 (by assumption)))).mono ?_
                        rintro e z1 ⟨a1, c1, rfl, h1, hbq⟩
                        refine hK.out _ _ (tw (by assumption) hbq) (fun hHeld => ?_)
                        clear hK K
                        try simp only [layAH]
                        refine wpAnyH_ready (rs := [5]) (by kernel_rfl) (by simp) ?_
                        refine AllReadyH.cons (o := _) rfl (fun K hK => ?_) AllReadyH.nil
                        simp only [layGH]
                        go_simp
                        go_at_call 62
                        refine (HCL _ _ (l.take q) _ (List.length_take_of_le hqN) (hln) _ (okvT (OKV.below HA.out (tw B3 (by assumption))))).mono ?_
                        rintro e z2 ⟨a2, c2, rfl, h2, hbq⟩
                        have h1b := OKV.below h1 hbq
                        refine hK.out _ _ (tw (by assumption) hbq) (fun hHeld => ?_)
                        clear hK K
                        try simp only [layAH]
                        refine wpAnyH_ready (rs := [7]) (by kernel_rfl) (by simp) ?_
                        refine AllReadyH.cons (o := _) rfl (fun K hK => ?_) AllReadyH.nil
                        simp only [layGH]
                        go_simp
                        go_at_call 61
                        refine (bilN _ _ _ tb _ _ _ (l.take q) a _ hpart.1 rfl (List.length_take_of_le hqN) h1b h2).mono ?_
                        rintro e z3 ⟨a21, c21, rfl, h9, hbq⟩
                        refine hK.out _ _ (tw (by assumption) hbq) (fun hHeld => ?_)
                        clear hK K
                        try simp only [layAH]
                        refine wpAnyH_take (i := 8) (oi := _) (v := ?vm8) rfl (by kernel_rfl) (by kernel_rfl) (by kernel_rfl) (fun _ _ _ h => h) (Or.inl ⟨by rfl, ?hym8⟩) (by assumption) ?restm8
                        case hym8 => (intro w hSw; (try dsimp only at hSw); go_simp; first | done | rfl)
                        try simp only [layAH]
                        refine wpAnyH_take (i := 9) (oi := _) (v := ?vm9) rfl (by kernel_rfl) (by kernel_rfl) (by kernel_rfl) (fun _ _ _ h => h) (Or.inl ⟨by rfl, ?hym9⟩) (by assumption) ?restm9
                        case hym9 => (intro w hSw; (try dsimp only at hSw); go_simp; first | done | rfl)
                        try simp only [layAH]
                        refine wpAnyH_take (i := 10) (oi := _) (v := ?vm10) rfl (by kernel_rfl) (by kernel_rfl) (by kernel_rfl) (fun _ _ _ h => h) (Or.inl ⟨by rfl, ?hym10⟩) (by assumption) ?restm10
                        case hym10 => (intro w hSw; (try dsimp only at hSw); go_simp; first | done | rfl)
                        try simp only [layAH]
                        refine wpAnyH_take (i := 11) (oi := _) (v := ?vm11) rfl (by kernel_rfl) (by kernel_rfl) (by kernel_rfl) (fun _ _ _ h => h) (Or.inl ⟨by rfl, ?hym11⟩) (by assumption) ?restm11
                        case hym11 => (intro w hSw; (try dsimp only at hSw); go_simp; first | done | rfl)
                        try simp only [layAH]
                        refine wpAnyH_take (i := 12) (oi := _) (v := ?vm12) rfl (by kernel_rfl) (by kernel_rfl) (by kernel_rfl) (fun _ _ _ h => h) (Or.inl ⟨by rfl, ?hym12⟩) (by assumption) ?restm12
                        case hym12 => (intro w hSw; (try dsimp only at hSw); go_simp; first | done | rfl)
                        try simp only [layAH]
                        refine wpAnyH_done (by kernel_rfl) ?_ _
                        have H21 := Lib.hid h9
                        replace B3 := tw B3 hHeld
                        replace H9 := Lib.hid (OKV.below H9.out hHeld)
                        replace H17 := Lib.hid (OKV.below H17.out hHeld)
                        replace H19 := Lib.hid (OKV.below H19.out hHeld)
                        clear h1 h1b h2 h9 hHeld hln okvT
                        obtain ⟨x4, rfl⟩ : ∃ W, W = z3 := ⟨_, rfl⟩
                        as_aux_lemma =>
                          go_wp2_with fail
                          have okvD : ∀ {W : World}, OKV Lin.c 4 W A c l → OKV Lin.c 4 W (if c = q then A else A.map (fun p => p.add (q * 4))) (c - q) (l.drop q) := fun h => okv_dropA h q hqN
                          have HSL := fun w => slL A l.length c q hqN w
                          generalize (if c = q then A else A.map (fun p => p.add (q * 4))) = Aq at okvD HSL
                          have hln : (l.drop q).length ≤ 1000 := by rw [List.length_drop]; omega
                          refine wp_region_held_drew (S := (fun X => Below x4.heap.size x4 X)) (by kernel_rfl) ?_ (fun hHeld => ?_)
                          · exact below_drew (Below.refl _ _)
                          refine wpAnyH_take (i := 0) (oi := _) (v := ?vn0) rfl (by kernel_rfl) (by kernel_rfl) (by kernel_rfl) (fun _ _ _ h => h) (Or.inl ⟨by rfl, ?hyn0⟩) (by assumption) ?restn0
                          case hyn0 => (intro w hSw; (try dsimp only at hSw); go_simp; first | done | rfl)
                          try simp only [layAH]
                          refine wpAnyH_take (i := 2) (oi := _) (v := ?vn2) rfl (by kernel_rfl) (by kernel_rfl) (by kernel_rfl) (fun _ _ _ h => h) (Or.inl ⟨by rfl, ?hyn2⟩) (by assumption) ?restn2
                          case hyn2 => (intro w hSw; (try dsimp only at hSw); go_simp; first | done | rfl)
                          try simp only [layAH]
                          refine wpAnyH_take (i := 3) (oi := _) (v := ?vn3) rfl (by kernel_rfl) (by kernel_rfl) (by kernel_rfl) (fun _ _ _ h => h) (Or.inl ⟨by rfl, ?hyn3⟩) (by assumption) ?restn3
                          case hyn3 => (intro w hSw; (try dsimp only at hSw); go_simp; first | done | rfl)
                          try simp only [layAH]
                          refine wpAnyH_take (i := 4) (oi := _) (v := (Value.slice Aq (l.length - q) (c - q))) rfl (by kernel_rfl) (by kernel_rfl) (by kernel_rfl) (fun _ _ _ h => h) (Or.inl ⟨by rfl, ?hyn4⟩) (by assumption) ?restn4
                          case hyn4 => (intro w hSw; (try dsimp only at hSw); exact nxV (HSL w))
                          try simp only [layAH]
                          refine wpAnyH_take (i := 6) (oi := _) (v := ?vn6) rfl (by kernel_rfl) (by kernel_rfl) (by kernel_rfl) (fun _ _ _ h => h) (Or.inl ⟨by rfl, ?hyn6⟩) (by assumption) ?restn6
                          case hyn6 => (intro w hSw; (try dsimp only at hSw); go_simp; first | done | rfl)
                          try simp only [layAH]
                          refine wpAnyH_ready (rs := [1]) (by kernel_rfl) (by simp) ?_
                          refine AllReadyH.cons (o := _) rfl (fun K hK => ?_) AllReadyH.nil
                          simp only [layGH]
                          go_simp
                          go_at_call 51
                          refine (HCV _ _ tb _ rfl (by omega) _ (OKV.below HTB.out (tw B3 (by assumption)))).mono ?_
                          rintro e z1 ⟨a1, c1, rfl, h1, hbq⟩
                          refine hK.out _ _ (tw (by assumption) hbq) (fun hHeld => ?_)
                          clear hK K
                          try simp only [layAH]
                          refine wpAnyH_ready (rs := [5]) (by kernel_rfl) (by simp) ?_
                          refine AllReadyH.cons (o := _) rfl (fun K hK => ?_) AllReadyH.nil
                          simp only [layGH]
                          go_simp
                          go_at_call 62
                          refine (HCL _ _ (l.drop q) _ List.length_drop (hln) _ (okvD (OKV.below HA.out (tw B3 (by assumption))))).mono ?_
                          rintro e z2 ⟨a2, c2, rfl, h2, hbq⟩
                          have h1b := OKV.below h1 hbq
                          refine hK.out _ _ (tw (by assumption) hbq) (fun hHeld => ?_)
                          clear hK K
                          try simp only [layAH]
                          refine wpAnyH_ready (rs := [7]) (by kernel_rfl) (by simp) ?_
                          refine AllReadyH.cons (o := _) rfl (fun K hK => ?_) AllReadyH.nil
                          simp only [layGH]
                          go_simp
                          go_at_call 61
                          refine (bilN _ _ _ tb _ _ _ (l.drop q) a _ hpart.2 rfl List.length_drop h1b h2).mono ?_
                          rintro e z3 ⟨a23, c23, rfl, h9, hbq⟩
                          refine hK.out _ _ (tw (by assumption) hbq) (fun hHeld => ?_)
                          clear hK K
                          try simp only [layAH]
                          refine wpAnyH_take (i := 8) (oi := _) (v := ?vn8) rfl (by kernel_rfl) (by kernel_rfl) (by kernel_rfl) (fun _ _ _ h => h) (Or.inl ⟨by rfl, ?hyn8⟩) (by assumption) ?restn8
                          case hyn8 => (intro w hSw; (try dsimp only at hSw); go_simp; first | done | rfl)
                          try simp only [layAH]
                          refine wpAnyH_take (i := 9) (oi := _) (v := ?vn9) rfl (by kernel_rfl) (by kernel_rfl) (by kernel_rfl) (fun _ _ _ h => h) (Or.inl ⟨by rfl, ?hyn9⟩) (by assumption) ?restn9
                          case hyn9 => (intro w hSw; (try dsimp only at hSw); go_simp; first | done | rfl)
                          try simp only [layAH]
                          refine wpAnyH_take (i := 10) (oi := _) (v := ?vn10) rfl (by kernel_rfl) (by kernel_rfl) (by kernel_rfl) (fun _ _ _ h => h) (Or.inl ⟨by rfl, ?hyn10⟩) (by assumption) ?restn10
                          case hyn10 => (intro w hSw; (try dsimp only at hSw); go_simp; first | done | rfl)
                          try simp only [layAH]
                          refine wpAnyH_take (i := 11) (oi := _) (v := ?vn11) rfl (by kernel_rfl) (by kernel_rfl) (by kernel_rfl) (fun _ _ _ h => h) (Or.inl ⟨by rfl, ?hyn11⟩) (by assumption) ?restn11
                          case hyn11 => (intro w hSw; (try dsimp only at hSw); go_simp; first | done | rfl)
                          try simp only [layAH]
                          refine wpAnyH_take (i := 12) (oi := _) (v := ?vn12) rfl (by kernel_rfl) (by kernel_rfl) (by kernel_rfl) (fun _ _ _ h => h) (Or.inl ⟨by rfl, ?hyn12⟩) (by assumption) ?restn12
                          case hyn12 => (intro w hSw; (try dsimp only at hSw); go_simp; first | done | rfl)
                          try simp only [layAH]
                          refine wpAnyH_done (by kernel_rfl) ?_ _
                          have H23 := Lib.hid h9
                          replace B3 := tw B3 hHeld
                          replace H9 := Lib.hid (OKV.below H9.out hHeld)
                          replace H17 := Lib.hid (OKV.below H17.out hHeld)
                          replace H19 := Lib.hid (OKV.below H19.out hHeld)
                          replace H21 := Lib.hid (OKV.below H21.out hHeld)
                          clear h1 h1b h2 h9 hHeld hln okvD HSL
                          obtain ⟨x5, rfl⟩ : ∃ W, W = z3 := ⟨_, rfl⟩
                          as_aux_lemma =>
                            go_wp2_with fail
                            go_loopw [191] (fun i wr => ∃ j : Nat, j ≤ tb.length ∧ i = .int .i64 j ∧ Below x5.heap.size x5 wr) (fun i _ => tb.length - (intOf i).toNat)
                            case atStart => exact ⟨0, Nat.zero_le _, rfl, Below.refl _ _⟩
                            case round =>
                              obtain ⟨j, hj, rfl, hb⟩ := hrel
                              by_cases hlt : j < tb.length
                              · have hki : (j : Int) < (tb.length : Int) := by omega
                                have hk0 : (0 : Int) ≤ (j : Int) := by omega
                                obtain ⟨b, off, hAe, hB, c0, c1, c2⟩ := atT (OKV.below HTB.out (tw B3 hb)).2.2.2 hlt
                                subst hAe
                                have hok := (twsX_zero HBI.out.tw).2 tb[j] (List.getElem_mem hlt)
                                have hsm := HBI.out.sm tb[j] (List.getElem_mem hlt)
                                have hS0 := sumT HBI.out.ln HBI.out.al tb[j].s
                                have hSum := sumB hsm
                                have hWei := weiB HBI.out.tw (List.getElem_mem hlt) hsm
                                have HS1 : ((sumN a (l.take q) tb[j].s : Nat) : Int) + ((sumN a (l.drop q) tb[j].s : Nat) : Int) = ((sumN a l tb[j].s : Nat) : Int) := by rw [← Int.natCast_add, ← sumN_app, List.take_append_drop]
                                have HSC := Lib.hid (fun (W : World) (h : Below x5.heap.size x5 W) => cells5 (OKV.below H9.out h) (OKV.below H17.out h) (OKV.below H19.out h) (OKV.below H21.out h) (OKV.below H23.out h) hlt rfl rfl rfl)
                                have HW := fun w => hgWeight (sumN a l tb[j].s : Nat) tb[j].x w
                                rw [hWei.1, Int.toNat_natCast] at HW
                                simp only [oz, if_true] at HW
                                obtain ⟨-, hWe2⟩ := hWei
                                have HS0 := Lib.hid hS0
                                obtain ⟨-, -, hh1, hh2⟩ := hok
                                clear hS0 hsm
                                generalize tb[j].s = ts at c0 HS0 hSum HS1 HSC HW hWe2
                                generalize tb[j].x = tx at c1 HSC HW
                                generalize tb[j].h = th at c2 HSC hWe2 hh1 hh2
                                obtain ⟨w5, hw5, k27, hb5, hz5⟩ := boxS wr (.cells #[.string ts, .int .i64 tx, .int .i64 th] 121)
                                have hb5w := tw hb hb5
                                as_aux_lemma =>
                                  go_wp2_with fail
                                  clear hB c0 c1 c2
                                  go_loopw [28, 198] (fun s i wz => ∃ m : Nat, m ≤ l.length ∧ i = .int .i64 m ∧ s = .int .i64 ((sumN a (l.take m) ts : Nat) : Int) ∧ Below w5.heap.size w5 wz) (fun _ i _ => l.length - (intOf i).toNat)
                                  case atStart => exact ⟨0, Nat.zero_le _, rfl, by simp [sumN], Below.refl _ _⟩
                                  case round =>
                                    obtain ⟨m, hm, rfl, rfl, hc⟩ := hrel
                                    obtain ⟨wz, hwz⟩ : ∃ W, W = wr := ⟨_, rfl⟩
                                    subst hwz
                                    by_cases hmt : m < l.length
                                    · have hmi : (m : Int) < (l.length : Int) := by omega
                                      have hm0 : (0 : Int) ≤ (m : Int) := by omega
                                      obtain ⟨bl, ol, hAe, hBl, d0, d1, d2, d3⟩ := atL (OKV.below HA.out (tw B3 (tw hb5w hc))).2.2.2 hmt
                                      subst hAe
                                      have hmem := List.getElem_mem hmt
                                      have hk9 := lnB HBI.out.ln HBI.out.al hmem
                                      have HLN := fun w => hgLength l[m].b l[m].k l[m].r a w
                                      rw [lnE0 HBI.out.ln HBI.out.al hmem, Int.toNat_natCast] at HLN
                                      simp only [oz, if_true] at HLN
                                      have hs7 := HS0.out m hm
                                      have HSN : sumN a (l.take (m + 1)) ts = sumN a (l.take m) ts + (if (l[m].s.toList == ts.toList) = true then lnN a l[m] else 0) := by
                                        rw [List.take_succ_eq_append_getElem hmt, sumN_app]
                                        simp [sumN, nmE]
                                      replace HSN := Lib.hid HSN
                                      unfold lnN at hk9 HSN
                                      clear hmem
                                      generalize l[m].b = yb at d0 HLN HSN hk9
                                      generalize l[m].k = yk at d1 HLN HSN hk9
                                      generalize l[m].r = yr at d2 HLN HSN hk9
                                      generalize l[m].s = ys at d3 HSN
                                      generalize lenN yb.toNat yk.toNat yr.toNat a = n9 at HLN HSN hk9
                                      generalize sumN a (l.take m) ts = sm at HSN hs7 ⊢
                                      obtain ⟨w6, hw6, k30, hb6, hz6⟩ := boxS wz (.cells #[.int .i64 yb, .int .i64 yk, .int .i64 yr, .string ys] 119)
                                      have hc6 := tw hc hb6
                                      have k27b := blkT (blkT k27 hc) hb6
                                      obtain ⟨p0, p1, p2, p3, -, -, -, -⟩ := cel4 k30
                                      obtain ⟨q0, -, -, -, -, -⟩ := cel3 k27b
                                      have hk1 : ¬ (n9 : Int) < 0 := by omega
                                      have hk2 : ¬ (30000000 : Int) < (n9 : Int) := by omega
                                      have hm8 : m * 20000000 ≤ 8 * 20000000 := Nat.mul_le_mul (by omega) (Nat.le_refl _)
                                      have hs8 : sm ≤ 160000000 := Nat.le_trans hs7 hm8
                                      have v1 : IntKind.i64.wrap ((sm : Int) + (n9 : Int)) = ((sm + n9 : Nat) : Int) := by rw [wr64 (by omega) (by omega)]; push_cast; rfl
                                      clear hm8 hs7 hb6
                                      cases hq : (ys.toList == ts.toList)
                                      · have hq' : (ys.toList != ts.toList) = true := by rw [bne, hq]; rfl
                                        have HSN' := HSN.out
                                        rw [hq, if_neg (by decide), Nat.add_zero] at HSN'
                                        clear HSN
                                        go_wp2_with fail
                                        go_roundw
                                        case rel => exact ⟨m + 1, by omega, by go_num, by rw [HSN'] <;> simp, hc6⟩
                                        case measure => simp [intOf]; omega
                                      · have hq' : (ys.toList != ts.toList) = false := by rw [bne, hq]; rfl
                                        have HSN' := HSN.out
                                        rw [hq, if_pos rfl] at HSN'
                                        clear HSN
                                        go_wp2_with fail
                                        refine (HLN _).mono ?_
                                        rintro e w7 ⟨rfl, hb7⟩
                                        clear HLN
                                        go_wp2_with fail
                                        go_roundw
                                        case rel => exact ⟨m + 1, by omega, by go_num, by rw [HSN'] <;> simp, tw hc6 hb7⟩
                                        case measure => simp [intOf]; omega
                                    · obtain rfl : m = l.length := by omega
                                      have hmi : ¬ (l.length : Int) < (l.length : Int) := by omega
                                      have hBz := tw hb5w hc
                                      have k27z := blkT k27 hc
                                      rw [List.take_length]
                                      generalize sumN a l ts = SS at HW HSC hSum hWe2 HS1 ⊢
                                      generalize weiN SS tx.toNat = VV at HW HSC
                                      obtain ⟨q0, q1, q2, -, -, -⟩ := cel3 k27z
                                      have v1 : IntKind.i64.wrap ((SS : Int) * th) = (SS : Int) * th := wr64 (by have := Int.mul_nonneg (show (0 : Int) ≤ (SS : Int) by omega) (show (0 : Int) ≤ th by omega); omega) (by omega)
                                      have v2 : IntKind.i64.wrap ((tb.length : Int) - 1) = ((tb.length - 1 : Nat) : Int) := by rw [wr64 (by omega) (by omega)]; omega
                                      have v3 : IntKind.i64.wrap (((tb.length - 1 : Nat) : Int) - (j : Int)) = ((tb.length - 1 - j : Nat) : Int) := by rw [wr64 (by omega) (by omega)]; omega
                                      have hjr : ((tb.length - 1 - j : Nat) : Int) < (tb.length : Int) := by omega
                                      have hjr0 : (0 : Int) ≤ ((tb.length - 1 - j : Nat) : Int) := by omega
                                      clear HS0
                                      as_aux_lemma =>
                                        go_wp2_with fail
                                        refine (HW _).mono ?_
                                        rintro e w8 ⟨rfl, hb8⟩
                                        have hB8 := tw hBz hb8
                                        obtain ⟨b9, o9, b17, o17, b19, o19, b21, o21, b23, o23, rfl, rfl, rfl, rfl, rfl, e0, e1, e2, f0, f1, f2, g0, g1, g2, r0, t0⟩ := HSC.out _ hB8
                                        obtain ⟨q0, q1, q2, -, -, -⟩ := cel3 (blkT k27z hb8)
                                        clear k27z k27 HW
                                        generalize tb.length - 1 - j = jr at v3 hjr hjr0 g0 g1 g2
                                        generalize tb.length - 1 = jn at v2 v3
                                        have eqS := fun w => eqSumH (SS : Int) (VV : Int) ((SS : Int) * th) w
                                        have hgd := guardSum
                                        have v4 : IntKind.i64.wrap (SS : Int) = (SS : Int) := wr64 (by omega) (by omega)
                                        generalize hAA : (SS : Int) * th = AA at v1 e2 f2 g2 eqS
                                        go_wp2_with fail
                                        simp only [List.append_eq, List.cons_append, List.nil_append]
                                        go_quiet (fail)
                                        go_wp2_with fail
                                        go_roundw
                                        case rel => exact ⟨j + 1, by omega, by go_num, below_drewN hB8 nq⟩
                                        case measure => simp [intOf]; omega
                              · obtain rfl : j = tb.length := by omega
                                have hki : ¬ (tb.length : Int) < (tb.length : Int) := by omega
                                replace B3 := tw B3 hb
                                clear hb
                                go_wp2_with fail
                                refine (awake6 _ (hT.below B3)).mono ?_
                                rintro e w20 ⟨rfl, hb20⟩
                                go_wp2
                                go_ret
                                exact ⟨rfl, tw B3 hb20⟩
end Go.Proofs.YtlkeejhaodedmaaGreatDoor

/- The law HangSums at all arguments. -/
namespace Go.Proofs.YtlkeejhaodedmaaGreatDoor
open Go.RowKit

set_option maxHeartbeats 16000000 in
set_option maxRecDepth 100000 in
theorem lawHangSums (At : Option Addr) (ct : Nat) (tb : List Twn) (A : Option Addr) (c : Nat) (l : List Lin) (P Q : Nat) (w : World) (hT : Tab w) (hTb : OKV Twn.c 3 w At ct tb) (hA : OKV Lin.c 4 w A c l) (hP : P < 256) (hQ : Q < 256) :
    Calls Tryz.prog 13 #[.slice At tb.length ct, .slice A l.length c, .agg #[.int .u8 P, .int .u8 Q]] w fun e w' => e = .returned (.bool true) ∧ Below w.heap.size w w' := by
  obtain ⟨a, ha⟩ : ∃ a, P % 101 = a := ⟨_, rfl⟩
  by_cases hmain : Bil tb l a ∧ l.length ≤ 8
  · exact lawSumsN At ct tb A c l P Q a w hT hTb hA hP hQ ha hmain.1 hmain.2
  have HM := Lib.hid hmain
  have HA := Lib.hid hA
  have HTB := Lib.hid hTb
  have HSH := fun w h => rfShortTwines At ct tb w h
  have HSL := fun w h => rfShortLines A c l w h
  clear hA hTb hmain
  obtain ⟨w1, hw1, k5, hb1, hz1⟩ := boxS w (.cells #[.int .u8 P, .int .u8 Q] 117)
  go_enter Tryz.func13, Tryz.ntmps13
  go_wp2_with fail
  refine (HSH _ (OKV.below HTB.out hb1)).mono ?_
  rintro e w2 ⟨p, rfl, hp1, rfl⟩
  cases p
  · clear HSH HSL hp1
    go_wp2_with fail
    refine (awake6 _ (hT.below hb1)).mono ?_
    rintro e w20 ⟨rfl, hb20⟩
    go_wp2
    go_ret
    exact ⟨rfl, tw hb1 hb20⟩
  · have htl : tb.length ≤ 33 := hp1 rfl
    clear HSH hp1
    go_wp2_with fail
    refine (HSL _ (OKV.below HA.out hb1)).mono ?_
    rintro e w2 ⟨p, rfl, hp2, rfl⟩
    cases p
    · clear HSL hp2
      go_wp2_with fail
      refine (awake6 _ (hT.below hb1)).mono ?_
      rintro e w20 ⟨rfl, hb20⟩
      go_wp2
      go_ret
      exact ⟨rfl, tw hb1 hb20⟩
    · have hll : l.length ≤ 65 := hp2 rfl
      clear HSL hp2
      by_cases hl8 : 8 < l.length
      · have hl8i : (8 : Int) < (l.length : Int) := by omega
        clear hl8
        go_wp2_with fail
        refine (awake6 _ (hT.below hb1)).mono ?_
        rintro e w20 ⟨rfl, hb20⟩
        go_wp2
        go_ret
        exact ⟨rfl, tw hb1 hb20⟩
      have hl8i : ¬ (8 : Int) < (l.length : Int) := by omega
      have HCT := fun w h => rfCheckTwines At ct tb w (by omega) h
      have HCI := fun w h h' => rfCheckLines At ct tb A c l w (by omega) (by omega) h h'
      have HBE := Lib.hid (show twsE tb = 0 → lnsE tb l = 0 → bilE tb l (a : Int) = 4 from fun h1 h2 => by
        have ha9 : a ≤ 100 := by have := Nat.mod_lt P (show 0 < 101 by decide); omega
        have hne : bilE tb l (a : Int) ≠ 0 := fun h => HM.out ⟨Bil.of h1 h2 ha9 h, by omega⟩
        have h0 : bilE0 tb l (a : Int) = 0 := by
          unfold bilE0
          rw [h1, h2]
          have : rngH (a : Int) 0 100 = 0 := rngH_in (by omega) (by omega)
          rw [this]
          rfl
        rw [bilE, if_pos h0] at hne ⊢
        split
        · rfl
        · rename_i hx
          rw [if_neg hx] at hne
          exact absurd rfl hne)
      have HBI := fun At ct A c w h h' => hgBill At ct tb A c l (a : Int) w (by omega) (by omega) h h'
      have HCV := fun w h => law_twines At ct tb w (by omega) h
      have HCL := fun w h => law_lines A c l w (by omega) h
      generalize twsE tb = E1 at HCT HBE
      generalize lnsE tb l = E2 at HCI HBE
      generalize ozL (bilE tb l (a : Int)) (bilL tb l (a : Int)) = V at HBI
      generalize bilE tb l (a : Int) = EN at HBI HBE
      go_wp2_with fail
      refine (HCT _ (OKV.below HTB.out hb1)).mono ?_
      rintro e w3 ⟨rfl, hb3⟩
      have B3 := tw hb1 hb3
      replace k5 := blkT k5 hb3
      clear hb1 hb3 HCT
      by_cases hz : E1 = 0
      · subst hz
        go_wp2_with fail
        refine (HCI _ (OKV.below HTB.out B3) (OKV.below HA.out B3)).mono ?_
        rintro e w4 ⟨rfl, hb4⟩
        replace B3 := tw B3 hb4
        replace k5 := blkT k5 hb4
        clear hb4 HCI
        by_cases hz2 : E2 = 0
        · subst hz2
          obtain rfl : EN = 4 := by first | exact HBE.out rfl rfl | exact HBE.out trivial rfl | exact HBE.out trivial trivial
          obtain ⟨c0, c1, -, -⟩ := cel2 k5
          have m1 : (P : Int).tmod 101 = (a : Int) := by rw [← ha]; exact modN P 101
          have m2 : (Q : Int).tmod ((l.length : Int) + 1) = ((Q % (l.length + 1) : Nat) : Int) := modN Q (l.length + 1)
          have hq := Nat.mod_lt Q (show 0 < l.length + 1 by omega)
          have ha9 : a < 101 := by rw [← ha]; exact Nat.mod_lt _ (by decide)
          generalize Q % (l.length + 1) = q at m2 hq
          have v1 : IntKind.i64.wrap (P : Int) = (P : Int) := wr64 (by omega) (by omega)
          have v2 : IntKind.i64.wrap (Q : Int) = (Q : Int) := wr64 (by omega) (by omega)
          have v3 : IntKind.i64.wrap (a : Int) = (a : Int) := wr64 (by omega) (by omega)
          have v4 : IntKind.i64.wrap (q : Int) = (q : Int) := wr64 (by omega) (by omega)
          have v5 : IntKind.i64.wrap ((l.length : Int) + 1) = (l.length : Int) + 1 := wr64 (by omega) (by omega)
          have v6 : ¬ (l.length : Int) + 1 = 0 := by omega
          have v7 : ((l.length : Int) + 1 != 0) = true := by rw [bne_iff_ne]; exact v6
          clear ha HBE
          go_wp2_with fail
          go_quiet (fail)
          replace B3 := below_drewN B3 nq
          generalize World.drewN w4 nq = w5' at B3 ⊢
          clear k5 c0 c1 m1 m2
          go_wp2_with fail
          refine (HCV _ (OKV.below HTB.out B3)).mono ?_
          rintro e x1 ⟨a1, c1, rfl, h1, hx1⟩
          have H1 := Lib.hid h1
          replace B3 := tw B3 hx1
          clear h1 hx1
          go_wp2_with fail
          refine (HCL _ (OKV.below HA.out B3)).mono ?_
          rintro e x2 ⟨a2, c2, rfl, h2, hx2⟩
          have H2 := Lib.hid h2
          replace H1 := Lib.hid (OKV.below H1.out hx2)
          replace B3 := tw B3 hx2
          clear h2 hx2
          go_wp2_with fail
          refine (HBI _ _ _ _ _ H1.out H2.out).mono ?_
          rintro e x3 ⟨a9, c9, rfl, h9, hx3⟩
          replace B3 := tw B3 hx3
          clear h9 hx3 H1 H2
          go_wp2_with fail
          refine (awake6 _ (hT.below B3)).mono ?_
          rintro e w20 ⟨rfl, hb20⟩
          go_wp2
          go_ret
          exact ⟨rfl, tw B3 hb20⟩
        · have hz1 : (E2 != 0) = true := nzH hz2
          clear hz2
          go_wp2_with fail
          refine (awake6 _ (hT.below B3)).mono ?_
          rintro e w20 ⟨rfl, hb20⟩
          go_wp2
          go_ret
          exact ⟨rfl, tw B3 hb20⟩
      · have hz1 : (E1 != 0) = true := nzH hz
        clear hz
        go_wp2_with fail
        refine (awake6 _ (hT.below B3)).mono ?_
        rintro e w20 ⟨rfl, hb20⟩
        go_wp2
        go_ret
        exact ⟨rfl, tw B3 hb20⟩
theorem lawHangSumsZ (At : Option Addr) (ct : Nat) (tb : List Twn) (A : Option Addr) (c : Nat) (l : List Lin) (P Q : Int) (w : World) (hT : Tab w) (hTb : OKV Twn.c 3 w At ct tb) (hA : OKV Lin.c 4 w A c l) (p0 : 0 ≤ P) (p1 : P < 256) (q0 : 0 ≤ Q) (q1 : Q < 256) :
    Calls Tryz.prog 13 #[.slice At tb.length ct, .slice A l.length c, .agg #[.int .u8 P, .int .u8 Q]] w fun e w' => e = .returned (.bool true) ∧ Below w.heap.size w w' := by
  obtain ⟨p, rfl⟩ : ∃ p : Nat, P = (p : Int) := ⟨P.toNat, by omega⟩
  obtain ⟨q, rfl⟩ : ∃ q : Nat, Q = (q : Int) := ⟨Q.toNat, by omega⟩
  exact lawHangSums At ct tb A c l p q w hT hTb hA (by omega) (by omega)
end Go.Proofs.YtlkeejhaodedmaaGreatDoor
