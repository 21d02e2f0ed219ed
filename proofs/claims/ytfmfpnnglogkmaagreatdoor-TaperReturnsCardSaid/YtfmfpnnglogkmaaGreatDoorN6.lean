/- Helpers: N6. -/
import Derived.Test.YtfmfpnnglogkmaaGreatDoorN5
import Derived.Deep.RegionHeld3
/- Nearest of the reference of chapter 2: the walk. -/
namespace Go.Proofs.YtfmfpnnglogkmaaGreatDoor
open Go.RowKit Go.Shelf Ck

theorem Holds.last {P D n a b c d : Nat} {s : ByteArray} (h : Holds P D (n + 1) 0 s) (F : NrF P D n a b c d) : s = nearWord P D (nearC P D a b c d).1 (nearC P D a b c d).2 := by
  have hq : ∀ x, snQ (n + 1) 0 x ↔ AllW n x := fun x => by simp only [snQ, AllW]; omega
  rcases h with ⟨h1, h2⟩ | ⟨p, q, h1, h2⟩
  · exact absurd F.best.y (h2 _ ((hq _).2 F.best.is))
  · have k := h2.of_iff (t := AllW n) fun x => (hq x).symm
    have e := BestOf.same (fun x hx => hx.1) k F.best
    rw [h1, ← e]
set_option maxHeartbeats 4000000 in
set_option maxRecDepth 100000 in
theorem rfNearest (P D n : Nat) (S : ByteArray) (w : World) (hP : P ≤ 999999999) (hD1 : 1 ≤ D) (hD : D ≤ 999999999) (hn2 : n ≤ 64) (hS : ∀ s, Holds P D (n + 1) 0 s → s = S) :
    Calls Tryz.prog 13 #[.agg #[.int .i64 P, .int .i64 D], .int .i64 n] w fun e w' => e = .returned (.string S) ∧ Below w.heap.size w w' := by
  obtain ⟨w1, hw1, k0, hb1, hz1⟩ := boxH2 w (.int .i64 P) (.int .i64 D) 23
  have HW1 := Lib.hid hw1
  have HS := Lib.hid hS
  have H0 := Lib.hid (show Holds P D 1 0 ⟨#[]⟩ from .inl ⟨rfl, fun x hx => by obtain ⟨p, q⟩ := x; simp only [snQ] at hx; omega⟩)
  clear hw1 hz1 hS
  go_enter Tryz.func13, Tryz.ntmps13
  go_wp2_with fail
  rw [← HW1.out]
  go_loopg [5, 6, 7, 8, 9] n (fun k sv lv _ _ _ wi => ∃ (L : Nat) (s : ByteArray), k = n + 1 - L ∧ 1 ≤ L ∧ L ≤ n + 1 ∧ sv = .string s ∧ lv = .int .i64 L ∧ Holds P D L 0 s ∧ wi.heap[w.heap.size]? = some (.cells #[.int .i64 P, .int .i64 D] 23 (0, 0)) ∧ Below w.heap.size w wi)
  case atStart => exact ⟨1, _, by omega, by omega, by omega, rfl, rfl, H0.out, k0, hb1⟩
  case round =>
    obtain ⟨L, s, hk, hL1, hL, rfl, rfl, hH, kr, hbr⟩ := hrel
    clear k0 hb1
    by_cases hLn : L ≤ n
    · have HH := Lib.hid hH
      clear hH
      go_wp2_with fail
      go_loopg [5, 7, 8, 9] (L + 1) (fun k sv bv _ _ wi => ∃ (B : Nat) (s : ByteArray), k = L + 1 - B ∧ B ≤ L + 1 ∧ sv = .string s ∧ bv = .int .i64 B ∧ Holds P D L B s ∧ wi.heap[w.heap.size]? = some (.cells #[.int .i64 P, .int .i64 D] 23 (0, 0)) ∧ Below w.heap.size w wi)
      case atStart => exact ⟨0, _, by omega, by omega, rfl, rfl, HH.out, kr, hbr⟩
      case round =>
        clear kr hbr HH
        obtain ⟨B, s, hk2, hB, rfl, rfl, hH, kr, hbr⟩ := hrel
        by_cases hBL : B ≤ L
        · have HH := Lib.hid hH
          obtain ⟨c0, c1, -, -⟩ := two_cell kr
          obtain ⟨T, hT⟩ : ∃ T, nearWord P D B L = T := ⟨_, rfl⟩
          have HT := Lib.hid hT
          have HTW := Lib.hid (show strA (spreadL [66] B [otherC P D] (L - B) L) = T from hT)
          have WT : Word T := by rw [← hT]; exact nearWord_word hL1 (by omega)
          have zT : T.size = L := by rw [← hT]; exact near_size P D B L
          have HWT := Lib.hid WT
          have HZT := Lib.hid zT
          clear hH hT WT zT
          go_wp2_with fail
          refine (rfWord P D B L _ hBL (by omega)).mono ?_
          rintro e W2 ⟨rfl, hb2⟩
          rw [HTW.out]
          have k2 := (hb2.block _ (Array.getElem?_eq_some_iff.1 kr).1).trans kr
          have B2 := hbr.trans (hb2.mono hbr.size)
          clear kr hbr hb2 c0 c1
          obtain ⟨c0, c1, -, -⟩ := two_cell k2
          by_cases b0 : B = 0
          case' neg =>
            have hb0 : ((B : Int) == 0) = false := by rw [beq_eq_false_iff_ne]; omega
            have HY := Lib.hid (yW_pos (P := P) (Q := D) hBL hL1 (fun _ => by omega))
            have HBz := Lib.hid True.intro
            have k3 := k2
            have B3 := B2
            clear k2 B2 b0
          case' pos =>
            have hb0 : ((B : Int) == 0) = true := by rw [beq_iff_eq]; omega
            have HBz := Lib.hid (show (1 : Int) = ((B + 1 : Nat) : Int) by omega)
            go_wp2_with fail
            refine (rfSteepB P D _ _ rfl).mono ?_
            rintro e W3 ⟨rfl, hb3⟩
            have k3 := (hb3.block _ (Array.getElem?_eq_some_iff.1 k2).1).trans k2
            have B3 := B2.trans (hb3.mono B2.size)
            clear k2 B2 hb3 c0 c1
            obtain ⟨c0, c1, -, -⟩ := two_cell k3
            by_cases hs : D < P
            · have HN := Lib.hid (HH.out.skip hL1 hBL (by rw [b0]; exact yW_zero hs))
              rw [decide_eq_true hs]
              clear HH b0 hs
              go_wp2
              go_roundg (L + 1 - (B + 1))
              case rel => exact ⟨B + 1, _, by omega, by omega, rfl, by first | go_num | exact congrArg (Value.int .i64) HBz.out, HN.out, k3, B3⟩
              case measure => omega
            rw [decide_eq_false hs]
            have HY := Lib.hid (yW_pos (P := P) (Q := D) hBL hL1 (fun h => absurd h hs))
            clear b0 hs
          all_goals
            rcases HH.out with ⟨rfl, hN⟩ | ⟨a, b, rfl, hBst⟩
            · have HN := Lib.hid (show Holds P D L (B + 1) T from .inr ⟨B, L, HT.out.symm, hN.one hL1 hBL HY.out⟩)
              clear HH hN
              go_wp2
              go_roundg (L + 1 - (B + 1))
              case rel => exact ⟨B + 1, _, by omega, by omega, rfl, by first | go_num | exact congrArg (Value.int .i64) HBz.out, HN.out, k3, B3⟩
              case measure => omega
            · have hin := hBst.is
              have zb : b ≤ 64 := by have := hin.2.2; simp only at this; omega
              have zb1 : 1 ≤ b := hin.1
              have WU := Lib.hid (nearWord_word (P := P) (D := D) (p := a) zb1 zb)
              have eU := empty_of (P := P) (D := D) (a := a) zb1
              have zU := near_size P D a b
              obtain ⟨X, hX⟩ : ∃ X, cmpG P D T.data.toList (nearWord P D a b).data.toList = X := ⟨_, rfl⟩
              obtain ⟨Y, hY⟩ : ∃ Y, cmpV T.data.toList (nearWord P D a b).data.toList = Y := ⟨_, rfl⟩
              have hbet := bet_prog (P := P) (D := D) hin hL1 hBL X Y (by rw [HT.out]; exact hX) (by rw [HT.out]; exact hY)
              obtain ⟨st1, st2⟩ := best_step hBst hL1 hBL HY.out
              have HTK := Lib.hid (show (X < 0 ∨ (X = 0 ∧ L = b ∧ Y < 0)) → Holds P D L (B + 1) T from fun h => .inr ⟨B, L, HT.out.symm, st1 (hbet.2 h)⟩)
              have HKP := Lib.hid (show ¬ (X < 0 ∨ (X = 0 ∧ L = b ∧ Y < 0)) → Holds P D L (B + 1) (nearWord P D a b) from fun h => .inr ⟨a, b, rfl, st2 (fun hb => h (hbet.1 hb))⟩)
              have HX := Lib.hid hX
              have HYY := Lib.hid hY
              obtain ⟨U, hU⟩ : ∃ U, nearWord P D a b = U := ⟨_, rfl⟩
              rw [hU] at WU eU zU HKP HX HYY ⊢
              have HZU := Lib.hid zU
              clear HH hBst hin hX hY hbet st1 st2 hU HY HT HTW zU
              go_wp2_with fail
              refine (rfNearer P D T U _ (by omega) (by omega) HWT.out WU.out).mono ?_
              rintro e W4 ⟨rfl, hb4⟩
              rw [HX.out]
              have k4 := (hb4.block _ (Array.getElem?_eq_some_iff.1 k3).1).trans k3
              have B4 := B3.trans (hb4.mono B3.size)
              clear k3 B3 hb4 c0 c1
              by_cases x1 : X < 0
              · have HN := Lib.hid (HTK.out (.inl x1))
                clear HTK HKP
                go_wp2
                go_roundg (L + 1 - (B + 1))
                case rel => exact ⟨B + 1, _, by omega, by omega, rfl, by first | go_num | exact congrArg (Value.int .i64) HBz.out, HN.out, k4, B4⟩
                case measure => omega
              · by_cases x2 : X = 0
                · have x2b : (X == 0) = true := by rw [beq_iff_eq]; exact x2
                  by_cases x3 : L = b
                  · have x3b : ((T.size : Int) == (U.size : Int)) = true := by rw [beq_iff_eq, HZT.out, HZU.out]; omega
                    have HTK2 := Lib.hid (fun (h : Y < 0) => HTK.out (.inr ⟨x2, x3, h⟩))
                    have HKP2 := Lib.hid (fun (h : ¬ Y < 0) => HKP.out (fun k => k.elim (fun y => x1 y) (fun l => h l.2.2)))
                    clear HTK HKP x2 x3
                    go_wp2_with fail
                    refine (rfCompare T U _ HWT.out WU.out).mono ?_
                    rintro e W5 ⟨rfl, hb5⟩
                    rw [HYY.out]
                    have k5 := (hb5.block _ (Array.getElem?_eq_some_iff.1 k4).1).trans k4
                    have B5 := B4.trans (hb5.mono B4.size)
                    clear k4 B4 hb5
                    by_cases x4 : Y < 0
                    · have HN := Lib.hid (HTK2.out (by omega))
                      clear HTK2 HKP2
                      go_wp2
                      go_roundg (L + 1 - (B + 1))
                      case rel => exact ⟨B + 1, _, by omega, by omega, rfl, by first | go_num | exact congrArg (Value.int .i64) HBz.out, HN.out, k5, B5⟩
                      case measure => omega
                    · have HN := Lib.hid (HKP2.out (by omega))
                      clear HTK2 HKP2
                      go_wp2
                      go_roundg (L + 1 - (B + 1))
                      case rel => exact ⟨B + 1, _, by omega, by omega, rfl, by first | go_num | exact congrArg (Value.int .i64) HBz.out, HN.out, k5, B5⟩
                      case measure => omega
                  · have x3b : ((T.size : Int) == (U.size : Int)) = false := by rw [beq_eq_false_iff_ne, HZT.out, HZU.out]; omega
                    have HN := Lib.hid (HKP.out (fun k => k.elim x1 (fun l => x3 l.2.1)))
                    clear HTK HKP x2 x3
                    go_wp2
                    go_roundg (L + 1 - (B + 1))
                    case rel => exact ⟨B + 1, _, by omega, by omega, rfl, by first | go_num | exact congrArg (Value.int .i64) HBz.out, HN.out, k4, B4⟩
                    case measure => omega
                · have x2b : (X == 0) = false := by rw [beq_eq_false_iff_ne]; exact x2
                  have HN := Lib.hid (HKP.out (fun k => k.elim x1 (fun l => x2 l.1)))
                  clear HTK HKP x2
                  go_wp2
                  go_roundg (L + 1 - (B + 1))
                  case rel => exact ⟨B + 1, _, by omega, by omega, rfl, by first | go_num | exact congrArg (Value.int .i64) HBz.out, HN.out, k4, B4⟩
                  case measure => omega
        · obtain rfl : B = L + 1 := by omega
          have HN := Lib.hid hH.row
          clear hH
          go_wp2
          go_roundg (n + 1 - (L + 1))
          case rel => exact ⟨L + 1, _, by omega, by omega, by omega, rfl, by go_num, HN.out, kr, hbr⟩
          case measure => omega
    · obtain rfl : L = n + 1 := by omega
      have HE := HS.out _ hH
      subst HE
      clear hH HS
      go_wp2
      go_ret
      exact ⟨rfl, hbr⟩
end Go.Proofs.YtfmfpnnglogkmaaGreatDoor

/- Three boxes, one behind the other. -/
namespace Go.Proofs.YtfmfpnnglogkmaaGreatDoor
open Go.RowKit Go.Shelf Ck

theorem boxH3 (w : World) (o0 o1 o2 : Obj) : ∃ w1, w1 = ((w.alloc o0).alloc o1).alloc o2 ∧ w1.heap[w.heap.size]? = some o0 ∧ w1.heap[w.heap.size + 1]? = some o1 ∧ w1.heap[w.heap.size + 2]? = some o2 ∧ Below w.heap.size w w1 ∧ w1.heap.size = w.heap.size + 3 := by
  obtain ⟨w1, hw1, e0, e1, e2, e3, hb, hz⟩ := boxH4 w o0 o1 o2 o2
  refine ⟨_, rfl, ?_, ?_, ?_, (((Below.refl _ _).alloc (Nat.le_refl _) _).alloc (by simp) _).alloc (by simp only [World.size_alloc]; omega) _, by simp⟩
  · rw [hw1, Below.heap_alloc _ _ _ (by simp only [World.size_alloc]; omega)] at e0
    exact e0
  · rw [hw1, Below.heap_alloc _ _ _ (by simp only [World.size_alloc]; omega)] at e1
    exact e1
  · rw [hw1, Below.heap_alloc _ _ _ (by simp only [World.size_alloc]; omega)] at e2
    exact e2
/-- Three boxes of two cells each, read behind whatever only makes new memory. -/
structure BoxT (W0 : World) (g h k : Nat) (a b c d N D : Value) (ta tb tc : TypeId) (W : World) : Prop where
  x : W.heap[g]? = some (.cells #[a, b] ta (0, 0))
  y : W.heap[h]? = some (.cells #[c, d] tb (0, 0))
  z : W.heap[k]? = some (.cells #[N, D] tc (0, 0))
  b : Below W0.heap.size W0 W
theorem BoxT.below {W0 W W' : World} {g h k : Nat} {a b c d N D : Value} {ta tb tc : TypeId} (H : BoxT W0 g h k a b c d N D ta tb tc W) (hb : Below W.heap.size W W') : BoxT W0 g h k a b c d N D ta tb tc W' :=
  ⟨(hb.block _ (Array.getElem?_eq_some_iff.1 H.x).1).trans H.x, (hb.block _ (Array.getElem?_eq_some_iff.1 H.y).1).trans H.y, (hb.block _ (Array.getElem?_eq_some_iff.1 H.z).1).trans H.z, H.b.trans (hb.mono H.b.size)⟩
end Go.Proofs.YtfmfpnnglogkmaaGreatDoor

/- Neighbours of the reference of chapter 2. -/
namespace Go.Proofs.YtfmfpnnglogkmaaGreatDoor
open Go.RowKit Go.Shelf Ck

/-- The parts that two loops have seen. -/
def snP (L B p q : Nat) : Prop := (q < L ∧ p ≤ q) ∨ (q = L ∧ p < B)
structure NbJ (N D n L B a b c d : Nat) : Prop where
  s : NbSeen N D (snP L B) a b c d
  a64 : a ≤ 64
  c64 : c ≤ 64
  bn : b ≤ n
  dn : d ≤ n
theorem NbJ.skip {N D n L B a b c d : Nat} (h : NbJ N D n L B a b c d) (hg : B.gcd L ≠ 1) : NbJ N D n L (B + 1) a b c d :=
  ⟨(h.s.skip hg).of_iff fun x y hx => by simp only [snP] at hx ⊢; omega, h.a64, h.c64, h.bn, h.dn⟩
theorem NbJ.next {N D n L B a b c d x y u v : Nat} (h : NbJ N D n L B a b c d) (hL : 1 ≤ L) (hLn : L ≤ n) (hn : n ≤ 64) (hB : B ≤ L) (hg : B.gcd L = 1)
    (h1 : loNext N D B L a b = (x, y)) (h2 : hiNext N D B L c d = (u, v)) : NbJ N D n L (B + 1) x y u v := by
  have hs := (h.s.next hL hg).of_iff (t := snP L (B + 1)) fun x y hx => by simp only [snP] at hx ⊢; omega
  rw [h1, h2] at hs
  have e1 : (x = B ∧ y = L) ∨ (x = a ∧ y = b) := by
    rw [loNext] at h1
    split at h1
    · exact .inl ⟨(congrArg Prod.fst h1).symm, (congrArg Prod.snd h1).symm⟩
    · exact .inr ⟨(congrArg Prod.fst h1).symm, (congrArg Prod.snd h1).symm⟩
  have e2 : (u = B ∧ v = L) ∨ (u = c ∧ v = d) := by
    rw [hiNext] at h2
    split at h2
    · exact .inl ⟨(congrArg Prod.fst h2).symm, (congrArg Prod.snd h2).symm⟩
    · exact .inr ⟨(congrArg Prod.fst h2).symm, (congrArg Prod.snd h2).symm⟩
  have := h.a64
  have := h.c64
  have := h.bn
  have := h.dn
  exact ⟨hs, by omega, by omega, by omega, by omega⟩
theorem NbJ.row {N D n L a b c d : Nat} (h : NbJ N D n L (L + 1) a b c d) : NbJ N D n (L + 1) 0 a b c d :=
  ⟨h.s.of_iff fun x y hx => by simp only [snP] at hx ⊢; omega, h.a64, h.c64, h.bn, h.dn⟩
theorem NbJ.start {N D n : Nat} (hND : N ≤ D) (hn : 1 ≤ n) : NbJ N D n 1 0 0 1 1 1 := by
  have h := NbSeen.start hND
  refine ⟨⟨h.b1, h.d1, h.ga, h.gc, h.lo, h.hi, fun p q hs => ?_, fun p q hs => ?_⟩, by omega, by omega, hn, hn⟩
  · simp only [snP] at hs
    omega
  · simp only [snP] at hs
    omega
theorem NbJ.last {N D n a b c d a' b' c' d' : Nat} (hD : 1 ≤ D) (hE : NbE N D n a b c d) (h : NbJ N D n (n + 1) 0 a' b' c' d') : a' = a ∧ b' = b ∧ c' = c ∧ d' = d :=
  nb_same hD hE (h.s.of_iff fun x y hx => by simp only [snP]; omega) h.bn h.dn
theorem sideI_le {a b c d : Nat} : sideI a b c d ≤ 0 ↔ a * d ≤ c * b := by
  unfold sideI
  split <;> (try split) <;> omega
theorem sideI_ge {a b c d : Nat} : 0 ≤ sideI a b c d ↔ c * b ≤ a * d := by
  unfold sideI
  split <;> (try split) <;> omega
/-- Neighbours' boxes. -/
structure NbW (W0 : World) (g N D a b c d : Nat) (W : World) : Prop where
  r : W.heap[W0.heap.size + 1]? = some (.cells #[.int .i64 0, .int .i64 0, .int .i64 0, .int .i64 0] 26 (0, 0))
  s : W.heap[g]? = some (.cells #[.int .i64 N, .int .i64 D] 23 (0, 0))
  l : W.heap[g + 1]? = some (.cells #[.int .i64 a, .int .i64 b] 25 (0, 0))
  h : W.heap[g + 1 + 1]? = some (.cells #[.int .i64 c, .int .i64 d] 25 (0, 0))
  gs : W0.heap.size + 2 ≤ g
  b : Below W0.heap.size W0 W
theorem NbW.below {W0 W W' : World} {g N D a b c d : Nat} (h : NbW W0 g N D a b c d W) (hb : Below W.heap.size W W') : NbW W0 g N D a b c d W' :=
  ⟨(hb.block _ (Array.getElem?_eq_some_iff.1 h.r).1).trans h.r, (hb.block _ (Array.getElem?_eq_some_iff.1 h.s).1).trans h.s, (hb.block _ (Array.getElem?_eq_some_iff.1 h.l).1).trans h.l, (hb.block _ (Array.getElem?_eq_some_iff.1 h.h).1).trans h.h, h.gs, h.b.trans (hb.mono h.b.size)⟩
theorem NbW.low {W0 W : World} {g N D a b c d : Nat} (h : NbW W0 g N D a b c d W) (p q : Nat) : NbW W0 g N D p q c d ((W.setCell ⟨g + 1, 0, none⟩ (.int .i64 p)).setCell ⟨g + 1, 1, none⟩ (.int .i64 q)) := by
  obtain ⟨s1, s2⟩ := two_set h.l (.int .i64 p) (.int .i64 q)
  have hg := h.gs
  have hz := h.b.size
  exact ⟨(s2.block _ (Array.getElem?_eq_some_iff.1 h.r).1 (fun e => by injection e; omega)).trans h.r, (s2.block _ (Array.getElem?_eq_some_iff.1 h.s).1 (fun e => by injection e; omega)).trans h.s, s1, (s2.block _ (Array.getElem?_eq_some_iff.1 h.h).1 (fun e => by injection e; omega)).trans h.h, hg, h.b.grown s2 hz (fun j e => by cases e; omega)⟩
theorem NbW.high {W0 W : World} {g N D a b c d : Nat} (h : NbW W0 g N D a b c d W) (p q : Nat) : NbW W0 g N D a b p q ((W.setCell ⟨g + 1 + 1, 0, none⟩ (.int .i64 p)).setCell ⟨g + 1 + 1, 1, none⟩ (.int .i64 q)) := by
  obtain ⟨s1, s2⟩ := two_set h.h (.int .i64 p) (.int .i64 q)
  have hg := h.gs
  have hz := h.b.size
  exact ⟨(s2.block _ (Array.getElem?_eq_some_iff.1 h.r).1 (fun e => by injection e; omega)).trans h.r, (s2.block _ (Array.getElem?_eq_some_iff.1 h.s).1 (fun e => by injection e; omega)).trans h.s, (s2.block _ (Array.getElem?_eq_some_iff.1 h.l).1 (fun e => by injection e; omega)).trans h.l, s1, hg, h.b.grown s2 hz (fun j e => by cases e; omega)⟩
theorem box24 (w : World) (a b : Value) (t t' : TypeId) (x y u v : Value) : ∃ w1, w1 = (w.alloc (.cells #[a, b] t)).alloc (.cells #[x, y, u, v] t') ∧ w1.heap[w.heap.size]? = some (.cells #[a, b] t (0, 0)) ∧ w1.heap[w.heap.size + 1]? = some (.cells #[x, y, u, v] t' (0, 0)) ∧ Below w.heap.size w w1 ∧ w1.heap.size = w.heap.size + 2 := by
  refine ⟨_, rfl, ?_, ?_, ((Below.refl _ _).alloc (Nat.le_refl _) _).alloc (by simp) _, by simp⟩
  · rw [Below.heap_alloc _ _ _ (by simp)]
    exact heap_alloc_new _ _
  · have := heap_alloc_new (w.alloc (.cells #[a, b] t)) (.cells #[x, y, u, v] t')
    rwa [World.size_alloc] at this
set_option maxHeartbeats 4000000 in
set_option maxRecDepth 100000 in
theorem rfNeighbours (P D n a b c d : Nat) (w : World) (hP : P ≤ 999999999) (hD1 : 1 ≤ D) (hD : D ≤ 999999999) (hn : 1 ≤ n) (hn2 : n ≤ 64) (hR : nbF (shareB P D) (shareL P D) n n 0 1 1 1 = (a, b, c, d)) :
    Calls Tryz.prog 12 #[.agg #[.int .i64 P, .int .i64 D], .int .i64 n] w fun e w' => e = .returned (.agg #[.int .i64 a, .int .i64 b, .int .i64 c, .int .i64 d]) ∧ Below w.heap.size w w' := by
  obtain ⟨s1, s2, s3⟩ := shareL_pos (P := P) hD1
  have HE := Lib.hid (nb_end hn s3 hR)
  obtain ⟨N, hN⟩ : ∃ N, shareB P D = N := ⟨_, rfl⟩
  obtain ⟨M, hM⟩ : ∃ M, shareL P D = M := ⟨_, rfl⟩
  rw [hN] at s3 HE
  rw [hM] at s1 s2 s3 HE
  have HN := Lib.hid hN
  have HM := Lib.hid hM
  have HJ := Lib.hid (NbJ.start (n := n) s3 hn)
  obtain ⟨w1, hw1, e0, e1, hb1, hz1⟩ := box24 w (.int .i64 P) (.int .i64 D) 23 26 (.int .i64 0) (.int .i64 0) (.int .i64 0) (.int .i64 0)
  have HW1 := Lib.hid hw1
  obtain ⟨p0, p1, -, -⟩ := two_cell e0
  have hz1' := Lib.hid hz1
  clear hR hN hM hw1 hz1
  go_enter Tryz.func12, Tryz.ntmps12
  go_wp2_with fail
  rw [← HW1.out]
  refine (rfShare P D _ hD1 (by omega) (by omega)).mono ?_
  rintro e w2 ⟨rfl, hb2⟩
  rw [HN.out, HM.out]
  obtain ⟨w3, hw3, q0, q1, q2, hb3, hz3⟩ := boxH3 w2 (.cells #[.int .i64 N, .int .i64 M] 23) (.cells #[.int .i64 0, .int .i64 1] 25) (.cells #[.int .i64 1, .int .i64 1] 25)
  have HW3 := Lib.hid hw3
  have H0 := Lib.hid (show NbW w w2.heap.size N M 0 1 1 1 w3 from ⟨((hb2.trans (hb3.mono hb2.size)).block _ (Array.getElem?_eq_some_iff.1 e1).1).trans e1, q0, q1, q2, by have := hb2.size; have := hz1'.out; omega, (hb1.trans (hb2.mono hb1.size)).trans (hb3.mono (Nat.le_trans hb1.size hb2.size))⟩)
  obtain ⟨g, hg⟩ : ∃ g, w2.heap.size = g := ⟨_, rfl⟩
  rw [hg] at H0
  have HG := Lib.hid hg
  clear hw3 q0 q1 q2 hb3 hz3 e0 e1 p0 p1 hb1 hb2 hg
  go_wp2_with fail
  rw [← HW3.out, HG.out]
  go_loopg [8, 9, 10] n (fun k lv _ _ wi => ∃ L p q r s : Nat, k = n + 1 - L ∧ 1 ≤ L ∧ L ≤ n + 1 ∧ lv = .int .i64 L ∧ NbJ N M n L 0 p q r s ∧ NbW w g N M p q r s wi)
  case atStart => exact ⟨1, 0, 1, 1, 1, by omega, by omega, by omega, rfl, HJ.out, H0.out⟩
  case round =>
    obtain ⟨L, p, q, r, s, hk, hL1, hL, rfl, hJ, hw⟩ := hrel
    by_cases hLn : L ≤ n
    · have HJ0 := Lib.hid hJ
      clear hJ
      go_wp2_with fail
      go_loopg [9, 10] (L + 1) (fun k bv _ wi => ∃ B p q r s : Nat, k = L + 1 - B ∧ B ≤ L + 1 ∧ bv = .int .i64 B ∧ NbJ N M n L B p q r s ∧ NbW w g N M p q r s wi)
      case atStart => exact ⟨0, p, q, r, s, by omega, by omega, rfl, HJ0.out, hw⟩
      case round =>
        clear hw HJ0
        obtain ⟨B, p, q, r, s, hk2, hB, rfl, hJ, hw⟩ := hrel
        by_cases hBL : B ≤ L
        · have b1 := hJ.a64
          have b2 := hJ.c64
          have b3 := hJ.bn
          have b4 := hJ.dn
          have HJB := Lib.hid hJ
          obtain ⟨W1, hW1, m0, bb1, bz1⟩ := boxH2 wr (.int .i64 B) (.int .i64 L) 25
          have HW1 := Lib.hid hW1
          have nw := hw.below bb1
          have hz2 := (Array.getElem?_eq_some_iff.1 hw.h).1
          obtain ⟨c0, c1, -, -⟩ := two_cell m0
          clear hJ hW1 hw bb1 bz1
          go_wp2_with fail
          rw [← HW1.out]
          refine (refGcd B L _ (by omega) (by omega)).mono ?_
          rintro e W2 ⟨rfl, hb2⟩
          have nw2 := nw.below hb2
          have m2 := (hb2.block _ (Array.getElem?_eq_some_iff.1 m0).1).trans m0
          clear nw hb2 m0 c0 c1
          obtain ⟨c0, c1, -, -⟩ := two_cell m2
          have zp : g + 1 + 1 < wr.heap.size := hz2
          by_cases hg : B.gcd L = 1
          · have HS := Lib.hid (fun x y u v h1 h2 => HJB.out.next (x := x) (y := y) (u := u) (v := v) hL1 hLn hn2 hBL hg h1 h2)
            obtain ⟨v, hv⟩ : ∃ v, sideI B L N M = v := ⟨_, rfl⟩
            have hvl := sideI_le (a := B) (b := L) (c := N) (d := M)
            have hvg := sideI_ge (a := B) (b := L) (c := N) (d := M)
            rw [hv] at hvl hvg
            have HV := Lib.hid hv
            have HVL := Lib.hid hvl
            have HVG := Lib.hid hvg
            obtain ⟨q0, q1, -, -⟩ := two_cell nw2.s
            rw [hg]
            clear hv hvl hvg hg HJB
            go_wp2_with fail
            refine (rfSide B L N M _ (by omega) (by omega) (by omega) (by omega)).mono ?_
            rintro e W3 ⟨rfl, hb3⟩
            rw [HV.out]
            have nw3 := nw2.below hb3
            have m3 := (hb3.block _ (Array.getElem?_eq_some_iff.1 m2).1).trans m2
            clear nw2 hb3 m2 c0 c1 q0 q1
            obtain ⟨c0, c1, -, -⟩ := two_cell m3
            obtain ⟨q0, q1, -, -⟩ := two_cell nw3.s
            obtain ⟨l0, l1, l2, l3⟩ := two_cell nw3.l
            by_cases e1 : B * M ≤ N * L
            case' neg =>
              have v1 : ¬ v ≤ 0 := fun h => e1 (HVL.out.1 h)
              have HS2 := Lib.hid (fun u v => HS.out p q u v (by rw [loNext, if_neg (fun h => e1 h.1)]))
              have nwX := nw3
              have mX := m3
              clear e1 HS
              go_wp2_with fail
              clear v1
            case' pos =>
              have v1 : v ≤ 0 := HVL.out.2 e1
              go_wp2_with fail
              refine (rfLess p q B L _ (by omega) (by omega) (by omega) (by omega)).mono ?_
              rintro e W4 ⟨rfl, hb4⟩
              have nw4 := nw3.below hb4
              have m4 := (hb4.block _ (Array.getElem?_eq_some_iff.1 m3).1).trans m3
              clear nw3 hb4 m3 c0 c1 q0 q1 l0 l1 l2 l3
              obtain ⟨c0, c1, -, -⟩ := two_cell m4
              obtain ⟨q0, q1, -, -⟩ := two_cell nw4.s
              obtain ⟨l0, l1, l2, l3⟩ := two_cell nw4.l
              by_cases e2 : p * L < B * q
              case' pos =>
                have HS2 := Lib.hid (fun u v => HS.out B L u v (by rw [loNext, if_pos ⟨e1, e2⟩]))
                have nwX := nw4.low B L
                have mX := ((two_set nw4.l (.int .i64 B) (.int .i64 L)).2.block _ (Array.getElem?_eq_some_iff.1 m4).1 (fun e => by injection e; omega)).trans m4
                obtain ⟨x0, x1, -, -⟩ := two_cell mX
                obtain ⟨y0, y1, -, -⟩ := two_cell nwX.s
                rw [decide_eq_true e2]
                clear e1 e2 HS v1
                go_wp2_with fail
              case' neg =>
                have HS2 := Lib.hid (fun u v => HS.out p q u v (by rw [loNext, if_neg (fun h => e2 h.2)]))
                have nwX := nw4
                have mX := m4
                rw [decide_eq_false e2]
                clear e1 e2 HS v1
                go_wp2_with fail
            all_goals
              refine (rfSide B L N M _ (by omega) (by omega) (by omega) (by omega)).mono ?_
              rintro e W6 ⟨rfl, hb6⟩
              rw [HV.out]
              have nw6 := nwX.below hb6
              have m6 := (hb6.block _ (Array.getElem?_eq_some_iff.1 mX).1).trans mX
              clear nwX hb6 mX c0 c1 q0 q1 l0 l1 l2 l3
              obtain ⟨c0, c1, -, -⟩ := two_cell m6
              obtain ⟨q0, q1, -, -⟩ := two_cell nw6.h
              by_cases e3 : N * L ≤ B * M
              · have v2 : 0 ≤ v := HVG.out.2 e3
                go_wp2_with fail
                refine (rfLess B L r s _ (by omega) (by omega) (by omega) (by omega)).mono ?_
                rintro e W7 ⟨rfl, hb7⟩
                have nw7 := nw6.below hb7
                have m7 := (hb7.block _ (Array.getElem?_eq_some_iff.1 m6).1).trans m6
                clear nw6 hb7 m6 c0 c1 q0 q1 v2
                obtain ⟨c0, c1, -, -⟩ := two_cell m7
                obtain ⟨q0, q1, q2, q3⟩ := two_cell nw7.h
                by_cases e4 : B * s < r * L
                · have HS3 := Lib.hid (HS2.out B L (by rw [hiNext, if_pos ⟨e3, e4⟩]))
                  have nw8 := nw7.high B L
                  rw [decide_eq_true e4]
                  clear e3 e4 HS2
                  go_wp2
                  go_roundg (L + 1 - (B + 1))
                  case rel => exact ⟨B + 1, _, _, _, _, by omega, by omega, by go_num, HS3.out, nw8⟩
                  case measure => omega
                · have HS3 := Lib.hid (HS2.out r s (by rw [hiNext, if_neg (fun h => e4 h.2)]))
                  rw [decide_eq_false e4]
                  clear e3 e4 HS2
                  go_wp2
                  go_roundg (L + 1 - (B + 1))
                  case rel => exact ⟨B + 1, _, _, _, _, by omega, by omega, by go_num, HS3.out, nw7⟩
                  case measure => omega
              · have v2 : ¬ 0 ≤ v := fun h => e3 (HVG.out.1 h)
                have HS3 := Lib.hid (HS2.out r s (by rw [hiNext, if_neg (fun h => e3 h.1)]))
                clear e3 HS2
                go_wp2
                all_goals
                  go_roundg (L + 1 - (B + 1))
                  case rel => exact ⟨B + 1, _, _, _, _, by omega, by omega, by go_num, HS3.out, nw6⟩
                  case measure => omega
          · have HS := Lib.hid (HJB.out.skip hg)
            obtain ⟨v, hv⟩ : ∃ v, B.gcd L = v := ⟨_, rfl⟩
            have hne : ((v : Int) != 1) = true := by rw [bne_iff_ne]; omega
            rw [hv]
            clear hv hg HJB
            go_wp2
            go_roundg (L + 1 - (B + 1))
            case rel => exact ⟨B + 1, _, _, _, _, by omega, by omega, by go_num, HS.out, nw2⟩
            case measure => omega
        · obtain rfl : B = L + 1 := by omega
          have HS := Lib.hid hJ.row
          clear hJ
          go_wp2
          go_roundg (n + 1 - (L + 1))
          case rel => exact ⟨L + 1, _, _, _, _, by omega, by omega, by omega, by go_num, HS.out, hw⟩
          case measure => omega
    · obtain rfl : L = n + 1 := by omega
      obtain ⟨rfl, rfl, rfl, rfl⟩ := hJ.last (by omega) HE.out
      obtain ⟨l0, l1, -, -⟩ := two_cell hw.l
      obtain ⟨h0, h1, -, -⟩ := two_cell hw.h
      obtain ⟨⟨a0, a1, a2, a3⟩, g0, g1, g2, g3⟩ := four_cell hw.r
      obtain ⟨s3, s4⟩ := four_set hw.r (.int .i64 p) (.int .i64 q) (.int .i64 r) (.int .i64 s)
      have bf := hw.b.grown s4 hw.b.size (fun j e => by cases e; omega)
      obtain ⟨⟨t0, t1, t2, t3⟩, -, -, -, -⟩ := four_cell s3
      clear s3 s4 hJ hw HE
      go_wp2
      exact bodyPost_ret (v := .agg #[.int .i64 p, .int .i64 q, .int .i64 r, .int .i64 s]) (by simp [results, Tryz.results12, go_sem, t0, t1, t2, t3]) rfl ⟨rfl, bf⟩
end Go.Proofs.YtfmfpnnglogkmaaGreatDoor

/- CheckNeighbours of taper at all arguments. -/
namespace Go.Proofs.YtfmfpnnglogkmaaGreatDoor
open Go.RowKit Go.Shelf Ck

set_option maxHeartbeats 1000000 in
theorem tpIsLowest (a b n : Int) (w : World) (hn : n ≤ 1000) :
    Calls Tryz.prog 93 #[.agg #[.int .i64 a, .int .i64 b], .int .i64 n] w fun e w' => e = .returned (.bool (fracB a b n)) ∧ Below w.heap.size w w' := by
  obtain ⟨w1, hw1, h0, hb1, hz1⟩ := boxH2 w (.int .i64 a) (.int .i64 b) 28
  obtain ⟨p0, p1, -, -⟩ := two_cell h0
  have HW1 := Lib.hid hw1
  have HK := Lib.hid h0
  clear hw1 h0
  by_cases c1 : 1 ≤ b
  · by_cases c2 : b ≤ n
    · by_cases c3 : 0 ≤ a
      · by_cases c4 : a ≤ b
        · obtain ⟨A, rfl⟩ : ∃ A : Nat, a = (A : Int) := ⟨a.toNat, by omega⟩
          obtain ⟨B, rfl⟩ : ∃ B : Nat, b = (B : Int) := ⟨b.toNat, by omega⟩
          have HG := Lib.hid (show fracB A B n = decide (A.gcd B = 1) by
            rw [fracB, Int.toNat_natCast, Int.toNat_natCast]
            exact decide_eq_decide.2 ⟨fun h => h.2.2.2.2, fun h => ⟨c1, c2, c3, c4, h⟩⟩)
          rw [HG.out]
          have hA : A ≤ 1000 := by omega
          have hB : B ≤ 1000 := by omega
          go_enter Tryz.func93, Tryz.ntmps93
          go_wp2_with fail
          rw [← HW1.out]
          go_wp2_with fail
          refine (tpDivisor A B _ (by omega) (by omega)).mono ?_
          rintro e w2 ⟨rfl, hb2⟩
          have B2 := hb1.trans (hb2.mono hb1.size)
          have hg : ((A.gcd B : Nat) : Int) ≤ 1000 := by
            have : A.gcd B ≤ B := Nat.le_of_dvd (by omega) (Nat.gcd_dvd_right A B)
            omega
          obtain ⟨g, hgg⟩ : ∃ g, A.gcd B = g := ⟨_, rfl⟩
          rw [hgg] at hg ⊢
          have HGG := Lib.hid hgg
          clear hgg
          have hd : ((g : Int) == 1) = decide (g = 1) := by
            by_cases h : g = 1
            · rw [h]; rfl
            · rw [decide_eq_false h, beq_eq_false_iff_ne]
              omega
          go_wp2
          go_ret
          exact ⟨ret_b (decide_eq_decide.2 (by rw [HGG.out])), B2⟩
        · rw [fracB, decide_eq_false (by omega)]
          go_enter Tryz.func93, Tryz.ntmps93
          go_wp2_with fail
          rw [← HW1.out]
          go_wp2
          go_ret
          exact ⟨ret_b (by simp), hb1⟩
      · rw [fracB, decide_eq_false (by omega)]
        go_enter Tryz.func93, Tryz.ntmps93
        go_wp2_with fail
        rw [← HW1.out]
        go_wp2
        go_ret
        exact ⟨ret_b (by simp), hb1⟩
    · rw [fracB, decide_eq_false (by omega)]
      go_enter Tryz.func93, Tryz.ntmps93
      go_wp2_with fail
      rw [← HW1.out]
      go_wp2
      go_ret
      exact ⟨ret_b (by simp), hb1⟩
  · rw [fracB, decide_eq_false (by omega)]
    go_enter Tryz.func93, Tryz.ntmps93
    go_wp2_with fail
    rw [← HW1.out]
    go_wp2
    go_ret
    exact ⟨ret_b (by simp), hb1⟩
/-- Do two parts prove that there is none between them? -/
def prvB (N D : Nat) (n a b c d : Int) : Bool := decide (fracB a b n = true ∧ fracB c d n = true ∧ a * D ≤ N * b ∧ N * d ≤ c * D ∧ ((a = c ∧ b = d) ∨ (c * b - a * d = 1 ∧ n < b + d)))
theorem frac_nat {a b n : Int} (h : fracB a b n = true) : ∃ A B : Nat, a = A ∧ b = B ∧ 1 ≤ B ∧ A ≤ B ∧ (B : Int) ≤ n := by
  simp only [fracB, decide_eq_true_eq] at h
  exact ⟨a.toNat, b.toNat, by omega, by omega, by omega, by omega, by omega⟩
theorem guardPart : Tryz.prog.eqGuardType Tryz.prog.depth 28 = false := by kernel_rfl
theorem eqPart (a b c d : Int) (r : Bool) (hr : decide (a = c ∧ b = d) = r) (w : World) : (Op.equalIn 10000 28 (.agg #[.int .i64 a, .int .i64 b]) (.agg #[.int .i64 c, .int .i64 d])).run Tryz.prog w = .ok r w := by
  have u3 := Tryz.underlying3
  have a3 := Tryz.isAgg3
  have z3 := Tryz.sizeOf3
  have hS : Tryz.prog.underlying 28 = some (.struct (Tryz.prog.fieldsOf 28)) := by kernel_rfl
  have hp : Tryz.prog.stoodInHeld 28 = false := by kernel_rfl
  subst hr
  rw [show (10000 : Nat) = 9999 + 1 from rfl, run_equalIn_struct w 9999 28 _ _ hS hp]
  simp only [Program.fieldsOf, Tryz.underlying28]
  go_simp
  by_cases h1 : a = c <;> by_cases h2 : b = d <;> simp [h1, h2]
theorem guardPartR : Tryz.prog.eqGuardType Tryz.prog.depth 25 = false := by kernel_rfl
theorem eqPartR (a b c d : Int) (r : Bool) (hr : decide (a = c ∧ b = d) = r) (w : World) : (Op.equalIn 10000 25 (.agg #[.int .i64 a, .int .i64 b]) (.agg #[.int .i64 c, .int .i64 d])).run Tryz.prog w = .ok r w := by
  have u3 := Tryz.underlying3
  have a3 := Tryz.isAgg3
  have z3 := Tryz.sizeOf3
  have hS : Tryz.prog.underlying 25 = some (.struct (Tryz.prog.fieldsOf 25)) := by kernel_rfl
  have hp : Tryz.prog.stoodInHeld 25 = false := by kernel_rfl
  subst hr
  rw [show (10000 : Nat) = 9999 + 1 from rfl, run_equalIn_struct w 9999 25 _ _ hS hp]
  simp only [Program.fieldsOf, Tryz.underlying25]
  go_simp
  by_cases h1 : a = c <;> by_cases h2 : b = d <;> simp [h1, h2]
theorem cmpI_pos {x y : Int} : 0 < cmpI x y ↔ y < x := by
  unfold cmpI
  split <;> (try split) <;> omega
theorem cmpI_neg' {x y : Int} : cmpI x y < 0 ↔ x < y := by
  unfold cmpI
  split <;> (try split) <;> omega
set_option maxHeartbeats 4000000 in
set_option maxRecDepth 100000 in
theorem tpProve (a b c d : Int) (N D n : Nat) (w : World) (hN : N ≤ 2000000000) (hD : D ≤ 2000000000) (hn : n ≤ 64) :
    Calls Tryz.prog 46 #[.agg #[.int .i64 a, .int .i64 b], .agg #[.int .i64 c, .int .i64 d], .agg #[.int .i64 N, .int .i64 D], .int .i64 n] w fun e w' => e = .returned (.bool (prvB N D n a b c d)) ∧ Below w.heap.size w w' := by
  obtain ⟨w1, hw1, k0, k1, k2, hb1, hz1⟩ := boxH3 w (.cells #[.int .i64 a, .int .i64 b] 28) (.cells #[.int .i64 c, .int .i64 d] 28) (.cells #[.int .i64 N, .int .i64 D] 23)
  have HW1 := Lib.hid hw1
  have H1 : BoxT w w.heap.size (w.heap.size + 1) (w.heap.size + 2) (.int .i64 a) (.int .i64 b) (.int .i64 c) (.int .i64 d) (.int .i64 N) (.int .i64 D) 28 28 23 w1 := ⟨k0, k1, k2, hb1⟩
  have HP := Lib.hid (show prvB N D n a b c d = decide (fracB a b n = true ∧ fracB c d n = true ∧ a * D ≤ N * b ∧ N * d ≤ c * D ∧ ((a = c ∧ b = d) ∨ (c * b - a * d = 1 ∧ (n : Int) < b + d))) from rfl)
  obtain ⟨p, hp⟩ : ∃ p, prvB N D n a b c d = p := ⟨_, rfl⟩
  rw [hp] at HP ⊢
  obtain ⟨x0, x1, -, -⟩ := two_cell H1.x
  obtain ⟨y0, y1, -, -⟩ := two_cell H1.y
  clear hw1 k0 k1 k2 hb1 hz1 hp
  obtain ⟨f1, hf1⟩ : ∃ f, fracB a b n = f := ⟨_, rfl⟩
  obtain ⟨f2, hf2⟩ : ∃ f, fracB c d n = f := ⟨_, rfl⟩
  have HF1 := Lib.hid hf1
  have HF2 := Lib.hid hf2
  clear hf1 hf2
  go_enter Tryz.func46, Tryz.ntmps46
  go_wp2_with fail
  rw [← HW1.out]
  refine (tpIsLowest a b n _ (by omega)).mono ?_
  rintro e w2 ⟨rfl, hb2⟩
  rw [HF1.out]
  have H2 := H1.below hb2
  clear H1 hb2 x0 x1 y0 y1
  obtain ⟨x0, x1, -, -⟩ := two_cell H2.x
  obtain ⟨y0, y1, -, -⟩ := two_cell H2.y
  cases f1 with
  | false =>
    have HPF := Lib.hid (show p = false by rw [HP.out]; exact decide_eq_false (fun h => by rw [HF1.out] at h; cases h.1))
    clear HP HF1 HF2
    go_wp2
    go_ret
    exact ⟨ret_b HPF.out.symm, H2.b⟩
  | true =>
    go_wp2_with fail
    refine (tpIsLowest c d n _ (by omega)).mono ?_
    rintro e w3 ⟨rfl, hb3⟩
    rw [HF2.out]
    have H3 := H2.below hb3
    clear H2 hb3 x0 x1 y0 y1
    obtain ⟨x0, x1, -, -⟩ := two_cell H3.x
    obtain ⟨y0, y1, -, -⟩ := two_cell H3.y
    obtain ⟨z0, z1, -, -⟩ := two_cell H3.z
    cases f2 with
    | false =>
      have HPF := Lib.hid (show p = false by rw [HP.out]; exact decide_eq_false (fun h => by rw [HF2.out] at h; cases h.2.1))
      clear HP HF1 HF2
      go_wp2
      go_ret
      exact ⟨ret_b HPF.out.symm, H3.b⟩
    | true =>
      obtain ⟨A, B, rfl, rfl, gB, gAB, gBn⟩ := frac_nat HF1.out
      obtain ⟨C, E, rfl, rfl, gE, gCE, gEn⟩ := frac_nat HF2.out
      have HPQ := Lib.hid (show p = decide ((A : Int) * D ≤ N * B ∧ (N : Int) * E ≤ C * D ∧ (((A : Int) = C ∧ (B : Int) = E) ∨ ((C : Int) * B - A * E = 1 ∧ (n : Int) < B + E))) by
        rw [HP.out]; exact decide_eq_decide.2 ⟨fun h => h.2.2, fun h => ⟨HF1.out, HF2.out, h⟩⟩)
      clear HP HF1 HF2
      go_wp2_with fail
      refine (tpCompareShares A B N D _ (by omega) (by omega) hN hD).mono ?_
      rintro e w4 ⟨rfl, hb4⟩
      have H4 := H3.below hb4
      clear H3 hb4 x0 x1 y0 y1 z0 z1
      obtain ⟨x0, x1, -, -⟩ := two_cell H4.x
      obtain ⟨y0, y1, -, -⟩ := two_cell H4.y
      obtain ⟨z0, z1, -, -⟩ := two_cell H4.z
      obtain ⟨v, hv⟩ : ∃ v, cmpI ((A : Int) * D) ((N : Int) * B) = v := ⟨_, rfl⟩
      have hvp := cmpI_pos (x := (A : Int) * D) (y := (N : Int) * B)
      rw [hv] at hvp ⊢
      clear hv
      by_cases c1 : 0 < v
      · have HPF := Lib.hid (show p = false by rw [HPQ.out]; exact decide_eq_false (fun h => by have := hvp.1 c1; omega))
        clear HPQ hvp
        go_wp2
        go_ret
        exact ⟨ret_b HPF.out.symm, H4.b⟩
      · have HLO := Lib.hid (show (A : Int) * D ≤ N * B by have := fun h => c1 (hvp.2 h); omega)
        clear hvp
        go_wp2_with fail
        refine (tpCompareShares C E N D _ (by omega) (by omega) hN hD).mono ?_
        rintro e w5 ⟨rfl, hb5⟩
        have H5 := H4.below hb5
        clear H4 hb5 x0 x1 y0 y1 z0 z1
        obtain ⟨x0, x1, -, -⟩ := two_cell H5.x
        obtain ⟨y0, y1, -, -⟩ := two_cell H5.y
        obtain ⟨u, hu⟩ : ∃ v, cmpI ((C : Int) * D) ((N : Int) * E) = v := ⟨_, rfl⟩
        have hun := cmpI_neg' (x := (C : Int) * D) (y := (N : Int) * E)
        rw [hu] at hun ⊢
        clear hu
        by_cases c2 : u < 0
        · have HPF := Lib.hid (show p = false by rw [HPQ.out]; exact decide_eq_false (fun h => by have := hun.1 c2; omega))
          clear HPQ hun
          go_wp2
          go_ret
          exact ⟨ret_b HPF.out.symm, H5.b⟩
        · have HHI := Lib.hid (show (N : Int) * E ≤ C * D by have := fun h => c2 (hun.2 h); omega)
          clear hun
          have gd := guardPart
          by_cases c3 : (A : Int) = C ∧ (B : Int) = E
          · have hq := fun w => eqPart A B C E true (decide_eq_true c3) w
            have HPF := Lib.hid (show p = true by rw [HPQ.out]; exact decide_eq_true ⟨HLO.out, HHI.out, .inl c3⟩)
            clear HPQ c3
            go_wp2
            go_ret
            exact ⟨ret_b HPF.out.symm, H5.b⟩
          · have hq := fun w => eqPart A B C E false (decide_eq_false c3) w
            have HPF := Lib.hid (show p = decide ((C : Int) * B - A * E = 1 ∧ (n : Int) < B + E) by
              rw [HPQ.out]; exact decide_eq_decide.2 ⟨fun h => h.2.2.resolve_left c3, fun h => ⟨HLO.out, HHI.out, .inr h⟩⟩)
            have l1 : C * B ≤ 64 * 64 := Nat.mul_le_mul (by omega) (by omega)
            have l2 : A * E ≤ 64 * 64 := Nat.mul_le_mul (by omega) (by omega)
            have m1 : (C : Int) * (B : Int) = ((C * B : Nat) : Int) := by push_cast; rfl
            have m2 : (A : Int) * (E : Int) = ((A * E : Nat) : Int) := by push_cast; rfl
            obtain ⟨u1, hu1⟩ : ∃ u, C * B = u := ⟨_, rfl⟩
            obtain ⟨u2, hu2⟩ : ∃ u, A * E = u := ⟨_, rfl⟩
            rw [hu1] at l1 m1
            rw [hu2] at l2 m2
            rw [m1, m2] at HPF
            clear HPQ c3 hu1 hu2
            by_cases c4 : (u1 : Int) - u2 = 1
            · have HPG := Lib.hid (show p = decide ((n : Int) < B + E) by rw [HPF.out]; exact decide_eq_decide.2 ⟨fun h => h.2, fun h => ⟨c4, h⟩⟩)
              have d4 : ((u1 : Int) - (u2 : Int) == 1) = true := by rw [beq_iff_eq]; exact c4
              clear HPF c4
              go_wp2
              go_ret
              exact ⟨ret_b HPG.out.symm, H5.b⟩
            · have HPG := Lib.hid (show p = false by rw [HPF.out]; exact decide_eq_false (fun h => c4 h.1))
              have d4 : ((u1 : Int) - (u2 : Int) == 1) = false := by rw [beq_eq_false_iff_ne]; exact c4
              clear HPF c4
              go_wp2
              go_ret
              exact ⟨ret_b HPG.out.symm, H5.b⟩
end Go.Proofs.YtfmfpnnglogkmaaGreatDoor

/- CheckNeighbours of taper and Proves of the reference. -/
namespace Go.Proofs.YtfmfpnnglogkmaaGreatDoor
open Go.RowKit Go.Shelf Ck

/-- A box of two cells and a box of four. -/
def TwoFour (W0 : World) (g h : Nat) (a b x y u v : Value) (w' : World) : Prop :=
  (w'.cell? ⟨g, 0, none⟩ = some a ∧ w'.cell? ⟨g, 1, none⟩ = some b) ∧ (w'.cell? ⟨h, 0, none⟩ = some x ∧ w'.cell? ⟨h, 1, none⟩ = some y ∧ w'.cell? ⟨h, 2, none⟩ = some u ∧ w'.cell? ⟨h, 3, none⟩ = some v) ∧ (g < w'.heap.size ∧ h < w'.heap.size) ∧ Below W0.heap.size W0 w'
theorem keepTF {W0 w1 w2 : World} {g h : Nat} {a b x y u v : Value}
    (hh : (w1.cell? ⟨g, 0, none⟩ = some a ∧ w1.cell? ⟨g, 1, none⟩ = some b) ∧ (w1.cell? ⟨h, 0, none⟩ = some x ∧ w1.cell? ⟨h, 1, none⟩ = some y ∧ w1.cell? ⟨h, 2, none⟩ = some u ∧ w1.cell? ⟨h, 3, none⟩ = some v) ∧ (g < w1.heap.size ∧ h < w1.heap.size) ∧ Below W0.heap.size W0 w1)
    (hb : Below w1.heap.size w1 w2) : (w2.cell? ⟨g, 0, none⟩ = some a ∧ w2.cell? ⟨g, 1, none⟩ = some b) ∧ (w2.cell? ⟨h, 0, none⟩ = some x ∧ w2.cell? ⟨h, 1, none⟩ = some y ∧ w2.cell? ⟨h, 2, none⟩ = some u ∧ w2.cell? ⟨h, 3, none⟩ = some v) ∧ (g < w2.heap.size ∧ h < w2.heap.size) ∧ Below W0.heap.size W0 w2 := by
  obtain ⟨⟨a0, a1⟩, ⟨b0, b1, b2, b3⟩, ⟨c0, c1⟩, e⟩ := hh
  have hz := hb.size
  exact ⟨⟨(hb.cell (p := ⟨g, 0, none⟩) c0).trans a0, (hb.cell (p := ⟨g, 1, none⟩) c0).trans a1⟩, ⟨(hb.cell (p := ⟨h, 0, none⟩) c1).trans b0, (hb.cell (p := ⟨h, 1, none⟩) c1).trans b1, (hb.cell (p := ⟨h, 2, none⟩) c1).trans b2, (hb.cell (p := ⟨h, 3, none⟩) c1).trans b3⟩, ⟨by omega, by omega⟩, e.trans (hb.mono e.size)⟩
theorem keepTF1 {W0 w1 : World} {g h : Nat} {a b x y u v : Value}
    (hh : (w1.cell? ⟨g, 0, none⟩ = some a ∧ w1.cell? ⟨g, 1, none⟩ = some b) ∧ (w1.cell? ⟨h, 0, none⟩ = some x ∧ w1.cell? ⟨h, 1, none⟩ = some y ∧ w1.cell? ⟨h, 2, none⟩ = some u ∧ w1.cell? ⟨h, 3, none⟩ = some v) ∧ (g < w1.heap.size ∧ h < w1.heap.size) ∧ Below W0.heap.size W0 w1) : Below W0.heap.size W0 w1 := hh.2.2.2
set_option maxHeartbeats 4000000 in
set_option maxRecDepth 100000 in
theorem tpCheckNeighbours (P D n : Nat) (a b c d : Int) (w : World) (h : tgtE (P : Int) (D : Int) (n : Int) = 0) (hP : P ≤ 999999999) (hD1 : 1 ≤ D) (hD : D ≤ 999999999) (hn2 : n ≤ 64) :
    Calls Tryz.prog 9 #[.agg #[.int .i64 P, .int .i64 D], .int .i64 n, .agg #[.int .i64 a, .int .i64 b, .int .i64 c, .int .i64 d]] w fun e w' => e = .returned (.int .i64 (if prvB (shareB P D) (shareL P D) n a b c d = true then 0 else 21)) ∧ Below w.heap.size w w' := by
  obtain ⟨s1, s2, s3⟩ := shareL_pos (P := P) hD1
  have HE := Lib.hid h
  obtain ⟨N, hN⟩ : ∃ N, shareB P D = N := ⟨_, rfl⟩
  obtain ⟨M, hM⟩ : ∃ M, shareL P D = M := ⟨_, rfl⟩
  rw [hN] at s3 ⊢
  rw [hM] at s1 s2 s3 ⊢
  have HN := Lib.hid hN
  have HM := Lib.hid hM
  obtain ⟨p, hp⟩ : ∃ p, prvB N M n a b c d = p := ⟨_, rfl⟩
  have HP := Lib.hid hp
  rw [hp]
  have HSH := Lib.hid (fun W => tpShareOf P D W hD1 (by omega) (by omega))
  have HPR := Lib.hid (fun W => tpProve a b c d N M n W (by omega) (by omega) hn2)
  obtain ⟨w1, hw1, k0, k1, hb1, hz1⟩ := box24 w (.int .i64 P) (.int .i64 D) 23 29 (.int .i64 a) (.int .i64 b) (.int .i64 c) (.int .i64 d)
  have HW1 := Lib.hid hw1
  obtain ⟨c0, c1, -, -⟩ := two_cell k0
  clear h hN hM hp hw1 hz1
  go_enter Tryz.func9, Tryz.ntmps9
  go_wp2_with fail
  rw [← HW1.out]
  refine (tpCheckTarget _ _ _ _).mono ?_
  rintro e w2 ⟨rfl, hb2⟩
  rw [HE.out]
  have m0 := (hb2.block _ (Array.getElem?_eq_some_iff.1 k0).1).trans k0
  have m1 := (hb2.block _ (Array.getElem?_eq_some_iff.1 k1).1).trans k1
  have B2 := hb1.trans (hb2.mono hb1.size)
  clear k0 k1 hb1 hb2 c0 c1
  have z0 := (Array.getElem?_eq_some_iff.1 m0).1
  have z1 := (Array.getElem?_eq_some_iff.1 m1).1
  obtain ⟨c0, c1, -, -⟩ := two_cell m0
  obtain ⟨⟨d0, d1, d2, d3⟩, -, -, -, -⟩ := four_cell m1
  clear m0 m1
  go_wp2_with fail
  go_region_held3 (fun w' => (w'.cell? ⟨w.heap.size, 0, none⟩ = some (.int .i64 P) ∧ w'.cell? ⟨w.heap.size, 1, none⟩ = some (.int .i64 D)) ∧ (w'.cell? ⟨w.heap.size + 1, 0, none⟩ = some (.int .i64 a) ∧ w'.cell? ⟨w.heap.size + 1, 1, none⟩ = some (.int .i64 b) ∧ w'.cell? ⟨w.heap.size + 1, 2, none⟩ = some (.int .i64 c) ∧ w'.cell? ⟨w.heap.size + 1, 3, none⟩ = some (.int .i64 d)) ∧ (w.heap.size < w'.heap.size ∧ w.heap.size + 1 < w'.heap.size) ∧ Below w.heap.size w w')
    (first | exact ⟨⟨c0, c1⟩, ⟨d0, d1, d2, d3⟩, ⟨z0, z1⟩, below_drew B2⟩ | exact keepTF (by assumption) (by assumption) | assumption | go_keep)
    (first
      | (go_at_call 45; refine (HSH.out _).mono ?_; rintro e w' ⟨rfl, hbq⟩; rw [HN.out, HM.out])
      | (go_at_call 46; refine (HPR.out _).mono ?_; rintro e w' ⟨rfl, hbq⟩; rw [HP.out]))
  all_goals cases p
  all_goals go_wp2
  all_goals go_ret
  all_goals exact ⟨rfl, keepTF1 (by assumption)⟩
set_option maxHeartbeats 1000000 in
set_option maxRecDepth 100000 in
theorem tpCheckNeighboursNo (x y n a b c d E : Int) (w : World) (hE : tgtE x y n = E) (hz : E ≠ 0) :
    Calls Tryz.prog 9 #[.agg #[.int .i64 x, .int .i64 y], .int .i64 n, .agg #[.int .i64 a, .int .i64 b, .int .i64 c, .int .i64 d]] w fun e w' => e = .returned (.int .i64 E) ∧ Below w.heap.size w w' := by
  have HE := Lib.hid hE
  have hne := neE hz
  obtain ⟨w1, hw1, k0, k1, hb1, hz1⟩ := box24 w (.int .i64 x) (.int .i64 y) 23 29 (.int .i64 a) (.int .i64 b) (.int .i64 c) (.int .i64 d)
  have HW1 := Lib.hid hw1
  obtain ⟨c0, c1, -, -⟩ := two_cell k0
  clear hE hz hw1 hz1
  go_enter Tryz.func9, Tryz.ntmps9
  go_wp2_with fail
  rw [← HW1.out]
  refine (tpCheckTarget _ _ _ _).mono ?_
  rintro e w2 ⟨rfl, hb2⟩
  rw [HE.out]
  go_wp2
  go_ret
  exact ⟨rfl, hb1.trans (hb2.mono hb1.size)⟩
end Go.Proofs.YtfmfpnnglogkmaaGreatDoor

/- Proves of the reference of chapter 2. -/
namespace Go.Proofs.YtfmfpnnglogkmaaGreatDoor
open Go.RowKit Go.Shelf Ck

/-- The five ways through Proves' first question. -/
inductive PrvWay (N M n : Nat) (a b c d : Int) (p : Bool) : Prop
  | one (h1 : fracB a b n = false) (hp : p = false)
  | two (h1 : fracB a b n = true) (h2 : fracB c d n = false) (hp : p = false)
  | low (A B C E : Nat) (ea : a = A) (eb : b = B) (ec : c = C) (ed : d = E) (z1 : A ≤ 64) (z2 : B ≤ 64) (z3 : C ≤ 64) (z4 : E ≤ 64) (h1 : fracB a b n = true) (h2 : fracB c d n = true) (h3 : 0 < sideI A B N M) (hp : p = false)
  | high (A B C E : Nat) (ea : a = A) (eb : b = B) (ec : c = C) (ed : d = E) (z1 : A ≤ 64) (z2 : B ≤ 64) (z3 : C ≤ 64) (z4 : E ≤ 64) (h1 : fracB a b n = true) (h2 : fracB c d n = true) (h3 : ¬ 0 < sideI A B N M) (h4 : sideI C E N M < 0) (hp : p = false)
  | on (A B C E : Nat) (ea : a = A) (eb : b = B) (ec : c = C) (ed : d = E) (z1 : A ≤ 64) (z2 : B ≤ 64) (z3 : C ≤ 64) (z4 : E ≤ 64) (h1 : fracB a b n = true) (h2 : fracB c d n = true) (h3 : ¬ 0 < sideI A B N M) (h4 : ¬ sideI C E N M < 0) (hp : p = decide (((A : Int) = C ∧ (B : Int) = E) ∨ ((C : Int) * B - A * E = 1 ∧ (n : Int) < B + E)))
theorem prv_way (N M n : Nat) (a b c d : Int) (hn : n ≤ 64) : PrvWay N M n a b c d (prvB N M n a b c d) := by
  cases h1 : fracB a b n with
  | false => exact .one h1 (decide_eq_false (fun h => by rw [h1] at h; cases h.1))
  | true =>
    cases h2 : fracB c d n with
    | false => exact .two h1 h2 (decide_eq_false (fun h => by rw [h2] at h; cases h.2.1))
    | true =>
      obtain ⟨A, B, rfl, rfl, gB, gAB, gBn⟩ := frac_nat h1
      obtain ⟨C, E, rfl, rfl, gE, gCE, gEn⟩ := frac_nat h2
      have hl := sideI_le (a := A) (b := B) (c := N) (d := M)
      have hg := sideI_ge (a := C) (b := E) (c := N) (d := M)
      by_cases h3 : 0 < sideI A B N M
      · exact .low A B C E rfl rfl rfl rfl (by omega) (by omega) (by omega) (by omega) h1 h2 h3 (decide_eq_false (fun h => by
          have : A * M ≤ N * B := by exact_mod_cast h.2.2.1
          have := hl.2 this
          omega))
      · have k3 : A * M ≤ N * B := hl.1 (by omega)
        by_cases h4 : sideI C E N M < 0
        · exact .high A B C E rfl rfl rfl rfl (by omega) (by omega) (by omega) (by omega) h1 h2 h3 h4 (decide_eq_false (fun h => by
            have : N * E ≤ C * M := by exact_mod_cast h.2.2.2.1
            have := hg.2 this
            omega))
        · have k4 : N * E ≤ C * M := hg.1 (by omega)
          exact .on A B C E rfl rfl rfl rfl (by omega) (by omega) (by omega) (by omega) h1 h2 h3 h4 (decide_eq_decide.2 ⟨fun h => h.2.2.2.2, fun h => ⟨h1, h2, by exact_mod_cast k3, by exact_mod_cast k4, h⟩⟩)
set_option maxHeartbeats 8000000 in
set_option maxRecDepth 100000 in
theorem rfProves (P D n : Nat) (a b c d : Int) (p : Bool) (w : World) (hP : P ≤ 999999999) (hD1 : 1 ≤ D) (hD : D ≤ 999999999) (hn2 : n ≤ 64) (hp : prvB (shareB P D) (shareL P D) n a b c d = p) :
    Calls Tryz.prog 14 #[.agg #[.int .i64 P, .int .i64 D], .int .i64 n, .agg #[.int .i64 a, .int .i64 b, .int .i64 c, .int .i64 d]] w fun e w' => e = .returned (.bool p) ∧ Below w.heap.size w w' := by
  obtain ⟨s1, s2, s3⟩ := shareL_pos (P := P) hD1
  have hw := prv_way (shareB P D) (shareL P D) n a b c d hn2
  rw [hp] at hw
  obtain ⟨N, hN⟩ : ∃ N, shareB P D = N := ⟨_, rfl⟩
  obtain ⟨M, hM⟩ : ∃ M, shareL P D = M := ⟨_, rfl⟩
  rw [hN] at s3 hw
  rw [hM] at s1 s2 s3 hw
  have HN := Lib.hid hN
  have HM := Lib.hid hM
  have hSH : ∀ W : World, Calls Tryz.prog 54 #[.agg #[.int .i64 P, .int .i64 D]] W fun e w' => e = .returned (.agg #[.int .i64 N, .int .i64 M]) ∧ Below W.heap.size W w' := by
    intro W
    have := rfShare P D W hD1 (by omega) (by omega)
    rwa [hN, hM] at this
  have HSH := Lib.hid hSH
  obtain ⟨w1, hw1, k0, k1, hb1, hz1⟩ := box24 w (.int .i64 P) (.int .i64 D) 23 26 (.int .i64 a) (.int .i64 b) (.int .i64 c) (.int .i64 d)
  have HW1 := Lib.hid hw1
  have z0 := (Array.getElem?_eq_some_iff.1 k0).1
  have z1 := (Array.getElem?_eq_some_iff.1 k1).1
  obtain ⟨c0, c1, -, -⟩ := two_cell k0
  obtain ⟨⟨d0, d1, d2, d3⟩, -, -, -, -⟩ := four_cell k1
  clear hN hM hp hw1 hz1 hSH k0 k1
  obtain ⟨f1, hf1⟩ : ∃ f, fracB a b n = f := ⟨_, rfl⟩
  obtain ⟨f2, hf2⟩ : ∃ f, fracB c d n = f := ⟨_, rfl⟩
  have HF := Lib.hid (show ∀ (x y : Int) (f : Bool) (W : World), fracB x y n = f → Calls Tryz.prog 60 #[.agg #[.int .i64 x, .int .i64 y], .int .i64 n] W fun e w' => e = .returned (.bool f) ∧ Below W.heap.size W w' from fun x y f W h => by rw [← h]; exact rfFraction x y n W (by omega))
  have HSD := Lib.hid (show ∀ (x y : Nat) (v : Int) (W : World), sideI x y N M = v → x ≤ 64 → y ≤ 64 → Calls Tryz.prog 55 #[.agg #[.int .i64 x, .int .i64 y], .agg #[.int .i64 N, .int .i64 M]] W fun e w' => e = .returned (.int .i64 v) ∧ Below W.heap.size W w' from fun x y v W h h1 h2 => by rw [← h]; exact rfSide x y N M W (by omega) (by omega) (by omega) (by omega))
  cases hw with
  | one h1 hp =>
    subst hp
    have H1 := Lib.hid h1
    clear h1 hf1 hf2
    go_enter Tryz.func14, Tryz.ntmps14
    go_wp2_with fail
    rw [← HW1.out]
    refine wp_region_held_drew (S := (fun w' => (w'.cell? ⟨w.heap.size, 0, none⟩ = some (.int .i64 P) ∧ w'.cell? ⟨w.heap.size, 1, none⟩ = some (.int .i64 D)) ∧ (w'.cell? ⟨w.heap.size + 1, 0, none⟩ = some (.int .i64 a) ∧ w'.cell? ⟨w.heap.size + 1, 1, none⟩ = some (.int .i64 b) ∧ w'.cell? ⟨w.heap.size + 1, 2, none⟩ = some (.int .i64 c) ∧ w'.cell? ⟨w.heap.size + 1, 3, none⟩ = some (.int .i64 d)) ∧ (w.heap.size < w'.heap.size ∧ w.heap.size + 1 < w'.heap.size) ∧ Below w.heap.size w w')) (by kernel_rfl) ?_ (fun hHeld => ?_)
    · exact ⟨⟨c0, c1⟩, ⟨d0, d1, d2, d3⟩, ⟨z0, z1⟩, below_drew hb1⟩
    refine wpAnyH_take (i := 0) (oi := _) (v := ?v0_0) rfl (by kernel_rfl) (by kernel_rfl) (by kernel_rfl) (fun _ _ _ h => h) (Or.inl ⟨by rfl, ?hy0_0⟩) (by assumption) ?rest0_0
    case hy0_0 => (intro w hSw; (try dsimp only at hSw); go_simp; first | done | rfl)
    try simp only [List.getElem_toArray, List.getElem_cons_zero, Act.put, List.setIfInBounds_toArray, List.set_cons_zero, List.set_cons_succ]
    refine wpAnyH_take (i := 1) (oi := _) (v := ?v0_1) rfl (by kernel_rfl) (by kernel_rfl) (by kernel_rfl) (fun _ _ _ h => h) (Or.inl ⟨by rfl, ?hy0_1⟩) (by assumption) ?rest0_1
    case hy0_1 => (intro w hSw; (try dsimp only at hSw); go_simp; first | done | rfl)
    try simp only [List.getElem_toArray, List.getElem_cons_succ, List.getElem_cons_zero, Act.put, List.setIfInBounds_toArray, List.set_cons_zero, List.set_cons_succ]
    refine wpAnyH_take (i := 2) (oi := _) (v := ?v0_2) rfl (by kernel_rfl) (by kernel_rfl) (by kernel_rfl) (fun _ _ _ h => h) (Or.inl ⟨by rfl, ?hy0_2⟩) (by assumption) ?rest0_2
    case hy0_2 => (intro w hSw; (try dsimp only at hSw); go_simp; first | done | rfl)
    try simp only [List.getElem_toArray, List.getElem_cons_succ, List.getElem_cons_zero, Act.put, List.setIfInBounds_toArray, List.set_cons_zero, List.set_cons_succ]
    refine wpAnyH_ready (rs := [3]) (by kernel_rfl) (by simp) ?_
    refine AllReadyH.cons (o := _) rfl (fun K hK => ?_) AllReadyH.nil
    simp only [List.getElem_toArray, List.getElem_cons_succ, List.getElem_cons_zero]
    go_simp
    go_at_call 60
    refine (HF.out _ _ _ _ H1.out).mono ?_
    rintro e w' ⟨rfl, hbq⟩
    try simp only []
    refine hK.out _ _ (keepTF (by assumption) (by assumption)) (fun hHeld => ?_)
    clear hK K
    try simp only [List.getElem_toArray, List.getElem_cons_succ, List.getElem_cons_zero, Act.put, List.setIfInBounds_toArray, List.set_cons_zero, List.set_cons_succ]
    refine wpAnyH_take (i := 4) (oi := _) (v := ?v0_4) rfl (by kernel_rfl) (by kernel_rfl) (by kernel_rfl) (fun _ _ _ h => h) (Or.inl ⟨by rfl, ?hy0_4⟩) (by assumption) ?rest0_4
    case hy0_4 => (intro w hSw; (try dsimp only at hSw); go_simp; first | done | rfl)
    try simp only [List.getElem_toArray, List.getElem_cons_succ, List.getElem_cons_zero, Act.put, List.setIfInBounds_toArray, List.set_cons_zero, List.set_cons_succ]
    refine wpAnyH_take (i := 5) (oi := _) (v := ?v0_5) rfl (by kernel_rfl) (by kernel_rfl) (by kernel_rfl) (fun _ _ _ h => h) (Or.inl ⟨by rfl, ?hy0_5⟩) (by assumption) ?rest0_5
    case hy0_5 => (intro w hSw; (try dsimp only at hSw); go_simp; first | done | rfl)
    try simp only [List.getElem_toArray, List.getElem_cons_succ, List.getElem_cons_zero, Act.put, List.setIfInBounds_toArray, List.set_cons_zero, List.set_cons_succ]
    refine wpAnyH_take (i := 6) (oi := _) (v := undef) rfl (by kernel_rfl) (by kernel_rfl) (by kernel_rfl) (fun _ _ _ h => h) (Or.inr ⟨by rfl, rfl⟩) (by assumption) ?rest0_6
    try simp only [List.getElem_toArray, List.getElem_cons_succ, List.getElem_cons_zero, Act.put, List.setIfInBounds_toArray, List.set_cons_zero, List.set_cons_succ]
    refine wpAnyH_take (i := 7) (oi := _) (v := undef) rfl (by kernel_rfl) (by kernel_rfl) (by kernel_rfl) (fun _ _ _ h => h) (Or.inr ⟨by rfl, rfl⟩) (by assumption) ?rest0_7
    try simp only [List.getElem_toArray, List.getElem_cons_succ, List.getElem_cons_zero, Act.put, List.setIfInBounds_toArray, List.set_cons_zero, List.set_cons_succ]
    refine wpAnyH_take (i := 8) (oi := _) (v := undef) rfl (by kernel_rfl) (by kernel_rfl) (by kernel_rfl) (fun _ _ _ h => h) (Or.inr ⟨by rfl, rfl⟩) (by assumption) ?rest0_8
    try simp only [List.getElem_toArray, List.getElem_cons_succ, List.getElem_cons_zero, Act.put, List.setIfInBounds_toArray, List.set_cons_zero, List.set_cons_succ]
    refine wpAnyH_take (i := 9) (oi := _) (v := undef) rfl (by kernel_rfl) (by kernel_rfl) (by kernel_rfl) (fun _ _ _ h => h) (Or.inr ⟨by rfl, rfl⟩) (by assumption) ?rest0_9
    try simp only [List.getElem_toArray, List.getElem_cons_succ, List.getElem_cons_zero, Act.put, List.setIfInBounds_toArray, List.set_cons_zero, List.set_cons_succ]
    refine wpAnyH_take (i := 10) (oi := _) (v := undef) rfl (by kernel_rfl) (by kernel_rfl) (by kernel_rfl) (fun _ _ _ h => h) (Or.inr ⟨by rfl, rfl⟩) (by assumption) ?rest0_10
    try simp only [List.getElem_toArray, List.getElem_cons_succ, List.getElem_cons_zero, Act.put, List.setIfInBounds_toArray, List.set_cons_zero, List.set_cons_succ]
    refine wpAnyH_take (i := 11) (oi := _) (v := ?v0_11) rfl (by kernel_rfl) (by kernel_rfl) (by kernel_rfl) (fun _ _ _ h => h) (Or.inl ⟨by rfl, ?hy0_11⟩) (by assumption) ?rest0_11
    case hy0_11 => (intro w hSw; (try dsimp only at hSw); go_simp; first | done | rfl)
    try simp only [List.getElem_toArray, List.getElem_cons_succ, List.getElem_cons_zero, Act.put, List.setIfInBounds_toArray, List.set_cons_zero, List.set_cons_succ]
    refine wpAnyH_take (i := 12) (oi := _) (v := ?v0_12) rfl (by kernel_rfl) (by kernel_rfl) (by kernel_rfl) (fun _ _ _ h => h) (Or.inl ⟨by rfl, ?hy0_12⟩) (by assumption) ?rest0_12
    case hy0_12 => (intro w hSw; (try dsimp only at hSw); go_simp; first | done | rfl)
    try simp only [List.getElem_toArray, List.getElem_cons_succ, List.getElem_cons_zero, Act.put, List.setIfInBounds_toArray, List.set_cons_zero, List.set_cons_succ]
    refine wpAnyH_take (i := 13) (oi := _) (v := undef) rfl (by kernel_rfl) (by kernel_rfl) (by kernel_rfl) (fun _ _ _ h => h) (Or.inr ⟨by rfl, rfl⟩) (by assumption) ?rest0_13
    try simp only [List.getElem_toArray, List.getElem_cons_succ, List.getElem_cons_zero, Act.put, List.setIfInBounds_toArray, List.set_cons_zero, List.set_cons_succ]
    refine wpAnyH_take (i := 14) (oi := _) (v := undef) rfl (by kernel_rfl) (by kernel_rfl) (by kernel_rfl) (fun _ _ _ h => h) (Or.inr ⟨by rfl, rfl⟩) (by assumption) ?rest0_14
    try simp only [List.getElem_toArray, List.getElem_cons_succ, List.getElem_cons_zero, Act.put, List.setIfInBounds_toArray, List.set_cons_zero, List.set_cons_succ]
    refine wpAnyH_take (i := 15) (oi := _) (v := undef) rfl (by kernel_rfl) (by kernel_rfl) (by kernel_rfl) (fun _ _ _ h => h) (Or.inr ⟨by rfl, rfl⟩) (by assumption) ?rest0_15
    try simp only [List.getElem_toArray, List.getElem_cons_succ, List.getElem_cons_zero, Act.put, List.setIfInBounds_toArray, List.set_cons_zero, List.set_cons_succ]
    refine wpAnyH_take (i := 16) (oi := _) (v := undef) rfl (by kernel_rfl) (by kernel_rfl) (by kernel_rfl) (fun _ _ _ h => h) (Or.inr ⟨by rfl, rfl⟩) (by assumption) ?rest0_16
    try simp only [List.getElem_toArray, List.getElem_cons_succ, List.getElem_cons_zero, Act.put, List.setIfInBounds_toArray, List.set_cons_zero, List.set_cons_succ]
    refine wpAnyH_take (i := 17) (oi := _) (v := undef) rfl (by kernel_rfl) (by kernel_rfl) (by kernel_rfl) (fun _ _ _ h => h) (Or.inr ⟨by rfl, rfl⟩) (by assumption) ?rest0_17
    try simp only [List.getElem_toArray, List.getElem_cons_succ, List.getElem_cons_zero, Act.put, List.setIfInBounds_toArray, List.set_cons_zero, List.set_cons_succ]
    refine wpAnyH_take (i := 18) (oi := _) (v := undef) rfl (by kernel_rfl) (by kernel_rfl) (by kernel_rfl) (fun _ _ _ h => h) (Or.inr ⟨by rfl, rfl⟩) (by assumption) ?rest0_18
    try simp only [List.getElem_toArray, List.getElem_cons_succ, List.getElem_cons_zero, Act.put, List.setIfInBounds_toArray, List.set_cons_zero, List.set_cons_succ]
    refine wpAnyH_take (i := 19) (oi := _) (v := ?v0_19) rfl (by kernel_rfl) (by kernel_rfl) (by kernel_rfl) (fun _ _ _ h => h) (Or.inl ⟨by rfl, ?hy0_19⟩) (by assumption) ?rest0_19
    case hy0_19 => (intro w hSw; (try dsimp only at hSw); go_simp; first | done | rfl)
    try simp only [List.getElem_toArray, List.getElem_cons_succ, List.getElem_cons_zero, Act.put, List.setIfInBounds_toArray, List.set_cons_zero, List.set_cons_succ]
    refine wpAnyH_take (i := 20) (oi := _) (v := ?v0_20) rfl (by kernel_rfl) (by kernel_rfl) (by kernel_rfl) (fun _ _ _ h => h) (Or.inl ⟨by rfl, ?hy0_20⟩) (by assumption) ?rest0_20
    case hy0_20 => (intro w hSw; (try dsimp only at hSw); go_simp; first | done | rfl)
    try simp only [List.getElem_toArray, List.getElem_cons_succ, List.getElem_cons_zero, Act.put, List.setIfInBounds_toArray, List.set_cons_zero, List.set_cons_succ]
    refine wpAnyH_take (i := 21) (oi := _) (v := undef) rfl (by kernel_rfl) (by kernel_rfl) (by kernel_rfl) (fun _ _ _ h => h) (Or.inr ⟨by rfl, rfl⟩) (by assumption) ?rest0_21
    try simp only [List.getElem_toArray, List.getElem_cons_succ, List.getElem_cons_zero, Act.put, List.setIfInBounds_toArray, List.set_cons_zero, List.set_cons_succ]
    refine wpAnyH_take (i := 22) (oi := _) (v := undef) rfl (by kernel_rfl) (by kernel_rfl) (by kernel_rfl) (fun _ _ _ h => h) (Or.inr ⟨by rfl, rfl⟩) (by assumption) ?rest0_22
    try simp only [List.getElem_toArray, List.getElem_cons_succ, List.getElem_cons_zero, Act.put, List.setIfInBounds_toArray, List.set_cons_zero, List.set_cons_succ]
    refine wpAnyH_take (i := 23) (oi := _) (v := undef) rfl (by kernel_rfl) (by kernel_rfl) (by kernel_rfl) (fun _ _ _ h => h) (Or.inr ⟨by rfl, rfl⟩) (by assumption) ?rest0_23
    try simp only [List.getElem_toArray, List.getElem_cons_succ, List.getElem_cons_zero, Act.put, List.setIfInBounds_toArray, List.set_cons_zero, List.set_cons_succ]
    refine wpAnyH_take (i := 24) (oi := _) (v := undef) rfl (by kernel_rfl) (by kernel_rfl) (by kernel_rfl) (fun _ _ _ h => h) (Or.inr ⟨by rfl, rfl⟩) (by assumption) ?rest0_24
    try simp only [List.getElem_toArray, List.getElem_cons_succ, List.getElem_cons_zero, Act.put, List.setIfInBounds_toArray, List.set_cons_zero, List.set_cons_succ]
    refine wpAnyH_take (i := 25) (oi := _) (v := undef) rfl (by kernel_rfl) (by kernel_rfl) (by kernel_rfl) (fun _ _ _ h => h) (Or.inr ⟨by rfl, rfl⟩) (by assumption) ?rest0_25
    try simp only [List.getElem_toArray, List.getElem_cons_succ, List.getElem_cons_zero, Act.put, List.setIfInBounds_toArray, List.set_cons_zero, List.set_cons_succ]
    refine wpAnyH_take (i := 26) (oi := _) (v := undef) rfl (by kernel_rfl) (by kernel_rfl) (by kernel_rfl) (fun _ _ _ h => h) (Or.inr ⟨by rfl, rfl⟩) (by assumption) ?rest0_26
    try simp only [List.getElem_toArray, List.getElem_cons_succ, List.getElem_cons_zero, Act.put, List.setIfInBounds_toArray, List.set_cons_zero, List.set_cons_succ]
    refine wpAnyH_take (i := 27) (oi := _) (v := ?v0_27) rfl (by kernel_rfl) (by kernel_rfl) (by kernel_rfl) (fun _ _ _ h => h) (Or.inl ⟨by rfl, ?hy0_27⟩) (by assumption) ?rest0_27
    case hy0_27 => (intro w hSw; (try dsimp only at hSw); go_simp; first | done | rfl)
    try simp only [List.getElem_toArray, List.getElem_cons_succ, List.getElem_cons_zero, Act.put, List.setIfInBounds_toArray, List.set_cons_zero, List.set_cons_succ]
    refine wpAnyH_done (by kernel_rfl) ?_ _
    go_wp2
    go_ret
    exact ⟨rfl, keepTF1 (by assumption)⟩
  | two h1 h2 hp =>
    subst hp
    have H1 := Lib.hid h1
    have H2 := Lib.hid h2
    clear h1 h2 hf1 hf2
    go_enter Tryz.func14, Tryz.ntmps14
    go_wp2_with fail
    rw [← HW1.out]
    refine wp_region_held_drew (S := (fun w' => (w'.cell? ⟨w.heap.size, 0, none⟩ = some (.int .i64 P) ∧ w'.cell? ⟨w.heap.size, 1, none⟩ = some (.int .i64 D)) ∧ (w'.cell? ⟨w.heap.size + 1, 0, none⟩ = some (.int .i64 a) ∧ w'.cell? ⟨w.heap.size + 1, 1, none⟩ = some (.int .i64 b) ∧ w'.cell? ⟨w.heap.size + 1, 2, none⟩ = some (.int .i64 c) ∧ w'.cell? ⟨w.heap.size + 1, 3, none⟩ = some (.int .i64 d)) ∧ (w.heap.size < w'.heap.size ∧ w.heap.size + 1 < w'.heap.size) ∧ Below w.heap.size w w')) (by kernel_rfl) ?_ (fun hHeld => ?_)
    · exact ⟨⟨c0, c1⟩, ⟨d0, d1, d2, d3⟩, ⟨z0, z1⟩, below_drew hb1⟩
    refine wpAnyH_take (i := 0) (oi := _) (v := ?v1_0) rfl (by kernel_rfl) (by kernel_rfl) (by kernel_rfl) (fun _ _ _ h => h) (Or.inl ⟨by rfl, ?hy1_0⟩) (by assumption) ?rest1_0
    case hy1_0 => (intro w hSw; (try dsimp only at hSw); go_simp; first | done | rfl)
    try simp only [List.getElem_toArray, List.getElem_cons_zero, Act.put, List.setIfInBounds_toArray, List.set_cons_zero, List.set_cons_succ]
    refine wpAnyH_take (i := 1) (oi := _) (v := ?v1_1) rfl (by kernel_rfl) (by kernel_rfl) (by kernel_rfl) (fun _ _ _ h => h) (Or.inl ⟨by rfl, ?hy1_1⟩) (by assumption) ?rest1_1
    case hy1_1 => (intro w hSw; (try dsimp only at hSw); go_simp; first | done | rfl)
    try simp only [List.getElem_toArray, List.getElem_cons_succ, List.getElem_cons_zero, Act.put, List.setIfInBounds_toArray, List.set_cons_zero, List.set_cons_succ]
    refine wpAnyH_take (i := 2) (oi := _) (v := ?v1_2) rfl (by kernel_rfl) (by kernel_rfl) (by kernel_rfl) (fun _ _ _ h => h) (Or.inl ⟨by rfl, ?hy1_2⟩) (by assumption) ?rest1_2
    case hy1_2 => (intro w hSw; (try dsimp only at hSw); go_simp; first | done | rfl)
    try simp only [List.getElem_toArray, List.getElem_cons_succ, List.getElem_cons_zero, Act.put, List.setIfInBounds_toArray, List.set_cons_zero, List.set_cons_succ]
    refine wpAnyH_ready (rs := [3]) (by kernel_rfl) (by simp) ?_
    refine AllReadyH.cons (o := _) rfl (fun K hK => ?_) AllReadyH.nil
    simp only [List.getElem_toArray, List.getElem_cons_succ, List.getElem_cons_zero]
    go_simp
    go_at_call 60
    refine (HF.out _ _ _ _ H1.out).mono ?_
    rintro e w' ⟨rfl, hbq⟩
    try simp only []
    refine hK.out _ _ (keepTF (by assumption) (by assumption)) (fun hHeld => ?_)
    clear hK K
    try simp only [List.getElem_toArray, List.getElem_cons_succ, List.getElem_cons_zero, Act.put, List.setIfInBounds_toArray, List.set_cons_zero, List.set_cons_succ]
    refine wpAnyH_take (i := 4) (oi := _) (v := ?v1_4) rfl (by kernel_rfl) (by kernel_rfl) (by kernel_rfl) (fun _ _ _ h => h) (Or.inl ⟨by rfl, ?hy1_4⟩) (by assumption) ?rest1_4
    case hy1_4 => (intro w hSw; (try dsimp only at hSw); go_simp; first | done | rfl)
    try simp only [List.getElem_toArray, List.getElem_cons_succ, List.getElem_cons_zero, Act.put, List.setIfInBounds_toArray, List.set_cons_zero, List.set_cons_succ]
    refine wpAnyH_take (i := 5) (oi := _) (v := ?v1_5) rfl (by kernel_rfl) (by kernel_rfl) (by kernel_rfl) (fun _ _ _ h => h) (Or.inl ⟨by rfl, ?hy1_5⟩) (by assumption) ?rest1_5
    case hy1_5 => (intro w hSw; (try dsimp only at hSw); go_simp; first | done | rfl)
    try simp only [List.getElem_toArray, List.getElem_cons_succ, List.getElem_cons_zero, Act.put, List.setIfInBounds_toArray, List.set_cons_zero, List.set_cons_succ]
    refine wpAnyH_take (i := 6) (oi := _) (v := ?v1_6) rfl (by kernel_rfl) (by kernel_rfl) (by kernel_rfl) (fun _ _ _ h => h) (Or.inl ⟨by rfl, ?hy1_6⟩) (by assumption) ?rest1_6
    case hy1_6 => (intro w hSw; (try dsimp only at hSw); go_simp; first | done | rfl)
    try simp only [List.getElem_toArray, List.getElem_cons_succ, List.getElem_cons_zero, Act.put, List.setIfInBounds_toArray, List.set_cons_zero, List.set_cons_succ]
    refine wpAnyH_take (i := 7) (oi := _) (v := ?v1_7) rfl (by kernel_rfl) (by kernel_rfl) (by kernel_rfl) (fun _ _ _ h => h) (Or.inl ⟨by rfl, ?hy1_7⟩) (by assumption) ?rest1_7
    case hy1_7 => (intro w hSw; (try dsimp only at hSw); go_simp; first | done | rfl)
    try simp only [List.getElem_toArray, List.getElem_cons_succ, List.getElem_cons_zero, Act.put, List.setIfInBounds_toArray, List.set_cons_zero, List.set_cons_succ]
    refine wpAnyH_take (i := 8) (oi := _) (v := ?v1_8) rfl (by kernel_rfl) (by kernel_rfl) (by kernel_rfl) (fun _ _ _ h => h) (Or.inl ⟨by rfl, ?hy1_8⟩) (by assumption) ?rest1_8
    case hy1_8 => (intro w hSw; (try dsimp only at hSw); go_simp; first | done | rfl)
    try simp only [List.getElem_toArray, List.getElem_cons_succ, List.getElem_cons_zero, Act.put, List.setIfInBounds_toArray, List.set_cons_zero, List.set_cons_succ]
    refine wpAnyH_ready (rs := [9]) (by kernel_rfl) (by simp) ?_
    refine AllReadyH.cons (o := _) rfl (fun K hK => ?_) AllReadyH.nil
    simp only [List.getElem_toArray, List.getElem_cons_succ, List.getElem_cons_zero]
    go_simp
    go_at_call 60
    refine (HF.out _ _ _ _ H2.out).mono ?_
    rintro e w' ⟨rfl, hbq⟩
    try simp only []
    refine hK.out _ _ (keepTF (by assumption) (by assumption)) (fun hHeld => ?_)
    clear hK K
    try simp only [List.getElem_toArray, List.getElem_cons_succ, List.getElem_cons_zero, Act.put, List.setIfInBounds_toArray, List.set_cons_zero, List.set_cons_succ]
    refine wpAnyH_take (i := 10) (oi := _) (v := ?v1_10) rfl (by kernel_rfl) (by kernel_rfl) (by kernel_rfl) (fun _ _ _ h => h) (Or.inl ⟨by rfl, ?hy1_10⟩) (by assumption) ?rest1_10
    case hy1_10 => (intro w hSw; (try dsimp only at hSw); go_simp; first | done | rfl)
    try simp only [List.getElem_toArray, List.getElem_cons_succ, List.getElem_cons_zero, Act.put, List.setIfInBounds_toArray, List.set_cons_zero, List.set_cons_succ]
    refine wpAnyH_take (i := 11) (oi := _) (v := ?v1_11) rfl (by kernel_rfl) (by kernel_rfl) (by kernel_rfl) (fun _ _ _ h => h) (Or.inl ⟨by rfl, ?hy1_11⟩) (by assumption) ?rest1_11
    case hy1_11 => (intro w hSw; (try dsimp only at hSw); go_simp; first | done | rfl)
    try simp only [List.getElem_toArray, List.getElem_cons_succ, List.getElem_cons_zero, Act.put, List.setIfInBounds_toArray, List.set_cons_zero, List.set_cons_succ]
    refine wpAnyH_take (i := 12) (oi := _) (v := ?v1_12) rfl (by kernel_rfl) (by kernel_rfl) (by kernel_rfl) (fun _ _ _ h => h) (Or.inl ⟨by rfl, ?hy1_12⟩) (by assumption) ?rest1_12
    case hy1_12 => (intro w hSw; (try dsimp only at hSw); go_simp; first | done | rfl)
    try simp only [List.getElem_toArray, List.getElem_cons_succ, List.getElem_cons_zero, Act.put, List.setIfInBounds_toArray, List.set_cons_zero, List.set_cons_succ]
    refine wpAnyH_take (i := 13) (oi := _) (v := undef) rfl (by kernel_rfl) (by kernel_rfl) (by kernel_rfl) (fun _ _ _ h => h) (Or.inr ⟨by rfl, rfl⟩) (by assumption) ?rest1_13
    try simp only [List.getElem_toArray, List.getElem_cons_succ, List.getElem_cons_zero, Act.put, List.setIfInBounds_toArray, List.set_cons_zero, List.set_cons_succ]
    refine wpAnyH_take (i := 14) (oi := _) (v := undef) rfl (by kernel_rfl) (by kernel_rfl) (by kernel_rfl) (fun _ _ _ h => h) (Or.inr ⟨by rfl, rfl⟩) (by assumption) ?rest1_14
    try simp only [List.getElem_toArray, List.getElem_cons_succ, List.getElem_cons_zero, Act.put, List.setIfInBounds_toArray, List.set_cons_zero, List.set_cons_succ]
    refine wpAnyH_take (i := 15) (oi := _) (v := undef) rfl (by kernel_rfl) (by kernel_rfl) (by kernel_rfl) (fun _ _ _ h => h) (Or.inr ⟨by rfl, rfl⟩) (by assumption) ?rest1_15
    try simp only [List.getElem_toArray, List.getElem_cons_succ, List.getElem_cons_zero, Act.put, List.setIfInBounds_toArray, List.set_cons_zero, List.set_cons_succ]
    refine wpAnyH_take (i := 16) (oi := _) (v := undef) rfl (by kernel_rfl) (by kernel_rfl) (by kernel_rfl) (fun _ _ _ h => h) (Or.inr ⟨by rfl, rfl⟩) (by assumption) ?rest1_16
    try simp only [List.getElem_toArray, List.getElem_cons_succ, List.getElem_cons_zero, Act.put, List.setIfInBounds_toArray, List.set_cons_zero, List.set_cons_succ]
    refine wpAnyH_take (i := 17) (oi := _) (v := undef) rfl (by kernel_rfl) (by kernel_rfl) (by kernel_rfl) (fun _ _ _ h => h) (Or.inr ⟨by rfl, rfl⟩) (by assumption) ?rest1_17
    try simp only [List.getElem_toArray, List.getElem_cons_succ, List.getElem_cons_zero, Act.put, List.setIfInBounds_toArray, List.set_cons_zero, List.set_cons_succ]
    refine wpAnyH_take (i := 18) (oi := _) (v := undef) rfl (by kernel_rfl) (by kernel_rfl) (by kernel_rfl) (fun _ _ _ h => h) (Or.inr ⟨by rfl, rfl⟩) (by assumption) ?rest1_18
    try simp only [List.getElem_toArray, List.getElem_cons_succ, List.getElem_cons_zero, Act.put, List.setIfInBounds_toArray, List.set_cons_zero, List.set_cons_succ]
    refine wpAnyH_take (i := 19) (oi := _) (v := ?v1_19) rfl (by kernel_rfl) (by kernel_rfl) (by kernel_rfl) (fun _ _ _ h => h) (Or.inl ⟨by rfl, ?hy1_19⟩) (by assumption) ?rest1_19
    case hy1_19 => (intro w hSw; (try dsimp only at hSw); go_simp; first | done | rfl)
    try simp only [List.getElem_toArray, List.getElem_cons_succ, List.getElem_cons_zero, Act.put, List.setIfInBounds_toArray, List.set_cons_zero, List.set_cons_succ]
    refine wpAnyH_take (i := 20) (oi := _) (v := ?v1_20) rfl (by kernel_rfl) (by kernel_rfl) (by kernel_rfl) (fun _ _ _ h => h) (Or.inl ⟨by rfl, ?hy1_20⟩) (by assumption) ?rest1_20
    case hy1_20 => (intro w hSw; (try dsimp only at hSw); go_simp; first | done | rfl)
    try simp only [List.getElem_toArray, List.getElem_cons_succ, List.getElem_cons_zero, Act.put, List.setIfInBounds_toArray, List.set_cons_zero, List.set_cons_succ]
    refine wpAnyH_take (i := 21) (oi := _) (v := undef) rfl (by kernel_rfl) (by kernel_rfl) (by kernel_rfl) (fun _ _ _ h => h) (Or.inr ⟨by rfl, rfl⟩) (by assumption) ?rest1_21
    try simp only [List.getElem_toArray, List.getElem_cons_succ, List.getElem_cons_zero, Act.put, List.setIfInBounds_toArray, List.set_cons_zero, List.set_cons_succ]
    refine wpAnyH_take (i := 22) (oi := _) (v := undef) rfl (by kernel_rfl) (by kernel_rfl) (by kernel_rfl) (fun _ _ _ h => h) (Or.inr ⟨by rfl, rfl⟩) (by assumption) ?rest1_22
    try simp only [List.getElem_toArray, List.getElem_cons_succ, List.getElem_cons_zero, Act.put, List.setIfInBounds_toArray, List.set_cons_zero, List.set_cons_succ]
    refine wpAnyH_take (i := 23) (oi := _) (v := undef) rfl (by kernel_rfl) (by kernel_rfl) (by kernel_rfl) (fun _ _ _ h => h) (Or.inr ⟨by rfl, rfl⟩) (by assumption) ?rest1_23
    try simp only [List.getElem_toArray, List.getElem_cons_succ, List.getElem_cons_zero, Act.put, List.setIfInBounds_toArray, List.set_cons_zero, List.set_cons_succ]
    refine wpAnyH_take (i := 24) (oi := _) (v := undef) rfl (by kernel_rfl) (by kernel_rfl) (by kernel_rfl) (fun _ _ _ h => h) (Or.inr ⟨by rfl, rfl⟩) (by assumption) ?rest1_24
    try simp only [List.getElem_toArray, List.getElem_cons_succ, List.getElem_cons_zero, Act.put, List.setIfInBounds_toArray, List.set_cons_zero, List.set_cons_succ]
    refine wpAnyH_take (i := 25) (oi := _) (v := undef) rfl (by kernel_rfl) (by kernel_rfl) (by kernel_rfl) (fun _ _ _ h => h) (Or.inr ⟨by rfl, rfl⟩) (by assumption) ?rest1_25
    try simp only [List.getElem_toArray, List.getElem_cons_succ, List.getElem_cons_zero, Act.put, List.setIfInBounds_toArray, List.set_cons_zero, List.set_cons_succ]
    refine wpAnyH_take (i := 26) (oi := _) (v := undef) rfl (by kernel_rfl) (by kernel_rfl) (by kernel_rfl) (fun _ _ _ h => h) (Or.inr ⟨by rfl, rfl⟩) (by assumption) ?rest1_26
    try simp only [List.getElem_toArray, List.getElem_cons_succ, List.getElem_cons_zero, Act.put, List.setIfInBounds_toArray, List.set_cons_zero, List.set_cons_succ]
    refine wpAnyH_take (i := 27) (oi := _) (v := ?v1_27) rfl (by kernel_rfl) (by kernel_rfl) (by kernel_rfl) (fun _ _ _ h => h) (Or.inl ⟨by rfl, ?hy1_27⟩) (by assumption) ?rest1_27
    case hy1_27 => (intro w hSw; (try dsimp only at hSw); go_simp; first | done | rfl)
    try simp only [List.getElem_toArray, List.getElem_cons_succ, List.getElem_cons_zero, Act.put, List.setIfInBounds_toArray, List.set_cons_zero, List.set_cons_succ]
    refine wpAnyH_done (by kernel_rfl) ?_ _
    go_wp2
    go_ret
    exact ⟨rfl, keepTF1 (by assumption)⟩
  | low A B C E ea eb ec ed y1 y2 y3 y4 h1 h2 h3 hp =>
    subst hp
    subst ea eb ec ed
    have H1 := Lib.hid h1
    have H2 := Lib.hid h2
    obtain ⟨v, hv⟩ : ∃ v, sideI A B N M = v := ⟨_, rfl⟩
    obtain ⟨u, hu⟩ : ∃ v, sideI C E N M = v := ⟨_, rfl⟩
    have HV := Lib.hid hv
    have HU := Lib.hid hu
    rw [hv] at h3
    have dv : decide (0 < v) = true := decide_eq_true h3
    clear h1 h2 hf1 hf2 hv hu
    go_enter Tryz.func14, Tryz.ntmps14
    go_wp2_with fail
    rw [← HW1.out]
    refine wp_region_held_drew (S := (fun w' => (w'.cell? ⟨w.heap.size, 0, none⟩ = some (.int .i64 P) ∧ w'.cell? ⟨w.heap.size, 1, none⟩ = some (.int .i64 D)) ∧ (w'.cell? ⟨w.heap.size + 1, 0, none⟩ = some (.int .i64 A) ∧ w'.cell? ⟨w.heap.size + 1, 1, none⟩ = some (.int .i64 B) ∧ w'.cell? ⟨w.heap.size + 1, 2, none⟩ = some (.int .i64 C) ∧ w'.cell? ⟨w.heap.size + 1, 3, none⟩ = some (.int .i64 E)) ∧ (w.heap.size < w'.heap.size ∧ w.heap.size + 1 < w'.heap.size) ∧ Below w.heap.size w w')) (by kernel_rfl) ?_ (fun hHeld => ?_)
    · exact ⟨⟨c0, c1⟩, ⟨d0, d1, d2, d3⟩, ⟨z0, z1⟩, below_drew hb1⟩
    refine wpAnyH_take (i := 0) (oi := _) (v := ?v2_0) rfl (by kernel_rfl) (by kernel_rfl) (by kernel_rfl) (fun _ _ _ h => h) (Or.inl ⟨by rfl, ?hy2_0⟩) (by assumption) ?rest2_0
    case hy2_0 => (intro w hSw; (try dsimp only at hSw); go_simp; first | done | rfl)
    try simp only [List.getElem_toArray, List.getElem_cons_zero, Act.put, List.setIfInBounds_toArray, List.set_cons_zero, List.set_cons_succ]
    refine wpAnyH_take (i := 1) (oi := _) (v := ?v2_1) rfl (by kernel_rfl) (by kernel_rfl) (by kernel_rfl) (fun _ _ _ h => h) (Or.inl ⟨by rfl, ?hy2_1⟩) (by assumption) ?rest2_1
    case hy2_1 => (intro w hSw; (try dsimp only at hSw); go_simp; first | done | rfl)
    try simp only [List.getElem_toArray, List.getElem_cons_succ, List.getElem_cons_zero, Act.put, List.setIfInBounds_toArray, List.set_cons_zero, List.set_cons_succ]
    refine wpAnyH_take (i := 2) (oi := _) (v := ?v2_2) rfl (by kernel_rfl) (by kernel_rfl) (by kernel_rfl) (fun _ _ _ h => h) (Or.inl ⟨by rfl, ?hy2_2⟩) (by assumption) ?rest2_2
    case hy2_2 => (intro w hSw; (try dsimp only at hSw); go_simp; first | done | rfl)
    try simp only [List.getElem_toArray, List.getElem_cons_succ, List.getElem_cons_zero, Act.put, List.setIfInBounds_toArray, List.set_cons_zero, List.set_cons_succ]
    refine wpAnyH_ready (rs := [3]) (by kernel_rfl) (by simp) ?_
    refine AllReadyH.cons (o := _) rfl (fun K hK => ?_) AllReadyH.nil
    simp only [List.getElem_toArray, List.getElem_cons_succ, List.getElem_cons_zero]
    go_simp
    go_at_call 60
    refine (HF.out _ _ _ _ H1.out).mono ?_
    rintro e w' ⟨rfl, hbq⟩
    try simp only []
    refine hK.out _ _ (keepTF (by assumption) (by assumption)) (fun hHeld => ?_)
    clear hK K
    try simp only [List.getElem_toArray, List.getElem_cons_succ, List.getElem_cons_zero, Act.put, List.setIfInBounds_toArray, List.set_cons_zero, List.set_cons_succ]
    refine wpAnyH_take (i := 4) (oi := _) (v := ?v2_4) rfl (by kernel_rfl) (by kernel_rfl) (by kernel_rfl) (fun _ _ _ h => h) (Or.inl ⟨by rfl, ?hy2_4⟩) (by assumption) ?rest2_4
    case hy2_4 => (intro w hSw; (try dsimp only at hSw); go_simp; first | done | rfl)
    try simp only [List.getElem_toArray, List.getElem_cons_succ, List.getElem_cons_zero, Act.put, List.setIfInBounds_toArray, List.set_cons_zero, List.set_cons_succ]
    refine wpAnyH_take (i := 5) (oi := _) (v := ?v2_5) rfl (by kernel_rfl) (by kernel_rfl) (by kernel_rfl) (fun _ _ _ h => h) (Or.inl ⟨by rfl, ?hy2_5⟩) (by assumption) ?rest2_5
    case hy2_5 => (intro w hSw; (try dsimp only at hSw); go_simp; first | done | rfl)
    try simp only [List.getElem_toArray, List.getElem_cons_succ, List.getElem_cons_zero, Act.put, List.setIfInBounds_toArray, List.set_cons_zero, List.set_cons_succ]
    refine wpAnyH_take (i := 6) (oi := _) (v := ?v2_6) rfl (by kernel_rfl) (by kernel_rfl) (by kernel_rfl) (fun _ _ _ h => h) (Or.inl ⟨by rfl, ?hy2_6⟩) (by assumption) ?rest2_6
    case hy2_6 => (intro w hSw; (try dsimp only at hSw); go_simp; first | done | rfl)
    try simp only [List.getElem_toArray, List.getElem_cons_succ, List.getElem_cons_zero, Act.put, List.setIfInBounds_toArray, List.set_cons_zero, List.set_cons_succ]
    refine wpAnyH_take (i := 7) (oi := _) (v := ?v2_7) rfl (by kernel_rfl) (by kernel_rfl) (by kernel_rfl) (fun _ _ _ h => h) (Or.inl ⟨by rfl, ?hy2_7⟩) (by assumption) ?rest2_7
    case hy2_7 => (intro w hSw; (try dsimp only at hSw); go_simp; first | done | rfl)
    try simp only [List.getElem_toArray, List.getElem_cons_succ, List.getElem_cons_zero, Act.put, List.setIfInBounds_toArray, List.set_cons_zero, List.set_cons_succ]
    refine wpAnyH_take (i := 8) (oi := _) (v := ?v2_8) rfl (by kernel_rfl) (by kernel_rfl) (by kernel_rfl) (fun _ _ _ h => h) (Or.inl ⟨by rfl, ?hy2_8⟩) (by assumption) ?rest2_8
    case hy2_8 => (intro w hSw; (try dsimp only at hSw); go_simp; first | done | rfl)
    try simp only [List.getElem_toArray, List.getElem_cons_succ, List.getElem_cons_zero, Act.put, List.setIfInBounds_toArray, List.set_cons_zero, List.set_cons_succ]
    refine wpAnyH_ready (rs := [9]) (by kernel_rfl) (by simp) ?_
    refine AllReadyH.cons (o := _) rfl (fun K hK => ?_) AllReadyH.nil
    simp only [List.getElem_toArray, List.getElem_cons_succ, List.getElem_cons_zero]
    go_simp
    go_at_call 60
    refine (HF.out _ _ _ _ H2.out).mono ?_
    rintro e w' ⟨rfl, hbq⟩
    try simp only []
    refine hK.out _ _ (keepTF (by assumption) (by assumption)) (fun hHeld => ?_)
    clear hK K
    try simp only [List.getElem_toArray, List.getElem_cons_succ, List.getElem_cons_zero, Act.put, List.setIfInBounds_toArray, List.set_cons_zero, List.set_cons_succ]
    refine wpAnyH_take (i := 10) (oi := _) (v := ?v2_10) rfl (by kernel_rfl) (by kernel_rfl) (by kernel_rfl) (fun _ _ _ h => h) (Or.inl ⟨by rfl, ?hy2_10⟩) (by assumption) ?rest2_10
    case hy2_10 => (intro w hSw; (try dsimp only at hSw); go_simp; first | done | rfl)
    try simp only [List.getElem_toArray, List.getElem_cons_succ, List.getElem_cons_zero, Act.put, List.setIfInBounds_toArray, List.set_cons_zero, List.set_cons_succ]
    refine wpAnyH_take (i := 11) (oi := _) (v := ?v2_11) rfl (by kernel_rfl) (by kernel_rfl) (by kernel_rfl) (fun _ _ _ h => h) (Or.inl ⟨by rfl, ?hy2_11⟩) (by assumption) ?rest2_11
    case hy2_11 => (intro w hSw; (try dsimp only at hSw); go_simp; first | done | rfl)
    try simp only [List.getElem_toArray, List.getElem_cons_succ, List.getElem_cons_zero, Act.put, List.setIfInBounds_toArray, List.set_cons_zero, List.set_cons_succ]
    refine wpAnyH_take (i := 12) (oi := _) (v := ?v2_12) rfl (by kernel_rfl) (by kernel_rfl) (by kernel_rfl) (fun _ _ _ h => h) (Or.inl ⟨by rfl, ?hy2_12⟩) (by assumption) ?rest2_12
    case hy2_12 => (intro w hSw; (try dsimp only at hSw); go_simp; first | done | rfl)
    try simp only [List.getElem_toArray, List.getElem_cons_succ, List.getElem_cons_zero, Act.put, List.setIfInBounds_toArray, List.set_cons_zero, List.set_cons_succ]
    refine wpAnyH_take (i := 13) (oi := _) (v := ?v2_13) rfl (by kernel_rfl) (by kernel_rfl) (by kernel_rfl) (fun _ _ _ h => h) (Or.inl ⟨by rfl, ?hy2_13⟩) (by assumption) ?rest2_13
    case hy2_13 => (intro w hSw; (try dsimp only at hSw); go_simp; first | done | rfl)
    try simp only [List.getElem_toArray, List.getElem_cons_succ, List.getElem_cons_zero, Act.put, List.setIfInBounds_toArray, List.set_cons_zero, List.set_cons_succ]
    refine wpAnyH_take (i := 14) (oi := _) (v := ?v2_14) rfl (by kernel_rfl) (by kernel_rfl) (by kernel_rfl) (fun _ _ _ h => h) (Or.inl ⟨by rfl, ?hy2_14⟩) (by assumption) ?rest2_14
    case hy2_14 => (intro w hSw; (try dsimp only at hSw); go_simp; first | done | rfl)
    try simp only [List.getElem_toArray, List.getElem_cons_succ, List.getElem_cons_zero, Act.put, List.setIfInBounds_toArray, List.set_cons_zero, List.set_cons_succ]
    refine wpAnyH_take (i := 15) (oi := _) (v := ?v2_15) rfl (by kernel_rfl) (by kernel_rfl) (by kernel_rfl) (fun _ _ _ h => h) (Or.inl ⟨by rfl, ?hy2_15⟩) (by assumption) ?rest2_15
    case hy2_15 => (intro w hSw; (try dsimp only at hSw); go_simp; first | done | rfl)
    try simp only [List.getElem_toArray, List.getElem_cons_succ, List.getElem_cons_zero, Act.put, List.setIfInBounds_toArray, List.set_cons_zero, List.set_cons_succ]
    refine wpAnyH_ready (rs := [16]) (by kernel_rfl) (by simp) ?_
    refine AllReadyH.cons (o := _) rfl (fun K hK => ?_) AllReadyH.nil
    simp only [List.getElem_toArray, List.getElem_cons_succ, List.getElem_cons_zero]
    go_simp
    go_at_call 54
    refine (HSH.out _).mono ?_
    rintro e w' ⟨rfl, hbq⟩
    try simp only []
    refine hK.out _ _ (keepTF (by assumption) (by assumption)) (fun hHeld => ?_)
    clear hK K
    try simp only [List.getElem_toArray, List.getElem_cons_succ, List.getElem_cons_zero, Act.put, List.setIfInBounds_toArray, List.set_cons_zero, List.set_cons_succ]
    refine wpAnyH_ready (rs := [17]) (by kernel_rfl) (by simp) ?_
    refine AllReadyH.cons (o := _) rfl (fun K hK => ?_) AllReadyH.nil
    simp only [List.getElem_toArray, List.getElem_cons_succ, List.getElem_cons_zero]
    go_simp
    go_at_call 55
    refine (HSD.out _ _ _ _ HV.out (by assumption) (by assumption)).mono ?_
    rintro e w' ⟨rfl, hbq⟩
    try simp only []
    refine hK.out _ _ (keepTF (by assumption) (by assumption)) (fun hHeld => ?_)
    clear hK K
    try simp only [List.getElem_toArray, List.getElem_cons_succ, List.getElem_cons_zero, Act.put, List.setIfInBounds_toArray, List.set_cons_zero, List.set_cons_succ]
    refine wpAnyH_take (i := 18) (oi := _) (v := ?v2_18) rfl (by kernel_rfl) (by kernel_rfl) (by kernel_rfl) (fun _ _ _ h => h) (Or.inl ⟨by rfl, ?hy2_18⟩) (by assumption) ?rest2_18
    case hy2_18 => (intro w hSw; (try dsimp only at hSw); go_simp; first | done | rfl)
    try simp only [List.getElem_toArray, List.getElem_cons_succ, List.getElem_cons_zero, Act.put, List.setIfInBounds_toArray, List.set_cons_zero, List.set_cons_succ]
    refine wpAnyH_take (i := 19) (oi := _) (v := ?v2_19) rfl (by kernel_rfl) (by kernel_rfl) (by kernel_rfl) (fun _ _ _ h => h) (Or.inl ⟨by rfl, ?hy2_19⟩) (by assumption) ?rest2_19
    case hy2_19 => (intro w hSw; (try dsimp only at hSw); go_simp; first | done | rfl)
    try simp only [List.getElem_toArray, List.getElem_cons_succ, List.getElem_cons_zero, Act.put, List.setIfInBounds_toArray, List.set_cons_zero, List.set_cons_succ]
    refine wpAnyH_take (i := 20) (oi := _) (v := ?v2_20) rfl (by kernel_rfl) (by kernel_rfl) (by kernel_rfl) (fun _ _ _ h => h) (Or.inl ⟨by rfl, ?hy2_20⟩) (by assumption) ?rest2_20
    case hy2_20 => (intro w hSw; (try dsimp only at hSw); go_simp; first | done | rfl)
    try simp only [List.getElem_toArray, List.getElem_cons_succ, List.getElem_cons_zero, Act.put, List.setIfInBounds_toArray, List.set_cons_zero, List.set_cons_succ]
    refine wpAnyH_take (i := 21) (oi := _) (v := undef) rfl (by kernel_rfl) (by kernel_rfl) (by kernel_rfl) (fun _ _ _ h => h) (Or.inr ⟨by rfl, rfl⟩) (by assumption) ?rest2_21
    try simp only [List.getElem_toArray, List.getElem_cons_succ, List.getElem_cons_zero, Act.put, List.setIfInBounds_toArray, List.set_cons_zero, List.set_cons_succ]
    refine wpAnyH_take (i := 22) (oi := _) (v := undef) rfl (by kernel_rfl) (by kernel_rfl) (by kernel_rfl) (fun _ _ _ h => h) (Or.inr ⟨by rfl, rfl⟩) (by assumption) ?rest2_22
    try simp only [List.getElem_toArray, List.getElem_cons_succ, List.getElem_cons_zero, Act.put, List.setIfInBounds_toArray, List.set_cons_zero, List.set_cons_succ]
    refine wpAnyH_take (i := 23) (oi := _) (v := undef) rfl (by kernel_rfl) (by kernel_rfl) (by kernel_rfl) (fun _ _ _ h => h) (Or.inr ⟨by rfl, rfl⟩) (by assumption) ?rest2_23
    try simp only [List.getElem_toArray, List.getElem_cons_succ, List.getElem_cons_zero, Act.put, List.setIfInBounds_toArray, List.set_cons_zero, List.set_cons_succ]
    refine wpAnyH_take (i := 24) (oi := _) (v := undef) rfl (by kernel_rfl) (by kernel_rfl) (by kernel_rfl) (fun _ _ _ h => h) (Or.inr ⟨by rfl, rfl⟩) (by assumption) ?rest2_24
    try simp only [List.getElem_toArray, List.getElem_cons_succ, List.getElem_cons_zero, Act.put, List.setIfInBounds_toArray, List.set_cons_zero, List.set_cons_succ]
    refine wpAnyH_take (i := 25) (oi := _) (v := undef) rfl (by kernel_rfl) (by kernel_rfl) (by kernel_rfl) (fun _ _ _ h => h) (Or.inr ⟨by rfl, rfl⟩) (by assumption) ?rest2_25
    try simp only [List.getElem_toArray, List.getElem_cons_succ, List.getElem_cons_zero, Act.put, List.setIfInBounds_toArray, List.set_cons_zero, List.set_cons_succ]
    refine wpAnyH_take (i := 26) (oi := _) (v := undef) rfl (by kernel_rfl) (by kernel_rfl) (by kernel_rfl) (fun _ _ _ h => h) (Or.inr ⟨by rfl, rfl⟩) (by assumption) ?rest2_26
    try simp only [List.getElem_toArray, List.getElem_cons_succ, List.getElem_cons_zero, Act.put, List.setIfInBounds_toArray, List.set_cons_zero, List.set_cons_succ]
    refine wpAnyH_take (i := 27) (oi := _) (v := ?v2_27) rfl (by kernel_rfl) (by kernel_rfl) (by kernel_rfl) (fun _ _ _ h => h) (Or.inl ⟨by rfl, ?hy2_27⟩) (by assumption) ?rest2_27
    case hy2_27 => (intro w hSw; (try dsimp only at hSw); go_simp; first | done | rfl)
    try simp only [List.getElem_toArray, List.getElem_cons_succ, List.getElem_cons_zero, Act.put, List.setIfInBounds_toArray, List.set_cons_zero, List.set_cons_succ]
    refine wpAnyH_done (by kernel_rfl) ?_ _
    go_wp2
    go_ret
    exact ⟨rfl, keepTF1 (by assumption)⟩
  | high A B C E ea eb ec ed y1 y2 y3 y4 h1 h2 h3 h4 hp =>
    subst hp
    subst ea eb ec ed
    have H1 := Lib.hid h1
    have H2 := Lib.hid h2
    obtain ⟨v, hv⟩ : ∃ v, sideI A B N M = v := ⟨_, rfl⟩
    obtain ⟨u, hu⟩ : ∃ v, sideI C E N M = v := ⟨_, rfl⟩
    have HV := Lib.hid hv
    have HU := Lib.hid hu
    rw [hv] at h3
    rw [hu] at h4
    have dv : decide (0 < v) = false := decide_eq_false h3
    have du : decide (u < 0) = true := decide_eq_true h4
    clear h1 h2 hf1 hf2 hv hu
    go_enter Tryz.func14, Tryz.ntmps14
    go_wp2_with fail
    rw [← HW1.out]
    refine wp_region_held_drew (S := (fun w' => (w'.cell? ⟨w.heap.size, 0, none⟩ = some (.int .i64 P) ∧ w'.cell? ⟨w.heap.size, 1, none⟩ = some (.int .i64 D)) ∧ (w'.cell? ⟨w.heap.size + 1, 0, none⟩ = some (.int .i64 A) ∧ w'.cell? ⟨w.heap.size + 1, 1, none⟩ = some (.int .i64 B) ∧ w'.cell? ⟨w.heap.size + 1, 2, none⟩ = some (.int .i64 C) ∧ w'.cell? ⟨w.heap.size + 1, 3, none⟩ = some (.int .i64 E)) ∧ (w.heap.size < w'.heap.size ∧ w.heap.size + 1 < w'.heap.size) ∧ Below w.heap.size w w')) (by kernel_rfl) ?_ (fun hHeld => ?_)
    · exact ⟨⟨c0, c1⟩, ⟨d0, d1, d2, d3⟩, ⟨z0, z1⟩, below_drew hb1⟩
    refine wpAnyH_take (i := 0) (oi := _) (v := ?v3_0) rfl (by kernel_rfl) (by kernel_rfl) (by kernel_rfl) (fun _ _ _ h => h) (Or.inl ⟨by rfl, ?hy3_0⟩) (by assumption) ?rest3_0
    case hy3_0 => (intro w hSw; (try dsimp only at hSw); go_simp; first | done | rfl)
    try simp only [List.getElem_toArray, List.getElem_cons_zero, Act.put, List.setIfInBounds_toArray, List.set_cons_zero, List.set_cons_succ]
    refine wpAnyH_take (i := 1) (oi := _) (v := ?v3_1) rfl (by kernel_rfl) (by kernel_rfl) (by kernel_rfl) (fun _ _ _ h => h) (Or.inl ⟨by rfl, ?hy3_1⟩) (by assumption) ?rest3_1
    case hy3_1 => (intro w hSw; (try dsimp only at hSw); go_simp; first | done | rfl)
    try simp only [List.getElem_toArray, List.getElem_cons_succ, List.getElem_cons_zero, Act.put, List.setIfInBounds_toArray, List.set_cons_zero, List.set_cons_succ]
    refine wpAnyH_take (i := 2) (oi := _) (v := ?v3_2) rfl (by kernel_rfl) (by kernel_rfl) (by kernel_rfl) (fun _ _ _ h => h) (Or.inl ⟨by rfl, ?hy3_2⟩) (by assumption) ?rest3_2
    case hy3_2 => (intro w hSw; (try dsimp only at hSw); go_simp; first | done | rfl)
    try simp only [List.getElem_toArray, List.getElem_cons_succ, List.getElem_cons_zero, Act.put, List.setIfInBounds_toArray, List.set_cons_zero, List.set_cons_succ]
    refine wpAnyH_ready (rs := [3]) (by kernel_rfl) (by simp) ?_
    refine AllReadyH.cons (o := _) rfl (fun K hK => ?_) AllReadyH.nil
    simp only [List.getElem_toArray, List.getElem_cons_succ, List.getElem_cons_zero]
    go_simp
    go_at_call 60
    refine (HF.out _ _ _ _ H1.out).mono ?_
    rintro e w' ⟨rfl, hbq⟩
    try simp only []
    refine hK.out _ _ (keepTF (by assumption) (by assumption)) (fun hHeld => ?_)
    clear hK K
    try simp only [List.getElem_toArray, List.getElem_cons_succ, List.getElem_cons_zero, Act.put, List.setIfInBounds_toArray, List.set_cons_zero, List.set_cons_succ]
    refine wpAnyH_take (i := 4) (oi := _) (v := ?v3_4) rfl (by kernel_rfl) (by kernel_rfl) (by kernel_rfl) (fun _ _ _ h => h) (Or.inl ⟨by rfl, ?hy3_4⟩) (by assumption) ?rest3_4
    case hy3_4 => (intro w hSw; (try dsimp only at hSw); go_simp; first | done | rfl)
    try simp only [List.getElem_toArray, List.getElem_cons_succ, List.getElem_cons_zero, Act.put, List.setIfInBounds_toArray, List.set_cons_zero, List.set_cons_succ]
    refine wpAnyH_take (i := 5) (oi := _) (v := ?v3_5) rfl (by kernel_rfl) (by kernel_rfl) (by kernel_rfl) (fun _ _ _ h => h) (Or.inl ⟨by rfl, ?hy3_5⟩) (by assumption) ?rest3_5
    case hy3_5 => (intro w hSw; (try dsimp only at hSw); go_simp; first | done | rfl)
    try simp only [List.getElem_toArray, List.getElem_cons_succ, List.getElem_cons_zero, Act.put, List.setIfInBounds_toArray, List.set_cons_zero, List.set_cons_succ]
    refine wpAnyH_take (i := 6) (oi := _) (v := ?v3_6) rfl (by kernel_rfl) (by kernel_rfl) (by kernel_rfl) (fun _ _ _ h => h) (Or.inl ⟨by rfl, ?hy3_6⟩) (by assumption) ?rest3_6
    case hy3_6 => (intro w hSw; (try dsimp only at hSw); go_simp; first | done | rfl)
    try simp only [List.getElem_toArray, List.getElem_cons_succ, List.getElem_cons_zero, Act.put, List.setIfInBounds_toArray, List.set_cons_zero, List.set_cons_succ]
    refine wpAnyH_take (i := 7) (oi := _) (v := ?v3_7) rfl (by kernel_rfl) (by kernel_rfl) (by kernel_rfl) (fun _ _ _ h => h) (Or.inl ⟨by rfl, ?hy3_7⟩) (by assumption) ?rest3_7
    case hy3_7 => (intro w hSw; (try dsimp only at hSw); go_simp; first | done | rfl)
    try simp only [List.getElem_toArray, List.getElem_cons_succ, List.getElem_cons_zero, Act.put, List.setIfInBounds_toArray, List.set_cons_zero, List.set_cons_succ]
    refine wpAnyH_take (i := 8) (oi := _) (v := ?v3_8) rfl (by kernel_rfl) (by kernel_rfl) (by kernel_rfl) (fun _ _ _ h => h) (Or.inl ⟨by rfl, ?hy3_8⟩) (by assumption) ?rest3_8
    case hy3_8 => (intro w hSw; (try dsimp only at hSw); go_simp; first | done | rfl)
    try simp only [List.getElem_toArray, List.getElem_cons_succ, List.getElem_cons_zero, Act.put, List.setIfInBounds_toArray, List.set_cons_zero, List.set_cons_succ]
    refine wpAnyH_ready (rs := [9]) (by kernel_rfl) (by simp) ?_
    refine AllReadyH.cons (o := _) rfl (fun K hK => ?_) AllReadyH.nil
    simp only [List.getElem_toArray, List.getElem_cons_succ, List.getElem_cons_zero]
    go_simp
    go_at_call 60
    refine (HF.out _ _ _ _ H2.out).mono ?_
    rintro e w' ⟨rfl, hbq⟩
    try simp only []
    refine hK.out _ _ (keepTF (by assumption) (by assumption)) (fun hHeld => ?_)
    clear hK K
    try simp only [List.getElem_toArray, List.getElem_cons_succ, List.getElem_cons_zero, Act.put, List.setIfInBounds_toArray, List.set_cons_zero, List.set_cons_succ]
    refine wpAnyH_take (i := 10) (oi := _) (v := ?v3_10) rfl (by kernel_rfl) (by kernel_rfl) (by kernel_rfl) (fun _ _ _ h => h) (Or.inl ⟨by rfl, ?hy3_10⟩) (by assumption) ?rest3_10
    case hy3_10 => (intro w hSw; (try dsimp only at hSw); go_simp; first | done | rfl)
    try simp only [List.getElem_toArray, List.getElem_cons_succ, List.getElem_cons_zero, Act.put, List.setIfInBounds_toArray, List.set_cons_zero, List.set_cons_succ]
    refine wpAnyH_take (i := 11) (oi := _) (v := ?v3_11) rfl (by kernel_rfl) (by kernel_rfl) (by kernel_rfl) (fun _ _ _ h => h) (Or.inl ⟨by rfl, ?hy3_11⟩) (by assumption) ?rest3_11
    case hy3_11 => (intro w hSw; (try dsimp only at hSw); go_simp; first | done | rfl)
    try simp only [List.getElem_toArray, List.getElem_cons_succ, List.getElem_cons_zero, Act.put, List.setIfInBounds_toArray, List.set_cons_zero, List.set_cons_succ]
    refine wpAnyH_take (i := 12) (oi := _) (v := ?v3_12) rfl (by kernel_rfl) (by kernel_rfl) (by kernel_rfl) (fun _ _ _ h => h) (Or.inl ⟨by rfl, ?hy3_12⟩) (by assumption) ?rest3_12
    case hy3_12 => (intro w hSw; (try dsimp only at hSw); go_simp; first | done | rfl)
    try simp only [List.getElem_toArray, List.getElem_cons_succ, List.getElem_cons_zero, Act.put, List.setIfInBounds_toArray, List.set_cons_zero, List.set_cons_succ]
    refine wpAnyH_take (i := 13) (oi := _) (v := ?v3_13) rfl (by kernel_rfl) (by kernel_rfl) (by kernel_rfl) (fun _ _ _ h => h) (Or.inl ⟨by rfl, ?hy3_13⟩) (by assumption) ?rest3_13
    case hy3_13 => (intro w hSw; (try dsimp only at hSw); go_simp; first | done | rfl)
    try simp only [List.getElem_toArray, List.getElem_cons_succ, List.getElem_cons_zero, Act.put, List.setIfInBounds_toArray, List.set_cons_zero, List.set_cons_succ]
    refine wpAnyH_take (i := 14) (oi := _) (v := ?v3_14) rfl (by kernel_rfl) (by kernel_rfl) (by kernel_rfl) (fun _ _ _ h => h) (Or.inl ⟨by rfl, ?hy3_14⟩) (by assumption) ?rest3_14
    case hy3_14 => (intro w hSw; (try dsimp only at hSw); go_simp; first | done | rfl)
    try simp only [List.getElem_toArray, List.getElem_cons_succ, List.getElem_cons_zero, Act.put, List.setIfInBounds_toArray, List.set_cons_zero, List.set_cons_succ]
    refine wpAnyH_take (i := 15) (oi := _) (v := ?v3_15) rfl (by kernel_rfl) (by kernel_rfl) (by kernel_rfl) (fun _ _ _ h => h) (Or.inl ⟨by rfl, ?hy3_15⟩) (by assumption) ?rest3_15
    case hy3_15 => (intro w hSw; (try dsimp only at hSw); go_simp; first | done | rfl)
    try simp only [List.getElem_toArray, List.getElem_cons_succ, List.getElem_cons_zero, Act.put, List.setIfInBounds_toArray, List.set_cons_zero, List.set_cons_succ]
    refine wpAnyH_ready (rs := [16]) (by kernel_rfl) (by simp) ?_
    refine AllReadyH.cons (o := _) rfl (fun K hK => ?_) AllReadyH.nil
    simp only [List.getElem_toArray, List.getElem_cons_succ, List.getElem_cons_zero]
    go_simp
    go_at_call 54
    refine (HSH.out _).mono ?_
    rintro e w' ⟨rfl, hbq⟩
    try simp only []
    refine hK.out _ _ (keepTF (by assumption) (by assumption)) (fun hHeld => ?_)
    clear hK K
    try simp only [List.getElem_toArray, List.getElem_cons_succ, List.getElem_cons_zero, Act.put, List.setIfInBounds_toArray, List.set_cons_zero, List.set_cons_succ]
    refine wpAnyH_ready (rs := [17]) (by kernel_rfl) (by simp) ?_
    refine AllReadyH.cons (o := _) rfl (fun K hK => ?_) AllReadyH.nil
    simp only [List.getElem_toArray, List.getElem_cons_succ, List.getElem_cons_zero]
    go_simp
    go_at_call 55
    refine (HSD.out _ _ _ _ HV.out (by assumption) (by assumption)).mono ?_
    rintro e w' ⟨rfl, hbq⟩
    try simp only []
    refine hK.out _ _ (keepTF (by assumption) (by assumption)) (fun hHeld => ?_)
    clear hK K
    try simp only [List.getElem_toArray, List.getElem_cons_succ, List.getElem_cons_zero, Act.put, List.setIfInBounds_toArray, List.set_cons_zero, List.set_cons_succ]
    refine wpAnyH_take (i := 18) (oi := _) (v := ?v3_18) rfl (by kernel_rfl) (by kernel_rfl) (by kernel_rfl) (fun _ _ _ h => h) (Or.inl ⟨by rfl, ?hy3_18⟩) (by assumption) ?rest3_18
    case hy3_18 => (intro w hSw; (try dsimp only at hSw); go_simp; first | done | rfl)
    try simp only [List.getElem_toArray, List.getElem_cons_succ, List.getElem_cons_zero, Act.put, List.setIfInBounds_toArray, List.set_cons_zero, List.set_cons_succ]
    refine wpAnyH_take (i := 19) (oi := _) (v := ?v3_19) rfl (by kernel_rfl) (by kernel_rfl) (by kernel_rfl) (fun _ _ _ h => h) (Or.inl ⟨by rfl, ?hy3_19⟩) (by assumption) ?rest3_19
    case hy3_19 => (intro w hSw; (try dsimp only at hSw); go_simp; first | done | rfl)
    try simp only [List.getElem_toArray, List.getElem_cons_succ, List.getElem_cons_zero, Act.put, List.setIfInBounds_toArray, List.set_cons_zero, List.set_cons_succ]
    refine wpAnyH_take (i := 20) (oi := _) (v := ?v3_20) rfl (by kernel_rfl) (by kernel_rfl) (by kernel_rfl) (fun _ _ _ h => h) (Or.inl ⟨by rfl, ?hy3_20⟩) (by assumption) ?rest3_20
    case hy3_20 => (intro w hSw; (try dsimp only at hSw); go_simp; first | done | rfl)
    try simp only [List.getElem_toArray, List.getElem_cons_succ, List.getElem_cons_zero, Act.put, List.setIfInBounds_toArray, List.set_cons_zero, List.set_cons_succ]
    refine wpAnyH_take (i := 21) (oi := _) (v := ?v3_21) rfl (by kernel_rfl) (by kernel_rfl) (by kernel_rfl) (fun _ _ _ h => h) (Or.inl ⟨by rfl, ?hy3_21⟩) (by assumption) ?rest3_21
    case hy3_21 => (intro w hSw; (try dsimp only at hSw); go_simp; first | done | rfl)
    try simp only [List.getElem_toArray, List.getElem_cons_succ, List.getElem_cons_zero, Act.put, List.setIfInBounds_toArray, List.set_cons_zero, List.set_cons_succ]
    refine wpAnyH_take (i := 22) (oi := _) (v := ?v3_22) rfl (by kernel_rfl) (by kernel_rfl) (by kernel_rfl) (fun _ _ _ h => h) (Or.inl ⟨by rfl, ?hy3_22⟩) (by assumption) ?rest3_22
    case hy3_22 => (intro w hSw; (try dsimp only at hSw); go_simp; first | done | rfl)
    try simp only [List.getElem_toArray, List.getElem_cons_succ, List.getElem_cons_zero, Act.put, List.setIfInBounds_toArray, List.set_cons_zero, List.set_cons_succ]
    refine wpAnyH_take (i := 23) (oi := _) (v := ?v3_23) rfl (by kernel_rfl) (by kernel_rfl) (by kernel_rfl) (fun _ _ _ h => h) (Or.inl ⟨by rfl, ?hy3_23⟩) (by assumption) ?rest3_23
    case hy3_23 => (intro w hSw; (try dsimp only at hSw); go_simp; first | done | rfl)
    try simp only [List.getElem_toArray, List.getElem_cons_succ, List.getElem_cons_zero, Act.put, List.setIfInBounds_toArray, List.set_cons_zero, List.set_cons_succ]
    refine wpAnyH_ready (rs := [24]) (by kernel_rfl) (by simp) ?_
    refine AllReadyH.cons (o := _) rfl (fun K hK => ?_) AllReadyH.nil
    simp only [List.getElem_toArray, List.getElem_cons_succ, List.getElem_cons_zero]
    go_simp
    go_at_call 54
    refine (HSH.out _).mono ?_
    rintro e w' ⟨rfl, hbq⟩
    try simp only []
    refine hK.out _ _ (keepTF (by assumption) (by assumption)) (fun hHeld => ?_)
    clear hK K
    try simp only [List.getElem_toArray, List.getElem_cons_succ, List.getElem_cons_zero, Act.put, List.setIfInBounds_toArray, List.set_cons_zero, List.set_cons_succ]
    refine wpAnyH_ready (rs := [25]) (by kernel_rfl) (by simp) ?_
    refine AllReadyH.cons (o := _) rfl (fun K hK => ?_) AllReadyH.nil
    simp only [List.getElem_toArray, List.getElem_cons_succ, List.getElem_cons_zero]
    go_simp
    go_at_call 55
    refine (HSD.out _ _ _ _ HU.out (by assumption) (by assumption)).mono ?_
    rintro e w' ⟨rfl, hbq⟩
    try simp only []
    refine hK.out _ _ (keepTF (by assumption) (by assumption)) (fun hHeld => ?_)
    clear hK K
    try simp only [List.getElem_toArray, List.getElem_cons_succ, List.getElem_cons_zero, Act.put, List.setIfInBounds_toArray, List.set_cons_zero, List.set_cons_succ]
    refine wpAnyH_take (i := 26) (oi := _) (v := ?v3_26) rfl (by kernel_rfl) (by kernel_rfl) (by kernel_rfl) (fun _ _ _ h => h) (Or.inl ⟨by rfl, ?hy3_26⟩) (by assumption) ?rest3_26
    case hy3_26 => (intro w hSw; (try dsimp only at hSw); go_simp; first | done | rfl)
    try simp only [List.getElem_toArray, List.getElem_cons_succ, List.getElem_cons_zero, Act.put, List.setIfInBounds_toArray, List.set_cons_zero, List.set_cons_succ]
    refine wpAnyH_take (i := 27) (oi := _) (v := ?v3_27) rfl (by kernel_rfl) (by kernel_rfl) (by kernel_rfl) (fun _ _ _ h => h) (Or.inl ⟨by rfl, ?hy3_27⟩) (by assumption) ?rest3_27
    case hy3_27 => (intro w hSw; (try dsimp only at hSw); go_simp; first | done | rfl)
    try simp only [List.getElem_toArray, List.getElem_cons_succ, List.getElem_cons_zero, Act.put, List.setIfInBounds_toArray, List.set_cons_zero, List.set_cons_succ]
    refine wpAnyH_done (by kernel_rfl) ?_ _
    go_wp2
    go_ret
    exact ⟨rfl, keepTF1 (by assumption)⟩
  | on A B C E ea eb ec ed y1 y2 y3 y4 h1 h2 h3 h4 hp =>
    subst ea eb ec ed
    have H1 := Lib.hid h1
    have H2 := Lib.hid h2
    obtain ⟨v, hv⟩ : ∃ v, sideI A B N M = v := ⟨_, rfl⟩
    obtain ⟨u, hu⟩ : ∃ v, sideI C E N M = v := ⟨_, rfl⟩
    have HV := Lib.hid hv
    have HU := Lib.hid hu
    have HP := Lib.hid hp
    rw [hv] at h3
    rw [hu] at h4
    have dv : decide (0 < v) = false := decide_eq_false h3
    have du : decide (u < 0) = false := decide_eq_false h4
    clear h1 h2 hf1 hf2 hv hu hp
    go_enter Tryz.func14, Tryz.ntmps14
    go_wp2_with fail
    rw [← HW1.out]
    go_region_held3 (fun w' => (w'.cell? ⟨w.heap.size, 0, none⟩ = some (.int .i64 P) ∧ w'.cell? ⟨w.heap.size, 1, none⟩ = some (.int .i64 D)) ∧ (w'.cell? ⟨w.heap.size + 1, 0, none⟩ = some (.int .i64 A) ∧ w'.cell? ⟨w.heap.size + 1, 1, none⟩ = some (.int .i64 B) ∧ w'.cell? ⟨w.heap.size + 1, 2, none⟩ = some (.int .i64 C) ∧ w'.cell? ⟨w.heap.size + 1, 3, none⟩ = some (.int .i64 E)) ∧ (w.heap.size < w'.heap.size ∧ w.heap.size + 1 < w'.heap.size) ∧ Below w.heap.size w w')
      (first | exact ⟨⟨c0, c1⟩, ⟨d0, d1, d2, d3⟩, ⟨z0, z1⟩, below_drew hb1⟩ | exact keepTF (by assumption) (by assumption) | assumption | go_keep)
      (first
        | (go_at_call 60; refine (HF.out _ _ _ _ (by first | exact H1.out | exact H2.out)).mono ?_; rintro e w' ⟨rfl, hbq⟩)
        | (go_at_call 54; refine (HSH.out _).mono ?_; rintro e w' ⟨rfl, hbq⟩)
        | (go_at_call 55; refine (HSD.out _ _ _ _ (by first | exact HV.out | exact HU.out) (by assumption) (by assumption)).mono ?_; rintro e w' ⟨rfl, hbq⟩))
    all_goals
      rename_i hS
      obtain ⟨-, ⟨e0, e1, e2, e3⟩, -, hbf⟩ := hS
      have gd := guardPartR
      have l1 : C * B ≤ 64 * 64 := Nat.mul_le_mul y3 y2
      have l2 : A * E ≤ 64 * 64 := Nat.mul_le_mul y1 y4
      have m1 : (C : Int) * (B : Int) = ((C * B : Nat) : Int) := by push_cast; rfl
      have m2 : (A : Int) * (E : Int) = ((A * E : Nat) : Int) := by push_cast; rfl
      obtain ⟨u1, hu1⟩ : ∃ u, C * B = u := ⟨_, rfl⟩
      obtain ⟨u2, hu2⟩ : ∃ u, A * E = u := ⟨_, rfl⟩
      rw [hu1] at l1 m1
      rw [hu2] at l2 m2
      rw [m1, m2] at HP
      clear hu1 hu2 d0 d1 d2 d3 c0 c1
      by_cases g3 : (A : Int) = C ∧ (B : Int) = E
      · have hq := fun w => eqPartR A B C E true (decide_eq_true g3) w
        have HPF := Lib.hid (show p = true by rw [HP.out]; exact decide_eq_true (.inl g3))
        clear HP g3
        go_wp2
        go_ret
        exact ⟨ret_b HPF.out.symm, hbf⟩
      · have hq := fun w => eqPartR A B C E false (decide_eq_false g3) w
        have HPF := Lib.hid (show p = decide ((u1 : Int) - u2 = 1 ∧ (n : Int) < B + E) by
          rw [HP.out]; exact decide_eq_decide.2 ⟨fun h => h.resolve_left g3, fun h => .inr h⟩)
        clear HP g3
        by_cases g4 : (u1 : Int) - u2 = 1
        · have HPG := Lib.hid (show p = decide ((n : Int) < B + E) by rw [HPF.out]; exact decide_eq_decide.2 ⟨fun h => h.2, fun h => ⟨g4, h⟩⟩)
          have e4 : ((u1 : Int) - (u2 : Int) == 1) = true := by rw [beq_iff_eq]; exact g4
          clear HPF g4
          go_wp2
          go_ret
          exact ⟨ret_b HPG.out.symm, hbf⟩
        · have HPG := Lib.hid (show p = false by rw [HPF.out]; exact decide_eq_false (fun h => g4 h.1))
          have e4 : ((u1 : Int) - (u2 : Int) == 1) = false := by rw [beq_eq_false_iff_ne]; exact g4
          clear HPF g4
          go_wp2
          go_ret
          exact ⟨ret_b HPG.out.symm, hbf⟩
end Go.Proofs.YtfmfpnnglogkmaaGreatDoor

/- The walk of TaperNearest. -/
namespace Go.Proofs.YtfmfpnnglogkmaaGreatDoor
open Go.RowKit Go.Shelf Ck

theorem four_atN {W : World} {b : Nat} {a c d e : Value} {t : TypeId} (h : W.heap[b]? = some (.cells #[a, c, d, e] t (0, 0))) : W.cell? ⟨b, 0, none⟩ = some a ∧ W.cell? ⟨b, 1, none⟩ = some c ∧ W.cell? ⟨b, 2, none⟩ = some d ∧ W.cell? ⟨b, 3, none⟩ = some e := (four_cell h).1
theorem keep8N {W w1 w2 : World} {g h : Nat} {a b c d a' b' c' d' : Value}
    (hh : (w1.cell? ⟨g, 0, none⟩ = some a ∧ w1.cell? ⟨g, 1, none⟩ = some b ∧ w1.cell? ⟨g, 2, none⟩ = some c ∧ w1.cell? ⟨g, 3, none⟩ = some d) ∧ (w1.cell? ⟨h, 0, none⟩ = some a' ∧ w1.cell? ⟨h, 1, none⟩ = some b' ∧ w1.cell? ⟨h, 2, none⟩ = some c' ∧ w1.cell? ⟨h, 3, none⟩ = some d') ∧ (g < w1.heap.size ∧ h < w1.heap.size) ∧ Below W.heap.size W w1)
    (hb : Below w1.heap.size w1 w2) : (w2.cell? ⟨g, 0, none⟩ = some a ∧ w2.cell? ⟨g, 1, none⟩ = some b ∧ w2.cell? ⟨g, 2, none⟩ = some c ∧ w2.cell? ⟨g, 3, none⟩ = some d) ∧ (w2.cell? ⟨h, 0, none⟩ = some a' ∧ w2.cell? ⟨h, 1, none⟩ = some b' ∧ w2.cell? ⟨h, 2, none⟩ = some c' ∧ w2.cell? ⟨h, 3, none⟩ = some d') ∧ (g < w2.heap.size ∧ h < w2.heap.size) ∧ Below W.heap.size W w2 := by
  obtain ⟨⟨a0, a1, a2, a3⟩, ⟨b0, b1, b2, b3⟩, ⟨d0, d1⟩, e⟩ := hh
  have hz := hb.size
  exact ⟨⟨(hb.cell (p := ⟨g, 0, none⟩) d0).trans a0, (hb.cell (p := ⟨g, 1, none⟩) d0).trans a1, (hb.cell (p := ⟨g, 2, none⟩) d0).trans a2, (hb.cell (p := ⟨g, 3, none⟩) d0).trans a3⟩, ⟨(hb.cell (p := ⟨h, 0, none⟩) d1).trans b0, (hb.cell (p := ⟨h, 1, none⟩) d1).trans b1, (hb.cell (p := ⟨h, 2, none⟩) d1).trans b2, (hb.cell (p := ⟨h, 3, none⟩) d1).trans b3⟩, ⟨by omega, by omega⟩, e.trans (hb.mono e.size)⟩
theorem infoPR : (Tryz.prog.info? 25).map (fun i => (i.zero, i.size, i.bytes)) = some (some (.agg #[.int .i64 0, .int .i64 0]), 2, 16) := by kernel_rfl
theorem eqPartsR (a b c d : Int) (w : World) : (Op.equalIn 10000 26 (.agg #[.int .i64 a, .int .i64 b, .int .i64 c, .int .i64 d]) (.agg #[.int .i64 a, .int .i64 b, .int .i64 c, .int .i64 d])).run Tryz.prog w = .ok true w := by
  have u3 := Tryz.underlying3
  have a3 := Tryz.isAgg3
  have z3 := Tryz.sizeOf3
  obtain ⟨i, hi, -, -, -⟩ := info_parts infoPR
  have hc : Tryz.prog.cellsOf 25 = 2 := by kernel_rfl
  have hS : Tryz.prog.underlying 25 = some (.struct (Tryz.prog.fieldsOf 25)) := by kernel_rfl
  have hp : Tryz.prog.stoodInHeld 25 = false := by kernel_rfl
  have hq : ∀ (x y : Int) (w : World), (Op.equalIn 9999 25 (.agg #[.int .i64 x, .int .i64 y]) (.agg #[.int .i64 x, .int .i64 y])).run Tryz.prog w = .ok true w := fun x y w => by
    rw [show (9999 : Nat) = 9998 + 1 from rfl, run_equalIn_struct w 9998 25 _ _ hS hp]
    simp only [Program.fieldsOf, Tryz.underlying25]
    go_simp
  rw [show (10000 : Nat) = 9999 + 1 from rfl, run_equalIn_array w 9999 _ _ Tryz.underlying26 hi, hc, show List.range 2 = [0, 1] from rfl]
  simp only [Op.eqItems]
  go_simp
theorem guardPartsR : Tryz.prog.eqGuardType Tryz.prog.depth 26 = false := by kernel_rfl
theorem box44 (w : World) (a b c d x y u v : Value) (t t' : TypeId) : ∃ w1, w1 = (w.alloc (.cells #[a, b, c, d] t)).alloc (.cells #[x, y, u, v] t') ∧ w1.heap[w.heap.size]? = some (.cells #[a, b, c, d] t (0, 0)) ∧ w1.heap[w.heap.size + 1]? = some (.cells #[x, y, u, v] t' (0, 0)) ∧ Below w.heap.size w w1 ∧ w1.heap.size = w.heap.size + 2 := by
  refine ⟨_, rfl, ?_, ?_, ((Below.refl _ _).alloc (Nat.le_refl _) _).alloc (by simp) _, by simp⟩
  · rw [Below.heap_alloc _ _ _ (by simp)]
    exact heap_alloc_new _ _
  · have := heap_alloc_new (w.alloc (.cells #[a, b, c, d] t)) (.cells #[x, y, u, v] t')
    rwa [World.size_alloc] at this
set_option maxHeartbeats 1000000 in
theorem lawParts (a b c d : Int) (w : World) :
    Calls Tryz.prog 15 #[.agg #[.int .i64 a, .int .i64 b, .int .i64 c, .int .i64 d]] w fun e w' => e = .returned (.agg #[.int .i64 a, .int .i64 b, .int .i64 c, .int .i64 d]) ∧ Below w.heap.size w w' := by
  obtain ⟨w1, hw1, k0, k1, hb1, hz1⟩ := box44 w (.int .i64 a) (.int .i64 b) (.int .i64 c) (.int .i64 d) (.int .i64 a) (.int .i64 b) (.int .i64 c) (.int .i64 d) 29 26
  have HW1 := Lib.hid hw1
  obtain ⟨⟨t0, t1, t2, t3⟩, -, -, -, -⟩ := four_cell k1
  clear hw1 hz1 k0 k1
  go_enter Tryz.func15, Tryz.ntmps15
  go_wp2_with fail
  rw [← HW1.out]
  exact bodyPost_ret (v := .agg #[.int .i64 a, .int .i64 b, .int .i64 c, .int .i64 d]) (by simp [results, Tryz.results15, go_sem, t0, t1, t2, t3]) rfl ⟨rfl, hb1⟩
/-- Two boxes of the law: its ratio, and the parts that it was given. -/
structure LawTF (W0 : World) (x y a b c d : Int) (W : World) : Prop where
  r : W.heap[W0.heap.size]? = some (.cells #[.int .i64 x, .int .i64 y] 23 (0, 0))
  l : W.heap[W0.heap.size + 1]? = some (.cells #[.int .i64 a, .int .i64 b, .int .i64 c, .int .i64 d] 26 (0, 0))
  b : Below W0.heap.size W0 W
theorem LawTF.below {W0 W W' : World} {x y a b c d : Int} (h : LawTF W0 x y a b c d W) (hb : Below W.heap.size W W') : LawTF W0 x y a b c d W' :=
  ⟨(hb.block _ (Array.getElem?_eq_some_iff.1 h.r).1).trans h.r, (hb.block _ (Array.getElem?_eq_some_iff.1 h.l).1).trans h.l, h.b.trans (hb.mono h.b.size)⟩
/-- What the program and the reference find. -/
structure NeFacts (P D n : Nat) (p : Bool) (a b c d : Int) (e f g h : Nat) (S : ByteArray) : Prop where
  tgt : tgtE (P : Int) (D : Int) (n : Int) = 0
  rat : ratE (P : Int) (D : Int) = 0
  nb : ∀ w, Calls Tryz.prog 8 #[.agg #[.int .i64 P, .int .i64 D], .int .i64 n] w fun e' w' => e' = .returned (.tuple #[.agg #[.int .i64 e, .int .i64 f, .int .i64 g, .int .i64 h], .int .i64 0]) ∧ Below w.heap.size w w'
  ck : ∀ w, Calls Tryz.prog 9 #[.agg #[.int .i64 P, .int .i64 D], .int .i64 n, .agg #[.int .i64 a, .int .i64 b, .int .i64 c, .int .i64 d]] w fun e' w' => e' = .returned (.int .i64 (if p = true then 0 else 21)) ∧ Below w.heap.size w w'
  ne : ∀ w, Calls Tryz.prog 10 #[.agg #[.int .i64 P, .int .i64 D], .int .i64 n] w fun e' w' => e' = .returned (.tuple #[.string S, .int .i64 0]) ∧ Below w.heap.size w w'
  rnb : ∀ w, Calls Tryz.prog 12 #[.agg #[.int .i64 P, .int .i64 D], .int .i64 n] w fun e' w' => e' = .returned (.agg #[.int .i64 e, .int .i64 f, .int .i64 g, .int .i64 h]) ∧ Below w.heap.size w w'
  rne : ∀ w, Calls Tryz.prog 13 #[.agg #[.int .i64 P, .int .i64 D], .int .i64 n] w fun e' w' => e' = .returned (.string S) ∧ Below w.heap.size w w'
  rpr : ∀ w, Calls Tryz.prog 14 #[.agg #[.int .i64 P, .int .i64 D], .int .i64 n, .agg #[.int .i64 a, .int .i64 b, .int .i64 c, .int .i64 d]] w fun e' w' => e' = .returned (.bool p) ∧ Below w.heap.size w w'
theorem ne_facts (x y z a b c d : Int) (h : tgtE x y z = 0) : ∃ (P D n : Nat) (p : Bool) (e f g h : Nat) (S : ByteArray), x = P ∧ y = D ∧ z = n ∧ 1 ≤ n ∧ n ≤ 64 ∧ NeFacts P D n p a b c d e f g h S := by
  have h0 := h
  rw [tgtE] at h0
  have hr : ratE x y = 0 := by
    by_cases k : ratE x y = 0
    · exact k
    · simp only [firstE, if_neg k] at h0
      exact h0
  have hg : rngE z 1 64 = 0 := by
    simp only [firstE, if_pos hr] at h0
    by_cases k : rngE z 1 64 = 0
    · exact k
    · rw [if_neg k] at h0
      exact h0
  obtain ⟨z1, z2⟩ := rngE_zero hg
  obtain ⟨P, D, rfl, rfl, hP, hD1, hD, -⟩ := ratE_zero hr
  obtain ⟨n, rfl⟩ : ∃ n : Nat, z = (n : Int) := ⟨z.toNat, by omega⟩
  have hn1 : 1 ≤ n := by omega
  have hn2 : n ≤ 64 := by omega
  obtain ⟨e, f, g, k, hR⟩ : ∃ e f g k, nbF (shareB P D) (shareL P D) n n 0 1 1 1 = (e, f, g, k) := ⟨_, _, _, _, rfl⟩
  have F := nr_facts hD1 hn1 hR
  exact ⟨P, D, n, prvB (shareB P D) (shareL P D) n a b c d, e, f, g, k, nearWord P D (nearC P D e f g k).1 (nearC P D e f g k).2, rfl, rfl, rfl, hn1, hn2, h, hr,
    fun w => tpNeighbours P D n e f g k w hr hn1 hn2 hR, fun w => tpCheckNeighbours P D n a b c d w h hP hD1 hD hn2, fun w => tpNearestC P D n e f g k w hr hn1 hn2 hR,
    fun w => rfNeighbours P D n e f g k w hP hD1 hD hn1 hn2 hR, fun w => rfNearest P D n _ w hP hD1 hD hn2 (fun s hs => hs.last F), fun w => rfProves P D n a b c d _ w hP hD1 hD hn2 rfl⟩
set_option maxHeartbeats 4000000 in
set_option maxRecDepth 100000 in
theorem lawNearestY (P D n : Nat) (a b c d : Int) (p : Bool) (e f g h : Nat) (S : ByteArray) (w : World) (F : NeFacts P D n p a b c d e f g h S) (hn1 : 1 ≤ n) (hn2 : n ≤ 24) :
    Calls Tryz.prog 3 #[.agg #[.int .i64 P, .int .i64 D], .int .i64 n, .agg #[.int .i64 a, .int .i64 b, .int .i64 c, .int .i64 d]] w fun e w' => e = .returned (.bool true) ∧ Below w.heap.size w w' := by
  have ex0 : ∀ (a b : Value) (w : World), (Instr.extract (.tuple #[a, b]) 0).run Tryz.prog w = .ok a w := fun _ _ _ => by kernel_rfl
  have ex1 : ∀ (a b : Value) (w : World), (Instr.extract (.tuple #[a, b]) 1).run Tryz.prog w = .ok b w := fun _ _ _ => by kernel_rfl
  have HF := Lib.hid F
  obtain ⟨w1, hw1, k0, k1, hb1, hz1⟩ := box24 w (.int .i64 P) (.int .i64 D) 23 26 (.int .i64 a) (.int .i64 b) (.int .i64 c) (.int .i64 d)
  have HW1 := Lib.hid hw1
  have L1 : LawTF w P D a b c d w1 := ⟨k0, k1, hb1⟩
  clear hw1 hz1 k0 k1 hb1 F
  have g24 : ¬ (24 : Int) < (n : Int) := by omega
  go_enter Tryz.func3, Tryz.ntmps3
  go_wp2_with fail
  rw [← HW1.out]
  refine (awake2 _).mono ?_
  rintro e' w2 ⟨rfl, hb2⟩
  have L2 := L1.below hb2
  clear L1 hb2
  obtain ⟨c0, c1, -, -⟩ := two_cell L2.r
  go_wp2_with fail
  refine (HF.out.nb _).mono ?_
  rintro e' w3 ⟨rfl, hb3⟩
  have L3 := L2.below hb3
  clear L2 hb3 c0 c1
  obtain ⟨w4, hw4, hN4, hb4⟩ := boxB w3 (.cells #[.int .i64 e, .int .i64 f, .int .i64 g, .int .i64 h] 29)
  have hw4' := hw4.symm
  have L4 := L3.below hb4
  obtain ⟨gN, hgN⟩ : ∃ g, w3.heap.size = g := ⟨_, rfl⟩
  rw [hgN] at hN4
  clear L3 hb4 hw4
  obtain ⟨c0, c1, -, -⟩ := two_cell L4.r
  obtain ⟨⟨d0, d1, d2, d3⟩, -, -, -, -⟩ := four_cell L4.l
  go_wp2_with fail
  clear hw4'
  refine (HF.out.ck _).mono ?_
  rintro e' w5 ⟨rfl, hb5⟩
  have L5 := L4.below hb5
  have hN5 := (hb5.block _ (Array.getElem?_eq_some_iff.1 hN4).1).trans hN4
  clear L4 hb5 hN4 c0 c1 d0 d1 d2 d3
  obtain ⟨c0, c1, -, -⟩ := two_cell L5.r
  obtain ⟨u, hu⟩ : ∃ u : Int, (if p = true then 0 else 21) = u := ⟨_, rfl⟩
  have HU := Lib.hid hu
  rw [hu]
  clear hu
  go_wp2_with fail
  refine (HF.out.ne _).mono ?_
  rintro e' w6 ⟨rfl, hb6⟩
  have L6 := L5.below hb6
  have hN6 := (hb6.block _ (Array.getElem?_eq_some_iff.1 hN5).1).trans hN5
  clear L5 hb6 hN5 c0 c1
  obtain ⟨c0, c1, -, -⟩ := two_cell L6.r
  go_wp2_with fail
  refine (rfCheckRatio _ _ _).mono ?_
  rintro e' w7 ⟨rfl, hb7⟩
  rw [HF.out.rat]
  have L7 := L6.below hb7
  have hN7 := (hb7.block _ (Array.getElem?_eq_some_iff.1 hN6).1).trans hN6
  clear L6 hb7 hN6 c0 c1
  have g1 : ¬ (n : Int) < 1 := by omega
  have g64 : ¬ (64 : Int) < (n : Int) := by omega
  obtain ⟨w8, hw8, hR8, hb8⟩ := boxB w7 (.cells #[.int .i64 0, .int .i64 0, .int .i64 0, .int .i64 0] 26)
  have hw8' := hw8.symm
  have L8 := L7.below hb8
  have hN8 := (hb8.block _ (Array.getElem?_eq_some_iff.1 hN7).1).trans hN7
  have zN8 := (Array.getElem?_eq_some_iff.1 hN7).1
  obtain ⟨gR, hgR⟩ : ∃ g, w7.heap.size = g := ⟨_, rfl⟩
  have hgR2 : w.heap.size + 1 < gR := by have := (Array.getElem?_eq_some_iff.1 L7.l).1; omega
  rw [hgR] at hR8 zN8
  clear L7 hb8 hw8 hN7
  obtain ⟨c0, c1, -, -⟩ := two_cell L8.r
  go_wp2_with fail
  clear hw8'
  refine (HF.out.rnb _).mono ?_
  rintro e' w9 ⟨rfl, hb9⟩
  have L9 := L8.below hb9
  have hN9 := (hb9.block _ (Array.getElem?_eq_some_iff.1 hN8).1).trans hN8
  have hR9 := (hb9.block _ (Array.getElem?_eq_some_iff.1 hR8).1).trans hR8
  have zw9 := L9.b.size
  have zR := (Array.getElem?_eq_some_iff.1 L9.l).1
  obtain ⟨⟨a0, a1, a2, a3⟩, f0, f1, f2, f3⟩ := four_cell hR9
  obtain ⟨s3, s4⟩ := four_set hR9 (.int .i64 e) (.int .i64 f) (.int .i64 g) (.int .i64 h)
  have zz : w.heap.size + 2 ≤ gR := by
    have h1 := (Array.getElem?_eq_some_iff.1 L8.l).1
    have h2 := hgR2
    omega
  obtain ⟨W, hW⟩ : ∃ W, ((((w9.setCell ⟨gR, 0, none⟩ (.int .i64 e)).setCell ⟨gR, 1, none⟩ (.int .i64 f)).setCell ⟨gR, 2, none⟩ (.int .i64 g)).setCell ⟨gR, 3, none⟩ (.int .i64 h)) = W := ⟨_, rfl⟩
  rw [hW] at s3 s4
  have LW : LawTF w P D a b c d W := ⟨(s4.block _ (Array.getElem?_eq_some_iff.1 L9.r).1 (fun e => by injection e; omega)).trans L9.r, (s4.block _ (Array.getElem?_eq_some_iff.1 L9.l).1 (fun e => by injection e; omega)).trans L9.l, L9.b.grown s4 zw9 (fun j e => by cases e; omega)⟩
  have hNW := (s4.block _ (Array.getElem?_eq_some_iff.1 hN9).1 (fun e => by injection e; omega)).trans hN9
  clear L8 L9 hb9 hN8 hR8 hN9 hR9 s4 c0 c1
  obtain ⟨c0, c1, -, -⟩ := two_cell LW.r
  go_wp2_with fail
  clear hW
  refine (HF.out.rne _).mono ?_
  rintro e' w10 ⟨rfl, hb10⟩
  have L10 := LW.below hb10
  have hN10 := (hb10.block _ (Array.getElem?_eq_some_iff.1 hNW).1).trans hNW
  have hR10 := (hb10.block _ (Array.getElem?_eq_some_iff.1 s3).1).trans s3
  clear LW hb10 hNW s3 c0 c1 a0 a1 a2 a3 f0 f1 f2 f3
  obtain ⟨c0, c1, -, -⟩ := two_cell L10.r
  obtain ⟨⟨d0, d1, d2, d3⟩, -, -, -, -⟩ := four_cell L10.l
  go_wp2_with fail
  refine (HF.out.rpr _).mono ?_
  rintro e' w11 ⟨rfl, hb11⟩
  have L11 := L10.below hb11
  have hN11 := (hb11.block _ (Array.getElem?_eq_some_iff.1 hN10).1).trans hN10
  have hR11 := (hb11.block _ (Array.getElem?_eq_some_iff.1 hR10).1).trans hR10
  have B11 := L11.b
  have z1 := (Array.getElem?_eq_some_iff.1 hN11).1
  have z2 := (Array.getElem?_eq_some_iff.1 hR11).1
  clear L10 hb11 hN10 hR10 c0 c1 d0 d1 d2 d3
  obtain ⟨n0, n1, n2, n3⟩ := four_atN hN11
  obtain ⟨r0, r1, r2, r3⟩ := four_atN hR11
  have gq := guardPartsR
  have hq := fun w => eqPartsR e f g h w
  cases p
  all_goals
    have HUV := HU.out
    simp only [Bool.false_eq_true, if_false, if_true] at HUV
    subst HUV
    clear HU L11 hN11 hR11
    go_wp2_with fail
    go_region_held3 (fun w' => (w'.cell? ⟨gN, 0, none⟩ = some (.int .i64 e) ∧ w'.cell? ⟨gN, 1, none⟩ = some (.int .i64 f) ∧ w'.cell? ⟨gN, 2, none⟩ = some (.int .i64 g) ∧ w'.cell? ⟨gN, 3, none⟩ = some (.int .i64 h)) ∧ (w'.cell? ⟨gR, 0, none⟩ = some (.int .i64 e) ∧ w'.cell? ⟨gR, 1, none⟩ = some (.int .i64 f) ∧ w'.cell? ⟨gR, 2, none⟩ = some (.int .i64 g) ∧ w'.cell? ⟨gR, 3, none⟩ = some (.int .i64 h)) ∧ (gN < w'.heap.size ∧ gR < w'.heap.size) ∧ Below w.heap.size w w')
      (first | exact ⟨⟨n0, n1, n2, n3⟩, ⟨r0, r1, r2, r3⟩, ⟨z1, z2⟩, below_drew B11⟩ | exact keep8N (by assumption) (by assumption) | assumption | go_keep)
      (first
        | (go_at_call 15; refine (lawParts _ _ _ _ _).mono ?_; rintro e' w' ⟨rfl, hbq⟩)
        | (go_at_call 16; refine (lawText S S 0 _ (fun h => absurd rfl h) (fun _ => rfl)).mono ?_; rintro e' w' ⟨rfl, rfl⟩))
    all_goals go_wp2
    all_goals go_ret
    all_goals
      rename_i hH
      exact ⟨rfl, hH.2.2.2⟩
end Go.Proofs.YtfmfpnnglogkmaaGreatDoor
