/- Helpers: NxWkY. -/
import Derived.Test.YtfmfpnnglogkmaaGreatDoorNxWkW
/- The walk of TaperReturns where it asks. -/
namespace Go.Proofs.YtfmfpnnglogkmaaGreatDoor
open Go.RowKit Go.Shelf Ck

theorem rk_get {w : World} {b off : Nat} {l : List Knot} (hc : ∀ i (h : i < l.length), w.cell? ⟨b, off + i * 2, none⟩ = some (.int .i64 l[i].x) ∧ w.cell? ⟨b, off + i * 2 + 1, none⟩ = some (.int .i64 l[i].y)) {i : Nat} {p : Knot} (hp : l[i]? = some p) :
    w.cell? ⟨b, off + i * 2, none⟩ = some (.int .i64 p.x) ∧ w.cell? ⟨b, off + i * 2 + 1, none⟩ = some (.int .i64 p.y) := by
  obtain ⟨h, rfl⟩ := List.getElem?_eq_some_iff.1 hp
  exact hc i h
theorem rb_get {w : World} {b off : Nat} {l : List Bar} (hc : ∀ i (h : i < l.length), w.cell? ⟨b, off + i * 3, none⟩ = some (.int .i64 l[i].x) ∧ w.cell? ⟨b, off + i * 3 + 1, none⟩ = some (.int .i64 l[i].y) ∧ w.cell? ⟨b, off + i * 3 + 2, none⟩ = some (.int .i64 l[i].s)) {i : Nat} {p : Bar} (hp : l[i]? = some p) :
    i < l.length ∧ w.cell? ⟨b, off + i * 3, none⟩ = some (.int .i64 p.x) ∧ w.cell? ⟨b, off + i * 3 + 1, none⟩ = some (.int .i64 p.y) ∧ w.cell? ⟨b, off + i * 3 + 2, none⟩ = some (.int .i64 p.s) := by
  obtain ⟨h, rfl⟩ := List.getElem?_eq_some_iff.1 hp
  exact ⟨h, hc i h⟩
theorem rk_at {w : World} {B b off : Nat} {l : List Knot} (h : RK w B (some ⟨b, off, none⟩) l) {i : Nat} {p : Knot} (hp : l[i]? = some p) :
    i < l.length ∧ b < B ∧ w.cell? ⟨b, off + i * 2, none⟩ = some (.int .i64 p.x) ∧ w.cell? ⟨b, off + i * 2 + 1, none⟩ = some (.int .i64 p.y) := by
  obtain ⟨hlt, rfl⟩ := List.getElem?_eq_some_iff.1 hp
  obtain ⟨b', off', e, hb, hc⟩ := h (by omega)
  simp only [Option.some.injEq, Addr.mk.injEq] at e
  obtain ⟨rfl, rfl, -⟩ := e
  exact ⟨hlt, hb, hc i hlt⟩
theorem keepA {W0 w1 w2 : World} {g h o1 o2 o3 o4 : Nat} {a b x y : Value}
    (hh : (w1.cell? ⟨g, o1, none⟩ = some a ∧ w1.cell? ⟨g, o2, none⟩ = some b) ∧ (w1.cell? ⟨h, o3, none⟩ = some x ∧ w1.cell? ⟨h, o4, none⟩ = some y) ∧ (g < w1.heap.size ∧ h < w1.heap.size) ∧ Below W0.heap.size W0 w1)
    (hb : Below w1.heap.size w1 w2) : (w2.cell? ⟨g, o1, none⟩ = some a ∧ w2.cell? ⟨g, o2, none⟩ = some b) ∧ (w2.cell? ⟨h, o3, none⟩ = some x ∧ w2.cell? ⟨h, o4, none⟩ = some y) ∧ (g < w2.heap.size ∧ h < w2.heap.size) ∧ Below W0.heap.size W0 w2 := by
  obtain ⟨⟨a0, a1⟩, ⟨b0, b1⟩, ⟨c0, c1⟩, e⟩ := hh
  have hz := hb.size
  exact ⟨⟨(hb.cell (p := ⟨g, o1, none⟩) c0).trans a0, (hb.cell (p := ⟨g, o2, none⟩) c0).trans a1⟩, ⟨(hb.cell (p := ⟨h, o3, none⟩) c1).trans b0, (hb.cell (p := ⟨h, o4, none⟩) c1).trans b1⟩, ⟨by omega, by omega⟩, e.trans (hb.mono e.size)⟩
theorem eqBarL (a b c : Int) (w : World) : (Op.equalIn 10000 74 (.agg #[.int .i64 a, .int .i64 b, .int .i64 c]) (.agg #[.int .i64 a, .int .i64 b, .int .i64 c])).run Tryz.prog w = .ok true w := by
  have u3 := Tryz.underlying3
  have a3 := Tryz.isAgg3
  have z3 := Tryz.sizeOf3
  have hS : Tryz.prog.underlying 74 = some (.struct (Tryz.prog.fieldsOf 74)) := by kernel_rfl
  have hp : Tryz.prog.stoodInHeld 74 = false := by kernel_rfl
  rw [show (10000 : Nat) = 9999 + 1 from rfl, run_equalIn_struct w 9999 74 _ _ hS hp]
  simp only [Program.fieldsOf, Tryz.underlying74]
  go_simp
theorem guardBarL : Tryz.prog.eqGuardType Tryz.prog.depth 74 = false := by kernel_rfl
set_option maxHeartbeats 16000000 in
set_option maxRecDepth 100000 in
theorem lawReturnsY (x y z t PX PY X Y : Int) (s R : ByteArray) (c n : Nat) (K1 K2 K3 K4 : List Knot) (B : List Bar) (M : List Knot) (bN : Nat → Nat) (o : Bool) (w : World) (C : WrC x y s R z t PX PY X Y K1 K2 K3 K4 B M) (L : WrL x y s c n PX PY X Y K1 K2 K3 K4 B M bN)
    (hzc : z = (c : Int)) (h10 : s.size ≤ 10) (z1 : 1 ≤ z) (z6 : z ≤ 6) (x1 : -1000 ≤ x) (x2 : x ≤ 1000) (y1 : -100000 ≤ y) (y2 : y ≤ 1000) (hE : wlkE x y s z o = 0) (t1 : 0 ≤ t) (t2 : t < 256) :
    Calls Tryz.prog 6 #[.agg #[.int .i64 x, .int .i64 y], .agg #[.string s, .int .i64 z, .bool o], .int .u8 t] w fun e w' => e = .returned (.bool true) ∧ Below w.heap.size w w' := by
  have ex0 : ∀ (a b : Value) (w : World), (Instr.extract (.tuple #[a, b]) 0).run Tryz.prog w = .ok a w := fun _ _ _ => by kernel_rfl
  have ex1 : ∀ (a b : Value) (w : World), (Instr.extract (.tuple #[a, b]) 1).run Tryz.prog w = .ok b w := fun _ _ _ => by kernel_rfl
  have HC := Lib.hid C
  have HL := Lib.hid L
  have H3 := Lib.hid hE
  have hmul : (s.size : Int) * z = (n : Int) := by rw [hzc, L.n_eq]; push_cast; rw [Int.mul_comm]
  have hmx : z * X = PX := by rw [hzc]; exact L.px.symm
  have hmy : z * Y = PY := by rw [hzc]; exact L.py.symm
  have hn60 : n ≤ 60 := L.n60
  have hn1 : 1 ≤ n := L.n1
  have hs1 : 1 ≤ s.size := L.word.2.1
  have px1 := L.px1
  have px2 := L.px2
  have py1 := L.py1
  have py2 := L.py2
  have v1 := L.X1
  have v2 := L.X2
  have v3 := L.Y1
  have v4 := L.Y2
  have ht : IntKind.i64.wrap t = t := by rw [IntKind.wrap_i64]; omega
  obtain ⟨w1, hw1, S1⟩ := wr_box w x y z s o
  have HW1 := Lib.hid hw1
  have g1 : ¬ (10 : Int) < (s.size : Int) := by omega
  have g2 : ¬ z < 1 := by omega
  have g3 : ¬ 6 < z := by omega
  have g4 : ¬ x < -1000 := by omega
  have g5 : ¬ 1000 < x := by omega
  have g6 : ¬ 1000 < y := by omega
  clear hw1 C L hE hzc
  go_enter Tryz.func6, Tryz.ntmps6
  go_wp2_with fail
  rw [← HW1.out]
  refine (awake2 _).mono ?_
  rintro e w2 ⟨rfl, hb2⟩
  have S2 := S1.below hb2
  obtain ⟨⟨c0, c1⟩, d0, d1, d2⟩ := S2.cells
  clear S1 hb2
  go_wp2_with fail
  refine (rfCheckWalk x y z _ s o _ (by omega) (by omega) (by omega) H3.out).mono ?_
  rintro e w3 ⟨rfl, hb3⟩
  have S3 := S2.below hb3
  clear c0 c1 d0 d1 d2 S2 hb3
  obtain ⟨⟨c0, c1⟩, d0, d1, d2⟩ := S3.cells
  go_wp2_with fail
  refine (HC.out.walk1 _).mono ?_
  rintro e w4 ⟨A1, C1, rfl, k1, hb4⟩
  have S4 := S3.below hb4
  clear c0 c1 d0 d1 d2 S3 hb4 g1 g2 g3 g4 g5 g6
  obtain ⟨⟨c0, c1⟩, d0, d1, d2⟩ := S4.cells
  go_wp2_with fail
  refine (HC.out.walk2 _).mono ?_
  rintro e w5 ⟨A2, C2, rfl, k2, hb5⟩
  have S5 := S4.below hb5
  replace k1 := rkBelow k1 hb5
  clear c0 c1 d0 d1 d2 S4 hb5
  obtain ⟨⟨c0, c1⟩, d0, d1, d2⟩ := S5.cells
  go_wp2_with fail
  refine (HC.out.bars _).mono ?_
  rintro e w6 ⟨A3, C3, rfl, k3, hb6⟩
  have S6 := S5.below hb6
  replace k1 := rkBelow k1 hb6
  replace k2 := rkBelow k2 hb6
  clear c0 c1 d0 d1 d2 S5 hb6
  obtain ⟨⟨c0, c1⟩, d0, d1, d2⟩ := S6.cells
  go_wp2_with fail
  refine (HC.out.mesh _).mono ?_
  rintro e w7 ⟨A4, C4, rfl, k4, hb7⟩
  have S7 := S6.below hb7
  replace k1 := rkBelow k1 hb7
  replace k2 := rkBelow k2 hb7
  replace k3 := k3.below hb7
  clear c0 c1 d0 d1 d2 S6 hb7
  obtain ⟨⟨c0, c1⟩, d0, d1, d2⟩ := S7.cells
  go_wp2_with fail
  refine (HC.out.vec _).mono ?_
  rintro e w8 ⟨rfl, hb8⟩
  have S8 := S7.below hb8
  replace k1 := rkBelow k1 hb8
  replace k2 := rkBelow k2 hb8
  replace k3 := k3.below hb8
  replace k4 := rkBelow k4 hb8
  clear c0 c1 d0 d1 d2 S7 hb8
  obtain ⟨w9, hw9, v9, hb9, hz9⟩ := boxH2 w8 (.int .i64 X) (.int .i64 Y) 66
  have hw9' := hw9.symm
  have S9 := S8.below hb9
  replace k1 := rkBelow k1 hb9
  replace k2 := rkBelow k2 hb9
  replace k3 := k3.below hb9
  replace k4 := rkBelow k4 hb9
  obtain ⟨gv, hgv⟩ : ∃ g, w8.heap.size = g := ⟨_, rfl⟩
  rw [hgv] at v9
  clear S8 hb9 hw9 hz9
  have HK1 := Lib.hid k1
  have HK2 := Lib.hid k2
  have HK3 := Lib.hid k3.2.2.2
  have HK4 := Lib.hid k4
  obtain ⟨b1, f1, rfl, hB1, hc1⟩ := k1 (by rw [HL.out.l1]; omega)
  obtain ⟨q0, q1⟩ := rk_get hc1 HL.out.first
  obtain ⟨r0, r1⟩ := rk_get hc1 HL.out.last
  simp only [Nat.zero_mul, Nat.add_zero] at q0 q1 r0 r1
  obtain ⟨e0, e1, -, -⟩ := two_cell v9
  obtain ⟨⟨c0, c1⟩, d0, d1, d2⟩ := S9.cells
  have hl1 : (K1.length : Int) = (n : Int) + 1 := by rw [HL.out.l1]; omega
  have hl2 : (K2.length : Int) = (n : Int) + 1 := by rw [HL.out.l2]; omega
  have hlb : (B.length : Int) + (M.length : Int) = (n : Int) := by have := HL.out.lb; omega
  have gk := guardKnot
  have q2 := eqKnot' ⟨x, y⟩ ⟨x, y⟩ true (by simp)
  have q3 := eqKnot' ⟨x + PX, y + PY⟩ ⟨x + PX, y + PY⟩ true (by simp)
  simp only at q2 q3
  have n0 : (0 : Int) ≤ (n : Int) := by omega
  have nn : ((n : Int)).toNat = n := by omega
  clear k1 k2 k3 k4 hB1 hc1
  have wa : IntKind.i64.wrap PX = PX := by rw [IntKind.wrap_i64]; omega
  have wb : IntKind.i64.wrap PY = PY := by rw [IntKind.wrap_i64]; omega
  have wc : IntKind.i64.wrap (x + PX) = x + PX := by rw [IntKind.wrap_i64]; omega
  have wd : IntKind.i64.wrap (y + PY) = y + PY := by rw [IntKind.wrap_i64]; omega
  have we : IntKind.i64.wrap ((n : Int) + 1) = (n : Int) + 1 := by rw [IntKind.wrap_i64]; omega
  have wf : IntKind.i64.wrap (n : Int) = (n : Int) := by rw [IntKind.wrap_i64]; omega
  go_wp2_with fail
  clear hw9' hgv
  as_aux_lemma =>
  simp only [List.append_eq, List.cons_append, List.nil_append]
  go_quiet (fail)
  clear q0 q1 q2 q3 r0 r1 e0 e1 c0 c1 d0 d1 d2 wa wb wc wd we wf
  go_wp2_with fail
  go_loopg [18, 19, 20, 193] n (fun g bv mv _ iv wi => ∃ i : Nat, g = n - i ∧ i ≤ n ∧ iv = .int .i64 i ∧ bv = .int .i64 (bN i) ∧ mv = .int .i64 ((i - bN i : Nat) : Int) ∧ Below w9.heap.size w9 wi)
  case atStart => exact ⟨0, by omega, by omega, rfl, by rw [HL.out.b0]; rfl, by rw [HL.out.b0]; rfl, below_drewN (Below.refl _ _) _⟩
  case round =>
    as_aux_lemma =>
    obtain ⟨i, hg, hi, rfl, rfl, rfl, hbi⟩ := hrel
    by_cases hlt : i < n
    · obtain ⟨hbn, ⟨px, py⟩, ⟨qx, qy⟩, ⟨mx, my⟩, a, hp, hq, hm, e1, e2, ha, ⟨p1, p2, p3, p4⟩, ⟨q1, q2, q3, q4⟩, hB, hM⟩ := HL.out.bi i hlt
      simp only at e1 e2 p1 p2 p3 p4 q1 q2 q3 q4 hB hM
      have e2' := e2.symm
      clear e2
      subst e2'
      have HP := Lib.hid hp
      have HQ := Lib.hid hq
      obtain ⟨⟨c0, c1⟩, d0, d1, d2⟩ := (S9.below hbi).cells
      obtain ⟨il, -, k12, k13⟩ := rk_at (HK1.out.below hbi) hq
      obtain ⟨b2, f2, rfl, -, -⟩ := HK2.out (by rw [HL.out.l2]; omega)
      obtain ⟨-, -, k22, k23⟩ := rk_at (HK2.out.below hbi) hm
      simp only at k12 k13 k22 k23
      have HB := Lib.hid hB
      have HM := Lib.hid hM
      have hj0 : (0 : Int) ≤ (i : Int) + 1 := by omega
      have hjn : ((i : Int) + 1).toNat = i + 1 := by omega
      have hjl : (i : Int) + 1 < (n : Int) + 1 := by omega
      have hij : (i : Int) < (n : Int) + 1 := by omega
      have hi0 : (0 : Int) ≤ (i : Int) := by omega
      have hin : ((i : Int)).toNat = i := by omega
      have w1 : IntKind.i64.wrap ((i : Int) + 1) = (i : Int) + 1 := by rw [IntKind.wrap_i64]; omega
      have w2 : IntKind.i64.wrap (x - qx) = x - qx := by rw [IntKind.wrap_i64]; omega
      obtain ⟨r, hr⟩ : ∃ r, i % s.size = r := ⟨_, rfl⟩
      have hrl : r < s.size := by rw [← hr]; exact Nat.mod_lt _ (by omega)
      have ht1 := nat_tmod i s.size
      have ht2 : (i : Int) % (s.size : Int) = ((i % s.size : Nat) : Int) := (Int.natCast_emod _ _).symm
      rw [hr] at ht1 ht2 ha
      have hzN : ¬ s.size = 0 := by omega
      have hz0 : ¬ (s.size : Int) = 0 := by omega
      have r0 : (0 : Int) ≤ (r : Int) := by omega
      have r1 : (r : Int) < (s.size : Int) := by omega
      have hel : s[r] = a := by
        obtain ⟨h1, h2⟩ := List.getElem?_eq_some_iff.1 ha
        rw [← h2]
        exact (byte_at s r hrl h1).symm
      obtain ⟨u, hu⟩ : ∃ u, bN i = u := ⟨_, rfl⟩
      rw [hu] at hbn HB HM ⊢
      obtain ⟨v, hv⟩ : ∃ v, i - u = v := ⟨_, rfl⟩
      rw [hv] at HM ⊢
      have huv : i = u + v := by omega
      have HUV := Lib.hid huv
      clear hp hq hm hB hM ha hr hu hv huv hbn
      go_wp2_with fail
      go_quiet (fail)
      have hbj : Below w9.heap.size w9 (World.drewN wr nq) := below_drewN hbi _
      generalize World.drewN wr nq = wj at *
      clear c0 c1 d0 d1 d2 k12 k13 k22 k23 hbi w2 e1
      obtain ⟨-, d0, d1, d2⟩ := (S9.below hbj).cells
      by_cases h66 : a = 66
      · as_aux_lemma =>
        have x66 : s[r].toNat = 66 := by rw [hel, h66]; rfl
        obtain ⟨hb3, hqx, hqy, hbs⟩ := HB.out h66
        have HBS := Lib.hid hbs
        have HB3 := Lib.hid hb3
        clear h66 hel hbs hb3
        go_wp2_with fail
        go_quiet (fail)
        have hbk : Below w9.heap.size w9 (World.drewN wj nq) := below_drewN hbj _
        generalize World.drewN wj nq = wk at *
        subst hqx hqy
        obtain ⟨b3, f3, rfl, hB3, hc3⟩ := (HK3.out.below hbk) (by have := (List.getElem?_eq_some_iff.1 HB3.out).1; omega)
        obtain ⟨hul, k30, k31, k32⟩ := rb_get hc3 HB3.out
        obtain ⟨-, -, k10, k11⟩ := rk_at (HK1.out.below hbk) HP.out
        obtain ⟨-, -, k12, k13⟩ := rk_at (HK1.out.below hbk) HQ.out
        simp only at k10 k11 k12 k13 k30 k31 k32
        have hud : decide (B.length ≤ u) = false := decide_eq_false (by omega)
        have u0 : (0 : Int) ≤ (u : Int) := by omega
        have u1 : (u : Int) < (B.length : Int) := by omega
        have un : ((u : Int)).toNat = u := by omega
        have gb := guardBarL
        have eb := eqBarL px py 1
        have ek := eqKnot' ⟨px + 1, py + 1⟩ ⟨px + 1, py + 1⟩ true (by simp)
        simp only at ek
        have w3 : IntKind.i64.wrap (px + 1) = px + 1 := by rw [IntKind.wrap_i64]; omega
        have w4 : IntKind.i64.wrap (py + 1) = py + 1 := by rw [IntKind.wrap_i64]; omega
        clear hc3 hB3 hbj d0 d1 d2
        go_wp2_with fail
        go_quiet (fail)
        go_wp2
        go_roundg (n - (i + 1))
        case rel => exact ⟨i + 1, by omega, by omega, by go_num, by rw [HBS.out]; go_num, by rw [HBS.out, show i + 1 - (u + 1) = v by have := HUV.out; omega], below_drewN hbk _⟩
        case measure => omega
      · as_aux_lemma =>
        have x66 : ((s[r].toNat : Int) == 66) = false := by
          rw [beq_eq_false_iff_ne, hel]
          intro h
          have h7 : a.toNat = 66 := by omega
          exact h66 (UInt8.toNat.inj h7)
        obtain ⟨⟨zx, zy⟩, hz, hzx, hzy, hbs⟩ := HM.out h66
        simp only at hzx hzy
        have HBS := Lib.hid hbs
        have HZ := Lib.hid hz
        clear h66 hel hbs hz
        go_wp2_with fail
        go_quiet (fail)
        have hbk : Below w9.heap.size w9 (World.drewN wj nq) := below_drewN hbj _
        generalize World.drewN wj nq = wk at *
        obtain ⟨b4, f4, rfl, hB4, hc4⟩ := (HK4.out.below hbk) (by have := (List.getElem?_eq_some_iff.1 HZ.out).1; omega)
        obtain ⟨k40, k41⟩ := rk_get hc4 HZ.out
        have hvl := (List.getElem?_eq_some_iff.1 HZ.out).1
        obtain ⟨-, -, k10, k11⟩ := rk_at (HK1.out.below hbk) HP.out
        obtain ⟨-, -, k12, k13⟩ := rk_at (HK1.out.below hbk) HQ.out
        simp only at k10 k11 k12 k13 k40 k41
        have hvd : decide (M.length ≤ v) = false := decide_eq_false (by omega)
        have u0 : (0 : Int) ≤ (v : Int) := by omega
        have u1 : (v : Int) < (M.length : Int) := by omega
        have un : ((v : Int)).toNat = v := by omega
        have w3 : IntKind.i64.wrap (px + qx) = px + qx := by rw [IntKind.wrap_i64]; omega
        have w4 : IntKind.i64.wrap (py + qy) = py + qy := by rw [IntKind.wrap_i64]; omega
        clear hc4 hB4 hbj d0 d1 d2
        go_wp2_with fail
        go_quiet (fail)
        go_wp2
        go_roundg (n - (i + 1))
        case rel => exact ⟨i + 1, by omega, by omega, by go_num, by rw [HBS.out], by rw [HBS.out, show i + 1 - u = v + 1 by have := HUV.out; omega]; go_num, below_drewN hbk _⟩
        case measure => omega
    · obtain rfl : i = n := by omega
      as_aux_lemma =>
      obtain ⟨-, d0, d1, d2⟩ := (S9.below hbi).cells
      have hk1 := HK1.out.below hbi
      obtain ⟨-, zb1, r0, r1⟩ := rk_at hk1 HL.out.last
      simp only at r0 r1
      have hzi := hbi.size
      have zb : b1 < wr.heap.size := by omega
      have ze := (Array.getElem?_eq_some_iff.1 (S9.below hbi).e).1
      have n1' : (i : Int) < (i : Int) + 1 := by omega
      have HBI := Lib.hid (hbi)
      clear hk1 zb1 hzi
      go_wp2_with fail
      go_region_held3 (fun w' => (w'.cell? ⟨b1, f1 + i * 2, none⟩ = some (.int .i64 (x + PX)) ∧ w'.cell? ⟨b1, f1 + i * 2 + 1, none⟩ = some (.int .i64 (y + PY))) ∧ (w'.cell? ⟨w.heap.size + 1, 0, none⟩ = some (.string s) ∧ w'.cell? ⟨w.heap.size + 1, 1, none⟩ = some (.int .i64 z)) ∧ (b1 < w'.heap.size ∧ w.heap.size + 1 < w'.heap.size) ∧ Below w9.heap.size w9 w')
        (first | exact ⟨⟨r0, r1⟩, ⟨d0, d1⟩, ⟨zb, ze⟩, below_drew HBI.out⟩ | exact keepA (by assumption) (by assumption) | assumption | go_keep)
        (first
          | (go_at_call 17; refine (HC.out.walk3 _).mono ?_; rintro e w' ⟨A5, C5, rfl, k5, hbq⟩))
      rename_i hH
      obtain ⟨-, -, -, hbm⟩ := hH
      clear r0 r1 d0 d1 d2 zb ze hbi hbq
      obtain ⟨-, d0, d1, d2⟩ := (S9.below hbm).cells
      go_wp2_with fail
      refine (HC.out.rot _).mono ?_
      rintro e w10 ⟨rfl, hb10⟩
      have hbm2 := hbm.trans (hb10.mono hbm.size)
      replace k5 := rkBelow k5 hb10
      clear d0 d1 d2 hb10 hbm
      obtain ⟨⟨c0, c1⟩, d0, d1, d2⟩ := (S9.below hbm2).cells
      go_wp2_with fail
      refine (HC.out.walk4 _).mono ?_
      rintro e w11 ⟨A6, C6, rfl, k6, hb11⟩
      have hbm3 := hbm2.trans (hb11.mono hbm2.size)
      replace k5 := rkBelow k5 hb11
      have BB := (S9.below hbm3).b
      clear c0 c1 d0 d1 d2 hb11 hbm2
      obtain ⟨⟨c0, c1⟩, d0, d1, d2⟩ := (S9.below hbm3).cells
      obtain ⟨-, -, r0, r1⟩ := rk_at (HK1.out.below hbm3) HL.out.last
      obtain ⟨b5, f5, rfl, -, hc5⟩ := k5 (by rw [HL.out.l3]; omega)
      obtain ⟨s0, s1⟩ := rk_get hc5 HL.out.back
      obtain ⟨b6, f6, rfl, -, hc6⟩ := k6 (by rw [HL.out.l4]; omega)
      obtain ⟨u0, u1⟩ := rk_get hc6 HL.out.other
      have v10 := (hbm3.block _ (Array.getElem?_eq_some_iff.1 v9).1).trans v9
      obtain ⟨e0, e1, -, -⟩ := two_cell v10
      obtain ⟨Q2, hQ2⟩ : ∃ q, 2 * PY = q := ⟨_, rfl⟩
      have hq2 : 2 * z * Y = Q2 := by rw [Int.mul_assoc, hmy, hQ2]
      rw [hQ2] at s1
      simp only at r0 r1 s0 s1 u0 u1
      have hl3 : (K3.length : Int) = (i : Int) + 1 := by rw [HL.out.l3]; omega
      have hl4 : (K4.length : Int) = (i : Int) + 1 := by rw [HL.out.l4]; omega
      have q2 := eqKnot' ⟨x, y + Q2⟩ ⟨x, y + Q2⟩ true (by simp)
      have q3 := eqKnot' ⟨x + PX, y + PY⟩ ⟨x + PX, y + PY⟩ true (by simp)
      simp only at q2 q3
      have wa : IntKind.i64.wrap (2 * z) = 2 * z := by rw [IntKind.wrap_i64]; omega
      have wb : IntKind.i64.wrap Q2 = Q2 := by rw [IntKind.wrap_i64]; omega
      have wc : IntKind.i64.wrap (y + Q2) = y + Q2 := by rw [IntKind.wrap_i64]; omega
      have we : IntKind.i64.wrap ((i : Int) + 1) = (i : Int) + 1 := by rw [IntKind.wrap_i64]; omega
      clear hc5 hc6 k5 k6 v10 hQ2
      go_wp2_with fail
      try simp only [List.append_eq, List.cons_append, List.nil_append]
      go_quiet (fail)
      go_wp2
      go_ret
      exact ⟨rfl, below_drewN BB _⟩
end Go.Proofs.YtfmfpnnglogkmaaGreatDoor
