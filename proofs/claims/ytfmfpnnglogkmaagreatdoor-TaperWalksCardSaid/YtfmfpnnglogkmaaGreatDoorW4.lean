/- Helpers, part 4. -/
import Derived.Test.YtfmfpnnglogkmaaGreatDoorW3
import Derived.Test.YtfmfpnnglogkmaaGreatDoorRows
import Derived.Shelf.Strconv.Itoa4
import Derived.Shelf.Strings.BuilderRune
import Derived.Shelf.Strings.Count
import Derived.Lib.Hide
import Derived.Deep.RegionWith
import Derived.BigQuiet
import Derived.Deep.RegionHeld3
import Derived.Shelf.Small.Strs
import Derived.Lib.BufferWrite
import Derived.Laws.CopyOwn
import Derived.Laws.IdiomStrings
/- Words with and without an error: checkLetters and CheckWord of taper at all strings. -/
namespace Go.Proofs.YtfmfpnnglogkmaaGreatDoor
open Go.RowKit

set_option maxHeartbeats 400000 in
theorem tpIsLetterNo (r : Int) (w : World) (h0 : ¬ r = 78) (h1 : ¬ r = 66) (h2 : ¬ r = 84) : Calls Tryz.prog 110 #[.int .i32 r] w fun e w' => e = .returned (.bool false) ∧ w = w' := by
  go_enter Tryz.func110, Tryz.ntmps110
  go_wp2
  go_ret
  simp [h0, h1, h2]
def letE (l : List UInt8) : Int := if l.all okC = true then 0 else 1
set_option maxHeartbeats 1000000 in
set_option maxRecDepth 100000 in
theorem tpCheckLettersE (s : ByteArray) (w : World) :
    Calls Tryz.prog 106 #[.string s] w fun e w' => e = .returned (.int .i64 (letE s.data.toList)) ∧ Below w.heap.size w w' := by
  have hk0 : (w.iter s 0).heap[w.heap.size]? = some (.stringIter s 0) := by have := World.iter_heap w s 0; simpa using this
  have hb0 : Below w.heap.size w (w.iter s 0) := (Below.refl _ w).alloc (Nat.le_refl _) _
  have HSZ := Lib.hid (show s.data.toList.length = s.size from (Lib.size_eq s).symm)
  go_enter Tryz.func106, Tryz.ntmps106
  go_wp2_with fail
  go_loopw [4] (fun _ wr => ∃ pos : Nat, pos ≤ s.size ∧ (s.data.toList.take pos).all okC = true ∧ wr.heap[w.heap.size]? = some (.stringIter s pos) ∧ Below w.heap.size w wr) (fun _ wr => s.size - wr.iterPos w.heap.size)
  case atStart => exact ⟨0, Nat.zero_le _, by simp, hk0, hb0⟩
  case round =>
    obtain ⟨pos, hps, hall, hk, hb⟩ := hrel
    clear hk0 hb0
    by_cases hp : pos < s.size
    · have hkl : pos < s.data.toList.length := by rw [HSZ.out]; exact hp
      have hel : s.data.toList[pos] = s[pos] := byte_at s pos hp hkl
      by_cases hok : okC (s[pos]) = true
      · have hL : isL (s[pos]) := (okC_iff _).1 hok
        have HA := Lib.hid (show (s.data.toList.take (pos + 1)).all okC = true by
          rw [List.take_succ_eq_append_getElem hkl, List.all_append, hall, hel]
          simp [hok])
        have hnext : ∀ ty, (Instr.next (.pointer (some ⟨w.heap.size, 0, none⟩)) true ty).run Tryz.prog wr = _ := fun ty => Lib.run_next_ascii_at wr w.heap.size s pos ty hk hp (isL_small hL)
        have hk1 := Lib.iterAt_heap wr w.heap.size s pos (pos + 1) hk
        have hb1 : Below w.heap.size w (wr.iterAt w.heap.size s (pos + 1)) := Lib.below_iterAt hb (Nat.le_refl _) s (pos + 1)
        have hmu : wr.iterPos w.heap.size = pos := by simp [World.iterPos, hk]
        generalize wr.iterAt w.heap.size s (pos + 1) = W1 at hnext hk1 hb1
        clear hall hok hel
        go_wp2_with fail
        refine (tpIsLetter (s[pos]) _ hL).mono ?_
        rintro e w2 ⟨rfl, rfl⟩
        go_wp2
        go_roundw
        case rel => exact ⟨pos + 1, by omega, HA.out, hk1, hb1⟩
        case measure =>
          have hmu2 : W1.iterPos w.heap.size = pos + 1 := by simp [World.iterPos, hk1]
          rw [hmu, hmu2]
          omega
      · have HE := Lib.hid (show letE s.data.toList = 1 by
          rw [letE, if_neg]
          intro h
          rw [List.all_eq_true] at h
          have := h _ (List.getElem_mem hkl)
          rw [hel] at this
          exact hok this)
        have hnl : ¬ isL (s[pos]) := fun h => hok ((okC_iff _).2 h)
        have hnext : ∀ ty, (Instr.next (.pointer (some ⟨w.heap.size, 0, none⟩)) true ty).run Tryz.prog wr = _ := fun ty => Lib.run_next_any_at wr w.heap.size s pos ty hk hp
        have hb1 : Below w.heap.size w (wr.iterAt w.heap.size s (pos + (Utf8.decode s pos).2)) := Lib.below_iterAt hb (Nat.le_refl _) s _
        have hr : ((Utf8.decode s pos).1 : Int) ≠ 78 ∧ ((Utf8.decode s pos).1 : Int) ≠ 66 ∧ ((Utf8.decode s pos).1 : Int) ≠ 84 := by
          by_cases ha : (s[pos]).toNat < 128
          · rw [decode_ascii s pos hp ha]
            refine ⟨fun e => hnl (.inl (UInt8.toNat.inj (by show (s[pos]).toNat = 78; simp only at e; omega))), fun e => hnl (.inr (.inl (UInt8.toNat.inj (by show (s[pos]).toNat = 66; simp only at e; omega)))), fun e => hnl (.inr (.inr (UInt8.toNat.inj (by show (s[pos]).toNat = 84; simp only at e; omega))))⟩
          · have := (decode_high s pos hp (by omega)).1
            omega
        obtain ⟨r0, r1, r2⟩ := hr
        generalize wr.iterAt w.heap.size s (pos + (Utf8.decode s pos).2) = W1 at hnext hb1
        generalize (Utf8.decode s pos).1 = R at hnext r0 r1 r2
        clear hall hok hel hnl
        go_wp2_with fail
        refine (tpIsLetterNo (R : Int) _ r0 r1 r2).mono ?_
        rintro e w2 ⟨rfl, rfl⟩
        go_wp2
        go_ret
        exact ⟨ret_i HE.out.symm, hb1⟩
    · have HE := Lib.hid (show letE s.data.toList = 0 by
        rw [letE, if_pos]
        rwa [List.take_of_length_le (by rw [HSZ.out]; omega)] at hall)
      have hnext : ∀ ty, (Instr.next (.pointer (some ⟨w.heap.size, 0, none⟩)) true ty).run Tryz.prog wr = _ := fun ty => Lib.run_next_end_at wr w.heap.size s pos ty hk hp
      clear hall
      go_wp2
      go_ret
      exact ⟨ret_i HE.out.symm, hb⟩
def lenE (n : Int) : Int := if 64 < n then 26 else 0
set_option maxHeartbeats 400000 in
theorem tpCheckLengthE (n : Int) (w : World) : Calls Tryz.prog 70 #[.int .i64 n] w fun e w' => e = .returned (.int .i64 (lenE n)) ∧ w = w' := by
  by_cases h : 64 < n
  · have hE := Lib.hid (show lenE n = 26 by rw [lenE, if_pos h])
    go_enter Tryz.func70, Tryz.ntmps70
    go_wp2
    go_ret
    exact ⟨ret_i hE.out.symm, rfl⟩
  · have hE := Lib.hid (show lenE n = 0 by rw [lenE, if_neg h])
    go_enter Tryz.func70, Tryz.ntmps70
    go_wp2
    go_ret
    exact ⟨ret_i hE.out.symm, rfl⟩
theorem wordE_two (s : ByteArray) (h : s.toList.isEmpty = false) : firstE [lenE (s.size : Int), letE s.data.toList] = wordE s.data.toList := by
  have hz := Lib.size_eq s
  rw [Lib.toList_data] at h
  have h0 : ¬ s.data.toList = [] := fun e => by rw [e] at h; cases h
  rw [wordE, if_neg h0]
  by_cases h1 : 64 < s.data.toList.length
  · rw [if_pos h1]
    have : lenE (s.size : Int) = 26 := by rw [lenE, if_pos (by omega)]
    rw [this]
    simp [firstE]
  · rw [if_neg h1]
    have : lenE (s.size : Int) = 0 := by rw [lenE, if_neg (by omega)]
    rw [this, letE]
    split <;> simp [firstE, *]
set_option maxHeartbeats 1000000 in
set_option maxRecDepth 100000 in
theorem tpCheckWordE (s : ByteArray) (w : World) :
    Calls Tryz.prog 72 #[.string s] w fun e w' => e = .returned (.int .i64 (wordE s.data.toList)) ∧ Below w.heap.size w w' := by
  by_cases he : s.toList.isEmpty = true
  · have HE := Lib.hid (show wordE s.data.toList = 12 by
      rw [Lib.toList_data] at he
      rw [wordE, if_pos (List.isEmpty_iff.1 he)])
    go_enter Tryz.func72, Tryz.ntmps72
    go_wp2
    go_ret
    exact ⟨ret_i HE.out.symm, Below.refl _ _⟩
  · have hne : s.toList.isEmpty = false := by simpa using he
    have HE := Lib.hid (wordE_two s hne)
    clear he
    go_enter Tryz.func72, Tryz.ntmps72
    go_wp2_with fail
    refine (tpCheckLengthE _ _).mono ?_
    rintro e w1 ⟨rfl, rfl⟩
    go_wp2_with fail
    refine (tpCheckLettersE s _).mono ?_
    rintro e w2 ⟨rfl, hb⟩
    go_wp2_with fail
    refine (tpFirst2 _ _ _ _ 30 _ (by exact heap_alloc_new _ _)).mono ?_
    rintro e w3 ⟨rfl, rfl⟩
    rw [HE.out]
    go_wp2
    go_ret
    exact ⟨rfl, hb.alloc hb.size _⟩
end Go.Proofs.YtfmfpnnglogkmaaGreatDoor

/- Vector, Rate and Compare of taper, with their errors. -/
namespace Go.Proofs.YtfmfpnnglogkmaaGreatDoor
open Go.RowKit

theorem neE {E : Int} (h : E ≠ 0) : (E != 0) = true := by rw [bne_iff_ne]; exact h
set_option maxHeartbeats 1000000 in
set_option maxRecDepth 100000 in
theorem tpVectorOk (s : ByteArray) (w : World) (hs : Word s) :
    Calls Tryz.prog 33 #[.string s] w fun e w' => e = .returned (.tuple #[.agg #[.int .i64 (vecL s.data.toList).1, .int .i64 (vecL s.data.toList).2], .int .i64 0]) ∧ Below w.heap.size w w' := by
  obtain ⟨w1, hw1, h0, hb1, hz1⟩ := boxH2 w (.int .i64 0) (.int .i64 0) 66
  have HW1 := Lib.hid hw1
  clear hw1
  go_enter Tryz.func33, Tryz.ntmps33
  go_wp2_with fail
  rw [← HW1.out]
  go_wp2_with fail
  refine (tpCheckWord s _ hs).mono ?_
  rintro e w2 ⟨rfl, hb2⟩
  have h2 := (hb2.block _ hz1).trans h0
  have b2 := hb1.trans (hb2.mono hb1.size)
  clear h0 hb1 hb2 hz1
  go_wp2_with fail
  refine (tpVectorOf s _ hs).mono ?_
  rintro e w3 ⟨rfl, hb3⟩
  have h3 := (hb3.block _ (Array.getElem?_eq_some_iff.1 h2).1).trans h2
  have b3 := b2.trans (hb3.mono b2.size)
  clear h2 hb3 b2
  obtain ⟨U, hU⟩ : ∃ U, (vecL s.data.toList).1 = U := ⟨_, rfl⟩
  obtain ⟨V, hV⟩ : ∃ V, (vecL s.data.toList).2 = V := ⟨_, rfl⟩
  have HU := Lib.hid hU
  have HV := Lib.hid hV
  rw [HU.out, HV.out]
  clear hU hV
  obtain ⟨r0, r1, r2, r3⟩ := two_cell h3
  obtain ⟨s1, s2⟩ := two_set h3 (.int .i64 U) (.int .i64 V)
  obtain ⟨t0, t1, -, -⟩ := two_cell s1
  have hbf := b3.grown s2 b3.size (fun j e => by cases e; omega)
  clear h3
  go_wp2
  exact bodyPost_ret (v := .tuple #[.agg #[.int .i64 U, .int .i64 V], .int .i64 0]) (by simp [results, Tryz.results33, go_sem, t0, t1]) rfl ⟨by rw [HU.out, HV.out], hbf⟩
set_option maxHeartbeats 1000000 in
set_option maxRecDepth 100000 in
theorem tpVectorNo (s : ByteArray) (w : World) (E : Int) (hE : wordE s.data.toList = E) (h0 : E ≠ 0) :
    Calls Tryz.prog 33 #[.string s] w fun e w' => e = .returned (.tuple #[.agg #[.int .i64 0, .int .i64 0], .int .i64 E]) ∧ Below w.heap.size w w' := by
  obtain ⟨w1, hw1, h1, hb1, hz1⟩ := boxH2 w (.int .i64 0) (.int .i64 0) 66
  have HW1 := Lib.hid hw1
  have HE := Lib.hid hE
  have hne := neE h0
  clear hw1 hE h0
  go_enter Tryz.func33, Tryz.ntmps33
  go_wp2_with fail
  rw [← HW1.out]
  go_wp2_with fail
  refine (tpCheckWordE s _).mono ?_
  rintro e w2 ⟨rfl, hb2⟩
  rw [HE.out]
  have h2 := (hb2.block _ hz1).trans h1
  have b2 := hb1.trans (hb2.mono hb1.size)
  obtain ⟨r0, r1, r2, r3⟩ := two_cell h2
  obtain ⟨s1, s2⟩ := two_set h2 (.int .i64 0) (.int .i64 0)
  obtain ⟨t0, t1, -, -⟩ := two_cell s1
  have hbf := b2.grown s2 b2.size (fun j e => by cases e; omega)
  clear h1 h2 hb1 hb2
  go_wp2
  exact bodyPost_ret (v := .tuple #[.agg #[.int .i64 0, .int .i64 0], .int .i64 E]) (by simp [results, Tryz.results33, go_sem, t0, t1]) rfl ⟨rfl, hbf⟩

/-- Has the word rows? -/
def rowsB (s : ByteArray) : Bool := decide (0 < (vecL s.data.toList).2)
set_option maxHeartbeats 1000000 in
set_option maxRecDepth 100000 in
theorem tpHasRate (s : ByteArray) (w : World) (hs : Word s) :
    Calls Tryz.prog 94 #[.string s] w fun e w' => e = .returned (.bool (rowsB s)) ∧ Below w.heap.size w w' := by
  have ex := idxI1
  have HR := Lib.hid (show rowsB s = decide (0 < (vecL s.data.toList).2) from rfl)
  by_cases hy : 0 < (vecL s.data.toList).2
  · have hg : decide (0 < (vecL s.data.toList).2) = true := by simpa using hy
    rw [HR.out.trans hg]
    clear HR
    go_enter Tryz.func94, Tryz.ntmps94
    go_wp2_with fail
    refine (tpVectorOf s _ hs).mono ?_
    rintro e w1 ⟨rfl, hb1⟩
    generalize vecL s.data.toList = v at *
    go_wp2
    go_ret
    exact ⟨rfl, hb1⟩
  · have hg : decide (0 < (vecL s.data.toList).2) = false := by simpa using hy
    rw [HR.out.trans hg]
    clear HR
    go_enter Tryz.func94, Tryz.ntmps94
    go_wp2_with fail
    refine (tpVectorOf s _ hs).mono ?_
    rintro e w1 ⟨rfl, hb1⟩
    generalize vecL s.data.toList = v at *
    go_wp2
    go_ret
    exact ⟨rfl, hb1⟩
end Go.Proofs.YtfmfpnnglogkmaaGreatDoor

/- The library's FormatInt laid at this program. -/
namespace Go.Proofs.YtfmfpnnglogkmaaGreatDoor
open Go.Shelf
def Tryz.fmi_ren : Go.Shelf.Ren := ⟨fun | 246 => 119 | 283 => 130 | 284 => 131 | 285 => 132 | 286 => 133 | 129 => 140 | 317 => 139 | 318 => 141 | 319 => 142 | 320 => 143 | 337 => 149 | 338 => 150 | n => n, fun | 2 => 2 | 3 => 3 | 9 => 9 | 4 => 4 | 171 => 166 | 0 => 0 | 53 => 167 | 37 => 120 | 5 => 5 | 173 => 170 | 212 => 178 | 51 => 158 | 20 => 20 | 213 => 179 | 46 => 159 | 232 => 184 | 233 => 185 | n => n, fun | 17 => 1 | 18 => 2 | 19 => 3 | n => n⟩
theorem Tryz.fmi : Go.Proofs.Lays.n246 Tryz.prog Tryz.fmi_ren := {
  mixed := by kernel_rfl,
  f129 := Tryz.func140.trans (congrArg some (by kernel_rfl)),
  f246 := Tryz.func119.trans (congrArg some (by kernel_rfl)),
  f283 := Tryz.func130.trans (congrArg some (by kernel_rfl)),
  f284 := Tryz.func131.trans (congrArg some (by kernel_rfl)),
  f285 := Tryz.func132.trans (congrArg some (by kernel_rfl)),
  f286 := Tryz.func133.trans (congrArg some (by kernel_rfl)),
  f317 := Tryz.func139.trans (congrArg some (by kernel_rfl)),
  f318 := Tryz.func141.trans (congrArg some (by kernel_rfl)),
  f319 := Tryz.func142.trans (congrArg some (by kernel_rfl)),
  f320 := Tryz.func143.trans (congrArg some (by kernel_rfl)),
  f337 := Tryz.func149.trans (congrArg some (by kernel_rfl)),
  f338 := Tryz.func150.trans (congrArg some (by kernel_rfl)),
  t0 := Tryz.underlying0,
  a0 := Tryz.isAgg0,
  z0 := Tryz.sizeOf0,
  v0 := Tryz.zeroValue0,
  t2 := Tryz.underlying2,
  a2 := Tryz.isAgg2,
  z2 := Tryz.sizeOf2,
  v2 := Tryz.zeroValue2,
  t3 := Tryz.underlying3,
  a3 := Tryz.isAgg3,
  z3 := Tryz.sizeOf3,
  v3 := Tryz.zeroValue3,
  t4 := Tryz.underlying4,
  a4 := Tryz.isAgg4,
  z4 := Tryz.sizeOf4,
  v4 := Tryz.zeroValue4,
  t5 := Tryz.underlying5,
  a5 := Tryz.isAgg5,
  z5 := Tryz.sizeOf5,
  v5 := Tryz.zeroValue5,
  t9 := Tryz.underlying9,
  a9 := Tryz.isAgg9,
  z9 := Tryz.sizeOf9,
  v9 := Tryz.zeroValue9,
  t20 := Tryz.underlying20,
  a20 := Tryz.isAgg20,
  z20 := Tryz.sizeOf20,
  v20 := Tryz.zeroValue20,
  t37 := Tryz.underlying120,
  a37 := Tryz.isAgg120,
  z37 := Tryz.sizeOf120,
  v37 := Tryz.zeroValue120,
  t46 := Tryz.underlying159,
  a46 := Tryz.isAgg159,
  z46 := Tryz.sizeOf159,
  v46 := Tryz.zeroValue159,
  t51 := Tryz.underlying158,
  a51 := Tryz.isAgg158,
  z51 := Tryz.sizeOf158,
  v51 := Tryz.zeroValue158,
  t53 := Tryz.underlying167,
  a53 := Tryz.isAgg167,
  z53 := Tryz.sizeOf167,
  v53 := Tryz.zeroValue167,
  t171 := Tryz.underlying166,
  a171 := Tryz.isAgg166,
  z171 := Tryz.sizeOf166,
  v171 := Tryz.zeroValue166,
  t173 := Tryz.underlying170,
  a173 := Tryz.isAgg170,
  z173 := Tryz.sizeOf170,
  v173 := Tryz.zeroValue170,
  t212 := Tryz.underlying178,
  a212 := Tryz.isAgg178,
  z212 := Tryz.sizeOf178,
  v212 := Tryz.zeroValue178,
  t213 := Tryz.underlying179,
  a213 := Tryz.isAgg179,
  z213 := Tryz.sizeOf179,
  t232 := Tryz.underlying184,
  a232 := Tryz.isAgg184,
  z232 := Tryz.sizeOf184,
  v232 := Tryz.zeroValue184,
  t233 := Tryz.underlying185,
  a233 := Tryz.isAgg185,
  z233 := Tryz.sizeOf185,
  v233 := Tryz.zeroValue185,
  g17 := by kernel_rfl,
  g18 := by kernel_rfl,
  g19 := by kernel_rfl }
end Go.Proofs.YtfmfpnnglogkmaaGreatDoor

/- The library's WriteRune and Count laid at this program. -/
namespace Go.Proofs.YtfmfpnnglogkmaaGreatDoor
open Go.Shelf
def Tryz.bldr_ren : Go.Shelf.Ren := ⟨fun | 168 => 80 | 240 => 107 | 242 => 109 | 276 => 118 | 278 => 120 | n => n, fun | 70 => 119 | 21 => 21 | 3 => 3 | 75 => 125 | 0 => 0 | 72 => 122 | 37 => 120 | 4 => 4 | 164 => 155 | 51 => 158 | 5 => 5 | 46 => 159 | 80 => 130 | 9 => 9 | 20 => 20 | n => n, fun | n => n⟩
theorem Tryz.bldr : Go.Proofs.Lays.n168 Tryz.prog Tryz.bldr_ren := {
  mixed := by kernel_rfl,
  f168 := Tryz.func80.trans (congrArg some (by kernel_rfl)),
  f240 := Tryz.func107.trans (congrArg some (by kernel_rfl)),
  f242 := Tryz.func109.trans (congrArg some (by kernel_rfl)),
  f276 := Tryz.func118.trans (congrArg some (by kernel_rfl)),
  f278 := Tryz.func120.trans (congrArg some (by kernel_rfl)),
  t0 := Tryz.underlying0,
  a0 := Tryz.isAgg0,
  z0 := Tryz.sizeOf0,
  v0 := Tryz.zeroValue0,
  t3 := Tryz.underlying3,
  a3 := Tryz.isAgg3,
  z3 := Tryz.sizeOf3,
  v3 := Tryz.zeroValue3,
  t4 := Tryz.underlying4,
  a4 := Tryz.isAgg4,
  z4 := Tryz.sizeOf4,
  v4 := Tryz.zeroValue4,
  t5 := Tryz.underlying5,
  a5 := Tryz.isAgg5,
  z5 := Tryz.sizeOf5,
  v5 := Tryz.zeroValue5,
  t9 := Tryz.underlying9,
  a9 := Tryz.isAgg9,
  z9 := Tryz.sizeOf9,
  v9 := Tryz.zeroValue9,
  t20 := Tryz.underlying20,
  a20 := Tryz.isAgg20,
  z20 := Tryz.sizeOf20,
  v20 := Tryz.zeroValue20,
  t21 := Tryz.underlying21,
  a21 := Tryz.isAgg21,
  z21 := Tryz.sizeOf21,
  v21 := Tryz.zeroValue21,
  t37 := Tryz.underlying120,
  a37 := Tryz.isAgg120,
  z37 := Tryz.sizeOf120,
  v37 := Tryz.zeroValue120,
  t46 := Tryz.underlying159,
  a46 := Tryz.isAgg159,
  z46 := Tryz.sizeOf159,
  v46 := Tryz.zeroValue159,
  t51 := Tryz.underlying158,
  a51 := Tryz.isAgg158,
  z51 := Tryz.sizeOf158,
  v51 := Tryz.zeroValue158,
  t70 := Tryz.underlying119,
  a70 := Tryz.isAgg119,
  z70 := Tryz.sizeOf119,
  v70 := Tryz.zeroValue119,
  t72 := Tryz.underlying122,
  a72 := Tryz.isAgg122,
  z72 := Tryz.sizeOf122,
  v72 := Tryz.zeroValue122,
  t75 := Tryz.underlying125,
  a75 := Tryz.isAgg125,
  z75 := Tryz.sizeOf125,
  v75 := Tryz.zeroValue125,
  t164 := Tryz.underlying155,
  a164 := Tryz.isAgg155,
  z164 := Tryz.sizeOf155,
  v164 := Tryz.zeroValue155 }
def Tryz.cnt_ren : Go.Shelf.Ren := ⟨fun | 138 => 115 | 195 => 126 | 218 => 127 | 143 => 128 | 219 => 138 | 217 => 145 | 225 => 146 | 224 => 147 | 267 => 148 | 266 => 151 | 314 => 152 | n => n, fun | 9 => 9 | 3 => 3 | 4 => 4 | 5 => 5 | 0 => 0 | 46 => 159 | 146 => 172 | 51 => 158 | 20 => 20 | n => n, fun | 1 => 0 | n => n⟩
theorem Tryz.cnt : Go.Proofs.Lays.n138 Tryz.prog Tryz.cnt_ren := {
  mixed := by kernel_rfl,
  f138 := Tryz.func115.trans (congrArg some (by kernel_rfl)),
  f143 := Tryz.func128.trans (congrArg some (by kernel_rfl)),
  f195 := Tryz.func126.trans (congrArg some (by kernel_rfl)),
  f217 := Tryz.func145.trans (congrArg some (by kernel_rfl)),
  f218 := Tryz.func127.trans (congrArg some (by kernel_rfl)),
  f219 := Tryz.func138.trans (congrArg some (by kernel_rfl)),
  f224 := Tryz.func147.trans (congrArg some (by kernel_rfl)),
  f225 := Tryz.func146.trans (congrArg some (by kernel_rfl)),
  f266 := Tryz.func151.trans (congrArg some (by kernel_rfl)),
  f267 := Tryz.func148.trans (congrArg some (by kernel_rfl)),
  f314 := Tryz.func152.trans (congrArg some (by kernel_rfl)),
  t0 := Tryz.underlying0,
  a0 := Tryz.isAgg0,
  z0 := Tryz.sizeOf0,
  v0 := Tryz.zeroValue0,
  t3 := Tryz.underlying3,
  a3 := Tryz.isAgg3,
  z3 := Tryz.sizeOf3,
  v3 := Tryz.zeroValue3,
  t4 := Tryz.underlying4,
  a4 := Tryz.isAgg4,
  z4 := Tryz.sizeOf4,
  v4 := Tryz.zeroValue4,
  t5 := Tryz.underlying5,
  a5 := Tryz.isAgg5,
  z5 := Tryz.sizeOf5,
  v5 := Tryz.zeroValue5,
  t9 := Tryz.underlying9,
  a9 := Tryz.isAgg9,
  z9 := Tryz.sizeOf9,
  v9 := Tryz.zeroValue9,
  t46 := Tryz.underlying159,
  a46 := Tryz.isAgg159,
  z46 := Tryz.sizeOf159,
  v46 := Tryz.zeroValue159,
  t51 := Tryz.underlying158,
  a51 := Tryz.isAgg158,
  z51 := Tryz.sizeOf158,
  v51 := Tryz.zeroValue158,
  t146 := Tryz.underlying172,
  a146 := Tryz.isAgg172,
  z146 := Tryz.sizeOf172,
  v146 := Tryz.zeroValue172,
  g1 := by kernel_rfl }
end Go.Proofs.YtfmfpnnglogkmaaGreatDoor

/- Print of taper at words without an error. -/
namespace Go.Proofs.YtfmfpnnglogkmaaGreatDoor
open Go.RowKit Go.Shelf

theorem Tryz.fmiF : Tryz.fmi_ren.f 246 = 119 := by kernel_rfl
theorem fmtInt (n : Nat) (hn : n < 100) (w : World) : Calls Tryz.prog 119 #[.int .i64 n, .int .i64 10] w fun e w' => e = .returned (.string ⟨(Lib.decDigits n).toArray⟩) ∧ w = w' := by
  have h := Any.internal_strconv_FormatInt_10_small Tryz.fmi n hn w
  rw [Tryz.fmiF] at h
  exact h.mono fun e w' ⟨a, b⟩ => ⟨a, b.symm⟩
theorem itoaI (n : Nat) (hn : n < 100) (w : World) : Calls Tryz.prog 108 #[.int .i64 n] w fun e w' => e = .returned (.string ⟨(Lib.decDigits n).toArray⟩) ∧ w = w' := by
  go_enter Tryz.func108, Tryz.ntmps108
  go_wp2_with fail
  refine (fmtInt n hn _).mono ?_
  rintro e w1 ⟨rfl, rfl⟩
  go_wp2
  go_ret
  exact ⟨rfl, rfl⟩
theorem itoaS (n : Nat) (hn : n < 100) (w : World) : Calls Tryz.prog 79 #[.int .i64 n] w fun e w' => e = .returned (.string ⟨(Lib.decDigits n).toArray⟩) ∧ w = w' := by
  go_enter Tryz.func79, Tryz.ntmps79
  go_wp2_with fail
  refine (itoaI n hn _).mono ?_
  rintro e w1 ⟨rfl, rfl⟩
  go_wp2
  go_ret
  exact ⟨rfl, rfl⟩
theorem Tryz.bldrF : Tryz.bldr_ren.f 168 = 80 := by kernel_rfl
theorem Tryz.bldrT72 : Tryz.bldr_ren.t 72 = 122 := by kernel_rfl
theorem Tryz.bldrT5 : Tryz.bldr_ren.t 5 = 5 := by kernel_rfl
theorem Tryz.bldrX : Builder.Extra Tryz.prog Tryz.bldr_ren := {
  sizeBuilder := by kernel_rfl,
  liesBuilder := by kernel_rfl,
  t5 := Tryz.bldr.t5,
  a5 := Tryz.bldr.a5,
  z5 := Tryz.bldr.z5,
  v5 := Tryz.bldr.v5,
  infoByte := by kernel_rfl,
  cellsByte := by kernel_rfl,
  sizeByte := by kernel_rfl,
  neB5 := by decide }
theorem rune_one {c : UInt8} (h : isL c) : Lib.runeCells (c.toNat : Int) = Lib.byteCells [c] := by
  rcases h with rfl | rfl | rfl <;> rfl
theorem bldRune (B b : Nat) (l : List UInt8) (c : UInt8) (hc : isL c) (w : World) (h : BldIs B b l w) (hlen : l.length ≤ 1000000) (hBw : B ≤ w.heap.size) :
    Calls Tryz.prog 80 #[.pointer (some ⟨b, 0, none⟩), .int .i32 c.toNat] w fun e w' => (∃ v, e = .returned v) ∧ BldIs B b (l ++ [c]) w' ∧ Below B w w' ∧ Lib.OthersKept 5 (some b) w w' := by
  have k := Any.Builder_WriteRune_k Tryz.bldr Tryz.bldrX B b (Lib.byteCells l) (c.toNat : Int) (by omega) (by have := c.toNat_lt; omega) w (by rw [Tryz.bldrT72, Tryz.bldrT5]; exact h) (by rw [Lib.byteCells_length]; omega) hBw
  rw [Tryz.bldrF] at k
  refine k.mono fun e w' ⟨he, h1, h2, h3⟩ => ⟨⟨_, he⟩, ?_, h2, by rw [← Tryz.bldrT5]; exact h3⟩
  rw [Tryz.bldrT72, Tryz.bldrT5, rune_one hc, ← Lib.byteCells_append] at h1
  exact .inr h1
theorem bldWriteK (B b : Nat) (l : List UInt8) (s : ByteArray) (w : World) (h : BldIs B b l w) (hlen : l.length + s.size ≤ 1000000) (hBw : B ≤ w.heap.size) :
    Calls Tryz.prog 78 #[.pointer (some ⟨b, 0, none⟩), .string s] w fun e w' => (∃ v, e = .returned v) ∧ BldIs B b (l ++ s.data.toList) w' ∧ Below B w w' ∧ Lib.OthersKept 5 (some b) w w' := by
  have k := Any.Builder_WriteString_k { Tryz.rep with } Tryz.repX B b (Lib.byteCells l) s w (by rw [Tryz.repT72, Tryz.repT5]; exact h) (by rw [Lib.byteCells_length]; omega) hBw
  rw [Tryz.repF166] at k
  refine k.mono fun e w' ⟨he, h1, h2, h3⟩ => ⟨⟨_, he⟩, ?_, h2, by rw [← Tryz.repT5]; exact h3⟩
  rw [Tryz.repT72, Tryz.repT5, Lib.strCells_eq, ← Lib.byteCells_append] at h1
  exact .inr h1

theorem getD_at (s : ByteArray) (i : Nat) (h : i < s.size) : s.data.toList.getD i 0 = s[i] := by
  have hl : i < s.data.toList.length := by rw [← Lib.size_eq]; exact h
  rw [List.getD_eq_getElem?_getD, List.getElem?_eq_getElem hl, Option.getD_some]
  exact byte_at s i h hl
/-- Does a run end at index i? -/
def endB (L : List UInt8) (i : Nat) : Bool := decide (i + 1 = L.length) || decide (L.getD (i + 1) 0 ≠ L.getD i 0)
set_option maxHeartbeats 1000000 in
set_option maxRecDepth 100000 in
theorem tpEndsRun (s : ByteArray) (i : Nat) (w : World) (hi : i < s.size) (hs : s.size ≤ 100) :
    Calls Tryz.prog 77 #[.string s, .int .i64 i] w fun e w' => e = .returned (.bool (endB s.data.toList i)) ∧ Below w.heap.size w w' := by
  have hz : s.data.toList.length = s.size := (Lib.size_eq s).symm
  have hil : i < s.data.toList.length := by omega
  have h0 : (0 : Int) ≤ (i : Int) := by omega
  have h1 : (i : Int) < (s.size : Int) := by omega
  have hw : IntKind.i64.wrap ((i : Int) + 1) = (i : Int) + 1 := by rw [IntKind.wrap_i64]; omega
  by_cases he : i + 1 = s.size
  · have hB : endB s.data.toList i = true := by simp [endB, hz, he]
    have hg : ((i : Int) + 1 == (s.size : Int)) = true := by rw [beq_iff_eq]; omega
    rw [hB]
    clear hB hz hil he
    go_enter Tryz.func77, Tryz.ntmps77
    go_wp2_with fail
    go_quiet (fail)
    go_wp2
    go_ret
    exact ⟨rfl, below_drewN (Below.refl _ _) _⟩
  · have hj : i + 1 < s.size := by omega
    have hjl : i + 1 < s.data.toList.length := by omega
    have hB : endB s.data.toList i = decide (s[i + 1]'hj ≠ s[i]'hi) := by rw [endB, decide_eq_false (by omega : ¬ i + 1 = s.data.toList.length), Bool.false_or, getD_at s i hi, getD_at s (i + 1) hj]
    have hg : ((i : Int) + 1 == (s.size : Int)) = false := by rw [beq_eq_false_iff_ne]; omega
    have h2 : (i : Int) + 1 < (s.size : Int) := by omega
    have h3 : (0 : Int) ≤ (i : Int) + 1 := by omega
    have hc : (((s[i + 1]'hj).toNat : Int) != ((s[i]'hi).toNat : Int)) = decide (s[i + 1]'hj ≠ s[i]'hi) := by
      by_cases h : s[i + 1]'hj = s[i]'hi
      · simp [h]
      · have : ¬ (s[i + 1]'hj).toNat = (s[i]'hi).toNat := fun e => h (UInt8.toNat.inj e)
        have h' : ¬ ((s[i + 1]'hj).toNat : Int) = ((s[i]'hi).toNat : Int) := by omega
        simp [h, h']
    rw [hB]
    clear hB hz hil he hjl
    go_enter Tryz.func77, Tryz.ntmps77
    go_wp2_with fail
    go_quiet (fail)
    go_wp2
    go_ret
    exact ⟨ret_b (by simp), below_drewN (Below.refl _ _) _⟩

theorem bldBelow {B b : Nat} {l : List UInt8} {w w' : World} (h : BldIs B b l w) (hb : Below w.heap.size w w') : BldIs B b l w' := by
  have conv : ∀ p, Lib.BuilderAtF 122 5 B b p (Lib.byteCells l) w → Lib.BuilderAtF 122 5 B b p (Lib.byteCells l) w' := by
    rintro p ⟨hB, v, hbk, hown, hne⟩
    refine ⟨hB, v, (hb.block _ (Array.getElem?_eq_some_iff.1 hbk).1).trans hbk, ⟨hown.1, ?_⟩, hne⟩
    rcases hown.2 with h | ⟨g, cap, cur, fz, h1, h2, h3, h4⟩
    · exact .inl h
    · exact .inr ⟨g, cap, cur, fz, h1, h2, (hb.block _ (Array.getElem?_eq_some_iff.1 h3).1).trans h3, h4⟩
  rcases h with h | h
  · exact .inl (conv _ h)
  · exact .inr (conv _ h)
/-- The string of a word from index i on, where a run has already so many letters. -/
def printF (L : List UInt8) : Nat → Nat → Nat → List UInt8
  | 0, _, _ => []
  | k + 1, i, c => if endB L i = true then Lib.decDigits (c + 1) ++ [L.getD i 0] ++ printF L k (i + 1) 0 else printF L k (i + 1) (c + 1)
def printL (L : List UInt8) : List UInt8 := printF L L.length 0 0
theorem dec_short {n : Nat} (h : n < 100) : (Lib.decDigits n).length ≤ 2 := by
  have : ∀ k, k < 100 → (Lib.decDigits k).length ≤ 2 := by decide +kernel
  exact this n h
set_option maxHeartbeats 4000000 in
set_option maxRecDepth 100000 in
theorem tpPrint (s : ByteArray) (w : World) (hs : Word s) :
    Calls Tryz.prog 35 #[.string s] w fun e w' => e = .returned (.tuple #[.string ⟨(printL s.data.toList).toArray⟩, .int .i64 0]) ∧ Below w.heap.size w w' := by
  obtain ⟨L, hL⟩ : ∃ L, s.data.toList = L := ⟨_, rfl⟩
  have hLs : L.length = s.size := by rw [← hL]; exact (Lib.size_eq s).symm
  have HLL := Lib.hid (show ∀ q ∈ L, isL q by rw [← hL]; exact hs.1)
  have hs64 : s.size ≤ 64 := hs.2.2
  have HWS := Lib.hid hs
  have HSD := Lib.hid hL
  have HLN := Lib.hid hLs
  rw [hL]
  obtain ⟨R, hR⟩ : ∃ R, printL L = R := ⟨_, rfl⟩
  have HR := Lib.hid (show printF L L.length 0 0 = R from hR)
  rw [hR]
  clear hL hLs hs hR
  go_enter Tryz.func35, Tryz.ntmps35
  go_wp2_with fail
  refine (tpCheckWord s _ HWS.out).mono ?_
  rintro e w1 ⟨rfl, hb1⟩
  have b0 := bldNew w1
  have bb0 : Below w1.heap.size w1 (w1.alloc (.cells #[.pointer none, .slice none 0 0] 122)) := (Below.refl _ _).alloc (Nat.le_refl _) _
  go_wp2_with fail
  have hz2 : (w1.alloc (.cells #[.pointer none, .slice none 0 0] 122)).heap.size = w1.heap.size + 1 := by simp
  have hk0 : ((w1.alloc (.cells #[.pointer none, .slice none 0 0] 122)).iter s 0).heap[w1.heap.size + 1]? = some (.stringIter s 0) := by
    have := World.iter_heap (w1.alloc (.cells #[.pointer none, .slice none 0 0] 122)) s 0
    rwa [hz2] at this
  have b1 : BldIs w1.heap.size w1.heap.size [] ((w1.alloc (.cells #[.pointer none, .slice none 0 0] 122)).iter s 0) := Lib.IsBuilderF.alloc b0 _
  have bb1 : Below w1.heap.size w1 ((w1.alloc (.cells #[.pointer none, .slice none 0 0] 122)).iter s 0) := bb0.alloc (by omega) _
  generalize (w1.alloc (.cells #[.pointer none, .slice none 0 0] 122)).iter s 0 = w3 at *
  clear b0 bb0 hz2
  go_loopw [6, 7, 8] (fun cv _ _ wr => ∃ (pos cnt : Nat) (acc : List UInt8), pos ≤ L.length ∧ cnt ≤ pos ∧ cv = .int .i64 cnt ∧ BldIs w1.heap.size w1.heap.size acc wr ∧ wr.heap[w1.heap.size + 1]? = some (.stringIter s pos) ∧ Below w1.heap.size w1 wr ∧ acc.length ≤ 3 * pos ∧ acc ++ printF L (L.length - pos) pos cnt = R) (fun _ _ _ wr => s.size - wr.iterPos (w1.heap.size + 1))
  case atStart => exact ⟨0, 0, [], Nat.zero_le _, Nat.le_refl _, rfl, b1, hk0, bb1, Nat.le_refl _, by rw [List.nil_append, Nat.sub_zero]; exact HR.out⟩
  case round =>
    obtain ⟨pos, cnt, acc, hpos, hcnt, rfl, hI, hit, hb, hal, hacc⟩ := hrel
    clear b1 hk0 bb1
    have hln := HLN.out
    by_cases hp : pos < s.size
    · have hpl : pos < L.length := by omega
      have hkl : pos < s.data.toList.length := by rw [HSD.out]; exact hpl
      have hel : s[pos] = L[pos] := by rw [← byte_at s pos hp hkl]; simp only [HSD.out]
      have hLq : isL L[pos] := HLL.out _ (List.getElem_mem hpl)
      have hgd : L.getD pos 0 = L[pos] := by rw [List.getD_eq_getElem?_getD, List.getElem?_eq_getElem hpl, Option.getD_some]
      have hsub : L.length - pos = (L.length - (pos + 1)) + 1 := by omega
      have HACC := Lib.hid (show acc ++ (if endB L pos = true then Lib.decDigits (cnt + 1) ++ [L[pos]] ++ printF L (L.length - (pos + 1)) (pos + 1) 0 else printF L (L.length - (pos + 1)) (pos + 1) (cnt + 1)) = R by
        rw [← hacc, hsub, printF, hgd])
      generalize L[pos] = q at *
      have hnext : ∀ ty, (Instr.next (.pointer (some ⟨w1.heap.size + 1, 0, none⟩)) true ty).run Tryz.prog wr = _ := fun ty => Lib.run_next_ascii_at wr (w1.heap.size + 1) s pos ty hit hp (by rw [hel]; exact isL_small hLq)
      rw [hel] at hnext
      have hmu : wr.iterPos (w1.heap.size + 1) = pos := by simp [World.iterPos, hit]
      have hit1 := Lib.iterAt_heap wr (w1.heap.size + 1) s pos (pos + 1) hit
      have hI1 : BldIs w1.heap.size w1.heap.size acc (wr.iterAt (w1.heap.size + 1) s (pos + 1)) := Lib.IsBuilderF.iterAt hI hit (pos + 1)
      have hb1' : Below w1.heap.size w1 (wr.iterAt (w1.heap.size + 1) s (pos + 1)) := Lib.below_iterAt hb (by omega) s (pos + 1)
      generalize wr.iterAt (w1.heap.size + 1) s (pos + 1) = W1 at hnext hit1 hI1 hb1'
      have hc64 : (cnt : Int) ≤ 64 := by omega
      have hc0 : (0 : Int) ≤ (cnt : Int) := by omega
      clear hacc hgd hel hI hit hb
      go_wp2_with fail
      refine (tpEndsRun s pos _ hp (by omega)).mono ?_
      rintro e W2 ⟨rfl, hb2⟩
      rw [HSD.out]
      have hz1 := hb1'.size
      have zi := (Array.getElem?_eq_some_iff.1 hit1).1
      have hit2 := (hb2.block _ zi).trans hit1
      have hI2 := bldBelow hI1 hb2
      have hb12 := hb1'.trans (hb2.mono hz1)
      clear hit1 hI1 hb1' hb2
      by_cases hE : endB L pos = true
      · have HA2 := Lib.hid (show (acc ++ Lib.decDigits (cnt + 1) ++ [q]) ++ printF L (L.length - (pos + 1)) (pos + 1) 0 = R by
          rw [← HACC.out, if_pos hE]
          simp [List.append_assoc])
        rw [hE]
        clear hE HACC
        have hds := dec_short (n := cnt + 1) (by omega)
        go_wp2_with fail
        refine (itoaS (cnt + 1) (by omega) _).mono ?_
        rintro e W3 ⟨rfl, rfl⟩
        go_wp2_with fail
        refine (bldWriteK _ _ acc _ _ hI2 (by simp [ByteArray.size]; omega) hb12.size).mono ?_
        rintro e W4 ⟨⟨v4, rfl⟩, hI4, hb4, ho4⟩
        have hit4 := ho4.iter hit2 (by omega)
        have hb14 := hb12.trans hb4
        go_wp2_with fail
        refine (bldRune _ _ _ q hLq _ hI4 (by simp; omega) hb14.size).mono ?_
        rintro e W5 ⟨⟨v5, rfl⟩, hI5, hb5, ho5⟩
        have hit5 := ho5.iter hit4 (by omega)
        have hb15 := hb14.trans hb5
        have hmu5 : W5.iterPos (w1.heap.size + 1) = pos + 1 := by simp [World.iterPos, hit5]
        clear hI2 hI4 hit2 hit4 hb4 hb5 ho4 ho5
        go_wp2
        go_roundw
        case rel => exact ⟨pos + 1, 0, _, by omega, by omega, rfl, hI5, hit5, hb15, by simp; omega, HA2.out⟩
        case measure => rw [hmu, hmu5]; omega
      · have hEf : endB L pos = false := by simpa using hE
        have HA2 := Lib.hid (show acc ++ printF L (L.length - (pos + 1)) (pos + 1) (cnt + 1) = R by
          rw [← HACC.out, if_neg hE])
        rw [hEf]
        clear hE hEf HACC
        have hmu5 : W2.iterPos (w1.heap.size + 1) = pos + 1 := by simp [World.iterPos, hit2]
        go_wp2
        go_roundw
        case rel => exact ⟨pos + 1, cnt + 1, acc, by omega, by omega, by go_num, hI2, hit2, hb12, by omega, HA2.out⟩
        case measure => rw [hmu, hmu5]; omega
    · obtain rfl : pos = L.length := by omega
      have hnext : ∀ ty, (Instr.next (.pointer (some ⟨w1.heap.size + 1, 0, none⟩)) true ty).run Tryz.prog wr = _ := fun ty => Lib.run_next_end_at wr (w1.heap.size + 1) s L.length ty hit hp
      rw [Nat.sub_self, printF, List.append_nil] at hacc
      subst hacc
      go_wp2_with fail
      refine (bldString _ _ _ _ hI hb.size).mono ?_
      rintro e W9 ⟨rfl, hI9, hb9⟩
      go_wp2
      go_ret2
      exact ⟨rfl, hb1.trans ((hb.trans hb9).mono hb1.size)⟩
end Go.Proofs.YtfmfpnnglogkmaaGreatDoor

/- Spread, Mix, Share and Exact of taper, with their errors. -/
namespace Go.Proofs.YtfmfpnnglogkmaaGreatDoor
open Go.RowKit

def emptyS : ByteArray := ⟨#[]⟩
def spwE (v : ByteArray) (m : Nat) (u : ByteArray) (n : Nat) : Int := if m + n = 0 then 12 else if 64 < m * v.size + n * u.size then 26 else 0
def spwS (v : ByteArray) (m : Nat) (u : ByteArray) (n : Nat) : ByteArray := if spwE v m u n = 0 then ⟨(spreadL v.data.toList m u.data.toList n (m + n)).toArray⟩ else ⟨#[]⟩
set_option maxHeartbeats 1000000 in
set_option maxRecDepth 100000 in
theorem tpSpreadWithin (v u : ByteArray) (m n : Nat) (w : World) (hv : v.size ≤ 100) (hu : u.size ≤ 100) (hm : m ≤ 64) (hn : n ≤ 64) :
    Calls Tryz.prog 89 #[.string v, .int .i64 m, .string u, .int .i64 n] w fun e w' => e = .returned (.tuple #[.string (spwS v m u n), .int .i64 (spwE v m u n)]) ∧ Below w.heap.size w w' := by
  by_cases h0 : m + n = 0
  · have hE : spwE v m u n = 12 := by rw [spwE, if_pos h0]
    have hS : spwS v m u n = ⟨#[]⟩ := by rw [spwS, if_neg (by rw [hE]; decide)]
    rw [hE, hS]
    obtain rfl : m = 0 := by omega
    obtain rfl : n = 0 := by omega
    clear hE hS
    go_enter Tryz.func89, Tryz.ntmps89
    go_wp2
    go_ret2
    exact ⟨rfl, Below.refl _ _⟩
  · have hz : ¬ ((m : Int) + (n : Int)) = 0 := by omega
    have hzN : ¬ (m = 0 ∧ n = 0) := by omega
    have p1 : m * v.size ≤ 6400 := Nat.le_trans (Nat.mul_le_mul hm hv) (by decide)
    have p2 : n * u.size ≤ 6400 := Nat.le_trans (Nat.mul_le_mul hn hu) (by decide)
    have q1 : (m : Int) * (v.size : Int) = ((m * v.size : Nat) : Int) := by push_cast; rfl
    have q2 : (n : Int) * (u.size : Int) = ((n * u.size : Nat) : Int) := by push_cast; rfl
    obtain ⟨T, hT⟩ : ∃ T, m * v.size + n * u.size = T := ⟨_, rfl⟩
    have q3 : (m : Int) * (v.size : Int) + (n : Int) * (u.size : Int) = (T : Int) := by rw [q1, q2, ← hT]; push_cast; rfl
    have q4 : 0 ≤ (m : Int) * (v.size : Int) ∧ (m : Int) * (v.size : Int) ≤ 6400 := by rw [q1]; omega
    have q5 : 0 ≤ (n : Int) * (u.size : Int) ∧ (n : Int) * (u.size : Int) ≤ 6400 := by rw [q2]; omega
    obtain ⟨q6, q7⟩ := q4
    obtain ⟨q8, q9⟩ := q5
    by_cases h1 : 64 < T
    · have hE : spwE v m u n = 26 := by rw [spwE, if_neg h0, if_pos (by omega)]
      have hS : spwS v m u n = ⟨#[]⟩ := by rw [spwS, if_neg (by rw [hE]; decide)]
      have HLE := Lib.hid (show lenE ((m : Int) * (v.size : Int) + (n : Int) * (u.size : Int)) = 26 by rw [q3, lenE, if_pos (by omega)])
      rw [hE, hS]
      clear hE hS p1 p2 q1 q2 q3 hT h1
      go_enter Tryz.func89, Tryz.ntmps89
      go_wp2_with fail
      refine (tpCheckLengthE _ _).mono ?_
      rintro e w1 ⟨rfl, rfl⟩
      rw [HLE.out]
      go_wp2
      go_ret2
      exact ⟨rfl, Below.refl _ _⟩
    · have hE : spwE v m u n = 0 := by rw [spwE, if_neg h0, if_neg (by omega)]
      have HS := Lib.hid (show spwS v m u n = ⟨(spreadL v.data.toList m u.data.toList n (m + n)).toArray⟩ by rw [spwS, if_pos hE])
      have HLE := Lib.hid (show lenE ((m : Int) * (v.size : Int) + (n : Int) * (u.size : Int)) = 0 by rw [q3, lenE, if_neg (by omega)])
      rw [hE, HS.out]
      clear hE p1 p2 q1 q2 q3 hT h1 HS
      go_enter Tryz.func89, Tryz.ntmps89
      go_wp2_with fail
      refine (tpCheckLengthE _ _).mono ?_
      rintro e w1 ⟨rfl, rfl⟩
      rw [HLE.out]
      go_wp2_with fail
      refine (tpSpread v u m n _ hv hu (by omega) (by omega)).mono ?_
      rintro e w2 ⟨rfl, hb2⟩
      go_wp2
      go_ret2
      exact ⟨rfl, hb2⟩
end Go.Proofs.YtfmfpnnglogkmaaGreatDoor

/- Spread and Mix of taper at all arguments of at most 100 bytes; Share at good ratios. -/
namespace Go.Proofs.YtfmfpnnglogkmaaGreatDoor
open Go.RowKit

def rngE (n lo hi : Int) : Int := if n < lo ∨ hi < n then 3 else 0
theorem four_err {w : World} {g : Nat} {a b c d : Int} {t : TypeId} (h : w.heap[g]? = some (.cells #[.int .i64 a, .int .i64 b, .int .i64 c, .int .i64 d] t (0, 0))) : ∀ i (hi : i < [a, b, c, d].length), w.cell? ⟨g, i, none⟩ = some (.int .i64 [a, b, c, d][i]) := by
  intro i hi
  have hi' : i = 0 ∨ i = 1 ∨ i = 2 ∨ i = 3 := by simp at hi; omega
  rcases hi' with rfl | rfl | rfl | rfl <;> simp [World.cell?, h]
theorem tpFirst4 (g k : Nat) (a b c d : Int) (t : TypeId) (w : World) (h : w.heap[g]? = some (.cells #[.int .i64 a, .int .i64 b, .int .i64 c, .int .i64 d] t (0, 0))) :
    Calls Tryz.prog 74 #[.slice (some ⟨g, 0, none⟩) 4 k] w fun e w' => e = .returned (.int .i64 (firstE [a, b, c, d])) ∧ w = w' :=
  tpFirst g k [a, b, c, d] w (by simp) (four_err h)
theorem tpRng (n lo hi : Int) (w : World) : Calls Tryz.prog 75 #[.int .i64 n, .int .i64 lo, .int .i64 hi] w fun e w' => e = .returned (.int .i64 (rngE n lo hi)) ∧ w = w' := tpCheckRange n lo hi w
theorem rngE_zero {n lo hi : Int} (h : rngE n lo hi = 0) : lo ≤ n ∧ n ≤ hi := by
  unfold rngE at h
  split at h
  · cases h
  · omega
theorem first4_zero {a b c d : Int} (h : firstE [a, b, c, d] = 0) : a = 0 ∧ b = 0 ∧ c = 0 ∧ d = 0 := by
  simp only [firstE] at h
  repeat' split at h
  all_goals simp_all
def mix0 (v : ByteArray) (m : Int) (u : ByteArray) (n : Int) : Int := firstE [wordE v.data.toList, rngE m 0 64, wordE u.data.toList, rngE n 0 64]
def mixE (v : ByteArray) (m : Int) (u : ByteArray) (n : Int) : Int := if mix0 v m u n = 0 then spwE v m.toNat u n.toNat else mix0 v m u n
def mixS (v : ByteArray) (m : Int) (u : ByteArray) (n : Int) : ByteArray := if mix0 v m u n = 0 then spwS v m.toNat u n.toNat else ⟨#[]⟩
set_option maxHeartbeats 1000000 in
set_option maxRecDepth 100000 in
theorem tpMix (v u : ByteArray) (m n : Int) (w : World) (hv : v.size ≤ 100) (hu : u.size ≤ 100) :
    Calls Tryz.prog 41 #[.string v, .int .i64 m, .string u, .int .i64 n] w fun e w' => e = .returned (.tuple #[.string (mixS v m u n), .int .i64 (mixE v m u n)]) ∧ Below w.heap.size w w' := by
  have ex0 : ∀ (a b : Value) (w : World), (Instr.extract (.tuple #[a, b]) 0).run Tryz.prog w = .ok a w := fun _ _ _ => by kernel_rfl
  have ex1 : ∀ (a b : Value) (w : World), (Instr.extract (.tuple #[a, b]) 1).run Tryz.prog w = .ok b w := fun _ _ _ => by kernel_rfl
  by_cases h0 : mix0 v m u n = 0
  · have H0 := Lib.hid h0
    obtain ⟨hv0, hm, hu0, hn⟩ := first4_zero h0
    obtain ⟨m1, m2⟩ := rngE_zero hm
    obtain ⟨n1, n2⟩ := rngE_zero hn
    rw [mixE, mixS, if_pos h0, if_pos h0]
    obtain ⟨M, rfl⟩ : ∃ M : Nat, m = (M : Int) := ⟨m.toNat, by omega⟩
    obtain ⟨N, rfl⟩ : ∃ N : Nat, n = (N : Int) := ⟨n.toNat, by omega⟩
    rw [Int.toNat_natCast, Int.toNat_natCast]
    have HV := Lib.hid hv0
    have HU := Lib.hid hu0
    have HM := Lib.hid hm
    have HN := Lib.hid hn
    clear h0 hm hn hv0 hu0 H0
    go_enter Tryz.func41, Tryz.ntmps41
    go_wp2_with fail
    refine (tpCheckWordE v _).mono ?_
    rintro e w1 ⟨rfl, hb1⟩
    rw [HV.out]
    go_wp2_with fail
    refine (tpRng _ _ _ _).mono ?_
    rintro e w1' ⟨rfl, rfl⟩
    rw [HM.out]
    go_wp2_with fail
    refine (tpCheckWordE u _).mono ?_
    rintro e w2 ⟨rfl, hb2⟩
    rw [HU.out]
    go_wp2_with fail
    refine (tpRng _ _ _ _).mono ?_
    rintro e w2' ⟨rfl, rfl⟩
    rw [HN.out]
    go_wp2_with fail
    refine (tpFirst4 _ _ _ _ _ _ 30 _ (by exact heap_alloc_new _ _)).mono ?_
    rintro e w3 ⟨rfl, rfl⟩
    rw [show firstE [0, 0, 0, 0] = 0 from rfl]
    have b2 := hb1.trans (hb2.mono hb1.size)
    have b3 : Below w.heap.size w (w2.alloc (.cells #[.int .i64 0, .int .i64 0, .int .i64 0, .int .i64 0] 30)) := b2.alloc b2.size _
    generalize World.alloc w2 _ = w4 at b3 ⊢
    go_wp2_with fail
    refine (tpSpreadWithin v u M N _ hv hu (by omega) (by omega)).mono ?_
    rintro e w5 ⟨rfl, hb5⟩
    go_wp2
    go_ret2
    exact ⟨rfl, b3.trans (hb5.mono b3.size)⟩
  · have hne := neE h0
    obtain ⟨E, hE⟩ : ∃ E, mix0 v m u n = E := ⟨_, rfl⟩
    rw [mixE, mixS, if_neg h0, if_neg h0, hE]
    rw [hE] at hne
    have HE := Lib.hid hE
    clear h0 hE
    go_enter Tryz.func41, Tryz.ntmps41
    go_wp2_with fail
    refine (tpCheckWordE v _).mono ?_
    rintro e w1 ⟨rfl, hb1⟩
    go_wp2_with fail
    refine (tpRng _ _ _ _).mono ?_
    rintro e w1' ⟨rfl, rfl⟩
    go_wp2_with fail
    refine (tpCheckWordE u _).mono ?_
    rintro e w2 ⟨rfl, hb2⟩
    go_wp2_with fail
    refine (tpRng _ _ _ _).mono ?_
    rintro e w2' ⟨rfl, rfl⟩
    go_wp2_with fail
    refine (tpFirst4 _ _ _ _ _ _ 30 _ (by exact heap_alloc_new _ _)).mono ?_
    rintro e w3 ⟨rfl, rfl⟩
    rw [show firstE [wordE v.data.toList, rngE m 0 64, wordE u.data.toList, rngE n 0 64] = E from HE.out]
    have b2 := hb1.trans (hb2.mono hb1.size)
    go_wp2
    go_ret2
    exact ⟨rfl, b2.alloc b2.size _⟩
def lettE (s : ByteArray) : Int := if s.size = 1 then letE s.data.toList else 1
set_option maxHeartbeats 1000000 in
set_option maxRecDepth 100000 in
theorem tpCheckLetter (s : ByteArray) (w : World) : Calls Tryz.prog 88 #[.string s] w fun e w' => e = .returned (.int .i64 (lettE s)) ∧ Below w.heap.size w w' := by
  by_cases h : s.size = 1
  · have h1 : ((s.size : Int) != 1) = false := by rw [h]; rfl
    rw [lettE, if_pos h]
    go_enter Tryz.func88, Tryz.ntmps88
    go_wp2_with fail
    refine (tpCheckLettersE s _).mono ?_
    rintro e w1 ⟨rfl, hb1⟩
    go_wp2
    go_ret
    exact ⟨rfl, hb1⟩
  · have h1 : ((s.size : Int) != 1) = true := by rw [bne_iff_ne]; omega
    rw [lettE, if_neg h]
    go_enter Tryz.func88, Tryz.ntmps88
    go_wp2
    go_ret
    exact ⟨rfl, Below.refl _ _⟩
def spr0 (v : ByteArray) (m : Int) (u : ByteArray) (n : Int) : Int := firstE [lettE v, rngE m 0 64, lettE u, rngE n 0 64]
def sprE (v : ByteArray) (m : Int) (u : ByteArray) (n : Int) : Int := if spr0 v m u n = 0 then (if v.toList = u.toList then 9 else spwE v m.toNat u n.toNat) else spr0 v m u n
def sprS (v : ByteArray) (m : Int) (u : ByteArray) (n : Int) : ByteArray := if spr0 v m u n = 0 then (if v.toList = u.toList then ⟨#[]⟩ else spwS v m.toNat u n.toNat) else ⟨#[]⟩
set_option maxHeartbeats 1000000 in
set_option maxRecDepth 100000 in
theorem tpSpreadAll (v u : ByteArray) (m n : Int) (w : World) (hv : v.size ≤ 100) (hu : u.size ≤ 100) :
    Calls Tryz.prog 39 #[.string v, .int .i64 m, .string u, .int .i64 n] w fun e w' => e = .returned (.tuple #[.string (sprS v m u n), .int .i64 (sprE v m u n)]) ∧ Below w.heap.size w w' := by
  have ex0 : ∀ (a b : Value) (w : World), (Instr.extract (.tuple #[a, b]) 0).run Tryz.prog w = .ok a w := fun _ _ _ => by kernel_rfl
  have ex1 : ∀ (a b : Value) (w : World), (Instr.extract (.tuple #[a, b]) 1).run Tryz.prog w = .ok b w := fun _ _ _ => by kernel_rfl
  by_cases h0 : spr0 v m u n = 0
  · have H0 := Lib.hid h0
    obtain ⟨hv0, hm, hu0, hn⟩ := first4_zero h0
    obtain ⟨m1, m2⟩ := rngE_zero hm
    obtain ⟨n1, n2⟩ := rngE_zero hn
    rw [sprE, sprS, if_pos h0, if_pos h0]
    obtain ⟨M, rfl⟩ : ∃ M : Nat, m = (M : Int) := ⟨m.toNat, by omega⟩
    obtain ⟨N, rfl⟩ : ∃ N : Nat, n = (N : Int) := ⟨n.toNat, by omega⟩
    rw [Int.toNat_natCast, Int.toNat_natCast]
    have HV := Lib.hid hv0
    have HU := Lib.hid hu0
    have HM := Lib.hid hm
    have HN := Lib.hid hn
    clear h0 hm hn hv0 hu0 H0
    go_enter Tryz.func39, Tryz.ntmps39
    go_wp2_with fail
    refine (tpCheckLetter v _).mono ?_
    rintro e w1 ⟨rfl, hb1⟩
    rw [HV.out]
    go_wp2_with fail
    refine (tpRng _ _ _ _).mono ?_
    rintro e w1' ⟨rfl, rfl⟩
    rw [HM.out]
    go_wp2_with fail
    refine (tpCheckLetter u _).mono ?_
    rintro e w2 ⟨rfl, hb2⟩
    rw [HU.out]
    go_wp2_with fail
    refine (tpRng _ _ _ _).mono ?_
    rintro e w2' ⟨rfl, rfl⟩
    rw [HN.out]
    go_wp2_with fail
    refine (tpFirst4 _ _ _ _ _ _ 30 _ (by exact heap_alloc_new _ _)).mono ?_
    rintro e w3 ⟨rfl, rfl⟩
    rw [show firstE [0, 0, 0, 0] = 0 from rfl]
    have b2 := hb1.trans (hb2.mono hb1.size)
    have b3 : Below w.heap.size w (w2.alloc (.cells #[.int .i64 0, .int .i64 0, .int .i64 0, .int .i64 0] 30)) := b2.alloc b2.size _
    generalize World.alloc w2 _ = w4 at b3 ⊢
    by_cases hq : v.toList = u.toList
    · have hqb : (v.toList == u.toList) = true := by rw [beq_iff_eq]; exact hq
      go_wp2
      go_ret2
      exact ⟨rfl, b3⟩
    · have hqb : (v.toList == u.toList) = false := by rw [beq_eq_false_iff_ne]; exact hq
      go_wp2_with fail
      refine (tpSpreadWithin v u M N _ hv hu (by omega) (by omega)).mono ?_
      rintro e w5 ⟨rfl, hb5⟩
      go_wp2
      go_ret2
      exact ⟨rfl, b3.trans (hb5.mono b3.size)⟩
  · have hne := neE h0
    obtain ⟨E, hE⟩ : ∃ E, spr0 v m u n = E := ⟨_, rfl⟩
    rw [sprE, sprS, if_neg h0, if_neg h0, hE]
    rw [hE] at hne
    have HE := Lib.hid hE
    clear h0 hE
    go_enter Tryz.func39, Tryz.ntmps39
    go_wp2_with fail
    refine (tpCheckLetter v _).mono ?_
    rintro e w1 ⟨rfl, hb1⟩
    go_wp2_with fail
    refine (tpRng _ _ _ _).mono ?_
    rintro e w1' ⟨rfl, rfl⟩
    go_wp2_with fail
    refine (tpCheckLetter u _).mono ?_
    rintro e w2 ⟨rfl, hb2⟩
    go_wp2_with fail
    refine (tpRng _ _ _ _).mono ?_
    rintro e w2' ⟨rfl, rfl⟩
    go_wp2_with fail
    refine (tpFirst4 _ _ _ _ _ _ 30 _ (by exact heap_alloc_new _ _)).mono ?_
    rintro e w3 ⟨rfl, rfl⟩
    rw [show firstE [lettE v, rngE m 0 64, lettE u, rngE n 0 64] = E from HE.out]
    have b2 := hb1.trans (hb2.mono hb1.size)
    go_wp2
    go_ret2
    exact ⟨rfl, b2.alloc b2.size _⟩
end Go.Proofs.YtfmfpnnglogkmaaGreatDoor

/- Plain mathematics: the neighbours of a share, and the nearest words. -/

namespace Go.Proofs.YtfmfpnnglogkmaaGreatDoor

inductive NbS where
  | stop (a b c d : Nat)
  | more (a b c d : Nat)
def nbStep (N D n : Nat) (a b c d : Nat) : NbS :=
  if a * D = N * b then .stop a b a b else if c * D = N * d then .stop c d c d else if n < b + d then .stop a b c d
  else if (a + c) * D ≤ N * (b + d) then .more (a + c) (b + d) c d else .more a b (a + c) (b + d)
def nbF (N D n : Nat) : Nat → Nat → Nat → Nat → Nat → Nat × Nat × Nat × Nat
  | 0, a, b, c, d => (a, b, c, d)
  | k + 1, a, b, c, d => match nbStep N D n a b c d with
    | .stop a b c d => (a, b, c, d)
    | .more a b c d => nbF N D n k a b c d

/-- What the search keeps. -/
structure NbI (N D n a b c d : Nat) : Prop where
  b1 : 1 ≤ b
  d1 : 1 ≤ d
  bn : b ≤ n
  dn : d ≤ n
  ab : a ≤ b
  cd : c ≤ d
  lo : a * D ≤ N * b
  hi : N * d ≤ c * D
  det : c * b = a * d + 1
/-- What the search ends with. -/
structure NbE (N D n a b c d : Nat) : Prop where
  b1 : 1 ≤ b
  d1 : 1 ≤ d
  bn : b ≤ n
  dn : d ≤ n
  ab : a ≤ b
  cd : c ≤ d
  lo : a * D ≤ N * b
  hi : N * d ≤ c * D
  ga : a.gcd b = 1
  gc : c.gcd d = 1
  fin : (a = c ∧ b = d) ∨ (c * b = a * d + 1 ∧ n < b + d ∧ a * D < N * b ∧ N * d < c * D)
theorem gcd_of_det {a b c d : Nat} (h : c * b = a * d + 1) : a.gcd b = 1 ∧ c.gcd d = 1 := by
  constructor
  · have h1 : a.gcd b ∣ c * b := Nat.dvd_trans (Nat.gcd_dvd_right a b) (Nat.dvd_mul_left b c)
    have h2 : a.gcd b ∣ a * d := Nat.dvd_trans (Nat.gcd_dvd_left a b) (Nat.dvd_mul_right a d)
    rw [h] at h1
    exact Nat.dvd_one.1 ((Nat.dvd_add_right h2).1 h1)
  · have h1 : c.gcd d ∣ c * b := Nat.dvd_trans (Nat.gcd_dvd_left c d) (Nat.dvd_mul_right c b)
    have h2 : c.gcd d ∣ a * d := Nat.dvd_trans (Nat.gcd_dvd_right c d) (Nat.dvd_mul_left d a)
    rw [h] at h1
    exact Nat.dvd_one.1 ((Nat.dvd_add_right h2).1 h1)
theorem nbF_end {N D n : Nat} (hn : 1 ≤ n) : ∀ (k a b c d a' b' c' d' : Nat), NbI N D n a b c d → 1 ≤ k → n + 2 ≤ k + b + d → nbF N D n k a b c d = (a', b', c', d') → NbE N D n a' b' c' d'
  | 0, _, _, _, _, _, _, _, _, _, h, _, _ => by omega
  | k + 1, a, b, c, d, a', b', c', d', hI, _, hk, hr => by
    obtain ⟨g1, g2⟩ := gcd_of_det hI.det
    unfold nbF nbStep at hr
    by_cases h1 : a * D = N * b
    · rw [if_pos h1] at hr
      simp only [Prod.mk.injEq] at hr
      obtain ⟨rfl, rfl, rfl, rfl⟩ := hr
      exact ⟨hI.b1, hI.b1, hI.bn, hI.bn, hI.ab, hI.ab, hI.lo, by omega, g1, g1, .inl ⟨rfl, rfl⟩⟩
    rw [if_neg h1] at hr
    by_cases h2 : c * D = N * d
    · rw [if_pos h2] at hr
      simp only [Prod.mk.injEq] at hr
      obtain ⟨rfl, rfl, rfl, rfl⟩ := hr
      exact ⟨hI.d1, hI.d1, hI.dn, hI.dn, hI.cd, hI.cd, by omega, hI.hi, g2, g2, .inl ⟨rfl, rfl⟩⟩
    rw [if_neg h2] at hr
    have l1 := hI.lo
    have l2 := hI.hi
    by_cases h3 : n < b + d
    · rw [if_pos h3] at hr
      simp only [Prod.mk.injEq] at hr
      obtain ⟨rfl, rfl, rfl, rfl⟩ := hr
      exact ⟨hI.b1, hI.d1, hI.bn, hI.dn, hI.ab, hI.cd, hI.lo, hI.hi, g1, g2, .inr ⟨hI.det, h3, by omega, by omega⟩⟩
    rw [if_neg h3] at hr
    have hb := hI.b1
    have hd := hI.d1
    have hab := hI.ab
    have hcd := hI.cd
    have hdet := hI.det
    by_cases h4 : (a + c) * D ≤ N * (b + d)
    · rw [if_pos h4] at hr
      exact nbF_end hn k _ _ _ _ _ _ _ _ ⟨by omega, hd, by omega, hI.dn, by omega, hcd, h4, l2, by rw [Nat.mul_add, Nat.add_mul]; omega⟩ (by omega) (by omega) hr
    · rw [if_neg h4] at hr
      exact nbF_end hn k _ _ _ _ _ _ _ _ ⟨hb, by omega, hI.bn, by omega, hab, by omega, l1, by omega, by rw [Nat.mul_add, Nat.add_mul]; omega⟩ (by omega) (by omega) hr
theorem nb_end {N D n a b c d : Nat} (hn : 1 ≤ n) (hND : N ≤ D) (h : nbF N D n n 0 1 1 1 = (a, b, c, d)) : NbE N D n a b c d :=
  nbF_end hn n 0 1 1 1 a b c d ⟨by omega, by omega, hn, hn, by omega, by omega, by simp, by simpa using hND, by omega⟩ hn (by omega) h

theorem mul_le_of {x y z : Nat} (h : x ≤ y) : x * z ≤ y * z := Nat.mul_le_mul_right z h
/-- No share with at most n letters lies between the lower one and the ratio. -/
theorem NbE.below {N D n a b c d p q : Nat} (h : NbE N D n a b c d) (hD : 1 ≤ D) (hq : q ≤ n) (hp : p * D ≤ N * q) : p * b ≤ a * q := by
  rcases h.fin with ⟨rfl, rfl⟩ | ⟨hdet, hs, h1, h2⟩
  · have e : a * D = N * b := Nat.le_antisymm h.lo h.hi
    have e1 : p * D * b ≤ N * q * b := mul_le_of hp
    have e2 : N * q * b = a * q * D := by rw [Nat.mul_right_comm, ← e]; exact Nat.mul_right_comm _ _ _
    rw [e2, Nat.mul_right_comm] at e1
    exact Nat.le_of_mul_le_mul_right e1 hD
  · by_cases hlt : p * b ≤ a * q
    · exact hlt
    exfalso
    have hqd : p * d < c * q ∨ q = 0 := by
      by_cases hq0 : q = 0
      · exact .inr hq0
      left
      have e1 : p * D * d ≤ N * q * d := mul_le_of hp
      have e2 : N * q * d < c * q * D := by
        have : N * d * q < c * D * q := Nat.mul_lt_mul_of_pos_right h2 (by omega)
        rwa [Nat.mul_right_comm N d q, Nat.mul_right_comm c D q] at this
      have e3 : p * d * D < c * q * D := by rw [Nat.mul_right_comm p d D]; omega
      exact Nat.lt_of_mul_lt_mul_right e3
    have hb := h.b1
    have hd := h.d1
    rcases hqd with hqd | rfl
    · -- q = b (c q - p d) + d (p b - a q)
      have f1 : (p * d + 1) * b ≤ c * q * b := mul_le_of (by omega)
      have f2 : (a * q + 1) * d ≤ p * b * d := mul_le_of (by omega)
      have f3 : c * q * b = (a * d + 1) * q := by rw [← hdet]; exact Nat.mul_right_comm _ _ _
      have f4 : p * b * d = p * d * b := Nat.mul_right_comm _ _ _
      have f5 : a * q * d = a * d * q := Nat.mul_right_comm _ _ _
      rw [Nat.add_mul, Nat.one_mul] at f1 f2 f3
      omega
    · have hp0 : p * D = 0 := by omega
      have : p = 0 := by
        rcases Nat.mul_eq_zero.1 hp0 with h | h
        · exact h
        · omega
      subst this
      simp at hlt
theorem NbE.above {N D n a b c d p q : Nat} (h : NbE N D n a b c d) (hD : 1 ≤ D) (hq : q ≤ n) (hq1 : 1 ≤ q) (hp : N * q ≤ p * D) : c * q ≤ p * d := by
  rcases h.fin with ⟨rfl, rfl⟩ | ⟨hdet, hs, h1, h2⟩
  · have e : a * D = N * b := Nat.le_antisymm h.lo h.hi
    have e1 : N * q * b ≤ p * D * b := mul_le_of hp
    have e2 : N * q * b = a * q * D := by rw [Nat.mul_right_comm, ← e]; exact Nat.mul_right_comm _ _ _
    rw [e2, Nat.mul_right_comm p] at e1
    exact Nat.le_of_mul_le_mul_right e1 hD
  · by_cases hlt : c * q ≤ p * d
    · exact hlt
    exfalso
    have hqb : a * q < p * b := by
      have e1 : N * q * b ≤ p * D * b := mul_le_of hp
      have e2 : a * q * D < N * q * b := by
        have : a * D * q < N * b * q := Nat.mul_lt_mul_of_pos_right h1 (by omega)
        rwa [Nat.mul_right_comm a D q, Nat.mul_right_comm N b q] at this
      have e3 : a * q * D < p * b * D := by rw [Nat.mul_right_comm p b D]; omega
      exact Nat.lt_of_mul_lt_mul_right e3
    have f1 : (p * d + 1) * b ≤ c * q * b := mul_le_of (by omega)
    have f2 : (a * q + 1) * d ≤ p * b * d := mul_le_of (by omega)
    have f3 : c * q * b = (a * d + 1) * q := by rw [← hdet]; exact Nat.mul_right_comm _ _ _
    have f4 : p * b * d = p * d * b := Nat.mul_right_comm _ _ _
    have f5 : a * q * d = a * d * q := Nat.mul_right_comm _ _ _
    rw [Nat.add_mul, Nat.one_mul] at f1 f2 f3
    have hb := h.b1
    have hd := h.d1
    omega
/-- Equal fractions in lowest terms are the same. -/
theorem lowest_eq {a b p q : Nat} (h : a * q = p * b) (ga : a.gcd b = 1) (gp : p.gcd q = 1) (hb : 1 ≤ b) (hq : 1 ≤ q) : a = p ∧ b = q := by
  have h1 : b ∣ q := by
    have : b ∣ a * q := ⟨p, by rw [h, Nat.mul_comm]⟩
    exact Nat.Coprime.dvd_of_dvd_mul_left (by rw [Nat.Coprime, Nat.gcd_comm]; exact ga) this
  have h2 : q ∣ b := by
    have : q ∣ p * b := ⟨a, by rw [← h, Nat.mul_comm]⟩
    exact Nat.Coprime.dvd_of_dvd_mul_left (by rw [Nat.Coprime, Nat.gcd_comm]; exact gp) this
  have e : b = q := Nat.dvd_antisymm h1 h2
  subst e
  exact ⟨Nat.eq_of_mul_eq_mul_right (by omega) h, rfl⟩
end Go.Proofs.YtfmfpnnglogkmaaGreatDoor

/- Plain mathematics: which word is nearest to a ratio. -/
namespace Go.Proofs.YtfmfpnnglogkmaaGreatDoor

def xW (P Q B L : Nat) : Int := if Q < P then 2 * (L : Int) - B else B
def yW (P Q B L : Nat) : Int := if Q < P then (B : Int) else 2 * (L : Int) - B
def dW (P Q B L : Nat) : Int := xW P Q B L * Q - P * yW P Q B L
def gW (P Q B L : Nat) : Int := ((dW P Q B L).natAbs : Int)
/-- Is the first word before the second one, or the same? -/
def NLe (P Q : Nat) (x y : Nat × Nat) : Prop :=
  gW P Q x.1 x.2 * yW P Q y.1 y.2 ≤ gW P Q y.1 y.2 * yW P Q x.1 x.2 ∧
  (gW P Q x.1 x.2 * yW P Q y.1 y.2 = gW P Q y.1 y.2 * yW P Q x.1 x.2 → x.2 ≤ y.2 ∧ (x.2 = y.2 → xW P Q x.1 x.2 * yW P Q y.1 y.2 ≤ xW P Q y.1 y.2 * yW P Q x.1 x.2))
/-- Is the first word before the second one? -/
def Bet (P Q : Nat) (y x : Nat × Nat) : Prop :=
  gW P Q y.1 y.2 * yW P Q x.1 x.2 < gW P Q x.1 x.2 * yW P Q y.1 y.2 ∨ (gW P Q y.1 y.2 * yW P Q x.1 x.2 = gW P Q x.1 x.2 * yW P Q y.1 y.2 ∧ (y.2 < x.2 ∨ (y.2 = x.2 ∧ xW P Q y.1 y.2 * yW P Q x.1 x.2 < xW P Q x.1 x.2 * yW P Q y.1 y.2)))
theorem nle_iff {P Q : Nat} {x y : Nat × Nat} : NLe P Q x y ↔ ¬ Bet P Q y x := by
  unfold NLe Bet
  generalize gW P Q x.1 x.2 * yW P Q y.1 y.2 = a
  generalize gW P Q y.1 y.2 * yW P Q x.1 x.2 = b
  generalize xW P Q x.1 x.2 * yW P Q y.1 y.2 = c
  generalize xW P Q y.1 y.2 * yW P Q x.1 x.2 = d
  omega
theorem crs {a b c d e f : Int} (hb : 0 < b) (hd : 0 < d) (hf : 0 < f) (h1 : a * d ≤ c * b) (h2 : c * f ≤ e * d) : a * f ≤ e * b ∧ (a * f = e * b → a * d = c * b ∧ c * f = e * d) := by
  have k1 : a * d * f ≤ c * b * f := Int.mul_le_mul_of_nonneg_right h1 (Int.le_of_lt hf)
  have k2 : c * f * b ≤ e * d * b := Int.mul_le_mul_of_nonneg_right h2 (Int.le_of_lt hb)
  have e1 : a * d * f = a * f * d := by grind
  have e2 : c * b * f = c * f * b := by grind
  have e3 : e * d * b = e * b * d := by grind
  refine ⟨Int.le_of_mul_le_mul_right (by omega : a * f * d ≤ e * b * d) hd, fun he => ?_⟩
  have e4 : a * f * d = e * b * d := by rw [he]
  exact ⟨Int.eq_of_mul_eq_mul_right (Int.ne_of_gt hf) (by omega : a * d * f = c * b * f), Int.eq_of_mul_eq_mul_right (Int.ne_of_gt hb) (by omega : c * f * b = e * d * b)⟩
theorem NLe.trans {P Q : Nat} {x y z : Nat × Nat} (hx : 0 < yW P Q x.1 x.2) (hy : 0 < yW P Q y.1 y.2) (hz : 0 < yW P Q z.1 z.2) (h : NLe P Q x y) (k : NLe P Q y z) : NLe P Q x z := by
  obtain ⟨a1, a2⟩ := crs hx hy hz h.1 k.1
  refine ⟨a1, fun he => ?_⟩
  obtain ⟨b1, b2⟩ := a2 he
  obtain ⟨c1, c2⟩ := h.2 b1
  obtain ⟨d1, d2⟩ := k.2 b2
  exact ⟨by omega, fun hl => (crs hx hy hz (c2 (by omega)) (d2 (by omega))).1⟩
theorem NLe.total {P Q : Nat} (x y : Nat × Nat) : NLe P Q x y ∨ NLe P Q y x := by
  unfold NLe
  generalize gW P Q x.1 x.2 * yW P Q y.1 y.2 = a
  generalize gW P Q y.1 y.2 * yW P Q x.1 x.2 = b
  generalize xW P Q x.1 x.2 * yW P Q y.1 y.2 = c
  generalize xW P Q y.1 y.2 * yW P Q x.1 x.2 = d
  omega
theorem NLe.refl {P Q : Nat} (x : Nat × Nat) : NLe P Q x x := ⟨Int.le_refl _, fun _ => ⟨Nat.le_refl _, fun _ => Int.le_refl _⟩⟩
theorem NLe.anti {P Q : Nat} {x y : Nat × Nat} (hx : 1 ≤ x.2) (h : NLe P Q x y) (k : NLe P Q y x) : x = y := by
  obtain ⟨a1, a2⟩ := h
  obtain ⟨b1, b2⟩ := k
  have e := Int.le_antisymm a1 b1
  obtain ⟨c1, c2⟩ := a2 e
  obtain ⟨d1, d2⟩ := b2 e.symm
  have el : x.2 = y.2 := by omega
  have ex := Int.le_antisymm (c2 el) (d2 el.symm)
  obtain ⟨p, l⟩ := x
  obtain ⟨q, l'⟩ := y
  simp only at el hx ex
  subst el
  have : p = q := by
    unfold xW yW at ex
    split at ex
    · have : 2 * (l : Int) * ((p : Int) - q) = 0 := by grind
      rcases Int.mul_eq_zero.1 this with h | h <;> omega
    · have : 2 * (l : Int) * ((p : Int) - q) = 0 := by grind
      rcases Int.mul_eq_zero.1 this with h | h <;> omega
  rw [this]

/-! ### the share's side -/
theorem dW_low {P Q B L : Nat} (h : ¬ Q < P) : dW P Q B L = (B : Int) * (P + Q) - 2 * P * L := by
  unfold dW xW yW
  rw [if_neg h, if_neg h]
  grind
theorem dW_steep {P Q B L : Nat} (h : Q < P) : dW P Q B L = 2 * Q * L - (B : Int) * (P + Q) := by
  unfold dW xW yW
  rw [if_pos h, if_pos h]
  grind
/-- The distance by the share: M is twice the lesser number, S the sum of both. -/
theorem gW_eq (P Q B L : Nat) : gW P Q B L = (((B : Int) * ((P : Int) + Q) - (2 * min P Q : Nat) * L).natAbs : Int) := by
  unfold gW
  by_cases h : Q < P
  · rw [dW_steep h, show min P Q = Q by omega]
    push_cast
    generalize (B : Int) * ((P : Int) + Q) = u
    generalize 2 * (Q : Int) * L = v
    omega
  · rw [dW_low h, show min P Q = P by omega]
    push_cast
    generalize (B : Int) * ((P : Int) + Q) = u
    generalize 2 * (P : Int) * L = v
    omega
theorem kPos {P Q : Nat} (hQ : 1 ≤ Q) : ∃ K : Int, 0 < K ∧ ∀ (a b p q : Nat), ((2 * min P Q : Nat) * (q : Int) - p * ((P : Int) + Q)) * yW P Q a b - ((2 * min P Q : Nat) * (b : Int) - a * ((P : Int) + Q)) * yW P Q p q = K * ((a : Int) * q - p * b) := by
  by_cases h : Q < P
  · refine ⟨2 * Q, by omega, fun a b p q => ?_⟩
    unfold yW
    rw [if_pos h, if_pos h, show min P Q = Q by omega]
    push_cast
    grind
  · refine ⟨2 * Q, by omega, fun a b p q => ?_⟩
    unfold yW
    rw [if_neg h, if_neg h, show min P Q = P by omega]
    push_cast
    grind
theorem near_low {P Q a b p q : Nat} (hQ : 1 ≤ Q) (hga : a.gcd b = 1) (hb : 1 ≤ b) (hq : 1 ≤ q) (h1 : a * (P + Q) ≤ 2 * min P Q * b) (h2 : p * (P + Q) ≤ 2 * min P Q * q) (h3 : p * b ≤ a * q) : NLe P Q (a, b) (p, q) := by
  obtain ⟨K, hK, hk⟩ := kPos (P := P) hQ
  have e := hk a b p q
  have g1 : gW P Q a b = (2 * min P Q : Nat) * (b : Int) - a * ((P : Int) + Q) := by
    rw [gW_eq]
    have : (a : Int) * ((P : Int) + Q) ≤ (2 * min P Q : Nat) * (b : Int) := by exact_mod_cast h1
    generalize (a : Int) * ((P : Int) + Q) = u at *
    generalize ((2 * min P Q : Nat) : Int) * (b : Int) = v at *
    omega
  have g2 : gW P Q p q = (2 * min P Q : Nat) * (q : Int) - p * ((P : Int) + Q) := by
    rw [gW_eq]
    have : (p : Int) * ((P : Int) + Q) ≤ (2 * min P Q : Nat) * (q : Int) := by exact_mod_cast h2
    generalize (p : Int) * ((P : Int) + Q) = u at *
    generalize ((2 * min P Q : Nat) : Int) * (q : Int) = v at *
    omega
  rw [← g1, ← g2] at e
  have h3' : (p : Int) * b ≤ (a : Int) * q := by exact_mod_cast h3
  have hm : 0 ≤ K * ((a : Int) * q - p * b) := Int.mul_nonneg (Int.le_of_lt hK) (by omega)
  refine ⟨by simp only; omega, fun he => ?_⟩
  simp only at he
  have h0 : K * ((a : Int) * q - p * b) = 0 := by omega
  have h4 : (a : Int) * q - p * b = 0 := by rcases Int.mul_eq_zero.1 h0 with h | h <;> omega
  have h5 : a * q = p * b := by
    have : (a : Int) * q = (p : Int) * b := by omega
    exact_mod_cast this
  have hd : b ∣ q := Nat.Coprime.dvd_of_dvd_mul_left (by rw [Nat.Coprime, Nat.gcd_comm]; exact hga) ⟨p, by rw [h5, Nat.mul_comm]⟩
  refine ⟨Nat.le_of_dvd hq hd, fun hl => ?_⟩
  simp only at hl ⊢
  subst hl
  have : a = p := Nat.eq_of_mul_eq_mul_right hb h5
  subst this
  exact Int.le_refl _
theorem near_high {P Q a b p q : Nat} (hQ : 1 ≤ Q) (hga : a.gcd b = 1) (hb : 1 ≤ b) (hq : 1 ≤ q) (h1 : 2 * min P Q * b ≤ a * (P + Q)) (h2 : 2 * min P Q * q ≤ p * (P + Q)) (h3 : a * q ≤ p * b) : NLe P Q (a, b) (p, q) := by
  obtain ⟨K, hK, hk⟩ := kPos (P := P) hQ
  have e := hk a b p q
  have g1 : gW P Q a b = a * ((P : Int) + Q) - (2 * min P Q : Nat) * (b : Int) := by
    rw [gW_eq]
    have : (2 * min P Q : Nat) * (b : Int) ≤ (a : Int) * ((P : Int) + Q) := by exact_mod_cast h1
    generalize (a : Int) * ((P : Int) + Q) = u at *
    generalize ((2 * min P Q : Nat) : Int) * (b : Int) = v at *
    omega
  have g2 : gW P Q p q = p * ((P : Int) + Q) - (2 * min P Q : Nat) * (q : Int) := by
    rw [gW_eq]
    have : (2 * min P Q : Nat) * (q : Int) ≤ (p : Int) * ((P : Int) + Q) := by exact_mod_cast h2
    generalize (p : Int) * ((P : Int) + Q) = u at *
    generalize ((2 * min P Q : Nat) : Int) * (q : Int) = v at *
    omega
  have e2 : gW P Q p q * yW P Q a b - gW P Q a b * yW P Q p q = K * ((p : Int) * b - a * q) := by
    rw [g1, g2]
    generalize ((2 * min P Q : Nat) : Int) = M at *
    grind
  have h3' : (a : Int) * q ≤ (p : Int) * b := by exact_mod_cast h3
  have hm : 0 ≤ K * ((p : Int) * b - a * q) := Int.mul_nonneg (Int.le_of_lt hK) (by omega)
  refine ⟨by simp only; omega, fun he => ?_⟩
  simp only at he
  have h0 : K * ((p : Int) * b - a * q) = 0 := by omega
  have h4 : (p : Int) * b - a * q = 0 := by rcases Int.mul_eq_zero.1 h0 with h | h <;> omega
  have h5 : a * q = p * b := by
    have : (a : Int) * q = (p : Int) * b := by omega
    exact_mod_cast this
  have hd : b ∣ q := Nat.Coprime.dvd_of_dvd_mul_left (by rw [Nat.Coprime, Nat.gcd_comm]; exact hga) ⟨p, by rw [h5, Nat.mul_comm]⟩
  refine ⟨Nat.le_of_dvd hq hd, fun hl => ?_⟩
  simp only at hl ⊢
  subst hl
  have : a = p := Nat.eq_of_mul_eq_mul_right hb h5
  subst this
  exact Int.le_refl _
end Go.Proofs.YtfmfpnnglogkmaaGreatDoor

/- Plain mathematics: the searches of the reference for neighbours and for the nearest word. -/
namespace Go.Proofs.YtfmfpnnglogkmaaGreatDoor

/-! ### the reference's search for neighbours -/
structure NbSeen (N D : Nat) (seen : Nat → Nat → Prop) (a b c d : Nat) : Prop where
  b1 : 1 ≤ b
  d1 : 1 ≤ d
  ga : a.gcd b = 1
  gc : c.gcd d = 1
  lo : a * D ≤ N * b
  hi : N * d ≤ c * D
  below : ∀ p q, seen p q → 1 ≤ q → p.gcd q = 1 → p * D ≤ N * q → p * b ≤ a * q
  above : ∀ p q, seen p q → 1 ≤ q → p.gcd q = 1 → N * q ≤ p * D → c * q ≤ p * d
theorem frac_trans {a b p q x y : Nat} (hq : 1 ≤ q) (h1 : x * q ≤ p * y) (h2 : p * b ≤ a * q) : x * b ≤ a * y := by
  have e1 : x * q * b ≤ p * y * b := Nat.mul_le_mul_right b h1
  have e2 : p * b * y ≤ a * q * y := Nat.mul_le_mul_right y h2
  have e3 : p * y * b = p * b * y := Nat.mul_right_comm _ _ _
  have e4 : x * b * q ≤ a * y * q := by rw [Nat.mul_right_comm x b q, Nat.mul_right_comm a y q]; omega
  exact Nat.le_of_mul_le_mul_right e4 hq
/-- The lower neighbour that is kept when (p, q) has been met. -/
def loNext (N D p q a b : Nat) : Nat × Nat := if p * D ≤ N * q ∧ a * q < p * b then (p, q) else (a, b)
def hiNext (N D p q c d : Nat) : Nat × Nat := if N * q ≤ p * D ∧ p * d < c * q then (p, q) else (c, d)
theorem NbSeen.skip {N D : Nat} {seen : Nat → Nat → Prop} {a b c d p q : Nat} (h : NbSeen N D seen a b c d) (hg : p.gcd q ≠ 1) : NbSeen N D (fun x y => seen x y ∨ (x = p ∧ y = q)) a b c d :=
  { h with
    below := fun x y hs h1 hg1 hl => by
      rcases hs with hs | ⟨rfl, rfl⟩
      · exact h.below x y hs h1 hg1 hl
      · exact absurd hg1 hg
    above := fun x y hs h1 hg1 hl => by
      rcases hs with hs | ⟨rfl, rfl⟩
      · exact h.above x y hs h1 hg1 hl
      · exact absurd hg1 hg }
theorem NbSeen.next {N D : Nat} {seen : Nat → Nat → Prop} {a b c d p q : Nat} (h : NbSeen N D seen a b c d) (hq : 1 ≤ q) (hg : p.gcd q = 1) :
    NbSeen N D (fun x y => seen x y ∨ (x = p ∧ y = q)) (loNext N D p q a b).1 (loNext N D p q a b).2 (hiNext N D p q c d).1 (hiNext N D p q c d).2 := by
  have hb := h.b1
  have hd := h.d1
  have L : ∃ a' b', loNext N D p q a b = (a', b') ∧ 1 ≤ b' ∧ a'.gcd b' = 1 ∧ a' * D ≤ N * b' ∧ (∀ x y, (seen x y ∨ (x = p ∧ y = q)) → 1 ≤ y → x.gcd y = 1 → x * D ≤ N * y → x * b' ≤ a' * y) := by
    unfold loNext
    by_cases hc : p * D ≤ N * q ∧ a * q < p * b
    · rw [if_pos hc]
      refine ⟨p, q, rfl, hq, hg, hc.1, fun x y hs h1 hg1 hl => ?_⟩
      rcases hs with hs | ⟨rfl, rfl⟩
      · exact frac_trans hb (h.below x y hs h1 hg1 hl) (Nat.le_of_lt hc.2)
      · exact Nat.le_refl _
    · rw [if_neg hc]
      refine ⟨a, b, rfl, hb, h.ga, h.lo, fun x y hs h1 hg1 hl => ?_⟩
      rcases hs with hs | ⟨rfl, rfl⟩
      · exact h.below x y hs h1 hg1 hl
      · exact Nat.le_of_not_lt fun hlt => hc ⟨hl, hlt⟩
  have R : ∃ c' d', hiNext N D p q c d = (c', d') ∧ 1 ≤ d' ∧ c'.gcd d' = 1 ∧ N * d' ≤ c' * D ∧ (∀ x y, (seen x y ∨ (x = p ∧ y = q)) → 1 ≤ y → x.gcd y = 1 → N * y ≤ x * D → c' * y ≤ x * d') := by
    unfold hiNext
    by_cases hc : N * q ≤ p * D ∧ p * d < c * q
    · rw [if_pos hc]
      refine ⟨p, q, rfl, hq, hg, hc.1, fun x y hs h1 hg1 hl => ?_⟩
      rcases hs with hs | ⟨rfl, rfl⟩
      · exact frac_trans hd (Nat.le_of_lt hc.2) (h.above x y hs h1 hg1 hl)
      · exact Nat.le_refl _
    · rw [if_neg hc]
      refine ⟨c, d, rfl, hd, h.gc, h.hi, fun x y hs h1 hg1 hl => ?_⟩
      rcases hs with hs | ⟨rfl, rfl⟩
      · exact h.above x y hs h1 hg1 hl
      · exact Nat.le_of_not_lt fun hlt => hc ⟨hl, hlt⟩
  obtain ⟨a', b', e1, l1, l2, l3, l4⟩ := L
  obtain ⟨c', d', e2, r1, r2, r3, r4⟩ := R
  rw [e1, e2]
  exact ⟨l1, r1, l2, r2, l3, r3, l4, r4⟩
theorem NbSeen.start {N D : Nat} (hND : N ≤ D) : NbSeen N D (fun _ _ => False) 0 1 1 1 :=
  ⟨by omega, by omega, by simp, by simp, by simp, by simpa using hND, fun _ _ h => h.elim, fun _ _ h => h.elim⟩
theorem NbSeen.of_iff {N D : Nat} {s t : Nat → Nat → Prop} {a b c d : Nat} (h : NbSeen N D s a b c d) (hst : ∀ p q, t p q → s p q) : NbSeen N D t a b c d :=
  { h with below := fun p q hs => h.below p q (hst p q hs), above := fun p q hs => h.above p q (hst p q hs) }
/-- All shares with at most n letters, at last. -/
theorem nb_same {N D n a b c d a' b' c' d' : Nat} (hD : 1 ≤ D) (h : NbE N D n a b c d) (k : NbSeen N D (fun p q => 1 ≤ q ∧ q ≤ n ∧ p ≤ q) a' b' c' d') (hb : b' ≤ n) (hd : d' ≤ n) : a' = a ∧ b' = b ∧ c' = c ∧ d' = d := by
  have e1 : a' * b ≤ a * b' := h.below hD hb k.lo
  have e2 : a * b' ≤ a' * b := k.below a b ⟨h.b1, h.bn, h.ab⟩ h.b1 h.ga h.lo
  have e3 : c * d' ≤ c' * d := h.above hD hd k.d1 k.hi
  have e4 : c' * d ≤ c * d' := k.above c d ⟨h.d1, h.dn, h.cd⟩ h.d1 h.gc h.hi
  obtain ⟨rfl, rfl⟩ := lowest_eq (Nat.le_antisymm e1 e2) k.ga h.ga k.b1 h.b1
  obtain ⟨rfl, rfl⟩ := lowest_eq (Nat.le_antisymm e4 e3) k.gc h.gc k.d1 h.d1
  exact ⟨rfl, rfl, rfl, rfl⟩
/-- What CheckNeighbours asks is what NbE says. -/
theorem NbE.proves {N D n a b c d : Nat} (h : NbE N D n a b c d) : (a = c ∧ b = d) ∨ (c * b = a * d + 1 ∧ n < b + d) := by
  rcases h.fin with h | ⟨h1, h2, _⟩
  · exact .inl h
  · exact .inr ⟨h1, h2⟩

/-! ### the reference's search for the nearest word: candidates (bars, letters) -/
/-- The best of what has been seen. -/
structure BestOf (P Q : Nat) (seen : Nat × Nat → Prop) (m : Nat × Nat) : Prop where
  is : seen m
  y : 0 < yW P Q m.1 m.2
  le : ∀ x, seen x → 0 < yW P Q x.1 x.2 → NLe P Q m x
theorem BestOf.keep {P Q : Nat} {seen : Nat × Nat → Prop} {m x : Nat × Nat} (h : BestOf P Q seen m) (hx : ¬ Bet P Q x m) : BestOf P Q (fun z => seen z ∨ z = x) m :=
  ⟨.inl h.is, h.y, fun z hs hz => by
    rcases hs with hs | rfl
    · exact h.le z hs hz
    · exact nle_iff.2 hx⟩
theorem BestOf.drop {P Q : Nat} {seen : Nat × Nat → Prop} {m x : Nat × Nat} (h : BestOf P Q seen m) (hx : ¬ 0 < yW P Q x.1 x.2) : BestOf P Q (fun z => seen z ∨ z = x) m :=
  ⟨.inl h.is, h.y, fun z hs hz => by
    rcases hs with hs | rfl
    · exact h.le z hs hz
    · exact absurd hz hx⟩
theorem BestOf.take {P Q : Nat} {seen : Nat × Nat → Prop} {m x : Nat × Nat} (h : BestOf P Q seen m) (hy : 0 < yW P Q x.1 x.2) (hx : Bet P Q x m) : BestOf P Q (fun z => seen z ∨ z = x) x := by
  have hm : NLe P Q x m := (NLe.total x m).resolve_right fun h' => nle_iff.1 h' hx
  exact ⟨.inr rfl, hy, fun z hs hz => by
    rcases hs with hs | rfl
    · exact hm.trans hy h.y hz (h.le z hs hz)
    · exact NLe.refl _⟩
theorem BestOf.same {P Q : Nat} {s : Nat × Nat → Prop} {m m' : Nat × Nat} (hs : ∀ x, s x → 1 ≤ x.2) (h : BestOf P Q s m) (k : BestOf P Q s m') : m = m' := (h.le m' k.is k.y).anti (hs m h.is) (k.le m h.is h.y)
theorem BestOf.of_iff {P Q : Nat} {s t : Nat × Nat → Prop} {m : Nat × Nat} (h : BestOf P Q s m) (hst : ∀ x, t x ↔ s x) : BestOf P Q t m :=
  ⟨(hst m).2 h.is, h.y, fun x hx => h.le x ((hst x).1 hx)⟩
/-- All words of at most n letters. -/
def AllW (n : Nat) (x : Nat × Nat) : Prop := 1 ≤ x.2 ∧ x.2 ≤ n ∧ x.1 ≤ x.2
theorem yW_pos {P Q B L : Nat} (hB : B ≤ L) (hL : 1 ≤ L) (h : Q < P → 1 ≤ B) : 0 < yW P Q B L := by
  unfold yW
  split
  · have := h (by assumption); omega
  · omega
/-- The word that is chosen of the two neighbours'. -/
def nearC (P Q a b c d : Nat) : Nat × Nat :=
  if yW P Q a b ≤ 0 then (c, d) else if gW P Q c d * yW P Q a b < gW P Q a b * yW P Q c d ∨ (gW P Q c d * yW P Q a b = gW P Q a b * yW P Q c d ∧ (d < b ∨ (d = b ∧ xW P Q c d * yW P Q a b < xW P Q a b * yW P Q c d))) then (c, d) else (a, b)
theorem near_best {P Q g N D n a b c d : Nat} (hQ : 1 ≤ Q) (hM : 2 * min P Q = g * N) (hS : P + Q = g * D) (h : NbE N D n a b c d) : BestOf P Q (AllW n) (nearC P Q a b c d) := by
  have hD : 1 ≤ D := by
    rcases Nat.eq_zero_or_pos D with h | h
    · subst h; rw [Nat.mul_zero] at hS; omega
    · exact h
  have cv1 : ∀ {p q : Nat}, p * D ≤ N * q → p * (P + Q) ≤ 2 * min P Q * q := fun {p q} hl => by
    rw [hS, hM]
    have := Nat.mul_le_mul_left g hl
    rw [← Nat.mul_assoc, ← Nat.mul_assoc, Nat.mul_comm g p, Nat.mul_assoc p g D] at this
    exact this
  have cv2 : ∀ {p q : Nat}, N * q ≤ p * D → 2 * min P Q * q ≤ p * (P + Q) := fun {p q} hl => by
    rw [hS, hM]
    have := Nat.mul_le_mul_left g hl
    rw [← Nat.mul_assoc, ← Nat.mul_assoc, Nat.mul_comm g p, Nat.mul_assoc p g D] at this
    exact this
  have inA : AllW n (a, b) := ⟨h.b1, h.bn, h.ab⟩
  have inC : AllW n (c, d) := ⟨h.d1, h.dn, h.cd⟩
  have yc : 0 < yW P Q c d := by
    refine yW_pos h.cd h.d1 fun hst => ?_
    rcases Nat.eq_zero_or_pos c with h0 | h0
    · subst h0
      exfalso
      have h1 := h.hi
      rw [Nat.zero_mul] at h1
      have h2 : N * d = 0 := by omega
      have hN : N = 0 := by
        rcases Nat.mul_eq_zero.1 h2 with h | h'
        · exact h
        · have := h.d1; omega
      subst hN
      rw [Nat.mul_zero] at hM
      omega
    · exact h0
  have lowA : ∀ p q, AllW n (p, q) → p * D ≤ N * q → NLe P Q (a, b) (p, q) := fun p q hx hl =>
    near_low hQ h.ga h.b1 hx.1 (cv1 h.lo) (cv1 hl) (h.below hD hx.2.1 hl)
  have highC : ∀ p q, AllW n (p, q) → N * q ≤ p * D → NLe P Q (c, d) (p, q) := fun p q hx hl =>
    near_high hQ h.gc h.d1 hx.1 (cv2 h.hi) (cv2 hl) (h.above hD hx.2.1 hx.1 hl)
  by_cases ya : yW P Q a b ≤ 0
  · have e : nearC P Q a b c d = (c, d) := by unfold nearC; rw [if_pos ya]
    rw [e]
    refine ⟨inC, yc, fun ⟨p, q⟩ hx hy => ?_⟩
    rcases Nat.le_total (N * q) (p * D) with hl | hl
    · exact highC p q hx hl
    · exfalso
      have ha : a = 0 ∧ Q < P := by
        have := h.ab
        have := h.b1
        unfold yW at ya
        split at ya
        · exact ⟨by omega, by assumption⟩
        · omega
      have hb := h.below hD hx.2.1 hl
      rw [ha.1, Nat.zero_mul] at hb
      have hp : p = 0 := by
        rcases Nat.mul_eq_zero.1 (Nat.le_zero.1 hb) with h' | h'
        · exact h'
        · have := h.b1; omega
      subst hp
      unfold yW at hy
      rw [if_pos ha.2] at hy
      simp at hy
  · have ya' : 0 < yW P Q a b := by omega
    by_cases hB : Bet P Q (c, d) (a, b)
    · have e : nearC P Q a b c d = (c, d) := by unfold nearC; rw [if_neg ya]; exact if_pos hB
      have hca : NLe P Q (c, d) (a, b) := (NLe.total (c, d) (a, b)).resolve_right fun h' => nle_iff.1 h' hB
      rw [e]
      refine ⟨inC, yc, fun ⟨p, q⟩ hx hy => ?_⟩
      rcases Nat.le_total (N * q) (p * D) with hl | hl
      · exact highC p q hx hl
      · exact hca.trans yc ya' hy (lowA p q hx hl)
    · have e : nearC P Q a b c d = (a, b) := by unfold nearC; rw [if_neg ya]; exact if_neg hB
      have hac : NLe P Q (a, b) (c, d) := nle_iff.2 hB
      rw [e]
      refine ⟨inA, ya', fun ⟨p, q⟩ hx hy => ?_⟩
      rcases Nat.le_total (N * q) (p * D) with hl | hl
      · exact hac.trans ya' yc hy (highC p q hx hl)
      · exact lowA p q hx hl
end Go.Proofs.YtfmfpnnglogkmaaGreatDoor

/- cmp.Compare at ints; compareShares of taper. -/
namespace Go.Proofs.YtfmfpnnglogkmaaGreatDoor
open Go.RowKit Ck

def cmpI (x y : Int) : Int := if x < y then -1 else if y < x then 1 else 0
theorem isNaNI (x : Int) (w : World) : Calls Tryz.prog 96 #[.int .i64 x] w fun e w' => e = .returned (.bool false) ∧ w = w' := by
  go_enter Tryz.func96, Tryz.ntmps96
  go_wp2
  go_ret
  simp
set_option maxHeartbeats 400000 in
theorem cmpInt (x y : Int) (w : World) : Calls Tryz.prog 52 #[.int .i64 x, .int .i64 y] w fun e w' => e = .returned (.int .i64 (cmpI x y)) ∧ w = w' := by
  rcases Int.lt_trichotomy x y with h | h | h
  · have hc : cmpI x y = -1 := by rw [cmpI, if_pos h]
    rw [hc]
    clear hc
    go_enter Tryz.func52, Tryz.ntmps52
    go_wp2_with fail
    refine (isNaNI _ _).mono ?_
    rintro e w1 ⟨rfl, rfl⟩
    go_wp2_with fail
    refine (isNaNI _ _).mono ?_
    rintro e w1 ⟨rfl, rfl⟩
    go_wp2
    go_ret
    exact ⟨rfl, rfl⟩
  · subst h
    have hc : cmpI x x = 0 := by rw [cmpI, if_neg (Int.lt_irrefl _), if_neg (Int.lt_irrefl _)]
    have hn : ¬ x < x := Int.lt_irrefl _
    rw [hc]
    clear hc
    go_enter Tryz.func52, Tryz.ntmps52
    go_wp2_with fail
    refine (isNaNI _ _).mono ?_
    rintro e w1 ⟨rfl, rfl⟩
    go_wp2_with fail
    refine (isNaNI _ _).mono ?_
    rintro e w1 ⟨rfl, rfl⟩
    go_wp2
    go_ret
    exact ⟨rfl, rfl⟩
  · have hn : ¬ x < y := by omega
    have hc : cmpI x y = 1 := by rw [cmpI, if_neg hn, if_pos h]
    rw [hc]
    clear hc
    go_enter Tryz.func52, Tryz.ntmps52
    go_wp2_with fail
    refine (isNaNI _ _).mono ?_
    rintro e w1 ⟨rfl, rfl⟩
    go_wp2_with fail
    refine (isNaNI _ _).mono ?_
    rintro e w1 ⟨rfl, rfl⟩
    go_wp2
    go_ret
    exact ⟨rfl, rfl⟩
theorem mul_bound {a b : Nat} {A B : Nat} (ha : a ≤ A) (hb : b ≤ B) : (a : Int) * (b : Int) ≤ ((A * B : Nat) : Int) ∧ 0 ≤ (a : Int) * (b : Int) := by
  have := Nat.mul_le_mul ha hb
  have e : (a : Int) * (b : Int) = ((a * b : Nat) : Int) := by push_cast; rfl
  rw [e]
  omega
set_option maxHeartbeats 1000000 in
set_option maxRecDepth 100000 in
theorem tpCompareShares (a b N D : Nat) (w : World) (ha : a ≤ 1000) (hb : b ≤ 1000) (hN : N ≤ 2000000000) (hD : D ≤ 2000000000) :
    Calls Tryz.prog 91 #[.agg #[.int .i64 a, .int .i64 b], .agg #[.int .i64 N, .int .i64 D]] w fun e w' => e = .returned (.int .i64 (cmpI ((a : Int) * D) ((N : Int) * b))) ∧ Below w.heap.size w w' := by
  obtain ⟨w1, hw1, h0, h1, hb1, hz1⟩ := boxH22 w (.int .i64 a) (.int .i64 b) (.int .i64 N) (.int .i64 D) 28 23
  obtain ⟨p0, p1, -, -⟩ := two_cell h0
  obtain ⟨q0, q1, -, -⟩ := two_cell h1
  have HW1 := Lib.hid hw1
  obtain ⟨m1, m2⟩ := mul_bound ha hD
  obtain ⟨m3, m4⟩ := mul_bound hN hb
  have y1 : IntKind.i64.wrap ((a : Int) * (D : Int)) = (a : Int) * (D : Int) := by rw [IntKind.wrap_i64]; omega
  have y2 : IntKind.i64.wrap ((N : Int) * (b : Int)) = (N : Int) * (b : Int) := by rw [IntKind.wrap_i64]; omega
  clear hw1 h0 h1 hz1
  go_enter Tryz.func91, Tryz.ntmps91
  go_wp2_with fail
  rw [← HW1.out]
  go_wp2_with fail
  refine (cmpInt _ _ _).mono ?_
  rintro e w2 ⟨rfl, rfl⟩
  go_wp2
  go_ret
  exact ⟨rfl, hb1⟩
theorem cmpI_zero {x y : Int} : cmpI x y = 0 ↔ x = y := by
  unfold cmpI
  split
  · constructor
    · intro h; cases h
    · omega
  · split
    · constructor
      · intro h; cases h
      · omega
    · constructor
      · omega
      · intro _; rfl
theorem cmpI_le {x y : Int} : cmpI x y ≤ 0 ↔ x ≤ y := by
  unfold cmpI
  split
  · constructor
    · omega
    · intro _; decide
  · split
    · constructor
      · intro h; exact absurd h (by decide)
      · omega
    · constructor
      · omega
      · intro _; exact Int.le_refl _
end Go.Proofs.YtfmfpnnglogkmaaGreatDoor

/- Print, Rate and Compare of taper with their errors. -/
namespace Go.Proofs.YtfmfpnnglogkmaaGreatDoor
open Go.RowKit

set_option maxHeartbeats 1000000 in
set_option maxRecDepth 100000 in
theorem tpPrintNo (s : ByteArray) (w : World) (E : Int) (hE : wordE s.data.toList = E) (h0 : E ≠ 0) :
    Calls Tryz.prog 35 #[.string s] w fun e w' => e = .returned (.tuple #[.string ⟨#[]⟩, .int .i64 E]) ∧ Below w.heap.size w w' := by
  have HE := Lib.hid hE
  have hne := neE h0
  clear hE h0
  go_enter Tryz.func35, Tryz.ntmps35
  go_wp2_with fail
  refine (tpCheckWordE s _).mono ?_
  rintro e w1 ⟨rfl, hb1⟩
  rw [HE.out]
  go_wp2
  go_ret2
  exact ⟨rfl, hb1⟩

/-! ### Rate -/
def rateE (s : ByteArray) : Int := if rowsB s = true then 0 else 6
/-! ### Compare -/
def cmpV (a b : List UInt8) : Int := cmpI ((vecL a).1 * (vecL b).2) ((vecL b).1 * (vecL a).2)
set_option maxHeartbeats 2000000 in
set_option maxRecDepth 100000 in
theorem tpCompareRates (a b : ByteArray) (w : World) (ha : Word a) (hb : Word b) :
    Calls Tryz.prog 53 #[.string a, .string b] w fun e w' => e = .returned (.int .i64 (cmpV a.data.toList b.data.toList)) ∧ Below w.heap.size w w' := by
  have na := vecL_near a.data.toList
  have nb := vecL_near b.data.toList
  have la : (a.data.toList.length : Int) ≤ 64 := by have := ha.2.2; have := Lib.size_eq a; omega
  have lb : (b.data.toList.length : Int) ≤ 64 := by have := hb.2.2; have := Lib.size_eq b; omega
  unfold cmpV
  obtain ⟨u, hu⟩ : ∃ u, vecL a.data.toList = u := ⟨_, rfl⟩
  obtain ⟨v, hv⟩ : ∃ v, vecL b.data.toList = v := ⟨_, rfl⟩
  rw [hu] at na
  rw [hv] at nb
  have HA := Lib.hid hu
  have HB := Lib.hid hv
  rw [hu, hv]
  clear hu hv
  obtain ⟨u1, u2⟩ := u
  obtain ⟨v1, v2⟩ := v
  simp only at na nb ⊢
  obtain ⟨a1, a2, a3, a4⟩ := na
  obtain ⟨b1, b2, b3, b4⟩ := nb
  have p1 : 0 ≤ u1 * v2 ∧ u1 * v2 ≤ 128 * 128 := ⟨Int.mul_nonneg a1 b3, Int.mul_le_mul (by omega) (by omega) b3 (by omega)⟩
  have p2 : 0 ≤ v1 * u2 ∧ v1 * u2 ≤ 128 * 128 := ⟨Int.mul_nonneg b1 a3, Int.mul_le_mul (by omega) (by omega) a3 (by omega)⟩
  obtain ⟨p3, p4⟩ := p1
  obtain ⟨p5, p6⟩ := p2
  have HL := Lib.hid la
  have HM := Lib.hid lb
  clear la lb a2 a4 b2 b4
  go_enter Tryz.func53, Tryz.ntmps53
  go_wp2_with fail
  refine (tpVectorOf a _ ha).mono ?_
  rintro e w1 ⟨rfl, hb1⟩
  rw [HA.out]
  go_wp2_with fail
  refine (tpVectorOf b _ hb).mono ?_
  rintro e w2 ⟨rfl, hb2⟩
  rw [HB.out]
  have B2 := hb1.trans (hb2.mono hb1.size)
  obtain ⟨w3, hw3, k0, k1, hb3, hz3⟩ := boxH22 w2 (.int .i64 u1) (.int .i64 u2) (.int .i64 v1) (.int .i64 v2) 66 66
  obtain ⟨c0, c1, -, -⟩ := two_cell k0
  obtain ⟨d0, d1, -, -⟩ := two_cell k1
  have HW3 := Lib.hid hw3
  clear hw3 k0 k1
  go_wp2_with fail
  rw [← HW3.out]
  go_wp2_with fail
  refine (cmpInt _ _ _).mono ?_
  rintro e w4 ⟨rfl, rfl⟩
  go_wp2
  go_ret
  exact ⟨rfl, B2.trans (hb3.mono B2.size)⟩
end Go.Proofs.YtfmfpnnglogkmaaGreatDoor

/- leastThat, isPowerOfStart and Root of taper. -/
namespace Go.Proofs.YtfmfpnnglogkmaaGreatDoor
open Go.RowKit Go.Shelf

theorem tpRepeatedW (s : ByteArray) (c : Nat) (w : World) (hs : s.size ≤ 64) (hc : c ≤ 256) :
    Calls Tryz.prog 113 #[.string s, .int .i64 c] w fun e w' => e = .returned (.string ⟨(Lib.repeatL s.data.toList c).toArray⟩) ∧ Below w.heap.size w w' := by
  go_enter Tryz.func113, Tryz.ntmps113
  go_wp2_with fail
  refine (strRepeat s c _ hs hc).mono ?_
  rintro e w1 ⟨rfl, hb1⟩
  go_wp2
  go_ret
  exact ⟨rfl, hb1⟩
theorem keepB {W w1 w2 : World} (h : Below W.heap.size W w1 ∧ W.heap.size ≤ w1.heap.size) (hb : Below w1.heap.size w1 w2) : Below W.heap.size W w2 ∧ W.heap.size ≤ w2.heap.size := ⟨h.1.trans (hb.mono h.1.size), Nat.le_trans h.2 hb.size⟩
theorem keepB1 {W w1 : World} (h : Below W.heap.size W w1 ∧ W.heap.size ≤ w1.heap.size) : Below W.heap.size W w1 := h.1
def powB (L : List UInt8) (n : Nat) : Bool := decide (L.length % n = 0) && (L == Lib.repeatL (L.take n) (L.length / n))
set_option maxHeartbeats 1000000 in
set_option maxRecDepth 100000 in
theorem tpIsPower (s : ByteArray) (n : Nat) (w : World) (hs : s.size ≤ 64) (hn : 1 ≤ n) (hn2 : n ≤ s.size) :
    Calls Tryz.prog 85 #[.string s, .int .i64 n] w fun e w' => e = .returned (.bool (powB s.data.toList n)) ∧ Below w.heap.size w w' := by
  have hz : ¬ (n : Int) = 0 := by omega
  have hzN : ¬ n = 0 := by omega
  have i0 : (0 : Int) ≤ (n : Int) := by omega
  have i1 : (n : Int) ≤ (s.size : Int) := by omega
  have ht : (s.size : Int).tmod (n : Int) = ((s.size % n : Nat) : Int) := nat_tmod _ _
  have hd : (s.size : Int).tdiv (n : Int) = ((s.size / n : Nat) : Int) := nat_tdiv _ _
  have hq : s.size / n ≤ 64 := Nat.le_trans (Nat.div_le_self _ _) hs
  have he : (s.extract 0 n).size ≤ 64 := by simp [ByteArray.size_extract]; omega
  have hP := Lib.hid (show powB s.data.toList n = (decide (s.size % n = 0) && (s.toList == Lib.repeatL (s.data.toList.take n) (s.size / n))) by rw [powB, Lib.toList_data, ← Lib.size_eq])
  obtain ⟨r, hr⟩ : ∃ r, s.size % n = r := ⟨_, rfl⟩
  obtain ⟨q, hqq⟩ : ∃ q, s.size / n = q := ⟨_, rfl⟩
  rw [hr] at ht hP
  rw [hqq] at hd hq hP
  have hwq : IntKind.i64.wrap (q : Int) = (q : Int) := by rw [IntKind.wrap_i64]; omega
  clear hr hqq
  by_cases hm : r = 0
  · subst hm
    have ht0 : (s.size : Int).tmod (n : Int) = 0 := ht
    have HB := Lib.hid (show powB s.data.toList n = (s.toList == Lib.repeatL (s.data.toList.take n) q) by rw [hP.out, decide_eq_true rfl, Bool.true_and])
    rw [HB.out]
    clear HB hP ht
    have HR := Lib.hid he
    have hq' : q ≤ 256 := by omega
    have hw0 : IntKind.i64.wrap 0 = 0 := by decide
    clear he
    go_enter Tryz.func85, Tryz.ntmps85
    go_wp2_with fail
    go_region_held3 (fun w' => Below w.heap.size w w' ∧ w.heap.size ≤ w'.heap.size)
      (first | exact ⟨below_drew (Below.refl _ _), Nat.le_refl _⟩ | exact keepB (by assumption) (by assumption) | assumption | go_keep)
      (first
        | (go_at_call 113; refine (tpRepeatedW _ _ _ HR.out hq').mono ?_; rintro e w' ⟨rfl, hbq⟩))
    all_goals go_wp2
    all_goals go_ret
    all_goals exact ⟨rfl, keepB1 (by assumption)⟩
  · have hg : ((r : Int) == 0) = false := by rw [beq_eq_false_iff_ne]; omega
    have HB : powB s.data.toList n = false := by rw [hP.out, decide_eq_false hm, Bool.false_and]
    rw [HB]
    clear hm HB hP he
    go_enter Tryz.func85, Tryz.ntmps85
    go_wp2_with fail
    go_quiet (fail)
    go_wp2
    go_ret
    exact ⟨rfl, below_drewN (Below.refl _ _) _⟩
/-- The least number from n on that passes, or G; k numbers are left below G. -/
def leastF (P : Nat → Bool) (G : Nat) : Nat → Nat → Nat
  | 0, _ => G
  | k + 1, n => if P n = true then n else leastF P G k (n + 1)
def leastN (P : Nat → Bool) (G : Nat) : Nat := leastF P G (G - 1) 1
theorem leastF_range (P : Nat → Bool) (G : Nat) : ∀ k n, 1 ≤ n → n + k ≤ G → 1 ≤ G → 1 ≤ leastF P G k n ∧ leastF P G k n ≤ G
  | 0, _, _, _, h => ⟨h, Nat.le_refl _⟩
  | k + 1, n, h1, h2, h3 => by
    unfold leastF
    split
    · exact ⟨h1, by omega⟩
    · exact leastF_range P G k (n + 1) (by omega) (by omega) h3
theorem leastN_range (P : Nat → Bool) {G : Nat} (h : 1 ≤ G) : 1 ≤ leastN P G ∧ leastN P G ≤ G := leastF_range P G _ _ (Nat.le_refl _) (by omega) h
set_option maxHeartbeats 1000000 in
set_option maxRecDepth 100000 in
theorem tpLeastPow (s : ByteArray) (w : World) (hs : s.size ≤ 64) (h1 : 1 ≤ s.size) :
    Calls Tryz.prog 84 #[.func (.func 85) #[.string s] #[], .int .i64 s.size] w fun e w' => e = .returned (.int .i64 (leastN (powB s.data.toList) s.size : Nat)) ∧ Below w.heap.size w w' := by
  obtain ⟨R, hR⟩ : ∃ R, leastN (powB s.data.toList) s.size = R := ⟨_, rfl⟩
  have HR := Lib.hid (show leastF (powB s.data.toList) s.size (s.size - 1) 1 = R from hR)
  rw [hR]
  clear hR
  go_enter Tryz.func84, Tryz.ntmps84
  go_wp2_with fail
  go_loopw [5] (fun i wr => ∃ n : Nat, 1 ≤ n ∧ n ≤ s.size ∧ i = .int .i64 n ∧ leastF (powB s.data.toList) s.size (s.size - n) n = R ∧ Below w.heap.size w wr) (fun i _ => s.size - (intOf i).toNat)
  case atStart => exact ⟨1, Nat.le_refl _, h1, rfl, HR.out, Below.refl _ _⟩
  case round =>
    obtain ⟨n, hn1, hn2, rfl, hF, hb⟩ := hrel
    have HF := Lib.hid hF
    clear hF
    by_cases hlt : n < s.size
    · go_wp2_with fail
      refine (tpIsPower s n _ hs hn1 hn2).mono ?_
      rintro e w1 ⟨rfl, hb1⟩
      have hb2 := hb.trans (hb1.mono hb.size)
      obtain ⟨p, hp⟩ : ∃ p, powB s.data.toList n = p := ⟨_, rfl⟩
      rw [hp]
      have hsub : s.size - n = (s.size - (n + 1)) + 1 := by omega
      cases p
      · have HN := Lib.hid (show leastF (powB s.data.toList) s.size (s.size - (n + 1)) (n + 1) = R by
          rw [← HF.out, hsub, leastF, hp, if_neg (by decide)])
        clear hp hsub HF
        go_wp2
        go_roundw
        case rel => exact ⟨n + 1, by omega, by omega, by go_num, HN.out, hb2⟩
        case measure => simp [intOf]; omega
      · have HN := Lib.hid (show n = R by rw [← HF.out, hsub, leastF, hp, if_pos rfl])
        clear hp hsub HF
        go_wp2
        go_ret
        exact ⟨ret_i (by rw [HN.out]), hb2⟩
    · obtain rfl : n = s.size := by omega
      have HN := Lib.hid (show s.size = R by rw [← HF.out, Nat.sub_self, leastF])
      clear HF
      go_wp2
      go_ret
      exact ⟨ret_i (by rw [HN.out]), hb⟩
/-- The root of a word, and the exponent. -/
def rootN (L : List UInt8) : Nat := leastN (powB L) L.length
set_option maxHeartbeats 1000000 in
set_option maxRecDepth 100000 in
theorem tpRoot (s : ByteArray) (w : World) (hs : Word s) :
    Calls Tryz.prog 37 #[.string s] w fun e w' => e = .returned (.tuple #[.string (s.extract 0 (rootN s.data.toList)), .int .i64 (s.size / rootN s.data.toList : Nat), .int .i64 0]) ∧ Below w.heap.size w w' := by
  have HR := Lib.hid (show leastN (powB s.data.toList) s.size = rootN s.data.toList by rw [rootN, ← Lib.size_eq])
  obtain ⟨r1, r2⟩ := leastN_range (powB s.data.toList) hs.2.1
  rw [HR.out] at r1 r2
  have h64 := hs.2.2
  have HW := Lib.hid hs
  obtain ⟨r, hr⟩ : ∃ r, rootN s.data.toList = r := ⟨_, rfl⟩
  rw [hr] at HR r1 r2 ⊢
  have hd : (s.size : Int).tdiv (r : Int) = ((s.size / r : Nat) : Int) := nat_tdiv _ _
  have hq : s.size / r ≤ 64 := Nat.le_trans (Nat.div_le_self _ _) h64
  obtain ⟨q, hqq⟩ : ∃ q, s.size / r = q := ⟨_, rfl⟩
  rw [hqq] at hd hq ⊢
  have hwq : IntKind.i64.wrap (q : Int) = (q : Int) := by rw [IntKind.wrap_i64]; omega
  have hz : ¬ (r : Int) = 0 := by omega
  have hzN : ¬ r = 0 := by omega
  have i0 : (0 : Int) ≤ (r : Int) := by omega
  have i1 : (r : Int) ≤ (s.size : Int) := by omega
  clear hs hr hqq
  go_enter Tryz.func37, Tryz.ntmps37
  go_wp2_with fail
  refine (tpCheckWord s _ HW.out).mono ?_
  rintro e w1 ⟨rfl, hb1⟩
  go_wp2_with fail
  refine (tpLeastPow s _ h64 HW.out.2.1).mono ?_
  rintro e w2 ⟨rfl, hb2⟩
  have hb := hb1.trans (hb2.mono hb1.size)
  rw [HR.out]
  clear hb1 hb2 HR
  go_wp2_with fail
  go_quiet (fail)
  go_wp2
  go_ret3
  exact ⟨rfl, below_drewN hb _⟩
set_option maxHeartbeats 1000000 in
set_option maxRecDepth 100000 in
theorem tpRootNo (s : ByteArray) (w : World) (E : Int) (hE : wordE s.data.toList = E) (h0 : E ≠ 0) :
    Calls Tryz.prog 37 #[.string s] w fun e w' => e = .returned (.tuple #[.string ⟨#[]⟩, .int .i64 0, .int .i64 E]) ∧ Below w.heap.size w w' := by
  have HE := Lib.hid hE
  have hne := neE h0
  clear hE h0
  go_enter Tryz.func37, Tryz.ntmps37
  go_wp2_with fail
  refine (tpCheckWordE s _).mono ?_
  rintro e w1 ⟨rfl, hb1⟩
  rw [HE.out]
  go_wp2
  go_ret3
  exact ⟨rfl, hb1⟩
end Go.Proofs.YtfmfpnnglogkmaaGreatDoor

/- The library's strings.Compare laid at this program; strings.Count at one byte. -/
namespace Go.Proofs.YtfmfpnnglogkmaaGreatDoor
open Go.Shelf
def Tryz.cmps_ren : Go.Shelf.Ren := ⟨fun | 106 => 87 | 213 => 114 | 265 => 125 | n => n, fun | 3 => 3 | 9 => 9 | n => n, fun | n => n⟩
theorem Tryz.cmps : Go.Proofs.Lays.n106 Tryz.prog Tryz.cmps_ren := {
  mixed := by kernel_rfl,
  f106 := Tryz.func87.trans (congrArg some (by kernel_rfl)),
  f213 := Tryz.func114.trans (congrArg some (by kernel_rfl)),
  f265 := Tryz.func125.trans (congrArg some (by kernel_rfl)),
  t3 := Tryz.underlying3,
  a3 := Tryz.isAgg3,
  z3 := Tryz.sizeOf3,
  v3 := Tryz.zeroValue3,
  t9 := Tryz.underlying9,
  a9 := Tryz.isAgg9,
  z9 := Tryz.sizeOf9,
  v9 := Tryz.zeroValue9 }
theorem Tryz.cmpsF : Tryz.cmps_ren.f 106 = 87 := by kernel_rfl
theorem strCompare (a b : ByteArray) (w : World) : Calls Tryz.prog 87 #[.string a, .string b] w fun e w' => e = .returned (.int .i64 (Lib.compareBytes a.data.toList b.data.toList)) ∧ w = w' := by
  have h := Any.strings_Compare Tryz.cmps a b w
  rw [Tryz.cmpsF] at h
  exact h.mono fun e w' ⟨x, y⟩ => ⟨x, y.symm⟩
theorem Tryz.cntF : Tryz.cnt_ren.f 138 = 115 := by kernel_rfl
theorem strCount (s : ByteArray) (c : UInt8) (w : World) : Calls Tryz.prog 115 #[.string s, .string ⟨#[c]⟩] w fun e w' => e = .returned (.int .i64 (s.data.toList.count c : Nat)) ∧ w = w' := by
  have h := Any.strings_Count_one Tryz.cnt s c w
  rw [Tryz.cntF] at h
  exact h.mono fun e w' ⟨x, y⟩ => ⟨x, y.symm⟩
end Go.Proofs.YtfmfpnnglogkmaaGreatDoor

/- isUneven and Balanced of taper. -/
namespace Go.Proofs.YtfmfpnnglogkmaaGreatDoor
open Go.RowKit Go.Shelf

/-- How often the letter c stands in the section of k letters of a circle from place i on. -/
def cntW (C : ByteArray) (k : Nat) (c : UInt8) (i : Nat) : Nat := (C.extract i (i + k)).data.toList.count c
theorem cntW_le (C : ByteArray) (k : Nat) (c : UInt8) (i : Nat) : cntW C k c i ≤ k := by
  unfold cntW
  refine Nat.le_trans List.count_le_length ?_
  rw [← Lib.size_eq, ByteArray.size_extract]
  omega
/-- The least and the greatest of these numbers, for the first places. -/
def mmF (C : ByteArray) (k : Nat) (c : UInt8) : Nat → Nat × Nat
  | 0 => (k, 0)
  | i + 1 => (min (mmF C k c i).1 (cntW C k c i), max (mmF C k c i).2 (cntW C k c i))
theorem mmF_le (C : ByteArray) (k : Nat) (c : UInt8) : ∀ i, (mmF C k c i).1 ≤ k ∧ (mmF C k c i).2 ≤ k
  | 0 => by simp [mmF]
  | i + 1 => by
    have ih := mmF_le C k c i
    have := cntW_le C k c i
    simp only [mmF]
    omega
def unevL (C : ByteArray) (N k : Nat) (c : UInt8) : Bool := decide ((mmF C k c N).1 + 1 < (mmF C k c N).2)
def lett3 (j : Nat) : UInt8 := if j = 0 then 78 else if j = 1 then 66 else 84
def unevB (C : ByteArray) (N k : Nat) : Bool := unevL C N k 78 || unevL C N k 66 || unevL C N k 84
def circB (s : ByteArray) : ByteArray := ⟨(Lib.repeatL s.data.toList 2).toArray⟩
theorem circB_size (s : ByteArray) : (circB s).size = 2 * s.size := by
  show (Lib.repeatL s.data.toList 2).toArray.size = _
  rw [List.size_toArray, Lib.repeatL_length, ← Lib.size_eq]
theorem lett_ix0 (w : World) : (Instr.index 154 (.agg #[.string ⟨#[78]⟩, .string ⟨#[66]⟩, .string ⟨#[84]⟩]) (.int .i64 0)).run Tryz.prog w = .ok (.string ⟨#[78]⟩) w := by kernel_rfl
theorem lett_ix1 (w : World) : (Instr.index 154 (.agg #[.string ⟨#[78]⟩, .string ⟨#[66]⟩, .string ⟨#[84]⟩]) (.int .i64 1)).run Tryz.prog w = .ok (.string ⟨#[66]⟩) w := by kernel_rfl
theorem lett_ix2 (w : World) : (Instr.index 154 (.agg #[.string ⟨#[78]⟩, .string ⟨#[66]⟩, .string ⟨#[84]⟩]) (.int .i64 2)).run Tryz.prog w = .ok (.string ⟨#[84]⟩) w := by kernel_rfl
theorem lett_index (j : Nat) (hj : j < 3) (w : World) : (Instr.index 154 (.agg #[.string ⟨#[78]⟩, .string ⟨#[66]⟩, .string ⟨#[84]⟩]) (.int .i64 (j : Int))).run Tryz.prog w = .ok (.string ⟨#[lett3 j]⟩) w := by
  have : j = 0 ∨ j = 1 ∨ j = 2 := by omega
  rcases this with rfl | rfl | rfl
  · exact lett_ix0 w
  · exact lett_ix1 w
  · exact lett_ix2 w
theorem unevB_none {C : ByteArray} {N k : Nat} (h : ∀ i, i < 3 → unevL C N k (lett3 i) = false) : unevB C N k = false := by
  have h0 := h 0 (by omega)
  have h1 := h 1 (by omega)
  have h2 := h 2 (by omega)
  simp only [lett3] at h0 h1 h2
  simp at h0 h1 h2
  simp [unevB, h0, h1, h2]
theorem unevB_some {C : ByteArray} {N k j : Nat} (hj : j < 3) (h : unevL C N k (lett3 j) = true) : unevB C N k = true := by
  have : j = 0 ∨ j = 1 ∨ j = 2 := by omega
  rcases this with rfl | rfl | rfl <;> simp [lett3] at h <;> simp [unevB, h]
set_option maxHeartbeats 4000000 in
set_option maxRecDepth 100000 in
theorem tpIsUneven (s : ByteArray) (k : Nat) (w : World) (hs : s.size ≤ 64) (hk : 1 ≤ k) (hk2 : k ≤ s.size) :
    Calls Tryz.prog 90 #[.string s, .int .i64 k] w fun e w' => e = .returned (.bool (unevB (circB s) s.size k)) ∧ Below w.heap.size w w' := by
  have hCz := circB_size s
  have HC := Lib.hid (show (⟨(Lib.repeatL s.data.toList 2).toArray⟩ : ByteArray) = circB s from rfl)
  obtain ⟨C, hC⟩ : ∃ C, circB s = C := ⟨_, rfl⟩
  rw [hC] at HC hCz ⊢
  clear hC
  go_enter Tryz.func90, Tryz.ntmps90
  go_wp2_with fail
  refine (tpRepeatedW s 2 _ hs (by omega)).mono ?_
  rintro e w1 ⟨rfl, hb1⟩
  rw [HC.out]
  go_wp2_with fail
  go_loopg [8, 9, 15, 21] 3 (fun g _ _ j _ wi => wi = w1 ∧ ∃ n : Nat, n ≤ 3 ∧ g = 3 - n ∧ j = .int .i64 n ∧ ∀ i, i < n → unevL C s.size k (lett3 i) = false)
  case atStart => exact ⟨rfl, 0, by omega, rfl, rfl, fun i h => by omega⟩
  case round =>
    obtain ⟨rfl, n, hn, hg, rfl, hall⟩ := hrel
    have HA := Lib.hid hall
    clear hall
    by_cases hlt : n < 3
    · have hix := lett_index n hlt
      obtain ⟨c, hc⟩ : ∃ c, lett3 n = c := ⟨_, rfl⟩
      rw [hc] at hix
      have HLC := Lib.hid hc
      clear hc
      have hd3 : decide ((n : Int) < 3) = true := by rw [decide_eq_true_eq]; omega
      go_wp2_with fail
      go_loop [8, 9, 21] (fun a b i => ∃ m : Nat, m ≤ s.size ∧ i = .int .i64 m ∧ a = .int .i64 (mmF C k c m).1 ∧ b = .int .i64 (mmF C k c m).2) (fun _ _ i => s.size - (intOf i).toNat)
      case atStart => exact ⟨0, Nat.zero_le _, rfl, rfl, rfl⟩
      case round =>
        obtain ⟨m, hm, rfl, rfl, rfl⟩ := hrel
        have hle := mmF_le C k c m
        obtain ⟨l1, l2⟩ := hle
        by_cases hml : m < s.size
        · have hle2 := mmF_le C k c (m + 1)
          have hcw := cntW_le C k c m
          have HM1 := Lib.hid (show (mmF C k c (m + 1)).1 = min (mmF C k c m).1 (cntW C k c m) from rfl)
          have HM2 := Lib.hid (show (mmF C k c (m + 1)).2 = max (mmF C k c m).2 (cntW C k c m) from rfl)
          have HCW := Lib.hid (show (C.extract m (m + k)).data.toList.count c = cntW C k c m from rfl)
          have s0 : (0 : Int) ≤ (m : Int) := by omega
          have s1 : (m : Int) ≤ (m : Int) + (k : Int) := by omega
          have s2 : (m : Int) + (k : Int) ≤ (C.size : Int) := by omega
          have s3 : ((m : Int) + (k : Int)).toNat = m + k := by omega
          go_wp2_with fail
          refine (strCount _ c _).mono ?_
          rintro e w2 ⟨rfl, rfl⟩
          rw [HCW.out]
          obtain ⟨v, hv⟩ : ∃ v, cntW C k c m = v := ⟨_, rfl⟩
          rw [hv] at hcw HM1 HM2 ⊢
          obtain ⟨x, hx⟩ : ∃ x, (mmF C k c m).1 = x := ⟨_, rfl⟩
          obtain ⟨y, hy⟩ : ∃ y, (mmF C k c m).2 = y := ⟨_, rfl⟩
          rw [hx] at l1 HM1 ⊢
          rw [hy] at l2 HM2 ⊢
          clear hv hx hy HCW hle2 s0 s1 s2 s3
          go_wp2
          go_round
          case rel => exact ⟨m + 1, by omega, by go_num, by rw [HM1.out]; exact congrArg (Value.int .i64) (by omega), by rw [HM2.out]; exact congrArg (Value.int .i64) (by omega)⟩
          case measure => simp [intOf]; omega
        · obtain rfl : m = s.size := by omega
          have HU := Lib.hid (show unevL C s.size k c = decide ((mmF C k c s.size).1 + 1 < (mmF C k c s.size).2) from rfl)
          obtain ⟨x, hx⟩ : ∃ x, (mmF C k c s.size).1 = x := ⟨_, rfl⟩
          obtain ⟨y, hy⟩ : ∃ y, (mmF C k c s.size).2 = y := ⟨_, rfl⟩
          rw [hx] at l1 HU ⊢
          rw [hy] at l2 HU ⊢
          clear hx hy
          by_cases hxy : x + 1 < y
          · have hd : (1 : Int) < (y : Int) - (x : Int) := by omega
            have HB := Lib.hid (unevB_some hlt (by rw [HLC.out, HU.out]; simpa using hxy))
            go_wp2
            go_ret
            exact ⟨ret_b HB.out.symm, hb1⟩
          · have hd : ¬ (1 : Int) < (y : Int) - (x : Int) := by omega
            have HB := Lib.hid (show ∀ i, i < n + 1 → unevL C s.size k (lett3 i) = false from fun i hi => by
              by_cases hi2 : i < n
              · exact HA.out i hi2
              · obtain rfl : i = n := by omega
                rw [HLC.out, HU.out]
                simpa using hxy)
            go_wp2
            go_roundg (2 - n)
            case rel => exact ⟨rfl, n + 1, by omega, by omega, by go_num, HB.out⟩
            case measure => omega
    · obtain rfl : n = 3 := by omega
      have HB := Lib.hid (unevB_none HA.out)
      go_wp2
      go_ret
      exact ⟨ret_b HB.out.symm, hb1⟩
set_option maxHeartbeats 1000000 in
set_option maxRecDepth 100000 in
theorem tpLeastUneven (s : ByteArray) (w : World) (hs : s.size ≤ 64) (h1 : 1 ≤ s.size) :
    Calls Tryz.prog 84 #[.func (.func 90) #[.string s] #[], .int .i64 s.size] w fun e w' => e = .returned (.int .i64 (leastN (unevB (circB s) s.size) s.size : Nat)) ∧ Below w.heap.size w w' := by
  obtain ⟨R, hR⟩ : ∃ R, leastN (unevB (circB s) s.size) s.size = R := ⟨_, rfl⟩
  have HR := Lib.hid (show leastF (unevB (circB s) s.size) s.size (s.size - 1) 1 = R from hR)
  rw [hR]
  clear hR
  go_enter Tryz.func84, Tryz.ntmps84
  go_wp2_with fail
  go_loopw [5] (fun i wr => ∃ n : Nat, 1 ≤ n ∧ n ≤ s.size ∧ i = .int .i64 n ∧ leastF (unevB (circB s) s.size) s.size (s.size - n) n = R ∧ Below w.heap.size w wr) (fun i _ => s.size - (intOf i).toNat)
  case atStart => exact ⟨1, Nat.le_refl _, h1, rfl, HR.out, Below.refl _ _⟩
  case round =>
    obtain ⟨n, hn1, hn2, rfl, hF, hb⟩ := hrel
    have HF := Lib.hid hF
    clear hF
    by_cases hlt : n < s.size
    · go_wp2_with fail
      refine (tpIsUneven s n _ hs hn1 hn2).mono ?_
      rintro e w1 ⟨rfl, hb1⟩
      have hb2 := hb.trans (hb1.mono hb.size)
      obtain ⟨p, hp⟩ : ∃ p, unevB (circB s) s.size n = p := ⟨_, rfl⟩
      rw [hp]
      have hsub : s.size - n = (s.size - (n + 1)) + 1 := by omega
      cases p
      · have HN := Lib.hid (show leastF (unevB (circB s) s.size) s.size (s.size - (n + 1)) (n + 1) = R by
          rw [← HF.out, hsub, leastF, hp, if_neg (by decide)])
        clear hp hsub HF
        go_wp2
        go_roundw
        case rel => exact ⟨n + 1, by omega, by omega, by go_num, HN.out, hb2⟩
        case measure => simp [intOf]; omega
      · have HN := Lib.hid (show n = R by rw [← HF.out, hsub, leastF, hp, if_pos rfl])
        clear hp hsub HF
        go_wp2
        go_ret
        exact ⟨ret_i (by rw [HN.out]), hb2⟩
    · obtain rfl : n = s.size := by omega
      have HN := Lib.hid (show s.size = R by rw [← HF.out, Nat.sub_self, leastF])
      clear HF
      go_wp2
      go_ret
      exact ⟨ret_i (by rw [HN.out]), hb⟩
def balB (s : ByteArray) : Bool := decide (leastN (unevB (circB s) s.size) s.size = s.size)
set_option maxHeartbeats 1000000 in
set_option maxRecDepth 100000 in
theorem tpBalanced (s : ByteArray) (w : World) (hs : Word s) :
    Calls Tryz.prog 40 #[.string s] w fun e w' => e = .returned (.tuple #[.bool (balB s), .int .i64 0]) ∧ Below w.heap.size w w' := by
  have h64 := hs.2.2
  have HB := Lib.hid (show balB s = decide (leastN (unevB (circB s) s.size) s.size = s.size) from rfl)
  obtain ⟨r1, r2⟩ := leastN_range (unevB (circB s) s.size) hs.2.1
  obtain ⟨r, hr⟩ : ∃ r, leastN (unevB (circB s) s.size) s.size = r := ⟨_, rfl⟩
  have HR := Lib.hid hr
  rw [hr] at HB r1 r2
  have HW := Lib.hid hs
  rw [HB.out]
  clear hs hr HB
  go_enter Tryz.func40, Tryz.ntmps40
  go_wp2_with fail
  refine (tpCheckWord s _ HW.out).mono ?_
  rintro e w1 ⟨rfl, hb1⟩
  go_wp2_with fail
  refine (tpLeastUneven s _ h64 HW.out.2.1).mono ?_
  rintro e w2 ⟨rfl, hb2⟩
  have hb := hb1.trans (hb2.mono hb1.size)
  rw [HR.out]
  clear hb1 hb2 HR
  by_cases he : r = s.size
  · have hd : decide (r = s.size) = true := by simpa using he
    have hg : ((r : Int) == (s.size : Int)) = true := by rw [beq_iff_eq]; omega
    have HD := Lib.hid hd
    clear hd he
    go_wp2
    go_ret2
    exact ⟨by rw [HD.out]; rfl, hb⟩
  · have hd : decide (r = s.size) = false := by simpa using he
    have hg : ((r : Int) == (s.size : Int)) = false := by rw [beq_eq_false_iff_ne]; omega
    have HD := Lib.hid hd
    clear hd he
    go_wp2
    go_ret2
    exact ⟨by rw [HD.out]; rfl, hb⟩
set_option maxHeartbeats 1000000 in
set_option maxRecDepth 100000 in
theorem tpBalancedNo (s : ByteArray) (w : World) (E : Int) (hE : wordE s.data.toList = E) (h0 : E ≠ 0) :
    Calls Tryz.prog 40 #[.string s] w fun e w' => e = .returned (.tuple #[.bool false, .int .i64 E]) ∧ Below w.heap.size w w' := by
  have HE := Lib.hid hE
  have hne := neE h0
  clear hE h0
  go_enter Tryz.func40, Tryz.ntmps40
  go_wp2_with fail
  refine (tpCheckWordE s _).mono ?_
  rintro e w1 ⟨rfl, hb1⟩
  rw [HE.out]
  go_wp2
  go_ret2
  exact ⟨rfl, hb1⟩
end Go.Proofs.YtfmfpnnglogkmaaGreatDoor

/- rotated and Least of taper. -/
namespace Go.Proofs.YtfmfpnnglogkmaaGreatDoor
open Go.RowKit Go.Shelf

theorem infoU8 : (Tryz.prog.info? 5).map (fun i => (i.zero, i.size, i.bytes)) = some (some (.int .u8 0), 1, 1) := by kernel_rfl
/-- A new row of N bytes. -/
theorem make_bytes (w : World) (N : Nat) (hN : N ≤ 1000) : ∃ (w1 : World) (cur : Array Value), (Instr.makeSlice 120 (.int .i64 (N : Int)) (.int .i64 (N : Int))).run Tryz.prog w = .ok (.slice (some ⟨w.heap.size, 0, none⟩) N N) w1 ∧ cur.size = N ∧ w1.heap[w.heap.size]? = some (.cells cur 5 (0, 0)) ∧ Below w.heap.size w w1 := by
  obtain ⟨i0, hi, hz0, hz1, hz2⟩ := info_parts infoU8
  have hr := run_make (P := Tryz.prog) w 120 5 i0 (.int .u8 0) Tryz.underlying120 hi hz0 .i64 .i64 (N : Int) (N : Int) (by omega) (by omega) (by rw [hz2]; omega) (by omega)
  rw [Int.toNat_natCast] at hr
  exact ⟨_, _, hr, by rw [size_madeCells, hz1, Nat.mul_one], heap_alloc_new _ _, (Below.refl _ _).alloc (Nat.le_refl _) _⟩
/-- The bytes of a string that fits go into a row of the call's own, from place o on. -/
theorem copy_bytes (W : World) (g o L C : Nat) (s : ByteArray) (cur : Array Value) (hg : W.heap[g]? = some (.cells cur 5 (0, 0))) (hle : s.size ≤ L) (hfit : o + s.size ≤ cur.size) :
    ∃ W' : World, (Builtin.copy_ #[120, 9] 3 #[.slice (some ⟨g, o, none⟩) L C, .string s]).run Tryz.prog W = .ok (.int .i64 s.size) W' ∧ W'.heap[g]? = some (.cells (cur.toList.take o ++ Lib.byteCells s.data.toList ++ cur.toList.drop (o + s.size)).toArray 5 (0, 0)) ∧ ∀ B w0, B ≤ g → Below B w0 W → Below B w0 W' := by
  have hs : (Tryz.prog.info? 5).map (·.size) = some 1 := by
    have := infoU8
    cases h : Tryz.prog.info? 5 with
    | none => rw [h] at this; cases this
    | some i => rw [h] at this; simp at this ⊢; exact this.2.1
  have h := Lib.run_copy_row_string (P := Tryz.prog) W 120 9 3 5 g o L C s cur 5 Tryz.underlying120 hs hg hle hfit
  exact ⟨_, h, setRow_heap W g cur _ _ _ hg, fun B w0 hB hb => below_setRow hb hB _⟩
theorem byteCells_at (l : List UInt8) (j : Nat) (h : j < l.length) : (Lib.byteCells l)[j]? = some (.int .u8 (l[j].toNat : Int)) := by
  simp [Lib.byteCells, List.getElem?_map, List.getElem?_eq_getElem h]
/-- A row of bytes, as a string. -/
theorem bytes_string (W : World) (g c : Nat) (l : List UInt8) (hg : W.heap[g]? = some (.cells (Lib.byteCells l).toArray 5 (0, 0))) : (convert 120 9 (.slice (some ⟨g, 0, none⟩) l.length c)).run Tryz.prog W = .ok (.string ⟨l.toArray⟩) W := by
  refine run_convert_bytes_back W _ _ 5 _ c l Tryz.underlying120 Tryz.underlying5 Tryz.underlying9 (fun j hj => ?_)
  have e : (⟨g, 0, none⟩ : Addr).add j = ⟨g, j, none⟩ := by unfold Addr.add; split <;> simp_all
  rw [e]
  simp [World.cell?, hg, byteCells_at l j hj]
theorem ext_data (s : ByteArray) (n : Nat) (hn : n ≤ s.size) : (s.extract n s.size).data.toList = s.data.toList.drop n ∧ (s.extract 0 n).data.toList = s.data.toList.take n ∧ (s.extract n s.size).size = s.size - n ∧ (s.extract 0 n).size = n := by
  have z := Lib.size_eq s
  refine ⟨?_, by simp [ByteArray.data_extract], by rw [ByteArray.size_extract]; omega, by rw [ByteArray.size_extract]; omega⟩
  simp [ByteArray.data_extract]
  rw [List.take_of_length_le (by rw [List.length_drop]; omega)]
theorem rot_row1 (s : ByteArray) (n : Nat) (cur : Array Value) (hn : n ≤ s.size) :
    (cur.toList.take 0 ++ Lib.byteCells (s.extract n s.size).data.toList ++ cur.toList.drop (0 + (s.extract n s.size).size)).toArray = (Lib.byteCells (s.data.toList.drop n) ++ cur.toList.drop (s.size - n)).toArray := by
  obtain ⟨e1, e2, e3, e4⟩ := ext_data s n hn
  rw [e1, e3, List.take_zero, List.nil_append, Nat.zero_add]
theorem rot_row2 (D B T : List Value) (r n : Nat) (hD : D.length = r) (hT : T.length = n) : ((D ++ T).toArray.toList.take r ++ B ++ (D ++ T).toArray.toList.drop (r + n)).toArray = (D ++ B).toArray := by
  simp only [List.take_append_of_le_length (Nat.le_of_eq hD.symm)]
  rw [List.take_of_length_le (Nat.le_of_eq hD), List.drop_of_length_le (by rw [List.length_append]; omega), List.append_nil]
set_option maxHeartbeats 4000000 in
set_option maxRecDepth 100000 in
theorem tpRotated (s : ByteArray) (n : Nat) (w : World) (hs : s.size ≤ 64) (hn : n < s.size) :
    Calls Tryz.prog 76 #[.string s, .int .i64 n] w fun e w' => e = .returned (.string ⟨(s.data.toList.drop n ++ s.data.toList.take n).toArray⟩) ∧ Below w.heap.size w w' := by
  have i0 : (0 : Int) ≤ (n : Int) := by omega
  have i1 : (n : Int) ≤ (s.size : Int) := by omega
  obtain ⟨w1, cur, hmk, hcz, hg1, hb1⟩ := make_bytes w s.size (by omega)
  have he1 : (s.extract n s.size).size = s.size - n := by rw [ByteArray.size_extract]; omega
  obtain ⟨e1, e2, e3, e4⟩ := ext_data s n (Nat.le_of_lt hn)
  have z := Lib.size_eq s
  obtain ⟨w2, hc1, hg2, hb2⟩ := copy_bytes w1 w.heap.size 0 s.size s.size (s.extract n s.size) cur hg1 (by omega) (by omega)
  have B2 := hb2 _ _ (Nat.le_refl _) hb1
  rw [rot_row1 s n cur (Nat.le_of_lt hn)] at hg2
  have hD : (Lib.byteCells (s.data.toList.drop n)).length = s.size - n := by rw [Lib.byteCells_length, List.length_drop, ← z]
  have hT : (cur.toList.drop (s.size - n)).length = n := by rw [List.length_drop, Array.length_toList]; omega
  obtain ⟨r, hr⟩ : ∃ r, s.size - n = r := ⟨_, rfl⟩
  rw [he1, hr] at hc1
  rw [hr] at hg2 hD hT
  have r0 : (0 : Int) ≤ (r : Int) := by omega
  have r1 : (r : Int) ≤ (s.size : Int) := by omega
  have hll : (s.data.toList.drop n ++ s.data.toList.take n).length = s.size := by
    rw [List.length_append, List.length_drop, List.length_take, ← z]; omega
  by_cases h0 : n = 0
  · obtain rfl : r = s.size := by omega
    have hs1 : ((Tryz.prog.info? 5).map (·.size)).isSome = true := by
      have := infoU8
      cases h : Tryz.prog.info? 5 with
      | none => rw [h] at this; cases this
      | some i => rfl
    have hc2 := Lib.run_copy_empty_string (P := Tryz.prog) w2.drew 120 9 3 5 (some ⟨w.heap.size, 0, none⟩) 0 0 (s.extract 0 n) Tryz.underlying120 hs1 (by omega)
    have hnil : cur.toList.drop s.size = [] := List.drop_of_length_le (by rw [Array.length_toList]; omega)
    have htk : s.data.toList.take n = [] := by rw [h0]; rfl
    rw [hnil, List.append_nil] at hg2
    have hcv := bytes_string w2.drew w.heap.size s.size (s.data.toList.drop n ++ s.data.toList.take n) (by rw [htk, List.append_nil]; exact hg2)
    rw [hll] at hcv
    have HB2 := Lib.hid B2
    clear hg1 hg2 hb1 hb2 B2 he1 hll hr e1 e2 e3 e4 z hD hT h0 hnil htk hs1
    go_enter Tryz.func76, Tryz.ntmps76
    go_wp2_with fail
    go_region
    all_goals go_wp2
    all_goals go_ret
    all_goals exact ⟨rfl, below_drew HB2.out⟩
  · obtain ⟨w3, hc2, hg3, hb3⟩ := copy_bytes w2.drew w.heap.size r (s.size - r) (s.size - r) (s.extract 0 n) _ hg2 (by omega) (by rw [List.size_toArray, List.length_append]; omega)
    have B3 := hb3 _ _ (Nat.le_refl _) (below_drew B2)
    rw [e4, rot_row2 _ _ _ r n hD hT, e2, ← Lib.byteCells_append] at hg3
    rw [e4] at hc2
    have hcv := bytes_string w3 w.heap.size s.size _ hg3
    rw [hll] at hcv
    have HB3 := Lib.hid B3
    have hne : ¬ s.size = r := by omega
    have hlr : (r : Int) < (s.size : Int) := by omega
    clear hg1 hg2 hb1 hb2 B2 he1 hb3 hg3 B3 hll hr e1 e2 e3 e4 z hD hT
    go_enter Tryz.func76, Tryz.ntmps76
    go_wp2_with fail
    go_region
    all_goals go_wp2
    all_goals go_ret
    all_goals exact ⟨rfl, HB3.out⟩
/-- The rotation by n letters. -/
def rotA (L : List UInt8) (n : Nat) : List UInt8 := L.drop n ++ L.take n
theorem keepS {W w1 w2 : World} {b : Nat} {t : TypeId} {v : Value} (h : w1.heap[b]? = some (.cells #[v] t (0, 0)) ∧ Below W.heap.size W w1 ∧ W.heap.size ≤ w1.heap.size) (hb : Below w1.heap.size w1 w2) : w2.heap[b]? = some (.cells #[v] t (0, 0)) ∧ Below W.heap.size W w2 ∧ W.heap.size ≤ w2.heap.size :=
  ⟨(hb.block _ (Array.getElem?_eq_some_iff.1 h.1).1).trans h.1, h.2.1.trans (hb.mono h.2.2), Nat.le_trans h.2.2 hb.size⟩
theorem keepC {W w1 w2 : World} {b : Nat} {v : Value} (h : w1.cell? ⟨b, 0, none⟩ = some v ∧ b < w1.heap.size ∧ Below W.heap.size W w1 ∧ W.heap.size ≤ w1.heap.size) (hb : Below w1.heap.size w1 w2) : w2.cell? ⟨b, 0, none⟩ = some v ∧ b < w2.heap.size ∧ Below W.heap.size W w2 ∧ W.heap.size ≤ w2.heap.size :=
  ⟨(hb.cell (p := ⟨b, 0, none⟩) h.2.1).trans h.1, Nat.lt_of_lt_of_le h.2.1 hb.size, h.2.2.1.trans (hb.mono h.2.2.2), Nat.le_trans h.2.2.2 hb.size⟩
theorem keepC1 {W w1 : World} {b : Nat} {v : Value} (h : w1.cell? ⟨b, 0, none⟩ = some v ∧ b < w1.heap.size ∧ Below W.heap.size W w1 ∧ W.heap.size ≤ w1.heap.size) : Below W.heap.size W w1 := h.2.2.1
theorem tpRotatedA (s : ByteArray) (R : List UInt8) (n : Nat) (w : World) (hR : rotA s.data.toList n = R) (hs : s.size ≤ 64) (hn : n < s.size) :
    Calls Tryz.prog 76 #[.string s, .int .i64 n] w fun e w' => e = .returned (.string ⟨R.toArray⟩) ∧ Below w.heap.size w w' := by
  subst hR
  exact tpRotated s n w hs hn
set_option maxHeartbeats 2000000 in
set_option maxRecDepth 100000 in
theorem tpLeastCmp (s : ByteArray) (m n b : Nat) (w : World) (hs : s.size ≤ 64) (hm : m < s.size) (hn : n < s.size) (hb : w.heap[b]? = some (.cells #[.string s] 9 (0, 0))) :
    Calls Tryz.prog 86 #[.int .i64 m, .int .i64 n, .pointer (some ⟨b, 0, none⟩)] w fun e w' => e = .returned (.int .i64 (Lib.compareBytes (rotA s.data.toList m) (rotA s.data.toList n))) ∧ Below w.heap.size w w' := by
  have zb := (Array.getElem?_eq_some_iff.1 hb).1
  have c0 := one_cell hb
  clear hb
  go_enter Tryz.func86, Tryz.ntmps86
  go_wp2_with fail
  go_region_held3 (fun w' => w'.cell? ⟨b, 0, none⟩ = some (.string s) ∧ b < w'.heap.size ∧ Below w.heap.size w w' ∧ w.heap.size ≤ w'.heap.size)
    (first | exact ⟨c0, zb, below_drew (Below.refl _ _), Nat.le_refl _⟩ | exact keepC (by assumption) (by assumption) | assumption | go_keep)
    (first
      | (go_at_call 76; refine (tpRotatedA s _ _ _ rfl hs (by assumption)).mono ?_; rintro e w' ⟨rfl, hbq⟩)
      | (go_at_call 87; refine (strCompare _ _ _).mono ?_; rintro e w' ⟨rfl, rfl⟩))
  all_goals go_wp2
  all_goals go_ret
  all_goals exact ⟨rfl, keepC1 (by assumption)⟩
/-- The place of the least rotation among the first ones. -/
def lstF (L : List UInt8) : Nat → Nat
  | 0 => 0
  | i + 1 => if Lib.compareBytes (rotA L i) (rotA L (lstF L i)) < 0 then i else lstF L i
theorem lstF_lt (L : List UInt8) : ∀ i, lstF L i ≤ i - 1
  | 0 => Nat.le_refl _
  | i + 1 => by
    have ih := lstF_lt L i
    unfold lstF
    split
    · omega
    · omega
def lstW (L : List UInt8) : List UInt8 := rotA L (lstF L L.length)
set_option maxHeartbeats 2000000 in
set_option maxRecDepth 100000 in
theorem tpLeast (s : ByteArray) (w : World) (hs : Word s) :
    Calls Tryz.prog 38 #[.string s] w fun e w' => e = .returned (.tuple #[.string ⟨(lstW s.data.toList).toArray⟩, .int .i64 0]) ∧ Below w.heap.size w w' := by
  obtain ⟨w0, hw0, h0, hb0⟩ : ∃ w0, w0 = w.alloc (.cells #[.string s] 9) ∧ w0.heap[w.heap.size]? = some (.cells #[.string s] 9 (0, 0)) ∧ Below w.heap.size w w0 := ⟨_, rfl, heap_alloc_new _ _, (Below.refl _ _).alloc (Nat.le_refl _) _⟩
  have h64 := hs.2.2
  have h1 := hs.2.1
  obtain ⟨L, hL⟩ : ∃ L, s.data.toList = L := ⟨_, rfl⟩
  have hz : L.length = s.size := by rw [← hL, ← Lib.size_eq]
  have HLW := Lib.hid (show lstW L = rotA L (lstF L s.size) by rw [lstW, hz])
  have HL := Lib.hid hL
  have HW := Lib.hid hs
  have HW0 := Lib.hid hw0
  have c0 := one_cell h0
  rw [hL, HLW.out]
  clear hs hL hz hw0
  go_enter Tryz.func38, Tryz.ntmps38
  go_wp2_with fail
  rw [← HW0.out]
  go_wp2_with fail
  refine (tpCheckWord s _ HW.out).mono ?_
  rintro e w1 ⟨rfl, hb1⟩
  have h2 := (hb1.block _ (Array.getElem?_eq_some_iff.1 h0).1).trans h0
  have b1 := hb0.trans (hb1.mono hb0.size)
  have c1 := one_cell h2
  clear hb1 c0 h0 hb0
  go_wp2_with fail
  go_loopw [6, 16] (fun a i wr => ∃ n : Nat, n ≤ s.size ∧ i = .int .i64 n ∧ a = .int .i64 (lstF L n : Nat) ∧ wr.heap[w.heap.size]? = some (.cells #[.string s] 9 (0, 0)) ∧ Below w.heap.size w wr) (fun _ i _ => s.size - (intOf i).toNat)
  case atStart => exact ⟨0, Nat.zero_le _, rfl, rfl, h2, b1⟩
  case round =>
    obtain ⟨n, hn, rfl, rfl, hh, hb⟩ := hrel
    have hlt' := lstF_lt L n
    obtain ⟨q, hq⟩ : ∃ q, lstF L n = q := ⟨_, rfl⟩
    rw [hq] at hlt'
    rw [hq]
    have c2 := one_cell hh
    clear h2 b1 c1
    by_cases hlt : n < s.size
    · obtain ⟨v, hv⟩ : ∃ v, Lib.compareBytes (rotA L n) (rotA L q) = v := ⟨_, rfl⟩
      have HN := Lib.hid (show lstF L (n + 1) = if v < 0 then n else q by rw [lstF, hq, hv])
      have HV := Lib.hid hv
      clear hv hq
      go_wp2_with fail
      refine (tpLeastCmp s n q w.heap.size _ h64 hlt (by omega) hh).mono ?_
      rintro e w3 ⟨rfl, hb3⟩
      rw [HL.out, HV.out]
      have h3 := (hb3.block _ (Array.getElem?_eq_some_iff.1 hh).1).trans hh
      have b3 := hb.trans (hb3.mono hb.size)
      clear hh hb hb3 c2
      by_cases hneg : v < 0
      · rw [if_pos hneg] at HN
        go_wp2
        go_roundw
        case rel => exact ⟨n + 1, by omega, by go_num, by rw [HN.out], h3, b3⟩
        case measure => simp [intOf]; omega
      · rw [if_neg hneg] at HN
        go_wp2
        go_roundw
        case rel => exact ⟨n + 1, by omega, by go_num, by rw [HN.out], h3, b3⟩
        case measure => simp [intOf]; omega
    · obtain rfl : n = s.size := by omega
      have HQ := Lib.hid hq
      clear hq
      go_wp2_with fail
      refine (tpRotatedA s (rotA L q) q _ (by rw [HL.out]) h64 (by omega)).mono ?_
      rintro e w3 ⟨rfl, hb3⟩
      have b3 := hb.trans (hb3.mono hb.size)
      go_wp2
      go_ret2
      exact ⟨by rw [HQ.out]; rfl, b3⟩
set_option maxHeartbeats 1000000 in
set_option maxRecDepth 100000 in
theorem tpLeastNo (s : ByteArray) (w : World) (E : Int) (hE : wordE s.data.toList = E) (h0 : E ≠ 0) :
    Calls Tryz.prog 38 #[.string s] w fun e w' => e = .returned (.tuple #[.string ⟨#[]⟩, .int .i64 E]) ∧ Below w.heap.size w w' := by
  obtain ⟨w0, hw0, h1, hb0⟩ : ∃ w0, w0 = w.alloc (.cells #[.string s] 9) ∧ w0.heap[w.heap.size]? = some (.cells #[.string s] 9 (0, 0)) ∧ Below w.heap.size w w0 := ⟨_, rfl, heap_alloc_new _ _, (Below.refl _ _).alloc (Nat.le_refl _) _⟩
  have HW0 := Lib.hid hw0
  have HE := Lib.hid hE
  have hne := neE h0
  have c0 := one_cell h1
  clear hE h0 hw0
  go_enter Tryz.func38, Tryz.ntmps38
  go_wp2_with fail
  rw [← HW0.out]
  go_wp2_with fail
  refine (tpCheckWordE s _).mono ?_
  rintro e w1 ⟨rfl, hb1⟩
  rw [HE.out]
  go_wp2
  go_ret2
  exact ⟨rfl, hb0.trans (hb1.mono hb0.size)⟩
end Go.Proofs.YtfmfpnnglogkmaaGreatDoor

/- Power and Rotate of taper, at all arguments. -/
namespace Go.Proofs.YtfmfpnnglogkmaaGreatDoor
open Go.RowKit

def rotE (s : ByteArray) (n : Int) : Int := firstE [wordE s.data.toList, rngE n 0 999999999]
def rotS (s : ByteArray) (n : Int) : ByteArray := if rotE s n = 0 then ⟨(rotA s.data.toList (n.toNat % s.size)).toArray⟩ else ⟨#[]⟩
theorem first2_zero {a b : Int} (h : firstE [a, b] = 0) : a = 0 ∧ b = 0 := by
  simp only [firstE] at h
  repeat' split at h
  all_goals simp_all
set_option maxHeartbeats 2000000 in
set_option maxRecDepth 100000 in
theorem tpRotate (s : ByteArray) (n : Int) (w : World) :
    Calls Tryz.prog 34 #[.string s, .int .i64 n] w fun e w' => e = .returned (.tuple #[.string (rotS s n), .int .i64 (rotE s n)]) ∧ Below w.heap.size w w' := by
  by_cases h0 : rotE s n = 0
  · obtain ⟨hw0, hn0⟩ := first2_zero h0
    obtain ⟨n1, n2⟩ := rngE_zero hn0
    have hs := wordE_zero hw0
    rw [rotS, if_pos h0, h0]
    obtain ⟨N, rfl⟩ : ∃ N : Nat, n = (N : Int) := ⟨n.toNat, by omega⟩
    rw [Int.toNat_natCast]
    have h64 := hs.2.2
    have h1 := hs.2.1
    have hm := nat_tmod N s.size
    have hlt : N % s.size < s.size := Nat.mod_lt _ (by omega)
    obtain ⟨r, hr⟩ : ∃ r, N % s.size = r := ⟨_, rfl⟩
    rw [hr] at hm hlt ⊢
    have HV := Lib.hid hw0
    have HR := Lib.hid hn0
    have hzN : ¬ s.size = 0 := by omega
    clear hs hr h0 hw0 hn0
    go_enter Tryz.func34, Tryz.ntmps34
    go_wp2_with fail
    refine (tpCheckWordE s _).mono ?_
    rintro e w1 ⟨rfl, hb1⟩
    rw [HV.out]
    go_wp2_with fail
    refine (tpRng _ _ _ _).mono ?_
    rintro e w2 ⟨rfl, rfl⟩
    rw [HR.out]
    go_wp2_with fail
    refine (tpFirst2 _ _ _ _ 30 _ (by exact heap_alloc_new _ _)).mono ?_
    rintro e w3 ⟨rfl, rfl⟩
    rw [show firstE [0, 0] = 0 from rfl]
    have b3 : Below w.heap.size w (w1.alloc (.cells #[.int .i64 0, .int .i64 0] 30)) := hb1.alloc hb1.size _
    generalize World.alloc w1 _ = w4 at b3 ⊢
    go_wp2_with fail
    refine (tpRotated s r _ h64 hlt).mono ?_
    rintro e w5 ⟨rfl, hb5⟩
    go_wp2
    go_ret2
    exact ⟨rfl, b3.trans (hb5.mono b3.size)⟩
  · have hne := neE h0
    obtain ⟨E, hE⟩ : ∃ E, rotE s n = E := ⟨_, rfl⟩
    rw [rotS, if_neg h0, hE]
    rw [hE] at hne
    have HE := Lib.hid hE
    clear h0 hE
    go_enter Tryz.func34, Tryz.ntmps34
    go_wp2_with fail
    refine (tpCheckWordE s _).mono ?_
    rintro e w1 ⟨rfl, hb1⟩
    go_wp2_with fail
    refine (tpRng _ _ _ _).mono ?_
    rintro e w1' ⟨rfl, rfl⟩
    go_wp2_with fail
    refine (tpFirst2 _ _ _ _ 30 _ (by exact heap_alloc_new _ _)).mono ?_
    rintro e w3 ⟨rfl, rfl⟩
    rw [show firstE [wordE s.data.toList, rngE n 0 999999999] = E from HE.out]
    go_wp2
    go_ret2
    exact ⟨rfl, hb1.alloc hb1.size _⟩
def pow0 (s : ByteArray) (n : Int) : Int := firstE [wordE s.data.toList, rngE n 1 64]
def powE (s : ByteArray) (n : Int) : Int := if pow0 s n = 0 then lenE ((s.size : Int) * n) else pow0 s n
def powS (s : ByteArray) (n : Int) : ByteArray := if powE s n = 0 then ⟨(Lib.repeatL s.data.toList n.toNat).toArray⟩ else ⟨#[]⟩
end Go.Proofs.YtfmfpnnglogkmaaGreatDoor
