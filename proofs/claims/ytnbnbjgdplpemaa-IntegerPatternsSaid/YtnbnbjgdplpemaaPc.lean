/-  How many binary digits are 1; OnesCount32; the program's Count.  -/
import Derived.Test.YtnbnbjgdplpemaaMore
import Derived.Test.YtnbnbjgdplpemaaBm
import Derived.Lib.BitFns
import Derived.Lib.Walk
import Derived.Deep.RegionHeld3
import Derived.IntWalk
import Derived.OwnWalk
namespace Go.Proofs.Ytnbnbjgdplpemaa
open Go.RowKit Digs

def onesTo (m : Nat) : Nat → Nat
  | 0 => 0
  | k + 1 => onesTo m k + if m.testBit k then 1 else 0

theorem onesTo_le (m k : Nat) : onesTo m k ≤ k := by
  induction k with
  | zero => exact Nat.le_refl _
  | succ k ih =>
    show onesTo m k + _ ≤ k + 1
    split <;> omega
theorem onesTo_add (m a b : Nat) : onesTo m (a + b) = onesTo m a + onesTo (m / 2 ^ a) b := by
  induction b with
  | zero => rfl
  | succ b ih =>
    show onesTo m (a + b) + (if m.testBit (a + b) then 1 else 0) = onesTo m a + (onesTo (m / 2 ^ a) b + _)
    rw [ih, Nat.add_assoc, ← Nat.shiftRight_eq_div_pow, Nat.testBit_shiftRight]
theorem onesTo_mod (m j k : Nat) (h : k ≤ j) : onesTo (m % 2 ^ j) k = onesTo m k := by
  induction k with
  | zero => rfl
  | succ k ih =>
    show onesTo _ k + _ = onesTo m k + _
    rw [ih (by omega), Nat.testBit_mod_two_pow, decide_eq_true (by omega), Bool.true_and]
theorem onesTo_past (m k j : Nat) (h : m < 2 ^ k) : onesTo m (k + j) = onesTo m k := by
  induction j with
  | zero => rfl
  | succ j ih =>
    show onesTo m (k + j) + (if m.testBit (k + j) then 1 else 0) = _
    rw [ih, Nat.testBit_lt_two_pow (Nat.lt_of_lt_of_le h (Nat.pow_le_pow_right (by decide) (by omega)))]
    rfl
theorem onesTo8f : ∀ n : Fin 256, Lib.onesCount n.val = onesTo n.val 8 := by decide +kernel
theorem onesTo8 (n : Nat) (h : n < 256) : Lib.onesCount n = onesTo n 8 := onesTo8f ⟨n, h⟩
theorem onesTo32 (x : Nat) (h : x < 4294967296) : onesTo x 32 = Lib.onesCount (x / 16777216) + Lib.onesCount (x / 65536 % 256) + Lib.onesCount (x / 256 % 256) + Lib.onesCount (x % 256) := by
  rw [onesTo8 _ (by omega), onesTo8 _ (by omega), onesTo8 _ (by omega), onesTo8 _ (by omega)]
  have h1 : onesTo x 32 = _ := onesTo_add x 8 24
  have h2 : onesTo (x / 2 ^ 8) 24 = _ := onesTo_add (x / 2 ^ 8) 8 16
  have h3 : onesTo (x / 2 ^ 8 / 2 ^ 8) 16 = _ := onesTo_add (x / 2 ^ 8 / 2 ^ 8) 8 8
  have m1 := onesTo_mod x 8 8 (Nat.le_refl _)
  have m2 := onesTo_mod (x / 2 ^ 8) 8 8 (Nat.le_refl _)
  have m3 := onesTo_mod (x / 2 ^ 8 / 2 ^ 8) 8 8 (Nat.le_refl _)
  have e2 : x / 2 ^ 8 % 2 ^ 8 = x / 256 % 256 := rfl
  have e3 : x / 2 ^ 8 / 2 ^ 8 % 2 ^ 8 = x / 65536 % 256 := by omega
  have e4 : x / 2 ^ 8 / 2 ^ 8 / 2 ^ 8 = x / 16777216 := by omega
  have e1 : x % 2 ^ 8 = x % 256 := rfl
  rw [e1] at m1
  rw [e2] at m2
  rw [e3] at m3
  rw [e4] at h3
  omega
theorem pop8_of (b : Int) (h0 : 0 ≤ b) (h1 : b ≤ 255) : Lib.pop8 b = (Lib.onesCount b.toNat : Int) := by
  have e := Lib.pop8_eq ⟨b.toNat, by omega⟩
  simpa only [Int.toNat_of_nonneg h0] using e
theorem pop8_elem (i : Int) (h0 : 0 ≤ i) (h : i.toNat < Lib.pop8tab.size) : ((Lib.pop8tab[i.toNat]'h).toNat : Int) = (Lib.onesCount i.toNat : Int) := by
  have h1 : i.toNat < 256 := by rw [Lib.pop8tab_size] at h; exact h
  rw [← pop8_of i h0 (by omega)]
  unfold Lib.pop8
  rw [getElem?_pos Lib.pop8tab i.toNat h]
  rfl
theorem onesCount_le8' (n : Nat) (h : n < 256) : Lib.onesCount n ≤ 8 := Lib.onesCount_le8 ⟨n, h⟩

theorem u32_and_255 (k : Nat) (hk : k < 4294967296) : bits BinOp.and IntKind.u32 (k : Int) 255 = ((k % 256 : Nat) : Int) := by
  show IntKind.u32.wrap ((BitVec.ofInt 32 (k : Int) &&& BitVec.ofInt 32 255).toNat : Int) = _
  have h1 : (BitVec.ofInt 32 (k : Int)).toNat = k := by
    rw [BitVec.toNat_ofInt]
    omega
  have h2 : (BitVec.ofInt 32 (255 : Int)).toNat = 2 ^ 8 - 1 := by decide
  rw [BitVec.toNat_and, h1, h2, Nat.and_two_pow_sub_one_eq_mod, IntKind.wrap_u32']
  omega

set_option maxHeartbeats 1000000 in
set_option maxRecDepth 100000 in
theorem ones32_any (x : Nat) (w : World) (h : x < 4294967296) : Calls Try.prog 78 #[.int .u32 x] w fun e w' => e = .returned (.int .i64 ((onesTo x 32 : Nat) : Int)) ∧ Below w.heap.size w w' := by
  rw [onesTo32 x h]
  have h0 : (0 : Int) ≤ (x : Int) := by omega
  have h1 : (x : Int) ≤ 4294967295 := by omega
  have hs := Lib.pop8tab_size
  have e16 : bits BinOp.and IntKind.u32 ((x : Int) / 65536) 255 = ((x / 65536 % 256 : Nat) : Int) := u32_and_255 (x / 65536) (by omega)
  have e8 : bits BinOp.and IntKind.u32 ((x : Int) / 256) 255 = ((x / 256 % 256 : Nat) : Int) := u32_and_255 (x / 256) (by omega)
  have e0 : bits BinOp.and IntKind.u32 (x : Int) 255 = ((x % 256 : Nat) : Int) := u32_and_255 x h
  have l16 : x / 65536 % 256 < 256 := Nat.mod_lt _ (by decide)
  have l8 : x / 256 % 256 < 256 := Nat.mod_lt _ (by decide)
  have l0 : x % 256 < 256 := Nat.mod_lt _ (by decide)
  go_enter Try.func78, Try.ntmps78
  go_wp2
  go_region_held3 (fun _ => True) (trivial) (fail)
  all_goals
  go_wp2
  go_ret
  refine ⟨congrArg Ending.returned (congrArg (Value.int IntKind.i64) ?_), (Below.refl _ _).drew⟩
  have q : ∀ n : Nat, n < 256 → Lib.pop8 (n : Int) = (Lib.onesCount n : Int) := fun n hn => pop8_of (n : Int) (by omega) (by omega)
  have r16 : Lib.pop8 ((x : Int) / 65536 % 256) = (Lib.onesCount (x / 65536 % 256) : Int) := q (x / 65536 % 256) l16
  have r8 : Lib.pop8 ((x : Int) / 256 % 256) = (Lib.onesCount (x / 256 % 256) : Int) := q (x / 256 % 256) l8
  have r0 : Lib.pop8 ((x : Int) % 256) = (Lib.onesCount (x % 256) : Int) := q (x % 256) l0
  rw [pop8_elem _ (by omega), r16, r8, r0, show ((x : Int) / 16777216).toNat = x / 16777216 by omega]
  have s24 := onesCount_le8' (x / 16777216) (by omega)
  have s16 := onesCount_le8' _ l16
  have s8 := onesCount_le8' _ l8
  have s0 := onesCount_le8' _ l0
  generalize Lib.onesCount (x / 16777216) = a at *
  generalize Lib.onesCount (x / 65536 % 256) = b at *
  generalize Lib.onesCount (x / 256 % 256) = c at *
  generalize Lib.onesCount (x % 256) = d at *
  simp only [IntKind.wrap_i64, IntKind.wrap_u8']
  omega

/-- The number of bits that differ from the sign. -/
def countZ (z : Int) : Nat := onesTo (if z < 0 then (-1 - z).natAbs else z.natAbs) (lenZ z)

theorem onesTo_limbs (m k : Nat) : onesTo m (32 * (k + 1)) = onesTo m (32 * k) + onesTo (m / 4294967296 ^ k % 4294967296) 32 := by
  rw [show 32 * (k + 1) = 32 * k + 32 by omega, onesTo_add, pow32, ← onesTo_mod (m / 2 ^ (32 * k)) 32 32 (Nat.le_refl _)]
theorem onesTo_len (m N : Nat) (h : (digs 4294967296 m).length = N) : onesTo m (32 * N) = onesTo m (bl m) := by
  have h1 : bl m ≤ 32 * N := bl_le_iff.2 (by rw [← pow32, ← h]; exact digs_lt_pow (by decide) m)
  have h2 := onesTo_past m (bl m) (32 * N - bl m) (bl_lt m)
  rw [show bl m + (32 * N - bl m) = 32 * N by omega] at h2
  exact h2

set_option maxHeartbeats 1000000 in
set_option maxRecDepth 100000 in
theorem Count_pos (z : Int) (v : Value) (w : World) (hz : len z ≤ 1000000) (hneg : ¬ z < 0) (h : IntV w v z) :
    Calls Try.prog 28 #[v] w fun e w' => e = .returned (.int .i64 ((countZ z : Nat) : Int)) ∧ Below w.heap.size w w' := by
  obtain ⟨ad, n, c, rfl, hr⟩ := h
  obtain ⟨ad', c', hv, ra⟩ := hr.opt
  cases hv
  unfold len at hz
  unfold countZ lenZ
  rw [if_neg hneg, if_neg hneg, decide_eq_false hneg]
  generalize z.natAbs = m at *
  have HX : Hid (∀ W, Below w.heap.size w W → ∀ j, j < (digs 4294967296 m).length → ∃ b off, ad = some ⟨b, off, none⟩ ∧ W.cell? ⟨b, off + j, none⟩ = some (.int .u32 ((m / 4294967296 ^ j % 4294967296 : Nat) : Int))) := Lib.hid fun W hb j hj => by
    obtain ⟨b, o, e1, e2, e3⟩ := ra j hj
    rw [digs_get (by decide)] at e3
    exact ⟨b, o, e1, (hb.cell (p := ⟨b, o + j, none⟩) e2).trans e3⟩
  have HLN := Lib.hid (onesTo_len m _ rfl)
  clear hr ra
  generalize (digs 4294967296 m).length = N at *
  have HO := fun x W hx => Lib.hid (ones32_any x W hx)
  have HO := Lib.hid HO
  go_enter Try.func28, Try.ntmps28
  go_wp2_with fail
  have HB0 := Lib.hid ((Below.refl w.heap.size w).alloc (Nat.le_refl _) (.cells #[.bool false, .slice ad N c] 28))
  go_loopw [3, 13] (fun s i wr => ∃ k : Nat, k ≤ N ∧ i = .int .i64 k ∧ s = .int .i64 ((onesTo m (32 * k) : Nat) : Int) ∧ Below w.heap.size w wr) (fun _ i _ => N - (intOf i).toNat)
  case atStart => exact ⟨0, Nat.zero_le _, rfl, rfl, HB0.out⟩
  case round =>
    obtain ⟨k, hk, rfl, rfl, hnx⟩ := hrel
    by_cases hkn : k < N
    · obtain ⟨bb, ob, rfl, gx⟩ := HX.out wr hnx k hkn
      have hxl : m / 4294967296 ^ k % 4294967296 < 4294967296 := Nat.mod_lt _ (by decide)
      have HS := Lib.hid (onesTo_limbs m k)
      have hol := onesTo_le (m / 4294967296 ^ k % 4294967296) 32
      have hob := onesTo_le m (32 * k)
      generalize m / 4294967296 ^ k % 4294967296 = x at *
      generalize onesTo m (32 * k) = s at *
      have HNX := Lib.hid hnx
      clear hnx
      go_wp2_with fail
      (with_reducible refine (HO.out _ _ hxl).out.mono ?_)
      rintro e w1 ⟨rfl, hb1⟩
      generalize onesTo x 32 = t at *
      go_wp2
      go_roundw
      case rel => exact ⟨k + 1, hkn, by go_num, by rw [HS.out]; go_num, HNX.out.trans (hb1.mono HNX.out.size)⟩
      case measure => simp [intOf] <;> omega
    · obtain rfl : k = N := by omega
      go_wp2
      go_ret
      exact ⟨by rw [HLN.out]; rfl, hnx⟩

set_option maxHeartbeats 1000000 in
set_option maxRecDepth 100000 in
theorem Count_neg (z : Int) (v : Value) (w : World) (hz : len z ≤ 1000000) (hneg : z < 0) (h : IntV w v z) :
    Calls Try.prog 28 #[v] w fun e w' => e = .returned (.int .i64 ((countZ z : Nat) : Int)) ∧ Below w.heap.size w w' := by
  have HC := fun W hw => Lib.hid (complement_any z v W hz (h.keep (w' := W) hw))
  have HC := Lib.hid HC
  obtain ⟨ad, n, c, rfl, hr⟩ := h
  have hlz := Nat.le_trans (compl_len hneg) hz
  have hd0 : decide (-1 - z < 0) = false := decide_eq_false (by omega)
  unfold len at hlz
  unfold countZ lenZ
  rw [decide_eq_true hneg] at HC ⊢
  rw [if_pos hneg, if_pos hneg]
  have HLN := Lib.hid (onesTo_len (-1 - z).natAbs _ rfl)
  have HO := fun x W hx => Lib.hid (ones32_any x W hx)
  have HO := Lib.hid HO
  clear hr hz hneg
  go_enter Try.func28, Try.ntmps28
  go_wp2_with fail
  (with_reducible refine (HC.out _ ((Below.refl _ _).alloc (Nat.le_refl _) _)).out.mono ?_)
  rintro e w1 ⟨v1, rfl, ⟨ad1, n1, c1, rfl, hr1⟩, hb1⟩
  rw [hd0]
  obtain ⟨ad', c', hv, ra⟩ := hr1.opt
  cases hv
  generalize hm : (-1 - z).natAbs = m at *
  have HM := Lib.hid hm
  clear hm
  obtain ⟨k0, k1, f0, f1, _⟩ := box2 hb1
  have hr2 := hr1.store2 k0 k1 (by intro n h; cases h) (by intro n h; cases h) (.bool false) (.slice ad1 (digs 4294967296 m).length c1)
  obtain ⟨ad', c', hv, ra2⟩ := hr2.opt
  cases hv
  have HX : Hid (∀ W, Below w1.heap.size ((w1.setCell ⟨w.heap.size, 0, none⟩ (.bool false)).setCell ⟨w.heap.size, 1, none⟩ (.slice ad1 (digs 4294967296 m).length c1)) W → ∀ j, j < (digs 4294967296 m).length → ∃ b off, ad1 = some ⟨b, off, none⟩ ∧ W.cell? ⟨b, off + j, none⟩ = some (.int .u32 ((m / 4294967296 ^ j % 4294967296 : Nat) : Int))) := Lib.hid fun W hb j hj => by
    obtain ⟨b, o, e1, e2, e3⟩ := ra2 j hj
    rw [digs_get (by decide)] at e3
    exact ⟨b, o, e1, (hb.cell (p := ⟨b, o + j, none⟩) (by simpa using e2)).trans e3⟩
  have HB1 := Lib.hid (((box1b hb1).setCell (p := ⟨w.heap.size, 0, none⟩) (Nat.le_refl _) (.bool false)).setCell (p := ⟨w.heap.size, 1, none⟩) (Nat.le_refl _) (.slice ad1 (digs 4294967296 m).length c1))
  clear hr1 hb1 ra hr2 ra2
  generalize (digs 4294967296 m).length = N at *
  have hcell : (((w1.setCell ⟨w.heap.size, 0, none⟩ (.bool false)).setCell ⟨w.heap.size, 1, none⟩ (.slice ad1 N c1))).cell? ⟨w.heap.size, 1, none⟩ = some (.slice ad1 N c1) :=
    World.cell?_setCell_same _ _ _ (by rw [World.cell?_setCell_other _ _ _ _ (by simp)]; exact k1)
  go_wp2_with fail
  go_loopw [3, 13] (fun s i wr => ∃ k : Nat, k ≤ N ∧ i = .int .i64 k ∧ s = .int .i64 ((onesTo m (32 * k) : Nat) : Int) ∧ Below w1.heap.size ((w1.setCell ⟨w.heap.size, 0, none⟩ (.bool false)).setCell ⟨w.heap.size, 1, none⟩ (.slice ad1 N c1)) wr) (fun _ i _ => N - (intOf i).toNat)
  case atStart => exact ⟨0, Nat.zero_le _, rfl, rfl, Below.refl _ _⟩
  case round =>
    obtain ⟨k, hk, rfl, rfl, hnx⟩ := hrel
    by_cases hkn : k < N
    · obtain ⟨bb, ob, rfl, gx⟩ := HX.out wr hnx k hkn
      have hxl : m / 4294967296 ^ k % 4294967296 < 4294967296 := Nat.mod_lt _ (by decide)
      have HS := Lib.hid (onesTo_limbs m k)
      have hol := onesTo_le (m / 4294967296 ^ k % 4294967296) 32
      have hob := onesTo_le m (32 * k)
      generalize m / 4294967296 ^ k % 4294967296 = x at *
      generalize onesTo m (32 * k) = s at *
      have HNX := Lib.hid hnx
      clear hnx
      go_wp2_with fail
      (with_reducible refine (HO.out _ _ hxl).out.mono ?_)
      rintro e w2 ⟨rfl, hb2⟩
      generalize onesTo x 32 = t at *
      go_wp2
      go_roundw
      case rel => exact ⟨k + 1, hkn, by go_num, by rw [HS.out]; go_num, HNX.out.trans (hb2.mono (by simpa using HNX.out.size))⟩
      case measure => simp [intOf] <;> omega
    · obtain rfl : k = N := by omega
      go_wp2
      go_ret
      refine ⟨by rw [HLN.out, HM.out]; rfl, HB1.out.trans (hnx.mono ?_)⟩
      simpa using HB1.out.size

theorem Count_any (z : Int) (v : Value) (w : World) (hz : len z ≤ 1000000) (h : IntV w v z) :
    Calls Try.prog 28 #[v] w fun e w' => e = .returned (.int .i64 ((countZ z : Nat) : Int)) ∧ Below w.heap.size w w' := by
  by_cases hneg : z < 0
  · exact Count_neg z v w hz hneg h
  · exact Count_pos z v w hz hneg h

end Go.Proofs.Ytnbnbjgdplpemaa
