/-  The mathematics of IntegerPatterns.  -/
import Derived.Test.YtnbnbjgdplpemaaDepo
import Derived.Test.YtnbnbjgdplpemaaPc
namespace Go.Proofs.Ytnbnbjgdplpemaa
open Go.RowKit Digs

theorem nn_shift (z : Int) (k : Nat) : nn (z / 2 ^ k) = nn z / 2 ^ k := by
  have hP : (0 : Int) < 2 ^ k := Int.pow_pos (by decide)
  unfold nn
  by_cases h : z < 0
  · obtain ⟨c, hc⟩ : ∃ c : Nat, c = (-1 - z).natAbs := ⟨_, rfl⟩
    have hzc : z = -1 - (c : Int) := by omega
    have e : ((c / 2 ^ k : Nat) : Int) = (c : Int) / 2 ^ k := by rw [Int.natCast_ediv, Int.natCast_pow]; rfl
    rw [if_pos h, ← hc, hzc, ediv_compl _ _ hP, ← e]
    generalize c / 2 ^ k = q
    rw [if_pos (by omega)]
    omega
  · obtain ⟨m, rfl⟩ : ∃ m : Nat, z = (m : Int) := ⟨z.toNat, by omega⟩
    have e : ((m / 2 ^ k : Nat) : Int) = (m : Int) / 2 ^ k := by rw [Int.natCast_ediv, Int.natCast_pow]; rfl
    rw [if_neg h, ← e, show ((m : Int)).natAbs = m from rfl]
    generalize m / 2 ^ k = q
    rw [if_neg (by omega)]
    rfl
theorem neg_shift (z : Int) (k : Nat) : z / 2 ^ k < 0 ↔ z < 0 := by
  have hP : (0 : Int) < 2 ^ k := Int.pow_pos (by decide)
  constructor
  · intro h
    rcases Int.lt_or_le z 0 with h1 | h1
    · exact h1
    · have := Int.ediv_nonneg h1 (Int.le_of_lt hP)
      omega
  · intro h
    exact Int.ediv_neg_of_neg_of_pos h hP
theorem shift_bit (z : Int) (k i : Nat) : bitZ (z / 2 ^ k) i = bitZ z (i + k) := by
  rw [bitZ_nn, bitZ_nn, nn_shift, ← Nat.shiftRight_eq_div_pow, Nat.testBit_shiftRight, Nat.add_comm k i]
  congr 1
  exact decide_eq_decide.2 (neg_shift z k)
theorem low_bit (z : Int) : z = 2 * (z / 2) + if bitZ z 0 then 1 else 0 := by
  unfold bitZ
  by_cases h : z < 0
  · rw [if_pos h, Nat.testBit_zero]
    by_cases h2 : (-1 - z).natAbs % 2 = 1
    · rw [decide_eq_true h2]; simp; omega
    · rw [decide_eq_false h2]; simp; omega
  · rw [if_neg h, Nat.testBit_zero]
    by_cases h2 : z.natAbs % 2 = 1
    · rw [decide_eq_true h2]; simp; omega
    · rw [decide_eq_false h2]; simp; omega
theorem bool_half (op : Nat) (x y : Int) : boolZ op x y / 2 = boolZ op (x / 2) (y / 2) := by
  apply bitZ_ext
  intro i
  have h1 := shift_bit (boolZ op x y) 1 i
  have h2 := shift_bit x 1 i
  have h3 := shift_bit y 1 i
  rw [Int.pow_one] at h1 h2 h3
  rw [h1, boolZ_bit, boolZ_bit, h2, h3]
theorem nn_zero {z : Int} (h : nn z = 0) : z = 0 ∨ z = -1 := by
  unfold nn at h
  split at h <;> omega
theorem bool_unit (op : Nat) {x y : Int} (hx : x = 0 ∨ x = -1) (hy : y = 0 ∨ y = -1) : boolZ op x y = if opB op (decide (x < 0)) (decide (y < 0)) then -1 else 0 := by
  have hu : ∀ {z : Int}, (z = 0 ∨ z = -1) → ∀ i, bitZ z i = decide (z < 0) := fun {z} h i => by
    rcases h with rfl | rfl
    · exact bitZ_past 0 0 i (by decide) (Nat.zero_le _)
    · exact bitZ_past (-1) 0 i (by decide) (Nat.zero_le _)
  apply bitZ_ext
  intro i
  rw [boolZ_bit, hu hx, hu hy]
  cases h : opB op (decide (x < 0)) (decide (y < 0)) with
  | false => rw [if_neg (by decide), hu (.inl rfl)]; rfl
  | true => rw [if_pos rfl, hu (.inr rfl)]; rfl
theorem add_bits (x y : Int) : boolZ 6 x y + boolZ 8 x y + boolZ 8 x y = x + y := by
  obtain ⟨n, hn⟩ : ∃ n, n = nn x + nn y := ⟨_, rfl⟩
  induction n using Nat.strongRecOn generalizing x y with
  | ind n ih =>
    by_cases h0 : n = 0
    · have hx := nn_zero (z := x) (by omega)
      have hy := nn_zero (z := y) (by omega)
      rw [bool_unit 6 hx hy, bool_unit 8 hx hy]
      rcases hx with rfl | rfl <;> rcases hy with rfl | rfl <;> decide
    · have hx := nn_shift x 1
      have hy := nn_shift y 1
      rw [Int.pow_one] at hx hy
      have h1 := ih (nn (x / 2) + nn (y / 2)) (by omega) (x / 2) (y / 2) rfl
      have e6 := low_bit (boolZ 6 x y)
      have e8 := low_bit (boolZ 8 x y)
      rw [bool_half, boolZ_bit] at e6 e8
      have ex := low_bit x
      have ey := low_bit y
      generalize boolZ 6 x y = u at *
      generalize boolZ 8 x y = v at *
      generalize boolZ 6 (x / 2) (y / 2) = u2 at *
      generalize boolZ 8 (x / 2) (y / 2) = v2 at *
      have o6 : opB 6 (bitZ x 0) (bitZ y 0) = (bitZ x 0 != bitZ y 0) := by cases bitZ x 0 <;> cases bitZ y 0 <;> decide
      have o8 : opB 8 (bitZ x 0) (bitZ y 0) = (bitZ x 0 && bitZ y 0) := by cases bitZ x 0 <;> cases bitZ y 0 <;> decide
      rw [o6] at e6
      rw [o8] at e8
      revert e6 e8 ex ey
      cases bitZ x 0 <;> cases bitZ y 0 <;> simp <;> omega

theorem nn_compl (x : Int) : nn (-1 - x) = nn x := by unfold nn; split <;> split <;> omega
theorem lenZ_compl (x : Int) : lenZ (-1 - x) = lenZ x := by rw [lenZ_nn, lenZ_nn, nn_compl]
theorem countZ_compl (x : Int) : countZ (-1 - x) = countZ x := by
  show onesTo (nn (-1 - x)) _ = onesTo (nn x) _
  rw [nn_compl, lenZ_compl]

theorem ones_bit (s p i : Nat) : bitZ ((onesN s p : Nat) : Int) i = (decide (p ≤ i) && decide (i < p + s)) := by
  rw [bitZ_pos]
  unfold onesN
  rw [Nat.one_mul, Nat.testBit_mul_two_pow, Nat.testBit_two_pow_sub_one]
  by_cases h : p ≤ i
  · rw [decide_eq_true h, Bool.true_and, Bool.true_and]
    exact decide_eq_decide.2 (by omega)
  · rw [decide_eq_false h]; rfl
theorem opB8 (a b : Bool) : opB 8 a b = (a && b) := by cases a <;> cases b <;> decide
theorem opB4 (a b : Bool) : opB 4 a b = (a && !b) := by cases a <;> cases b <;> decide
theorem opB14 (a b : Bool) : opB 14 a b = (a || b) := by cases a <;> cases b <;> decide
theorem fieldZ_bit (z : Int) (s p i : Nat) : bitZ (fieldZ z s p) i = (bitZ z (i + p) && decide (i < s)) := by
  unfold fieldZ
  rw [boolZ_bit, opB8, shift_bit, ones_bit, decide_eq_true (Nat.zero_le i), Bool.true_and, Nat.zero_add]
theorem fieldP_bit (z : Int) (s i : Nat) : bitZ (fieldP z s) i = (bitZ z i && decide (i < s)) := by
  unfold fieldP
  rw [boolZ_bit, opB8, ones_bit, decide_eq_true (Nat.zero_le i), Bool.true_and, Nat.zero_add]
theorem placed_bit (y : Int) (s p i : Nat) : bitZ (((fieldP y s).natAbs * 2 ^ p : Nat) : Int) i = (decide (p ≤ i) && (bitZ y (i - p) && decide (i - p < s))) := by
  rw [bitZ_pos, Nat.testBit_mul_two_pow, ← fieldP_bit, ← bitZ_pos, show ((fieldP y s).natAbs : Int) = fieldP y s by have := fieldP_nonneg y s; omega]
theorem depositZ_bit (x y : Int) (s p i : Nat) : bitZ (depositZ x y s p) i = if p ≤ i ∧ i < p + s then bitZ y (i - p) else bitZ x i := by
  unfold depositZ
  rw [boolZ_bit, boolZ_bit, opB14, opB4, ones_bit, placed_bit]
  by_cases h1 : p ≤ i
  · rw [decide_eq_true h1]
    by_cases h2 : i < p + s
    · rw [if_pos ⟨h1, h2⟩, decide_eq_true h2, decide_eq_true (show i - p < s by omega)]
      simp
    · rw [if_neg (by omega), decide_eq_false h2, decide_eq_false (show ¬ i - p < s by omega)]
      simp
  · rw [if_neg (by omega), decide_eq_false h1]
    simp
theorem field_deposit (x y : Int) (s p : Nat) : fieldZ (depositZ x y s p) s p = fieldZ y s 0 := by
  apply bitZ_ext
  intro i
  rw [fieldZ_bit, fieldZ_bit, depositZ_bit]
  by_cases h : i < s
  · rw [if_pos ⟨by omega, by omega⟩, show i + p - p = i + 0 by omega]
  · rw [decide_eq_false h, Bool.and_false, Bool.and_false]
theorem deposit_field (x : Int) (s p : Nat) : depositZ x (fieldZ x s p) s p = x := by
  apply bitZ_ext
  intro i
  rw [depositZ_bit]
  by_cases h : p ≤ i ∧ i < p + s
  · rw [if_pos h, fieldZ_bit, show i - p + p = i by omega, decide_eq_true (show i - p < s by omega), Bool.and_true]
  · rw [if_neg h]
theorem up_down (x : Int) (k : Nat) : x * 2 ^ k / 2 ^ k = x := Int.mul_ediv_cancel _ (by have : (0 : Int) < 2 ^ k := Int.pow_pos (by decide); omega)

end Go.Proofs.Ytnbnbjgdplpemaa
