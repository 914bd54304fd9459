/-  IntegerLarge's walk.  -/
import Derived.Test.YtiegkjfpdiohkaaGreatPower3
namespace Go.Proofs.YtiegkjfpdiohkaaGreat
open Go.RowKit Digs

theorem lenZ_two (k : Nat) : lenZ ((2 : Int) ^ k) = k + 1 := by
  have e : ((2 : Int) ^ k) = ((2 ^ k : Nat) : Int) := by rw [Int.natCast_pow]; rfl
  unfold lenZ
  rw [e, if_neg (Int.not_lt.2 (Int.natCast_nonneg _)), Int.natAbs_natCast, bl_two_pow]
theorem lenZ_one : lenZ 1 = 1 := by have := lenZ_two 0; simpa using this
theorem lenZ_neg_two (k : Nat) : lenZ (-(2 : Int) ^ k) = k := by
  have e : ((2 : Int) ^ k) = ((2 ^ k : Nat) : Int) := by rw [Int.natCast_pow]; rfl
  have h := Nat.two_pow_pos k
  unfold lenZ
  have hs := bl_two_pow_sub k
  rw [e]
  generalize 2 ^ k = q at *
  rw [if_pos (by omega)]
  have h2 : (-1 - -(q : Int)).natAbs = q - 1 := by omega
  rw [h2, hs]
theorem lenZ_pow (k m : Nat) : lenZ (((2 : Int) ^ k) ^ m) = k * m + 1 := by rw [← Int.pow_mul, lenZ_two]
theorem lenZ_neg_pow_odd (k m : Nat) (h : m % 2 = 1) : lenZ ((-(2 : Int) ^ k) ^ m) = k * m := by rw [neg_pow_par, if_pos h, ← Int.pow_mul, lenZ_neg_two]
theorem lenZ_neg_pow_even (k m : Nat) (h : m % 2 = 0) : lenZ ((-(2 : Int) ^ k) ^ m) = k * m + 1 := by rw [neg_pow_par, if_neg (by omega), ← Int.pow_mul, lenZ_two]
theorem len_two (k : Nat) (hk : k ≤ 200) : len ((2 : Int) ^ k) ≤ 1000000 := by
  unfold len
  rw [natAbs_pow]
  have h1 : (2 : Nat) ^ k ≤ 2 ^ (32 * 7) := Nat.pow_le_pow_right (by decide) (by omega)
  have := len_two_pow (M := 7) h1
  have e : Int.natAbs 2 = 2 := rfl
  rw [e]
  omega
theorem len_neg (z : Int) : len (-z) = len z := by unfold len; rw [Int.natAbs_neg]


/-- The rest of the law, behind the power: what the case gives. -/
def LargeCase (k m : Nat) (neg : Bool) (z : Int) (L : Nat) : Prop :=
  (neg = false ∧ z = (2 : Int) ^ k ∧ L = k * m + 1) ∨ (neg = true ∧ z = -(2 : Int) ^ k ∧ ((m % 2 = 1 ∧ L = k * m) ∨ (m % 2 = 0 ∧ L = k * m + 1)))

theorem large_len {k m L : Nat} {neg : Bool} {z : Int} (h : LargeCase k m neg z L) : lenZ (z ^ m) = L := by
  rcases h with ⟨_, rfl, rfl⟩ | ⟨_, rfl, ⟨h, rfl⟩ | ⟨h, rfl⟩⟩
  · exact lenZ_pow k m
  · exact lenZ_neg_pow_odd k m h
  · exact lenZ_neg_pow_even k m h

theorem len_of_lenZ {x : Int} {M : Nat} (h : lenZ x ≤ M) : len x ≤ M + 2 := by
  have h1 : x.natAbs ≤ 2 ^ M := by
    unfold lenZ at h
    split at h
    · have := bl_le_iff.1 h; omega
    · exact Nat.le_of_lt (bl_le_iff.1 h)
  have h2 : (2 : Nat) ^ M ≤ 2 ^ (32 * (M + 1)) := Nat.pow_le_pow_right (by decide) (by omega)
  unfold len
  have := len_two_pow (M := M + 1) (Nat.le_trans h1 h2)
  omega

end Go.Proofs.YtiegkjfpdiohkaaGreat
