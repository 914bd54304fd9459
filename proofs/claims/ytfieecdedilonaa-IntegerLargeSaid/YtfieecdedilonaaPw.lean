/-  PLAIN MATHEMATICS of powers: nothing of a program.  -/
import Derived.Test.YtfieecdedilonaaMath
import Derived.Test.YtfieecdedilonaaBl
namespace Digs
/-- The number of bits of an integer in two's complement, without its sign. -/
def lenZ (z : Int) : Nat := if z < 0 then bl (-1 - z).natAbs else bl z.natAbs

theorem lenZ_gt {z : Int} {k : Nat} (h : 2 ^ k < z.natAbs) : k < lenZ z := by
  unfold lenZ
  split
  · exact lt_bl_iff.2 (by omega)
  · exact lt_bl_iff.2 (by omega)

theorem natAbs_pow (x : Int) (n : Nat) : (x ^ n).natAbs = x.natAbs ^ n := Int.natAbs_pow x n

/-- A power that is found too large ahead is too large. -/
theorem pow_large {M n : Nat} {x : Int} (h1 : 0 < bl x.natAbs - 1) (h2 : M / (bl x.natAbs - 1) < n) : M < lenZ (x ^ n) := by
  apply lenZ_gt
  rw [natAbs_pow]
  rw [Nat.div_lt_iff_lt_mul h1] at h2
  have h3 : 2 ^ (bl x.natAbs - 1) ≤ x.natAbs := lt_bl_iff.1 (by omega)
  have h4 : (2 ^ (bl x.natAbs - 1)) ^ n ≤ x.natAbs ^ n := Nat.pow_le_pow_left h3 n
  rw [← Nat.pow_mul, Nat.mul_comm] at h4
  exact Nat.lt_of_lt_of_le (Nat.pow_lt_pow_right (by decide) h2) h4

/-- Another one has no more than twice as many digits. -/
theorem pow_small {M n m : Nat} (h : ¬ (0 < bl m - 1 ∧ M / (bl m - 1) < n)) : m ^ n ≤ 2 ^ (2 * M) := by
  by_cases h1 : 0 < bl m - 1
  · have h2 : ¬ M / (bl m - 1) < n := fun hh => h ⟨h1, hh⟩
    rw [Nat.div_lt_iff_lt_mul h1, Nat.not_lt] at h2
    have h3 : m ^ n ≤ (2 ^ bl m) ^ n := Nat.pow_le_pow_left (Nat.le_of_lt (bl_lt m)) n
    rw [← Nat.pow_mul] at h3
    refine Nat.le_trans h3 (Nat.pow_le_pow_right (by decide) ?_)
    have h4 : bl m * n ≤ 2 * (bl m - 1) * n := Nat.mul_le_mul_right _ (by omega)
    rw [Nat.mul_assoc, Nat.mul_comm (bl m - 1) n] at h4
    omega
  · have h2 : m < 2 ^ 1 := bl_le_iff.1 (by omega)
    have h3 : m ^ n ≤ 1 ^ n := Nat.pow_le_pow_left (by omega) n
    rw [Nat.one_pow] at h3
    exact Nat.le_trans h3 (Nat.two_pow_pos _)

/-- What the loop of a power holds. -/
def PowInv (m n P S left : Nat) : Prop := P * (if left = 0 then 1 else S ^ left) = m ^ n ∧ (m = 0 → S = 0 ∧ P ≤ 1) ∧ (0 < left → 0 < m → 0 < S)

theorem PowInv.start (m n : Nat) : PowInv m n 1 m n := by
  refine ⟨?_, fun h => ⟨h, Nat.le_refl _⟩, fun _ h => h⟩
  split
  · rename_i h; subst h; simp
  · simp
theorem PowInv.done {m n P S : Nat} (h : PowInv m n P S 0) : P = m ^ n := by
  have := h.1
  simpa using this
theorem PowInv.le {m n P S left X : Nat} (h : PowInv m n P S left) (hl : 0 < left) (hX : m ^ n ≤ X) (hX1 : 1 ≤ X) : P ≤ X ∧ S ≤ X := by
  by_cases hm : m = 0
  · have := h.2.1 hm; omega
  · have h1 := h.1
    rw [if_neg (by omega)] at h1
    have hS := h.2.2 hl (by omega)
    have hp : 0 < m ^ n := Nat.pow_pos (by omega)
    have hP : 0 < P := by
      rcases Nat.eq_zero_or_pos P with h0 | h0
      · rw [h0, Nat.zero_mul] at h1; omega
      · exact h0
    constructor
    · have : P * 1 ≤ P * S ^ left := Nat.mul_le_mul_left _ (Nat.pow_pos hS)
      omega
    · have h2 : S ^ 1 ≤ S ^ left := Nat.pow_le_pow_right hS hl
      have h3 : 1 * S ^ left ≤ P * S ^ left := Nat.mul_le_mul_right _ hP
      rw [Nat.pow_one] at h2
      omega
theorem PowInv.odd {m n P S left : Nat} (h : PowInv m n P S left) (ho : left % 2 = 1) : PowInv m n (P * S) S (left - 1) := by
  obtain ⟨e, rfl⟩ : ∃ e, left = e + 1 := ⟨left - 1, by omega⟩
  obtain ⟨h1, h2, h3⟩ := h
  rw [if_neg (by omega), Nat.pow_succ] at h1
  refine ⟨?_, fun hm => ?_, fun _ => h3 (by omega)⟩
  · rw [Nat.add_sub_cancel]
    split
    · rename_i h0; subst h0; rw [← h1]; simp
    · rw [← h1]; ac_rfl
  · obtain ⟨h4, h5⟩ := h2 hm
    subst h4
    exact ⟨rfl, by omega⟩
theorem PowInv.half {m n P S left : Nat} (h : PowInv m n P S left) (hl : 2 ≤ left) (he : left % 2 = 0) : PowInv m n P (S * S) (left / 2) := by
  obtain ⟨h1, h2, h3⟩ := h
  refine ⟨?_, fun hm => ?_, fun _ hm => Nat.mul_pos (h3 (by omega) hm) (h3 (by omega) hm)⟩
  · rw [if_neg (by omega)] at h1 ⊢
    rw [← h1, ← Nat.pow_two, ← Nat.pow_mul]
    congr 2
    omega
  · obtain ⟨h4, h5⟩ := h2 hm
    subst h4
    exact ⟨rfl, h5⟩
theorem len_two_pow {x M : Nat} (h : x ≤ 2 ^ (32 * M)) : (digs 4294967296 x).length ≤ M + 1 := by
  apply digs_length_le (by decide)
  rw [pow32]
  exact Nat.lt_of_le_of_lt h (Nat.pow_lt_pow_right (by decide) (by omega))
end Digs
