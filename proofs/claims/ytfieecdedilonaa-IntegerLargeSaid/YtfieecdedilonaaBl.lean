/-  PLAIN MATHEMATICS of binary digits: nothing of a program.  -/
import Derived.Test.YtfieecdedilonaaMath
namespace Digs
/-- The number of binary digits. -/
def bl (n : Nat) : Nat := if n = 0 then 0 else n.log2 + 1
theorem bl_zero : bl 0 = 0 := rfl
theorem bl_le_iff {n k : Nat} : bl n ≤ k ↔ n < 2 ^ k := by
  unfold bl
  split
  · rename_i h; subst h; simp [Nat.two_pow_pos]
  · rename_i h; rw [Nat.succ_le_iff, Nat.log2_lt h]
theorem bl_lt (n : Nat) : n < 2 ^ bl n := bl_le_iff.1 (Nat.le_refl _)
theorem lt_bl_iff {n k : Nat} : k < bl n ↔ 2 ^ k ≤ n := by
  rw [← Nat.not_le, bl_le_iff, Nat.not_lt]
theorem bl_unique {n k : Nat} (h1 : 2 ^ k ≤ n) (h2 : n < 2 ^ (k + 1)) : bl n = k + 1 :=
  Nat.le_antisymm (bl_le_iff.2 h2) (lt_bl_iff.2 h1)
theorem bl_mono {m n : Nat} (h : m ≤ n) : bl m ≤ bl n := bl_le_iff.2 (Nat.lt_of_le_of_lt h (bl_lt n))
theorem bl_eq_zero {n : Nat} : bl n = 0 ↔ n = 0 := by
  constructor
  · intro h; have := bl_lt n; rw [h] at this; simpa using this
  · rintro rfl; rfl
theorem bl_two_pow (k : Nat) : bl (2 ^ k) = k + 1 := bl_unique (Nat.le_refl _) (by rw [Nat.pow_succ]; have := Nat.two_pow_pos k; omega)
theorem bl_two_pow_sub (k : Nat) : bl (2 ^ k - 1) = k := by
  have h := Nat.two_pow_pos k
  apply Nat.le_antisymm
  · exact bl_le_iff.2 (by omega)
  · rcases k with _ | k
    · simp
    · exact lt_bl_iff.2 (by rw [Nat.pow_succ]; have := Nat.two_pow_pos k; omega)
theorem bl_half (n : Nat) (h : n ≠ 0) : bl n = 1 + bl (n / 2) := by
  have h1 := bl_lt (n / 2)
  have e : 1 + bl (n / 2) = bl (n / 2) + 1 := Nat.add_comm _ _
  rw [e]
  apply bl_unique
  · by_cases h2 : n / 2 = 0
    · rw [h2, bl_zero, Nat.pow_zero]; omega
    · have h3 : 2 ^ (bl (n / 2) - 1) ≤ n / 2 := lt_bl_iff.1 (by have := mt bl_eq_zero.1 h2; omega)
      have h4 : bl (n / 2) = bl (n / 2) - 1 + 1 := by have := mt bl_eq_zero.1 h2; omega
      rw [h4, Nat.pow_succ]; omega
  · rw [Nat.pow_succ]; omega
/-- The binary digits of a number whose last digit to the base 2^32 is t. -/
theorem bl_top (k lo t : Nat) (hlo : lo < 4294967296 ^ k) (ht : t ≠ 0) : bl (lo + 4294967296 ^ k * t) = 32 * k + bl t := by
  have hb : (4294967296 : Nat) ^ k = 2 ^ (32 * k) := by rw [Nat.pow_mul]
  rw [hb] at hlo ⊢
  have hb0 : 0 < bl t := by have := mt bl_eq_zero.1 ht; omega
  obtain ⟨j, hj⟩ : ∃ j, bl t = j + 1 := ⟨bl t - 1, by omega⟩
  have h1 : 2 ^ j ≤ t := lt_bl_iff.1 (by omega)
  have h2 : t < 2 ^ (j + 1) := by rw [← hj]; exact bl_lt t
  rw [hj, ← Nat.add_assoc]
  apply bl_unique
  · rw [Nat.pow_add]
    have := Nat.mul_le_mul_left (2 ^ (32 * k)) h1
    omega
  · rw [show 32 * k + j + 1 = 32 * k + (j + 1) from rfl, Nat.pow_add]
    have := Nat.mul_le_mul_left (2 ^ (32 * k)) (Nat.succ_le_of_lt h2)
    rw [Nat.mul_succ] at this
    omega

theorem pow32 (k : Nat) : (4294967296 : Nat) ^ k = 2 ^ (32 * k) := by rw [Nat.pow_mul]

/-- One step of a shift to the left. -/
theorem shl_step {s : List Nat} {k W : Nat} (c x p n A A' : Nat) (hn : n = 32 * W + p) (hs : s.length = W + k) (h : vl 4294967296 s + 4294967296 ^ (W + k) * c = A * 2 ^ n) (hA : A' = A + 4294967296 ^ k * x) :
    vl 4294967296 (s ++ [(c + x * 2 ^ p) % 4294967296]) + 4294967296 ^ (W + (k + 1)) * ((c + x * 2 ^ p) / 4294967296) = A' * 2 ^ n := by
  rw [vl_snoc, hs, ← Nat.add_assoc W k 1, Nat.pow_succ, Nat.add_assoc, split_mod, Nat.mul_add, ← Nat.add_assoc, h, hA, Nat.add_mul, hn]
  congr 1
  rw [Nat.pow_add, Nat.pow_add, pow32 W]
  ac_rfl

theorem shl_bound {x c p : Nat} (hx : x < 4294967296) (hc : c < 2 ^ p) : c + x * 2 ^ p < 4294967296 * 2 ^ p := by
  have h1 : (x + 1) * 2 ^ p ≤ 4294967296 * 2 ^ p := Nat.mul_le_mul_right _ hx
  rw [Nat.add_mul, Nat.one_mul] at h1
  omega
theorem two_pow_le_31 {p : Nat} (hp : p ≤ 31) : 2 ^ p ≤ 2147483648 := Nat.pow_le_pow_right (by decide) hp

end Digs
