/-  Bl  -/
import Derived.Test.YtghgcbedajaldaaGreatMpaa
/-  PLAIN MATHEMATICS: binary digits, powers, long division (Knuth D), shifts, square roots (Newton): nothing of a program.  -/
namespace Digs
/-  PLAIN MATHEMATICS of binary digits: nothing of a program.  -/
def bl (n : Nat) : Nat := if n = 0 then 0 else n.log2 + 1
theorem bl_zero : bl 0 = 0 := rfl
theorem bl_le_iff {n k : Nat} : bl n ≤ k ↔ n < 2 ^ k := by
 unfold bl
 split
 ·rename_i h; subst h; simp [Nat.two_pow_pos]
 ·rename_i h; rw [Nat.succ_le_iff, Nat.log2_lt h]
theorem bl_lt (n : Nat) : n < 2 ^ bl n := bl_le_iff.1 (Nat.le_refl _)
theorem lt_bl_iff {n k : Nat} : k < bl n ↔ 2 ^ k ≤ n := by
 rw [← Nat.not_le, bl_le_iff, Nat.not_lt]
theorem bl_unique {n k : Nat} (h1 : 2 ^ k ≤ n) (h2 : n < 2 ^ (k + 1)) : bl n = k + 1 :=
 Nat.le_antisymm (bl_le_iff.2 h2) (lt_bl_iff.2 h1)
theorem bl_eq_zero {n : Nat} : bl n = 0 ↔ n = 0 := by
 constructor
 ·intro h; have := bl_lt n; rw [h] at this; simpa using this
 ·rintro rfl; rfl
theorem bl_half (n : Nat) (h : n ≠ 0) : bl n = 1 + bl (n / 2) := by
 have h1 := bl_lt (n / 2)
 have e : 1 + bl (n / 2) = bl (n / 2) + 1 := Nat.add_comm _ _
 rw [e]
 apply bl_unique
 ·by_cases h2 : n / 2 = 0
  ·rw [h2, bl_zero, Nat.pow_zero]; omega
  ·have h3 : 2 ^ (bl (n / 2) - 1) ≤ n / 2 := lt_bl_iff.1 (by have := mt bl_eq_zero.1 h2; omega)
   have h4 : bl (n / 2) = bl (n / 2) - 1 + 1 := by have := mt bl_eq_zero.1 h2; omega
   rw [h4, Nat.pow_succ]; omega
 ·rw [Nat.pow_succ]; omega
theorem bl_top (k lo t : Nat) (hlo : lo < 4294967296 ^ k) (ht : t ≠ 0) : bl (lo + 4294967296 ^ k * t) = 32 * k + bl t := by
 have hb : (4294967296 : Nat) ^ k = 2 ^ (32 * k) := by rw [Nat.pow_mul]
 rw [hb] at hlo ⊢
 have hb0 : 0 < bl t := by have := mt bl_eq_zero.1 ht; omega
 obtain ⟨j, hj⟩ : ∃ j, bl t = j + 1 := ⟨bl t - 1, by omega⟩
 have h1 : 2 ^ j ≤ t := lt_bl_iff.1 (by omega)
 have h2 : t < 2 ^ (j + 1) := by rw [← hj]; exact bl_lt t
 rw [hj, ← Nat.add_assoc]
 apply bl_unique
 ·rw [Nat.pow_add]
  have := Nat.mul_le_mul_left (2 ^ (32 * k)) h1
  omega
 ·rw [show 32 * k + j + 1 = 32 * k + (j + 1) from rfl, Nat.pow_add]
  have := Nat.mul_le_mul_left (2 ^ (32 * k)) (Nat.succ_le_of_lt h2)
  rw [Nat.mul_succ] at this
  omega
theorem pow32 (k : Nat) : (4294967296 : Nat) ^ k = 2 ^ (32 * k) := by rw [Nat.pow_mul]
theorem shl_step {s : List Nat} {k W : Nat} (c x p n A A' : Nat) (hn : n = 32 * W + p) (hs : s.length = W + k) (h : vl 4294967296 s + 4294967296 ^ (W + k) * c = A * 2 ^ n) (hA : A' = A + 4294967296 ^ k * x) :
  vl 4294967296 (s ++ [(c + x * 2 ^ p) % 4294967296]) + 4294967296 ^ (W + (k + 1)) * ((c + x * 2 ^ p) / 4294967296) = A' * 2 ^ n := by
 rw [vl_snoc, hs, ← Nat.add_assoc W k 1, Nat.pow_succ, Nat.add_assoc, split_mod, Nat.mul_add, ← Nat.add_assoc, h, hA, Nat.add_mul, hn]
 congr 1
 rw [Nat.pow_add, Nat.pow_add, pow32 W]
 ac_rfl
theorem shl_bound {x c p : Nat} (hx : x < 4294967296) (hc : c < 2 ^ p) : c + x * 2 ^ p < 4294967296 * 2 ^ p := by
 have h1 : (x + 1) * 2 ^ p ≤ 4294967296 * 2 ^ p := Nat.mul_le_mul_right _ hx
 rw [Nat.add_mul, Nat.one_mul] at h1
 omega
theorem two_pow_le_31 {p : Nat} (hp : p ≤ 31) : 2 ^ p ≤ 2147483648 := Nat.pow_le_pow_right (by decide) hp
/-  PLAIN MATHEMATICS of powers: nothing of a program.  -/
def lenZ (z : Int) : Nat := if z < 0 then bl (-1 - z).natAbs else bl z.natAbs
theorem lenZ_gt {z : Int} {k : Nat} (h : 2 ^ k < z.natAbs) : k < lenZ z := by
 unfold lenZ
 split
 ·exact lt_bl_iff.2 (by omega)
 ·exact lt_bl_iff.2 (by omega)
theorem natAbs_pow (x : Int) (n : Nat) : (x ^ n).natAbs = x.natAbs ^ n := Int.natAbs_pow x n
theorem pow_large {M n : Nat} {x : Int} (h1 : 0 < bl x.natAbs - 1) (h2 : M / (bl x.natAbs - 1) < n) : M < lenZ (x ^ n) := by
 apply lenZ_gt
 rw [natAbs_pow]
 rw [Nat.div_lt_iff_lt_mul h1] at h2
 have h3 : 2 ^ (bl x.natAbs - 1) ≤ x.natAbs := lt_bl_iff.1 (by omega)
 have h4 : (2 ^ (bl x.natAbs - 1)) ^ n ≤ x.natAbs ^ n := Nat.pow_le_pow_left h3 n
 rw [← Nat.pow_mul, Nat.mul_comm] at h4
 exact Nat.lt_of_lt_of_le (Nat.pow_lt_pow_right (by decide) h2) h4
theorem pow_small {M n m : Nat} (h : ¬ (0 < bl m - 1 ∧ M / (bl m - 1) < n)) : m ^ n ≤ 2 ^ (2 * M) := by
 by_cases h1 : 0 < bl m - 1
 ·have h2 : ¬ M / (bl m - 1) < n := fun hh => h ⟨h1, hh⟩
  rw [Nat.div_lt_iff_lt_mul h1, Nat.not_lt] at h2
  have h3 : m ^ n ≤ (2 ^ bl m) ^ n := Nat.pow_le_pow_left (Nat.le_of_lt (bl_lt m)) n
  rw [← Nat.pow_mul] at h3
  refine Nat.le_trans h3 (Nat.pow_le_pow_right (by decide) ?_)
  have h4 : bl m * n ≤ 2 * (bl m - 1) * n := Nat.mul_le_mul_right _ (by omega)
  rw [Nat.mul_assoc, Nat.mul_comm (bl m - 1) n] at h4
  omega
 ·have h2 : m < 2 ^ 1 := bl_le_iff.1 (by omega)
  have h3 : m ^ n ≤ 1 ^ n := Nat.pow_le_pow_left (by omega) n
  rw [Nat.one_pow] at h3
  exact Nat.le_trans h3 (Nat.two_pow_pos _)
def PowInv (m n P S left : Nat) : Prop := P * (if left = 0 then 1 else S ^ left) = m ^ n ∧ (m = 0 → S = 0 ∧ P ≤ 1) ∧ (0 < left → 0 < m → 0 < S)
theorem PowInv.start (m n : Nat) : PowInv m n 1 m n := by
 refine ⟨?_, fun h => ⟨h, Nat.le_refl _⟩, fun _ h => h⟩
 split
 ·rename_i h; subst h; simp
 ·simp
theorem PowInv.done {m n P S : Nat} (h : PowInv m n P S 0) : P = m ^ n := by
 have := h.1
 simpa using this
theorem PowInv.le {m n P S left X : Nat} (h : PowInv m n P S left) (hl : 0 < left) (hX : m ^ n ≤ X) (hX1 : 1 ≤ X) : P ≤ X ∧ S ≤ X := by
 by_cases hm : m = 0
 ·have := h.2.1 hm; omega
 ·have h1 := h.1
  rw [if_neg (by omega)] at h1
  have hS := h.2.2 hl (by omega)
  have hp : 0 < m ^ n := Nat.pow_pos (by omega)
  have hP : 0 < P := by
   rcases Nat.eq_zero_or_pos P with h0 | h0
   ·rw [h0, Nat.zero_mul] at h1; omega
   ·exact h0
  constructor
  ·have : P * 1 ≤ P * S ^ left := Nat.mul_le_mul_left _ (Nat.pow_pos hS)
   omega
  ·have h2 : S ^ 1 ≤ S ^ left := Nat.pow_le_pow_right hS hl
   have h3 : 1 * S ^ left ≤ P * S ^ left := Nat.mul_le_mul_right _ hP
   rw [Nat.pow_one] at h2
   omega
theorem PowInv.odd {m n P S left : Nat} (h : PowInv m n P S left) (ho : left % 2 = 1) : PowInv m n (P * S) S (left - 1) := by
 obtain ⟨e, rfl⟩ : ∃ e, left = e + 1 := ⟨left - 1, by omega⟩
 obtain ⟨h1, h2, h3⟩ := h
 rw [if_neg (by omega), Nat.pow_succ] at h1
 refine ⟨?_, fun hm => ?_, fun _ => h3 (by omega)⟩
 ·rw [Nat.add_sub_cancel]
  split
  ·rename_i h0; subst h0; rw [← h1]; simp
  ·rw [← h1]; ac_rfl
 ·obtain ⟨h4, h5⟩ := h2 hm
  subst h4
  exact ⟨rfl, by omega⟩
theorem PowInv.half {m n P S left : Nat} (h : PowInv m n P S left) (hl : 2 ≤ left) (he : left % 2 = 0) : PowInv m n P (S * S) (left / 2) := by
 obtain ⟨h1, h2, h3⟩ := h
 refine ⟨?_, fun hm => ?_, fun _ hm => Nat.mul_pos (h3 (by omega) hm) (h3 (by omega) hm)⟩
 ·rw [if_neg (by omega)] at h1 ⊢
  rw [← h1, ← Nat.pow_two, ← Nat.pow_mul]
  congr 2
  omega
 ·obtain ⟨h4, h5⟩ := h2 hm
  subst h4
  exact ⟨rfl, h5⟩
theorem len_two_pow {x M : Nat} (h : x ≤ 2 ^ (32 * M)) : (digs 4294967296 x).length ≤ M + 1 := by
 apply digs_length_le (by decide)
 rw [pow32]
 exact Nat.lt_of_le_of_lt h (Nat.pow_lt_pow_right (by decide) (by omega))
/-  PLAIN MATHEMATICS of long division by hand (Knuth D): nothing of a program.  -/
structure KD (P D v1 v2 top u0 W : Nat) : Prop where
 hv1 : 2147483648 ≤ v1
 hv1b : v1 < 4294967296
 hv2 : v2 < 4294967296
 hu0 : u0 < 4294967296
 hW : 0 < W
 hD1 : (v1 * 4294967296 + v2) * W ≤ D
 hD2 : D < (v1 * 4294967296 + v2 + 1) * W
 hP1 : (top * 4294967296 + u0) * W ≤ P
 hP2 : P < (top * 4294967296 + u0 + 1) * W
 hPD : P < D * 4294967296
theorem KD.top_lt {P D v1 v2 top u0 W : Nat} (h : KD P D v1 v2 top u0 W) : top < (v1 + 1) * 4294967296 := by
 have h1 := h.hD2
 have h2 := h.hP1
 have h3 := h.hPD
 have h4 : (top * 4294967296 + u0) * W < (v1 * 4294967296 + v2 + 1) * 4294967296 * W := by
  have : D * 4294967296 < (v1 * 4294967296 + v2 + 1) * W * 4294967296 := Nat.mul_lt_mul_of_pos_right h1 (by decide)
  rw [Nat.mul_right_comm] at this
  omega
 have h5 := Nat.lt_of_mul_lt_mul_right h4
 have := h.hv2
 omega
theorem KD.q_le {P D v1 v2 top u0 W : Nat} (h : KD P D v1 v2 top u0 W) : P / D * (v1 * 4294967296 + v2) ≤ top * 4294967296 + u0 := by
 have h1 : P / D * D ≤ P := Nat.div_mul_le_self P D
 have h2 : P / D * ((v1 * 4294967296 + v2) * W) ≤ P / D * D := Nat.mul_le_mul_left _ h.hD1
 have h3 := h.hP2
 rw [← Nat.mul_assoc] at h2
 have h4 : P / D * (v1 * 4294967296 + v2) * W < (top * 4294967296 + u0 + 1) * W := by omega
 have h5 := Nat.lt_of_mul_lt_mul_right h4
 omega
theorem KD.D_pos {P D v1 v2 top u0 W : Nat} (h : KD P D v1 v2 top u0 W) : 4294967296 * W ≤ D := by
 have h1 := h.hD1
 have h2 : 4294967296 * W ≤ (v1 * 4294967296 + v2) * W := Nat.mul_le_mul_right _ (by have := h.hv1; omega)
 omega
theorem KD.q_lt {P D v1 v2 top u0 W : Nat} (h : KD P D v1 v2 top u0 W) : P / D < 4294967296 := by
 have h0 := h.D_pos
 have h1 := h.hW
 rw [Nat.div_lt_iff_lt_mul (by omega), Nat.mul_comm]
 exact h.hPD
theorem KD.le {P D v1 v2 top u0 W d : Nat} (h : KD P D v1 v2 top u0 W) (hd : d * (v1 * 4294967296 + v2) ≤ top * 4294967296 + u0) (hdb : d < 4294967296) : d ≤ P / D + 1 := by
 rcases d with _ | d
 ·exact Nat.zero_le _
 have h0 := h.D_pos
 have hW := h.hW
 rw [Nat.add_le_add_iff_right]
 rw [Nat.le_div_iff_mul_le (by omega)]
 have h1 : (d + 1) * ((v1 * 4294967296 + v2 + 1) * W) ≤ P + 4294967296 * W := by
  have e : (d + 1) * ((v1 * 4294967296 + v2 + 1) * W) = ((d + 1) * (v1 * 4294967296 + v2)) * W + (d + 1) * W := by
   rw [← Nat.mul_assoc, Nat.mul_add (d + 1) (v1 * 4294967296 + v2) 1, Nat.add_mul, Nat.mul_one]
  rw [e]
  have h2 := Nat.mul_le_mul_right W hd
  have h3 := h.hP1
  have h4 : (d + 1) * W ≤ 4294967296 * W := Nat.mul_le_mul_right _ (by omega)
  omega
 have h5 : (d + 1) * D ≤ (d + 1) * ((v1 * 4294967296 + v2 + 1) * W) := Nat.mul_le_mul_left _ (Nat.le_of_lt h.hD2)
 rw [Nat.add_mul, Nat.one_mul] at h5
 omega
theorem kd_test {v1 v2 top u0 d r : Nat} (h : d * v1 + r = top) : d * v2 > r * 4294967296 + u0 ↔ top * 4294967296 + u0 < d * (v1 * 4294967296 + v2) := by
 rw [Nat.mul_add, ← Nat.mul_assoc, ← h, Nat.add_mul]
 omega
theorem KD.ge_of {P D v1 v2 top u0 W d : Nat} (h : KD P D v1 v2 top u0 W) (hd : top * 4294967296 + u0 < d * (v1 * 4294967296 + v2)) : P / D < d := by
 have h1 := h.q_le
 rcases Nat.lt_or_ge (P / D) d with h2 | h2
 ·exact h2
 ·have := Nat.mul_le_mul_right (v1 * 4294967296 + v2) h2
  omega
structure KG (P D v1 v2 top u0 W d r : Nat) : Prop where
 eq : d * v1 + r = top
 ge : P / D ≤ d
theorem KD.start {P D v1 v2 top u0 W : Nat} (h : KD P D v1 v2 top u0 W) : KG P D v1 v2 top u0 W (top / v1) (top % v1) := by
 refine ⟨by rw [Nat.mul_comm]; exact Nat.div_add_mod top v1, ?_⟩
 have h1 := h.q_le
 have hv := h.hv1
 rw [Nat.le_div_iff_mul_le (by omega)]
 rw [Nat.mul_add, ← Nat.mul_assoc] at h1
 have := h.hu0
 omega
theorem KD.start_le {P D v1 v2 top u0 W : Nat} (h : KD P D v1 v2 top u0 W) : top / v1 ≤ 4294967297 := by
 have h1 := h.top_lt
 have hv := h.hv1
 have h2 : top / v1 < 4294967298 := by
  rw [Nat.div_lt_iff_lt_mul (by omega)]
  omega
 omega
theorem KG.step {P D v1 v2 top u0 W d r : Nat} (h : KD P D v1 v2 top u0 W) (g : KG P D v1 v2 top u0 W d r) (ht : 4294967295 < d ∨ r * 4294967296 + u0 < d * v2) : 1 ≤ d ∧ KG P D v1 v2 top u0 W (d - 1) (r + v1) := by
 have hlt : P / D < d := by
  rcases ht with h1 | h1
  ·have := h.q_lt; omega
  ·exact h.ge_of ((kd_test g.eq).1 h1)
 have h1 := g.eq
 refine ⟨Nat.lt_of_le_of_lt (Nat.zero_le _) hlt, ?_, Nat.le_sub_one_of_lt hlt⟩
 have hd0 := Nat.lt_of_le_of_lt (Nat.zero_le _) hlt
 obtain ⟨e, rfl⟩ : ∃ e, d = e + 1 := ⟨d - 1, by omega⟩
 rw [Nat.add_mul] at h1
 rw [Nat.add_sub_cancel]
 omega
theorem KG.done {P D v1 v2 top u0 W d r : Nat} (h : KD P D v1 v2 top u0 W) (g : KG P D v1 v2 top u0 W d r) (ht : d ≤ 4294967295) (ht2 : d * v2 ≤ r * 4294967296 + u0) : P / D ≤ d ∧ d ≤ P / D + 1 ∧ d < 4294967296 := by
 refine ⟨g.ge, h.le ?_ (by omega), by omega⟩
 have h1 : ¬ top * 4294967296 + u0 < d * (v1 * 4294967296 + v2) := fun hh => by
  have := (kd_test g.eq).2 hh; omega
 omega
theorem KG.brk {P D v1 v2 top u0 W d r : Nat} (h : KD P D v1 v2 top u0 W) (g : KG P D v1 v2 top u0 W d r) (hr : 4294967295 < r) : P / D ≤ d ∧ d ≤ P / D + 1 ∧ d < 4294967296 := by
 have h1 := g.eq
 have h2 := h.top_lt
 have hv := h.hv1
 have hd : d < 4294967296 := by
  have : d * v1 < 4294967296 * v1 := by omega
  exact Nat.lt_of_mul_lt_mul_right this
 refine KG.done h g (by omega) ?_
 have h3 : d * v2 ≤ 4294967295 * 4294967295 := Nat.mul_le_mul (by omega) (by have := h.hv2; omega)
 omega
theorem take_step {b : Nat} (p : List Nat) (o k c r x y dg Dk V new r' : Nat) (hk : o + k < p.length) (hy : p[o + k]?.getD 0 = y) (h : vl b p + b ^ o * (dg * Dk) = V + b ^ (o + k) * (c + r)) (hn : y + b * r' = new + (c + x * dg) % b + r) :
  vl b (p.set (o + k) new) + b ^ o * (dg * (Dk + b ^ k * x)) = V + b ^ (o + (k + 1)) * ((c + x * dg) / b + r') := by
 have h1 := vl_set b p (o + k) new hk
 rw [hy] at h1
 have h2 := split_mod (b ^ (o + k)) b (c + x * dg)
 have h3 : b ^ (o + k) * (y + b * r') = b ^ (o + k) * (new + (c + x * dg) % b + r) := by rw [hn]
 have h4 : b ^ o * (dg * (Dk + b ^ k * x)) = b ^ o * (dg * Dk) + b ^ (o + k) * (x * dg) := by rw [Nat.pow_add, Nat.mul_add, Nat.mul_add]; ac_rfl
 rw [h4, ← Nat.add_assoc o k 1, Nat.pow_succ]
 simp only [Nat.mul_add, ← Nat.mul_assoc] at h1 h2 h3 h ⊢
 omega
theorem take_last {b : Nat} (p : List Nat) (o n c r y dg D V new be : Nat) (hk : o + n < p.length) (hy : p[o + n]?.getD 0 = y) (h : vl b p + b ^ o * (dg * D) = V + b ^ (o + n) * (c + r)) (hn : y + b * be = new + c + r) :
  vl b (p.set (o + n) new) + b ^ o * (dg * D) = V + b ^ (o + (n + 1)) * be := by
 have h1 := vl_set b p (o + n) new hk
 rw [hy] at h1
 have h3 : b ^ (o + n) * (y + b * be) = b ^ (o + n) * (new + c + r) := by rw [hn]
 rw [← Nat.add_assoc o n 1, Nat.pow_succ]
 simp only [Nat.mul_add, ← Nat.mul_assoc] at h1 h3 h ⊢
 omega
theorem back_step {b : Nat} (p : List Nat) (o k c x y Dk V : Nat) (hk : o + k < p.length) (hy : p[o + k]?.getD 0 = y) (h : vl b p + b ^ (o + k) * c = V + b ^ o * Dk) :
  vl b (p.set (o + k) ((c + y + x) % b)) + b ^ (o + (k + 1)) * ((c + y + x) / b) = V + b ^ o * (Dk + b ^ k * x) := by
 have h1 := vl_set b p (o + k) ((c + y + x) % b) hk
 rw [hy] at h1
 have h2 := split_mod (b ^ (o + k)) b (c + y + x)
 have h4 : b ^ o * (Dk + b ^ k * x) = b ^ o * Dk + b ^ (o + k) * x := by rw [Nat.pow_add, Nat.mul_add]; ac_rfl
 rw [h4, ← Nat.add_assoc o k 1, Nat.pow_succ]
 simp only [Nat.mul_add] at h1 h2 h ⊢
 omega
theorem back_last {b : Nat} (p : List Nat) (o n c y D V : Nat) (hk : o + n < p.length) (hy : p[o + n]?.getD 0 = y) (h : vl b p + b ^ (o + n) * c = V + b ^ o * D) :
  vl b (p.set (o + n) ((y + c) % b)) + b ^ (o + (n + 1)) * ((y + c) / b) = V + b ^ o * D := by
 have h1 := vl_set b p (o + n) ((y + c) % b) hk
 rw [hy] at h1
 have h2 := split_mod (b ^ (o + n)) b (y + c)
 rw [← Nat.add_assoc o n 1, Nat.pow_succ]
 simp only [Nat.mul_add] at h1 h2 h ⊢
 omega
theorem dig_get {b : Nat} (l : List Nat) (h : ∀ x ∈ l, x < b) (j : Nat) : l[j]?.getD 0 = vl b l / b ^ j % b := by
 induction l generalizing j with
 | nil => simp [vl]
 | cons x xs ih =>
  have hx := h x (List.mem_cons_self ..)
  have ih := ih (fun y hy => h y (List.mem_cons_of_mem _ hy))
  cases j with
  | zero => simp [vl, Nat.mod_eq_of_lt hx]
  | succ j =>
   simp only [List.getElem?_cons_succ, vl]
   rw [ih j, Nat.pow_succ, Nat.mul_comm (b ^ j) b, ← Nat.div_div_eq_div_mul, Nat.add_mul_div_left _ _ (by omega), Nat.div_eq_of_lt hx, Nat.zero_add]
theorem zeros_above {b : Nat} (hb : 2 ≤ b) (l : List Nat) (h : ∀ x ∈ l, x < b) (m j : Nat) (hv : vl b l < b ^ m) (hj : m ≤ j) : l[j]?.getD 0 = 0 := by
 rw [dig_get l h j, Nat.div_eq_of_lt, Nat.zero_mod]
 exact Nat.lt_of_lt_of_le hv (Nat.pow_le_pow_right (by omega) hj)
theorem vl_lt_of_zeros {b : Nat} (hb : 2 ≤ b) (l : List Nat) (h : ∀ x ∈ l, x < b) (m : Nat) (hz : ∀ j, m ≤ j → l[j]?.getD 0 = 0) : vl b l < b ^ m := by
 have h1 : vl b l = vl b (l.take m ++ l.drop m) := by rw [List.take_append_drop]
 rw [h1, vl_append, vl_zeros b (l.drop m)]
 ·have h2 := vl_lt (l.take m) (fun x hx => h x (List.mem_of_mem_take hx))
  have h3 : b ^ (l.take m).length ≤ b ^ m := Nat.pow_le_pow_right (by omega) (by rw [List.length_take]; omega)
  omega
 ·intro x hx
  obtain ⟨j, hj, rfl⟩ := List.getElem_of_mem hx
  have := hz (m + j) (by omega)
  simp only [List.length_drop] at hj
  rw [List.getElem?_eq_getElem (by omega)] at this
  simpa using this
theorem round0 {E D V V1 dg q : Nat} (hE : 0 < E) (hD : 0 < D) (hq : q = V / E / D) (h1 : q ≤ dg) (h : V1 + E * (dg * D) = V) : dg = q ∧ V1 < D * E := by
 have h2 : dg ≤ q := by
  rw [hq, Nat.le_div_iff_mul_le hD, Nat.le_div_iff_mul_le hE, Nat.mul_comm]
  omega
 have e : dg = q := by omega
 subst e
 refine ⟨rfl, ?_⟩
 have h3 : V / E < (dg + 1) * D := by rw [← Nat.div_lt_iff_lt_mul hD, ← hq]; omega
 have h4 : V < (dg + 1) * D * E := by rwa [Nat.div_lt_iff_lt_mul hE] at h3
 rw [Nat.add_mul, Nat.one_mul, Nat.add_mul, Nat.mul_comm (dg * D) E] at h4
 omega
theorem round1 {E D V V1 V2 M ga dg q : Nat} (hE : 0 < E) (hD : 0 < D) (hq : q = V / E / D) (hDM : D * E ≤ M) (h1 : dg ≤ q + 1) (hV1 : V1 < M) (h : V1 + E * (dg * D) = V + M) (h2 : V2 + M * ga = V1 + E * D) (hV2 : V2 < M) :
  dg = q + 1 ∧ V2 + E * (q * D) = V ∧ V2 < D * E := by
 have hqe : q * D * E ≤ V := by
  have h3 : q * D ≤ V / E := by rw [hq]; exact Nat.div_mul_le_self _ _
  exact Nat.le_trans (Nat.mul_le_mul_right E h3) (Nat.div_mul_le_self _ _)
 have h4 : ¬ dg ≤ q := fun hle => by
  have h5 : dg * D * E ≤ q * D * E := Nat.mul_le_mul_right _ (Nat.mul_le_mul_right _ hle)
  rw [Nat.mul_comm E] at h
  omega
 have e : dg = q + 1 := by omega
 subst e
 have h3 : V / E < (q + 1) * D := by rw [← Nat.div_lt_iff_lt_mul hD, ← hq]; omega
 have h4 : V < (q + 1) * D * E := by rwa [Nat.div_lt_iff_lt_mul hE] at h3
 rw [Nat.add_mul, Nat.one_mul, Nat.add_mul] at h4
 rw [Nat.add_mul, Nat.one_mul, Nat.mul_add, Nat.mul_comm E (q * D), Nat.mul_comm E D] at h
 rw [Nat.mul_comm E D] at h2
 rw [Nat.mul_comm E (q * D)]
 have hg : ga = 1 := by
  rcases ga with _ | _ | ga
  ·omega
  ·rfl
  ·rw [Nat.mul_add, Nat.mul_add] at h2
   omega
 subst hg
 exact ⟨rfl, by omega, by omega⟩
/-  PLAIN MATHEMATICS of long division: what the first limbs give.  -/
theorem two_digits {b : Nat} (D n v1 v2 : Nat) (hb : 2 ≤ b) (hD : D < b ^ n) (hn : 2 ≤ n) (h1 : D / b ^ (n - 1) % b = v1) (h2 : D / b ^ (n - 2) % b = v2) : D / b ^ (n - 2) = v1 * b + v2 := by
 obtain ⟨j, rfl⟩ : ∃ j, n = j + 2 := ⟨n - 2, by omega⟩
 rw [show j + 2 - 2 = j by omega] at *
 rw [show j + 2 - 1 = j + 1 by omega, Nat.pow_succ, ← Nat.div_div_eq_div_mul] at h1
 have h3 : D / b ^ j < b * b := by
  rw [Nat.div_lt_iff_lt_mul (Nat.pow_pos (by omega)), Nat.mul_comm]
  rw [Nat.pow_add, Nat.pow_two] at hD
  exact hD
 have h4 : D / b ^ j / b < b := by rw [Nat.div_lt_iff_lt_mul (by omega)]; exact h3
 rw [Nat.mod_eq_of_lt h4] at h1
 have h5 := Nat.div_add_mod (D / b ^ j) b
 rw [h1, h2, Nat.mul_comm] at h5
 exact h5.symm
theorem kd_of (p ld : List Nat) (m n : Nat) (hp : ∀ x ∈ p, x < 4294967296) (hl : ∀ x ∈ ld, x < 4294967296) (hn : ld.length = n) (hn2 : 2 ≤ n) (htop : 2147483648 ≤ ld[n - 1]?.getD 0) (hv : vl 4294967296 p < vl 4294967296 ld * 4294967296 ^ (m + 1)) :
  KD (vl 4294967296 p / 4294967296 ^ m) (vl 4294967296 ld) (ld[n - 1]?.getD 0) (ld[n - 2]?.getD 0) (p[m + (n - 1)]?.getD 0 + 4294967296 * p[m + n]?.getD 0) (p[m + (n - 2)]?.getD 0) (4294967296 ^ (n - 2)) := by
 obtain ⟨i, rfl⟩ : ∃ i, n = i + 2 := ⟨n - 2, by omega⟩
 rw [show i + 2 - 2 = i by omega, show i + 2 - 1 = i + 1 by omega] at *
 have hs : ∀ k, (4294967296 : Nat) ^ (k + 1) = 4294967296 ^ k * 4294967296 := fun k => Nat.pow_succ _ _
 have g := fun j => dig_get (b := 4294967296) p hp j
 have gl := fun j => dig_get (b := 4294967296) ld hl j
 have hDb := vl_lt ld hl
 rw [hn] at hDb
 have hW : 0 < 4294967296 ^ i := Nat.pow_pos (by decide)
 have hDW := two_digits (b := 4294967296) (vl 4294967296 ld) (i + 2) _ _ (by decide) hDb hn2 (gl (i + 1)).symm (gl i).symm
 -- the part
 have hPD : vl 4294967296 p / 4294967296 ^ m < vl 4294967296 ld * 4294967296 := by
  rw [Nat.div_lt_iff_lt_mul (Nat.pow_pos (by decide)), Nat.mul_assoc, Nat.mul_comm 4294967296 (4294967296 ^ m), ← hs]
  exact hv
 have hQ : vl 4294967296 p / 4294967296 ^ m / 4294967296 ^ i = vl 4294967296 p / 4294967296 ^ (m + i) := by rw [Nat.div_div_eq_div_mul, ← Nat.pow_add]
 have e1 : vl 4294967296 p / 4294967296 ^ (m + (i + 1)) = vl 4294967296 p / 4294967296 ^ (m + i) / 4294967296 := by
  rw [Nat.div_div_eq_div_mul, ← hs, Nat.add_assoc]
 have e2 : vl 4294967296 p / 4294967296 ^ (m + (i + 2)) = vl 4294967296 p / 4294967296 ^ (m + i) / 4294967296 / 4294967296 := by
  rw [Nat.div_div_eq_div_mul, Nat.div_div_eq_div_mul, ← Nat.mul_assoc, ← hs, ← hs]
  rfl
 have hb3 : vl 4294967296 p / 4294967296 ^ (m + i) < 4294967296 * 4294967296 * 4294967296 := by
  rw [← hQ]
  refine Nat.div_lt_of_lt_mul (Nat.lt_of_lt_of_le hPD ?_)
  have h6 : vl 4294967296 ld ≤ 4294967296 ^ i * (4294967296 * 4294967296) := by
   have : 4294967296 ^ (i + 2) = 4294967296 ^ i * (4294967296 * 4294967296) := by
    rw [← Nat.mul_assoc, ← hs, ← hs]
   omega
  have h7 := Nat.mul_le_mul_right 4294967296 h6
  rw [Nat.mul_assoc] at h7
  exact h7
 have g0 := g (m + i)
 have g1 := g (m + (i + 1))
 have g2 := g (m + (i + 2))
 rw [e1] at g1
 rw [e2] at g2
 have htopu : vl 4294967296 p / 4294967296 ^ m / 4294967296 ^ i = (p[m + (i + 1)]?.getD 0 + 4294967296 * p[m + (i + 2)]?.getD 0) * 4294967296 + p[m + i]?.getD 0 := by
  rw [hQ]
  generalize vl 4294967296 p / 4294967296 ^ (m + i) = X at *
  omega
 have hlt : ∀ (l : List Nat) (j : Nat), (∀ x ∈ l, x < 4294967296) → l[j]?.getD 0 < 4294967296 := by
  intro l j h
  rcases Nat.lt_or_ge j l.length with h1 | h1
  ·rw [List.getElem?_eq_getElem h1]; exact h _ (List.getElem_mem h1)
  ·rw [List.getElem?_eq_none h1]; decide
 refine ⟨htop, hlt _ _ hl, hlt _ _ hl, hlt _ _ hp, hW, ?_, ?_, ?_, ?_, hPD⟩
 ·rw [← hDW]; exact Nat.div_mul_le_self _ _
 ·rw [← hDW, Nat.add_mul, Nat.one_mul]; exact Nat.lt_div_mul_add hW
 ·rw [← htopu]; exact Nat.div_mul_le_self _ _
 ·rw [← htopu, Nat.add_mul, Nat.one_mul]; exact Nat.lt_div_mul_add hW
/-  PLAIN MATHEMATICS of long division: its rounds.  -/
theorem norm_facts (b n t : Nat) (ht : t ≠ 0) (htb : t < 4294967296) (hbl : bl b = 32 * n + bl t) :
  (digs 4294967296 (b * 2 ^ (32 - bl t))).length = n + 1 ∧ 2147483648 ≤ (digs 4294967296 (b * 2 ^ (32 - bl t)))[n]?.getD 0 ∧ 2 ^ (32 * n + 31) ≤ b * 2 ^ (32 - bl t) := by
 have hbt : bl t ≤ 32 := bl_le_iff.2 (by omega)
 have hbt0 : 0 < bl t := by have := mt bl_eq_zero.1 ht; omega
 have h1 : b * 2 ^ (32 - bl t) < 2 ^ (32 * (n + 1)) := by
  have h2 := bl_lt b
  have h3 : b * 2 ^ (32 - bl t) < 2 ^ bl b * 2 ^ (32 - bl t) := Nat.mul_lt_mul_of_pos_right h2 (Nat.two_pow_pos _)
  rw [← Nat.pow_add, hbl, show 32 * n + bl t + (32 - bl t) = 32 * (n + 1) by omega] at h3
  exact h3
 have h4 : 2 ^ (32 * n + 31) ≤ b * 2 ^ (32 - bl t) := by
  have h5 : 2 ^ (bl b - 1) ≤ b := lt_bl_iff.1 (by omega)
  have h6 := Nat.mul_le_mul_right (2 ^ (32 - bl t)) h5
  rw [← Nat.pow_add, hbl, show 32 * n + bl t - 1 + (32 - bl t) = 32 * n + 31 by omega] at h6
  exact h6
 generalize b * 2 ^ (32 - bl t) = D at *
 have h7 : (digs 4294967296 D).length ≤ n + 1 := digs_length_le (by decide) _ _ (by rw [pow32]; exact h1)
 have h8 : ¬ (digs 4294967296 D).length ≤ n := fun hh => by
  have h9 := digs_lt_pow (b := 4294967296) (by decide) D
  have h10 : (4294967296 : Nat) ^ (digs 4294967296 D).length ≤ 4294967296 ^ n := Nat.pow_le_pow_right (by decide) hh
  rw [pow32 n] at h10
  have h11 : (2 : Nat) ^ (32 * n) ≤ 2 ^ (32 * n + 31) := Nat.pow_le_pow_right (by decide) (by omega)
  omega
 refine ⟨by omega, ?_, h4⟩
 rw [dig_get _ (digs_lt (by decide) D), vl_digs (by decide)]
 have h12 : D / 4294967296 ^ n < 4294967296 := by
  rw [Nat.div_lt_iff_lt_mul (Nat.pow_pos (by decide)), Nat.mul_comm, ← Nat.pow_succ, pow32]
  exact h1
 rw [Nat.mod_eq_of_lt h12, Nat.le_div_iff_mul_le (Nat.pow_pos (by decide)), pow32]
 have h13 : (2 : Nat) ^ (32 * n + 31) = 2147483648 * 2 ^ (32 * n) := by rw [Nat.pow_add, Nat.mul_comm]
 omega
theorem first_lt (a D la n up : Nat) (ha : a < 4294967296 ^ la) (hup : up ≤ 31) (hn : n + 1 ≤ la + 1) (hD : 2 ^ (32 * n + 31) ≤ D) : a * 2 ^ up < D * 4294967296 ^ (la + 1 - (n + 1)) ∧ a * 2 ^ up < 4294967296 ^ (la + 1) := by
 have h1 : a * 2 ^ up < 2 ^ (32 * la + 31) := by
  rw [pow32] at ha
  have h2 : a * 2 ^ up < 2 ^ (32 * la) * 2 ^ up := Nat.mul_lt_mul_of_pos_right ha (Nat.two_pow_pos _)
  rw [← Nat.pow_add] at h2
  exact Nat.lt_of_lt_of_le h2 (Nat.pow_le_pow_right (by decide) (by omega))
 constructor
 ·refine Nat.lt_of_lt_of_le h1 ?_
  have h3 := Nat.mul_le_mul_right (4294967296 ^ (la + 1 - (n + 1))) hD
  rw [pow32, ← Nat.pow_add, show 32 * n + 31 + 32 * (la + 1 - (n + 1)) = 32 * la + 31 by omega, ← pow32] at h3
  exact h3
 ·rw [pow32]
  exact Nat.lt_of_lt_of_le h1 (Nat.pow_le_pow_right (by decide) (by omega))
theorem long_done (a b up Q R : Nat) (hb : 0 < b) (h : a * 2 ^ up = b * 2 ^ up * Q + R) (hR : R < b * 2 ^ up) : Q = a / b ∧ R / 2 ^ up = a % b := by
 have hu := Nat.two_pow_pos up
 have h1 : a * 2 ^ up / (b * 2 ^ up) = Q ∧ a * 2 ^ up % (b * 2 ^ up) = R := by
  rw [Nat.div_mod_unique (Nat.mul_pos hb hu)]
  exact ⟨by rw [h, Nat.add_comm], hR⟩
 rw [Nat.mul_div_mul_right _ _ hu, Nat.mul_mod_mul_right] at h1
 refine ⟨h1.1.symm, ?_⟩
 rw [← h1.2, Nat.mul_div_cancel _ hu]
theorem long_round {b : Nat} (A D k V V2 q : Nat) (Q : List Nat) (h : A = D * (b ^ (k + 1) * vl b (Q.drop (k + 1))) + V) (hk : k < Q.length) (h2 : V2 + b ^ k * (q * D) = V) :
  A = D * (b ^ k * vl b ((Q.set k q).drop k)) + V2 := by
 have e : (Q.set k q).drop k = q :: Q.drop (k + 1) := by
  rw [List.drop_eq_getElem_cons (by rw [List.length_set]; exact hk)]
  congr 1
  ·simp
  ·apply List.ext_getElem?
   intro j
   rw [List.getElem?_drop, List.getElem?_drop, List.getElem?_set_ne (by omega)]
 rw [e, vl, h, ← h2, Nat.pow_succ]
 have e1 : D * (b ^ k * b * vl b (Q.drop (k + 1))) = D * (b ^ k * (b * vl b (Q.drop (k + 1)))) := by rw [Nat.mul_assoc (b ^ k)]
 have e2 : b ^ k * (q * D) = D * (b ^ k * q) := by ac_rfl
 rw [e1, e2, Nat.mul_add (b ^ k), Nat.mul_add D]
 omega
/-  PLAIN MATHEMATICS of shifts to the right: nothing of a program.  -/
theorem vl_of_digits {b : Nat} (p : List Nat) (M : Nat) (hM : M < b ^ p.length) (h : ∀ j, j < p.length → p[j]?.getD 0 = M / b ^ j % b) : vl b p = M := by
 induction p generalizing M with
 | nil => simp at hM; simp [vl, hM]
 | cons x xs ih =>
  have h0 := h 0 (by simp)
  simp at h0
  have h1 := ih (M / b) (by rw [List.length_cons, Nat.pow_succ] at hM; exact Nat.div_lt_of_lt_mul (by rw [Nat.mul_comm]; exact hM)) (fun j hj => by
   have := h (j + 1) (by simpa using hj)
   simp only [List.getElem?_cons_succ] at this
   rw [this, Nat.pow_succ, Nat.mul_comm, Nat.div_div_eq_div_mul])
  rw [vl, h1, h0]
  exact Nat.mod_add_div M b
theorem shr_digit (Q p : Nat) (hp : p ≤ 31) : (Q % 4294967296 + 4294967296 * (Q / 4294967296 % 4294967296)) / 2 ^ p % 4294967296 = Q / 2 ^ p % 4294967296 := by
 have e1 : Q % 4294967296 + 4294967296 * (Q / 4294967296 % 4294967296) = Q % (4294967296 * 4294967296) := by
  rw [Nat.mod_mul]
 rw [e1]
 have h2 : (4294967296 : Nat) * 4294967296 = 2 ^ p * (2 ^ (32 - p) * 4294967296) := by
  rw [← Nat.mul_assoc, ← Nat.pow_add, show p + (32 - p) = 32 by omega]
 have h3 := Nat.mod_add_div Q (4294967296 * 4294967296)
 have h4 : Q / 2 ^ p = Q % (4294967296 * 4294967296) / 2 ^ p + 4294967296 * (2 ^ (32 - p) * (Q / (4294967296 * 4294967296))) := by
  have e : Q = Q % (4294967296 * 4294967296) + 2 ^ p * (4294967296 * (2 ^ (32 - p) * (Q / (4294967296 * 4294967296)))) := by
   have e2 : 2 ^ p * (4294967296 * (2 ^ (32 - p) * (Q / (4294967296 * 4294967296)))) = 4294967296 * 4294967296 * (Q / (4294967296 * 4294967296)) := by
    rw [h2]; ac_rfl
   rw [e2]
   exact h3.symm
  have e5 : Q / 2 ^ p = (Q % (4294967296 * 4294967296) + 2 ^ p * (4294967296 * (2 ^ (32 - p) * (Q / (4294967296 * 4294967296))))) / 2 ^ p := by rw [← e]
  rw [e5, Nat.add_mul_div_left _ _ (Nat.two_pow_pos p)]
 rw [h4, Nat.add_mul_mod_self_left]
theorem shr_of (m W p k : Nat) : m / 2 ^ (32 * W + p) / 4294967296 ^ k = m / 4294967296 ^ (W + k) / 2 ^ p := by
 rw [Nat.div_div_eq_div_mul, Nat.div_div_eq_div_mul, pow32, pow32, ← Nat.pow_add, ← Nat.pow_add]
 congr 2
 omega
theorem shr_lt (m W p n : Nat) (h : m < 4294967296 ^ (W + n)) : m / 2 ^ (32 * W + p) < 4294967296 ^ n := by
 rw [Nat.pow_add, ← Nat.div_div_eq_div_mul, ← pow32]
 rw [Nat.pow_add] at h
 exact Nat.lt_of_le_of_lt (Nat.div_le_self _ _) (Nat.div_lt_of_lt_mul h)
/-  PLAIN MATHEMATICS of square roots (Newton): nothing of a program.  -/
theorem four_mul_le (a b : Nat) : 4 * (a * b) ≤ (a + b) * (a + b) := by
 rcases Nat.le_total a b with h | h
 ·obtain ⟨d, rfl⟩ := Nat.exists_eq_add_of_le h
  have e : (a + (a + d)) * (a + (a + d)) = 4 * (a * (a + d)) + d * d := by
   simp only [Nat.mul_add, Nat.add_mul]
   have := Nat.mul_comm a d
   omega
  omega
 ·obtain ⟨d, rfl⟩ := Nat.exists_eq_add_of_le h
  have e : (b + d + b) * (b + d + b) = 4 * ((b + d) * b) + d * d := by
   simp only [Nat.mul_add, Nat.add_mul]
   have := Nat.mul_comm b d
   omega
  omega
theorem newton_ge (m r : Nat) (hr : 0 < r) : m < ((r + m / r) / 2 + 1) * ((r + m / r) / 2 + 1) := by
 have h1 : m < r * (m / r + 1) := by
  have := Nat.lt_mul_div_succ m hr
  exact this
 have h2 := four_mul_le r (m / r + 1)
 generalize m / r = q at *
 have h3 : r + (q + 1) ≤ 2 * ((r + q) / 2 + 1) := by omega
 generalize (r + q) / 2 + 1 = t at *
 have h4 : (r + (q + 1)) * (r + (q + 1)) ≤ (2 * t) * (2 * t) := Nat.mul_le_mul h3 h3
 have h5 : (2 * t) * (2 * t) = 4 * (t * t) := by
  rw [Nat.mul_mul_mul_comm]
 omega
theorem newton_done (m r : Nat) (h : r ≤ (r + m / r) / 2) : r * r ≤ m := by
 have h1 : r ≤ m / r := by generalize m / r = q at *; omega
 exact Nat.le_trans (Nat.mul_le_mul_left r h1) (Nat.mul_div_le m r)
theorem newton_pos (m r : Nat) (hr : 0 < r) (hm : 0 < m) : 0 < (r + m / r) / 2 := by
 rcases Nat.eq_zero_or_pos ((r + m / r) / 2) with h0 | h0
 ·have h1 := newton_ge m r hr
  rw [h0] at h1
  omega
 ·exact h0
end Digs
