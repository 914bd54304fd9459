/-  The reference's Int64.  -/
import Derived.Test.YtiegkjfpdiohkaaGreatBm
import Derived.Test.YtiegkjfpdiohkaaGreatRPow
namespace Go.Proofs.YtiegkjfpdiohkaaGreat
open Go.RowKit Digs

theorem horner (m i : Nat) : m / 65536 ^ (i + 1) * 65536 + m / 65536 ^ i % 65536 = m / 65536 ^ i := by
  rw [Nat.pow_succ, ← Nat.div_div_eq_div_mul]
  omega

theorem fits_sgn (z : Int) : fits64 z = true ↔ ¬ sgnZ (z - (-9223372036854775808)) < 0 ∧ ¬ 0 < sgnZ (z - 9223372036854775807) := by
  unfold fits64 sgnZ
  rw [decide_eq_true_iff]
  constructor
  · intro h
    constructor <;> (split <;> (try split) <;> omega)
  · rintro ⟨h1, h2⟩
    constructor
    · split at h1
      · omega
      · omega
    · split at h2
      · omega
      · split at h2 <;> omega

end Go.Proofs.YtiegkjfpdiohkaaGreat
