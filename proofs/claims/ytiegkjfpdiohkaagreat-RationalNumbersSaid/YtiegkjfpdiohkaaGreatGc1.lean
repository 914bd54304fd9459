/- Gcd: smallGcd, first, and what Lehmer's steps lead to. -/
import Derived.Test.YtiegkjfpdiohkaaGreatLeh
import Derived.Test.YtiegkjfpdiohkaaGreatPowers
namespace Go.Proofs.YtiegkjfpdiohkaaGreat
namespace Leh

theorem Out.fin {A B s u0 u1 v0 v1 : Nat} {odd : Bool} (h : Out (A * s) (B * s) u0 u1 v0 v1 odd) (hs : 0 < s) :
    ∃ C D : Nat, (odd = false → C + v0 * B = u0 * A ∧ D + u1 * A = v1 * B) ∧ (odd = true → C + u0 * A = v0 * B ∧ D + v1 * B = u1 * A) ∧ D < C ∧ C ≤ B ∧ Nat.gcd C D = Nat.gcd A B := by
  obtain ⟨h0, h1, hone, _, _, _, _⟩ := h
  cases odd with
  | false =>
    obtain ⟨a1, a2, a3⟩ := h0 rfl
    rw [← Nat.mul_assoc, ← Nat.mul_assoc] at a1 a2
    have b1 := Nat.le_of_mul_le_mul_right a1 hs
    have b2 := Nat.lt_of_mul_lt_mul_right a2
    have e1 : (v0 + v1) * B = v0 * B + v1 * B := Nat.add_mul _ _ _
    have e2 : (u0 + u1) * A = u0 * A + u1 * A := Nat.add_mul _ _ _
    obtain ⟨D, hD⟩ : ∃ D, D + u1 * A = v1 * B := ⟨v1 * B - u1 * A, by omega⟩
    obtain ⟨C, hC⟩ : ∃ C, C + v0 * B = u0 * A := ⟨u0 * A - v0 * B, by omega⟩
    have hB : u1 * C + u0 * D = B := by grind
    have hA : v1 * C + v0 * D = A := by grind
    refine ⟨C, D, fun _ => ⟨hC, hD⟩, (by intro h; cases h), by omega, ?_, ?_⟩
    · rw [← hB]
      exact Nat.le_trans (Nat.le_mul_of_pos_left _ hone) (Nat.le_add_right _ _)
    · apply Nat.dvd_antisymm
      · have d1 := Nat.gcd_dvd_left C D
        have d2 := Nat.gcd_dvd_right C D
        refine Nat.dvd_gcd ?_ ?_
        · rw [← hA]; exact Nat.dvd_add (Nat.dvd_trans d1 (Nat.dvd_mul_left _ _)) (Nat.dvd_trans d2 (Nat.dvd_mul_left _ _))
        · rw [← hB]; exact Nat.dvd_add (Nat.dvd_trans d1 (Nat.dvd_mul_left _ _)) (Nat.dvd_trans d2 (Nat.dvd_mul_left _ _))
      · have d1 := Nat.gcd_dvd_left A B
        have d2 := Nat.gcd_dvd_right A B
        refine Nat.dvd_gcd ?_ ?_
        · exact (Nat.dvd_add_left (Nat.dvd_trans d2 (Nat.dvd_mul_left _ _))).1 (by rw [hC]; exact Nat.dvd_trans d1 (Nat.dvd_mul_left _ _))
        · exact (Nat.dvd_add_left (Nat.dvd_trans d1 (Nat.dvd_mul_left _ _))).1 (by rw [hD]; exact Nat.dvd_trans d2 (Nat.dvd_mul_left _ _))
  | true =>
    obtain ⟨a1, a2, a3⟩ := h1 rfl
    rw [← Nat.mul_assoc, ← Nat.mul_assoc] at a1 a2
    have b1 := Nat.le_of_mul_le_mul_right a1 hs
    have b2 := Nat.lt_of_mul_lt_mul_right a2
    have e1 : (v0 + v1) * B = v0 * B + v1 * B := Nat.add_mul _ _ _
    have e2 : (u0 + u1) * A = u0 * A + u1 * A := Nat.add_mul _ _ _
    obtain ⟨D, hD⟩ : ∃ D, D + v1 * B = u1 * A := ⟨u1 * A - v1 * B, by omega⟩
    obtain ⟨C, hC⟩ : ∃ C, C + u0 * A = v0 * B := ⟨v0 * B - u0 * A, by omega⟩
    have hB : u1 * C + u0 * D = B := by grind
    have hA : v1 * C + v0 * D = A := by grind
    refine ⟨C, D, (by intro h; cases h), fun _ => ⟨hC, hD⟩, by omega, ?_, ?_⟩
    · rw [← hB]
      exact Nat.le_trans (Nat.le_mul_of_pos_left _ hone) (Nat.le_add_right _ _)
    · apply Nat.dvd_antisymm
      · have d1 := Nat.gcd_dvd_left C D
        have d2 := Nat.gcd_dvd_right C D
        refine Nat.dvd_gcd ?_ ?_
        · rw [← hA]; exact Nat.dvd_add (Nat.dvd_trans d1 (Nat.dvd_mul_left _ _)) (Nat.dvd_trans d2 (Nat.dvd_mul_left _ _))
        · rw [← hB]; exact Nat.dvd_add (Nat.dvd_trans d1 (Nat.dvd_mul_left _ _)) (Nat.dvd_trans d2 (Nat.dvd_mul_left _ _))
      · have d1 := Nat.gcd_dvd_left A B
        have d2 := Nat.gcd_dvd_right A B
        refine Nat.dvd_gcd ?_ ?_
        · exact (Nat.dvd_add_left (Nat.dvd_trans d1 (Nat.dvd_mul_left _ _))).1 (by rw [hC]; exact Nat.dvd_trans d2 (Nat.dvd_mul_left _ _))
        · exact (Nat.dvd_add_left (Nat.dvd_trans d2 (Nat.dvd_mul_left _ _))).1 (by rw [hD]; exact Nat.dvd_trans d1 (Nat.dvd_mul_left _ _))

end Leh
section
open Go.RowKit Digs

theorem smallGcd_any (a b : Nat) (w : World) (ha : a < 4294967296) (hb : b < 4294967296) :
    Calls Tryz.prog 138 #[.int .u32 a, .int .u32 b] w fun e w' => e = .returned (.int .u32 (Nat.gcd a b : Nat)) ∧ ∃ n, w' = w.drewN n := by
  go_enter Tryz.func138, Tryz.ntmps138
  go_wp2
  go_loopw [0, 1] (fun x y wr => ∃ p q n : Nat, x = .int .u32 p ∧ y = .int .u32 q ∧ p < 4294967296 ∧ q < 4294967296 ∧ Nat.gcd p q = Nat.gcd a b ∧ wr = w.drewN n) (fun _ y _ => (intOf y).toNat)
  case atStart => exact ⟨a, b, 0, rfl, rfl, ha, hb, rfl, rfl⟩
  case round =>
    obtain ⟨p, q, n, rfl, rfl, hp, hq, hg, rfl⟩ := hrel
    have HG := Lib.hid hg
    clear hg
    by_cases h0 : q = 0
    · subst h0
      go_wp2
      go_ret
      have h1 := HG.out
      rw [Nat.gcd_zero_right] at h1
      exact ⟨by rw [← h1]; rfl, n, rfl⟩
    · have h1 : ((q : Int) != 0) = true := by rw [bne_iff_ne]; omega
      obtain ⟨m, hm⟩ : ∃ m, m = p % q := ⟨_, rfl⟩
      have hmq : m < q := by rw [hm]; exact Nat.mod_lt _ (by omega)
      have hmi : (p : Int) % (q : Int) = (m : Int) := by rw [hm, Int.natCast_emod]
      have HM := Lib.hid hm
      clear hm
      have h2 : (0 : Int) < (q : Int) := by omega
      clear h0
      go_wp2_with fail
      go_quiet (fail)
      go_wp2
      go_roundw
      case rel =>
        refine ⟨q, m, n + nq, rfl, by rw [hmi], hq, by omega, ?_, by rw [World.drewN_drewN]⟩
        rw [← HG.out, HM.out, Nat.gcd_comm q (p % q), ← Nat.gcd_rec, Nat.gcd_comm]
      case measure => simp [intOf]; omega

end
end Go.Proofs.YtiegkjfpdiohkaaGreat
