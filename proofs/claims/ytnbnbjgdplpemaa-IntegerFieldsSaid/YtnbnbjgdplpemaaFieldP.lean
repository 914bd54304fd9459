/-  Shift, Field, Deposit: both sides' pairs.  -/
import Derived.Test.YtnbnbjgdplpemaaRDp
import Derived.Deep.CutRange
namespace Go.Proofs.Ytnbnbjgdplpemaa
open Go.RowKit Digs

theorem rlen_le8 {x : Int} (h : Bd 8 x) : rlen x ≤ 16 := by
  unfold rlen
  refine digs_length_le (by decide) _ _ ?_
  unfold Bd at h
  rw [pow32] at h
  rw [pow16]
  exact h
theorem two_pow_bd' {k m : Nat} (hk : k < 32 * m) : Bd m ((2 : Int) ^ k) := by
  unfold Bd
  rw [Int.natAbs_pow, show ((2 : Int)).natAbs = 2 from rfl, pow32]
  exact Nat.pow_lt_pow_right (by decide) hk
theorem two_pow_bd {k : Nat} (hk : k ≤ 300) : Bd 10 ((2 : Int) ^ k) := two_pow_bd' (by omega)
theorem gone_neg {x : Int} {k : Nat} (h0 : x < 0) (hk : bl x.natAbs < k) : x / 2 ^ k = -1 := by
  have h := shd_neg x k (min k (bl x.natAbs)) h0 rfl
  rw [Nat.min_eq_right (by omega), Nat.div_eq_of_lt (Nat.lt_of_lt_of_le (show (-1 - x).natAbs < x.natAbs by omega) (Nat.le_of_lt (bl_lt _)))] at h
  rw [← h]; rfl
theorem gone_pos {x : Int} {k : Nat} (h0 : 0 < x) (hk : bl x.natAbs < k) : x / 2 ^ k = 0 := by
  have h := shd_pos x.natAbs k (min k (bl x.natAbs)) rfl
  rw [Nat.min_eq_right (by omega), Nat.div_eq_of_lt (bl_lt _), show (x.natAbs : Int) = x by omega] at h
  rw [← h]; rfl

theorem shift_pair (x n : Int) (hB : Bd 8 x) (hlo : -9223372036854775808 ≤ n) (hhi : n ≤ 9223372036854775807) (hn : n ≤ 300 ∨ 65536 < n) :
    ∃ z c : Int, (∀ W u, IntV W u x → Calls Try.prog 50 #[u, .int .i64 n] W (IntRes W z c)) ∧ (∀ W u, RefV W u x → Calls Try.prog 55 #[u, .int .i64 n] W (RefRes W z c)) ∧ len z ≤ 1000000 ∧ rlen z ≤ 1000000 := by
  have hl8 : len x ≤ 1000000 := len_le (by decide) hB
  have hrl : rlen x ≤ 40000 := Nat.le_trans (rlen_le8 hB) (by decide)
  have hlz : lenZ x ≤ 256 := lenZ_bda hB (by decide)
  by_cases h0 : x = 0
  · refine ⟨0, 0, fun W u hu => ?_, fun W u hu => rShift_zero x u n W hrl h0 hu, len_le (by decide) Bd.zero, rlen_bd Bd.zero (by decide)⟩
    by_cases hn1 : n ≤ 0
    · obtain ⟨k, rfl⟩ : ∃ k : Nat, n = -(k : Int) := ⟨n.natAbs, by omega⟩
      have h := Shift_down x u k W hl8 (by omega) hu
      rw [show x / 2 ^ k = 0 by rw [h0]; exact Int.zero_ediv _] at h
      exact h
    · obtain ⟨k, rfl⟩ : ∃ k : Nat, n = (k : Int) := ⟨n.toNat, by omega⟩
      exact Shift_zero x u k W hl8 (by omega) hu h0
  · by_cases hbig : 65536 < n
    · obtain ⟨k, rfl⟩ : ∃ k : Nat, n = (k : Int) := ⟨n.toNat, by omega⟩
      exact ⟨0, 14, fun W u hu => (Shift_large x u k W hl8 (by omega) (by omega) hu h0 (by omega)).mono fun _ _ h => h.res, fun W u hu => (rShift_large x u k W hrl h0 hbig hu).mono fun _ _ h => h.res, len_le (by decide) Bd.zero, rlen_bd Bd.zero (by decide)⟩
    · by_cases hn0 : 0 ≤ n
      · obtain ⟨k, rfl⟩ : ∃ k : Nat, n = (k : Int) := ⟨n.toNat, by omega⟩
        have hBz : Bd 18 (x * 2 ^ k) := (hB.mul (two_pow_bd (k := k) (by omega))).up (by decide)
        refine ⟨x * 2 ^ k, 0, fun W u hu => ?_, fun W u hu => rShift_up x u k W hrl h0 (by omega) (by omega) hu, len_le (by decide) hBz, rlen_bd hBz (by decide)⟩
        by_cases hk0 : k = 0
        · subst hk0
          have h := Shift_down x u 0 W hl8 (by decide) hu
          rw [show x / 2 ^ 0 = x * 2 ^ 0 by rw [Int.pow_zero, Int.ediv_one, Int.mul_one]] at h
          exact h
        · exact Shift_up x u k W hl8 (by omega) hu h0 (by omega)
      · obtain ⟨k, rfl⟩ : ∃ k : Nat, n = -(k : Int) := ⟨n.natAbs, by omega⟩
        have hBz : Bd 8 (x / 2 ^ k) := Nat.lt_of_le_of_lt (Int.natAbs_ediv_le_natAbs _ _) hB
        refine ⟨x / 2 ^ k, 0, fun W u hu => Shift_down x u k W hl8 (by omega) hu, fun W u hu => ?_, len_le (by decide) hBz, rlen_bd hBz (by decide)⟩
        by_cases hk : bl x.natAbs < k
        · by_cases hneg : x < 0
          · rw [gone_neg hneg hk]
            exact rShift_gone_neg x u k W hrl hneg hk (by omega) hu
          · rw [gone_pos (by omega) hk]
            exact rShift_gone_pos x u k W hrl (by omega) hk (by omega) hu
        · exact rShift_floor x u k W hrl h0 (by omega) (by omega) (by have := bl_bd hB; omega) hu

theorem onesN_len2 (s p : Nat) (hs : s ≤ 300) (hp : p ≤ 300) : len ((onesN s p : Nat) : Int) ≤ 100 := by
  unfold len onesN
  rw [Int.natAbs_natCast]
  refine Nat.le_trans (digs_length_le (by decide) _ ((s + p) / 32 + 1) ?_) (by omega)
  rw [pow32]
  have h1 : (1 * 2 ^ s - 1) * 2 ^ p ≤ 2 ^ s * 2 ^ p := Nat.mul_le_mul_right _ (by omega)
  rw [← Nat.pow_add] at h1
  exact Nat.lt_of_le_of_lt h1 (Nat.pow_lt_pow_right (by decide) (by omega))
theorem shr_len {z : Int} {k : Nat} (p : Nat) (h : len z ≤ k) : len (z / 2 ^ p) ≤ k := Nat.le_trans (digs_length_mono (by decide) (Int.natAbs_ediv_le_natAbs _ _)) h
theorem fieldZ_len {z : Int} (s p : Nat) (hs : s ≤ 300) (h : len z ≤ 100) : len (fieldZ z s p) ≤ 101 := boolZ_len 8 (shr_len p h) (onesN_len2 s 0 hs (by decide))
theorem depositZ_len {x y : Int} (s p : Nat) (hs : s ≤ 300) (hp : p ≤ 300) (hx : len x ≤ 100) (hy : len y ≤ 100) : len (depositZ x y s p) ≤ 300001 := by
  have h1 : len (boolZ 4 x ((onesN s p : Nat) : Int)) ≤ 300000 := Nat.le_trans (boolZ_len 4 hx (onesN_len2 s p hs hp)) (by decide)
  have h2 : len (fieldP y s) ≤ 101 := boolZ_len 8 hy (onesN_len2 s 0 hs (by decide))
  exact boolZ_len 14 h1 (shl_len p (by omega) h2 (by decide))
theorem rlen_len {z : Int} {k : Nat} (h : len z ≤ k) : rlen z ≤ 2 * k := by
  unfold rlen
  refine digs_length_le (by decide) _ _ ?_
  have h1 := len_bd' h
  unfold Bd at h1
  rw [pow32] at h1
  rw [pow16, show 16 * (2 * k) = 32 * k by omega]
  exact h1

theorem field_pair (x s p : Int) (hB : Bd 8 x) (hs : s ≤ 300 ∨ 65536 < s) (hp : p ≤ 300 ∨ 65536 < p) :
    ∃ z c : Int, (∀ W u, IntV W u x → Calls Try.prog 56 #[u, .int .i64 s, .int .i64 p] W (IntRes W z c)) ∧ (∀ W u, RefV W u x → Calls Try.prog 57 #[u, .int .i64 s, .int .i64 p] W (RefRes W z c)) ∧ len z ≤ 1000000 ∧ rlen z ≤ 1000000 := by
  have hl : len x ≤ 8 := digs_length_le (by decide) _ _ hB
  have hrl : rlen x ≤ 40000 := Nat.le_trans (rlen_le8 hB) (by decide)
  by_cases hb : s < 0 ∨ 65536 < s ∨ p < 0 ∨ 65536 < p
  · exact ⟨0, 1, fun W u hu => (Field_bad x s p u W hb hu).mono fun _ _ h => h.res, fun W u hu => (rField_bad x s p u W hb hu).mono fun _ _ h => h.res, len_le (by decide) Bd.zero, rlen_bd Bd.zero (by decide)⟩
  · obtain ⟨s, rfl⟩ : ∃ k : Nat, s = (k : Int) := ⟨s.toNat, by omega⟩
    obtain ⟨p, rfl⟩ : ∃ k : Nat, p = (k : Int) := ⟨p.toNat, by omega⟩
    have hz := fieldZ_len (z := x) s p (by omega) (by omega)
    have hz2 := rlen_len hz
    exact ⟨fieldZ x s p, 0, fun W u hu => Field_any x s p u W (by omega) (by omega) (by omega) hu, fun W u hu => rField_any x s p u W (by omega) (by omega) (by omega) hu, by omega, by omega⟩

theorem deposit_pair (x y s p : Int) (hB : Bd 8 x) (hB2 : Bd 8 y) (hs : s ≤ 300 ∨ 65536 < s) (hp : p ≤ 300 ∨ 65536 < p) :
    ∃ z c : Int, (∀ W u v, IntV W u x → IntV W v y → Calls Try.prog 58 #[u, v, .int .i64 s, .int .i64 p] W (IntRes W z c)) ∧ (∀ W u v, RefV W u x → RefV W v y → Calls Try.prog 59 #[u, v, .int .i64 s, .int .i64 p] W (RefRes W z c)) ∧ len z ≤ 1000000 ∧ rlen z ≤ 1000000 := by
  have hl : len x ≤ 8 := digs_length_le (by decide) _ _ hB
  have hl2 : len y ≤ 8 := digs_length_le (by decide) _ _ hB2
  have hrl : rlen x ≤ 40000 := Nat.le_trans (rlen_le8 hB) (by decide)
  have hrl2 : rlen y ≤ 40000 := Nat.le_trans (rlen_le8 hB2) (by decide)
  by_cases hb : s < 0 ∨ 65536 < s ∨ p < 0 ∨ 65536 < p
  · exact ⟨0, 1, fun W u v hu hv => (Deposit_bad x y s p u v W hb hu hv).mono fun _ _ h => h.res, fun W u v hu hv => (rDeposit_bad x y s p u v W hb hu hv).mono fun _ _ h => h.res, len_le (by decide) Bd.zero, rlen_bd Bd.zero (by decide)⟩
  · obtain ⟨s, rfl⟩ : ∃ k : Nat, s = (k : Int) := ⟨s.toNat, by omega⟩
    obtain ⟨p, rfl⟩ : ∃ k : Nat, p = (k : Int) := ⟨p.toNat, by omega⟩
    have hz := depositZ_len (x := x) (y := y) s p (by omega) (by omega) (by omega) (by omega)
    have hz2 := rlen_len hz
    exact ⟨depositZ x y s p, 0, fun W u v hu hv => Deposit_any x y s p u v W (by omega) (by omega) (by omega) (by omega) hu hv, fun W u v hu hv => rDeposit_any x y s p u v W (by omega) (by omega) (by omega) (by omega) hu hv, by omega, by omega⟩


end Go.Proofs.Ytnbnbjgdplpemaa
