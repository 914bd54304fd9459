/-  IntegerLarge's walk.  -/
import Derived.Test.YtgepnkdnenjogaaPower3
namespace Go.Proofs.Ytgepnkdnenjogaa
open Go.RowKit Digs

theorem lenZ_two (k : Nat) : lenZ ((2 : Int) ^ k) = k + 1 := by
  have e : ((2 : Int) ^ k) = ((2 ^ k : Nat) : Int) := by rw [Int.natCast_pow]; rfl
  unfold lenZ
  rw [e, if_neg (Int.not_lt.2 (Int.natCast_nonneg _)), Int.natAbs_natCast, bl_two_pow]
theorem lenZ_one : lenZ 1 = 1 := by have := lenZ_two 0; simpa using this
theorem lenZ_neg_two (k : Nat) : lenZ (-(2 : Int) ^ k) = k := by
  have e : ((2 : Int) ^ k) = ((2 ^ k : Nat) : Int) := by rw [Int.natCast_pow]; rfl
  have h := Nat.two_pow_pos k
  unfold lenZ
  have hs := bl_two_pow_sub k
  rw [e]
  generalize 2 ^ k = q at *
  rw [if_pos (by omega)]
  have h2 : (-1 - -(q : Int)).natAbs = q - 1 := by omega
  rw [h2, hs]
theorem lenZ_pow (k m : Nat) : lenZ (((2 : Int) ^ k) ^ m) = k * m + 1 := by rw [← Int.pow_mul, lenZ_two]
theorem lenZ_neg_pow_odd (k m : Nat) (h : m % 2 = 1) : lenZ ((-(2 : Int) ^ k) ^ m) = k * m := by rw [neg_pow_par, if_pos h, ← Int.pow_mul, lenZ_neg_two]
theorem lenZ_neg_pow_even (k m : Nat) (h : m % 2 = 0) : lenZ ((-(2 : Int) ^ k) ^ m) = k * m + 1 := by rw [neg_pow_par, if_neg (by omega), ← Int.pow_mul, lenZ_two]
theorem len_two (k : Nat) (hk : k ≤ 200) : len ((2 : Int) ^ k) ≤ 1000000 := by
  unfold len
  rw [natAbs_pow]
  have h1 : (2 : Nat) ^ k ≤ 2 ^ (32 * 7) := Nat.pow_le_pow_right (by decide) (by omega)
  have := len_two_pow (M := 7) h1
  have e : Int.natAbs 2 = 2 := rfl
  rw [e]
  omega
theorem len_neg (z : Int) : len (-z) = len z := by unfold len; rw [Int.natAbs_neg]


/-- The rest of the law, behind the power: what the case gives. -/
def LargeCase (k m : Nat) (neg : Bool) (z : Int) (L : Nat) : Prop :=
  (neg = false ∧ z = (2 : Int) ^ k ∧ L = k * m + 1) ∨ (neg = true ∧ z = -(2 : Int) ^ k ∧ ((m % 2 = 1 ∧ L = k * m) ∨ (m % 2 = 0 ∧ L = k * m + 1)))

theorem large_len {k m L : Nat} {neg : Bool} {z : Int} (h : LargeCase k m neg z L) : lenZ (z ^ m) = L := by
  rcases h with ⟨_, rfl, rfl⟩ | ⟨_, rfl, ⟨h, rfl⟩ | ⟨h, rfl⟩⟩
  · exact lenZ_pow k m
  · exact lenZ_neg_pow_odd k m h
  · exact lenZ_neg_pow_even k m h

theorem len_of_lenZ {x : Int} {M : Nat} (h : lenZ x ≤ M) : len x ≤ M + 2 := by
  have h1 : x.natAbs ≤ 2 ^ M := by
    unfold lenZ at h
    split at h
    · have := bl_le_iff.1 h; omega
    · exact Nat.le_of_lt (bl_le_iff.1 h)
  have h2 : (2 : Nat) ^ M ≤ 2 ^ (32 * (M + 1)) := Nat.pow_le_pow_right (by decide) (by omega)
  unfold len
  have := len_two_pow (M := M + 1) (Nat.le_trans h1 h2)
  omega

set_option maxHeartbeats 4000000 in
set_option maxRecDepth 100000 in
theorem large_any (b n : Int) (neg : Bool) (w : World) (hb0 : 0 ≤ b) (hb1 : b ≤ 65535) (hn0 : 0 ≤ n) (hn1 : n ≤ 65535) :
    Calls Try.prog 6 #[.int .u16 b, .int .u16 n, .bool neg] w (BoolPost w true) := by
  obtain ⟨k, hk⟩ : ∃ k : Nat, 1 + b % 200 = (k : Int) := ⟨(1 + b % 200).toNat, by omega⟩
  obtain ⟨m, hm⟩ : ∃ m : Nat, n % 2000 = (m : Int) := ⟨(n % 2000).toNat, by omega⟩
  have hk1 : 1 ≤ k := by omega
  have hk2 : k ≤ 200 := by omega
  have hm2 : m < 2000 := by omega
  have HN := fun W => Lib.hid (new_any 1 W (by decide) (by decide))
  have HS := fun v W h => Lib.hid (Shift_up 1 v k W (by rw [len_small 1 (by decide) (by decide)]; decide) hk1 h (by decide) (by rw [lenZ_one]; omega))
  rw [Int.one_mul] at HS
  have HNEG := fun v W h => Lib.hid (Neg_any ((2 : Int) ^ k) v W (len_two k hk2) h)
  have HPW := fun v W h => Lib.hid (Power_any ((2 : Int) ^ k) v m W (by omega) (len_two k hk2) h)
  have HPN := fun v W h => Lib.hid (Power_any (-(2 : Int) ^ k) v m W (by omega) (by rw [len_neg]; exact len_two k hk2) h)
  have HS := Lib.hid HS
  have HNEG := Lib.hid HNEG
  have HPW := Lib.hid HPW
  have HPN := Lib.hid HPN
  have HAW := fun W => Lib.hid (awake_any W)
  have HAW := Lib.hid HAW
  have HC1 := Lib.hid (lenZ_pow k m)
  have HC2 := fun h => Lib.hid (lenZ_neg_pow_odd k m h)
  have HC2 := Lib.hid HC2
  have HC3 := fun h => Lib.hid (lenZ_neg_pow_even k m h)
  have HC3 := Lib.hid HC3
  generalize (2 : Int) ^ k = z at *
  obtain ⟨p, hp⟩ : ∃ p, p = k * m := ⟨_, rfl⟩
  have hpi : (k : Int) * (m : Int) = (p : Int) := by rw [hp, Int.natCast_mul]
  have hpb : p ≤ 400000 := by
    rw [hp]
    exact Nat.le_trans (Nat.mul_le_mul hk2 (Nat.le_of_lt hm2)) (by decide)
  rw [← hp] at HC1 HC2 HC3
  clear hp
  cases neg with
  | false =>
    go_enter Try.func6, Try.ntmps6
    go_wp2_with fail
    refine (HN _).out.mono ?_
    rintro e w1 ⟨v1, rfl, hi1, hb1⟩
    go_wp2_with fail
    refine (HS.out _ _ hi1).out.mono ?_
    rintro e w2 ⟨v2, rfl, ⟨ad2, n2, c2, rfl, hr2⟩, hb2⟩
    have HI2 := Lib.hid (show IntV w2 (.agg #[.bool (decide (z < 0)), .slice ad2 n2 c2]) z from ⟨_, _, _, rfl, hr2⟩)
    have HB2 := Lib.hid (hb1.trans (hb2.mono hb1.size))
    clear hi1 hb1 hb2 hr2
    generalize decide (z < 0) = bz at *
    go_wp2_with fail
    have HL := HC1
    have HB3 := Lib.hid (HB2.out.alloc HB2.out.size (.cells #[.bool bz, .slice ad2 n2 c2] 28))
    refine (HPW.out _ _ (HI2.out.keep ((Below.refl _ _).alloc (Nat.le_refl _) _))).out.mono ?_
    rintro e w3 hpost
    generalize (z) ^ m = x at *
    obtain ⟨L, hLL, hLN⟩ : ∃ L : Nat, (p : Int) + 1 = (L : Int) ∧ L = p + 1 := ⟨p + 1, by omega, rfl⟩
    rw [← hLN] at HL
    clear hLN
    by_cases hl : 65536 < L
    · obtain ⟨rfl, hb3⟩ := hpost.1 (by rw [HL.out]; exact hl)
      have hd1 : decide ((65536 : Int) < (L : Int)) = true := decide_eq_true (by omega)
      have hd2 : decide ((L : Int) ≤ 65536) = false := decide_eq_false (by omega)
      clear hl hpost
      have hB4 := Lib.hid (HB3.out.trans (hb3.mono HB3.out.size))
      clear hb3
      go_wp2_with fail
      refine (HAW.out _).out.mono ?_
      rintro e w4 ⟨rfl, hb4⟩
      go_wp2
      go_ret
      exact ⟨rfl, (hB4.out.alloc hB4.out.size _).trans (hb4.mono (by have := hB4.out.size; simp; omega))⟩
    · obtain ⟨v3, rfl, ⟨ad3, n3, c3, rfl, hr3⟩, hb3⟩ := hpost.2 (by rw [HL.out]; omega)
      have hd1 : decide ((65536 : Int) < (L : Int)) = false := decide_eq_false (by omega)
      have hd2 : decide ((L : Int) ≤ 65536) = true := decide_eq_true (by omega)
      have HI3 := Lib.hid (show IntV w3 (.agg #[.bool (decide (x < 0)), .slice ad3 n3 c3]) x from ⟨_, _, _, rfl, hr3⟩)
      have hB4 := Lib.hid (HB3.out.trans (hb3.mono HB3.out.size))
      have HLX := fun v W h => Lib.hid (Length_any x v W (Nat.le_trans (len_of_lenZ (M := 65536) (by rw [HL.out]; omega)) (by decide)) h)
      rw [HL.out] at HLX
      have HLX := Lib.hid HLX
      clear hl hpost hb3 hr3
      generalize decide (x < 0) = bx at *
      have hLne : ((L : Int) != (L : Int)) = false := by simp
      go_wp2_with fail
      refine (HLX.out _ _ (HI3.out.keep ((Below.refl _ _).alloc (Nat.le_refl _) _))).out.mono ?_
      rintro e w4 ⟨rfl, hb4⟩
      have hB5 := Lib.hid ((hB4.out.alloc hB4.out.size (.cells #[.bool bx, .slice ad3 n3 c3] 28)).trans (hb4.mono (by have := hB4.out.size; simp; omega)))
      clear hb4
      go_wp2_with fail
      refine (HAW.out _).out.mono ?_
      rintro e w5 ⟨rfl, hb5⟩
      go_wp2
      go_ret
      exact ⟨rfl, hB5.out.trans (hb5.mono hB5.out.size)⟩
  | true =>
    go_enter Try.func6, Try.ntmps6
    go_wp2_with fail
    refine (HN _).out.mono ?_
    rintro e w1 ⟨v1, rfl, hi1, hb1⟩
    go_wp2_with fail
    refine (HS.out _ _ hi1).out.mono ?_
    rintro e w2 ⟨v2, rfl, ⟨ad2, n2, c2, rfl, hr2⟩, hb2⟩
    have HI2 := Lib.hid (show IntV w2 (.agg #[.bool (decide (z < 0)), .slice ad2 n2 c2]) z from ⟨_, _, _, rfl, hr2⟩)
    have HB2 := Lib.hid (hb1.trans (hb2.mono hb1.size))
    clear hi1 hb1 hb2 hr2
    generalize decide (z < 0) = bz at *
    go_wp2_with fail
    refine (HNEG.out _ _ (HI2.out.keep ((Below.refl _ _).alloc (Nat.le_refl _) _))).out.mono ?_
    rintro e w2' ⟨v2', rfl, ⟨ad2', n2', c2', rfl, hr2'⟩, hb2'⟩
    obtain ⟨cA, cB, fA, fB, hsz⟩ := box2 hb2'
    have HR2 := Lib.hid (hr2'.store2 cA cB (by intro n h; cases h) (by intro n h; cases h))
    have HI2' := fun x1 x2 => Lib.hid (show IntV ((w2'.setCell ⟨w2.heap.size, 0, none⟩ x1).setCell ⟨w2.heap.size, 1, none⟩ x2) (.agg #[.bool (decide (-z < 0)), .slice ad2' n2' c2']) (-z) from ⟨_, _, _, rfl, HR2.out _ _⟩)
    have HI2' := Lib.hid HI2'
    have HBa := Lib.hid (HB2.out.trans ((((Below.refl _ _).alloc (Nat.le_refl _) (.cells #[.bool bz, .slice ad2 n2 c2] 28)).trans (hb2'.mono (by simp))).mono HB2.out.size))
    have HB3 := fun x1 x2 => Lib.hid (show Below w.heap.size w ((w2'.setCell ⟨w2.heap.size, 0, none⟩ x1).setCell ⟨w2.heap.size, 1, none⟩ x2) from (HBa.out.setCell HB2.out.size x1).setCell HB2.out.size x2)
    have HB3 := Lib.hid HB3
    clear hb2' hr2' HR2
    generalize decide (-z < 0) = bz2 at *
    have HB4 := Lib.hid (HB3.out (.bool bz2) (.slice ad2' n2' c2')).out
    by_cases hodd : m % 2 = 1
    · have HL := HC2.out hodd
      have hpar : (m : Int) % 2 = 1 := by omega
      go_wp2_with fail
      refine (HPN.out _ _ (HI2'.out _ _).out).out.mono ?_
      rintro e w3 hpost
      generalize (-z) ^ m = x at *
      obtain ⟨L, hLL, hLN⟩ : ∃ L : Nat, (p : Int) = (L : Int) ∧ L = p := ⟨p, by omega, rfl⟩
      rw [← hLN] at HL
      clear hLN
      by_cases hl : 65536 < L
      · obtain ⟨rfl, hb3⟩ := hpost.1 (by rw [HL.out]; exact hl)
        have hd1 : decide ((65536 : Int) < (L : Int)) = true := decide_eq_true (by omega)
        have hd2 : decide ((L : Int) ≤ 65536) = false := decide_eq_false (by omega)
        clear hl hpost
        have hB4 := Lib.hid (HB4.out.trans (hb3.mono HB4.out.size))
        clear hb3
        go_wp2_with fail
        refine (HAW.out _).out.mono ?_
        rintro e w4 ⟨rfl, hb4⟩
        go_wp2
        go_ret
        exact ⟨rfl, (hB4.out.alloc hB4.out.size _).trans (hb4.mono (by have := hB4.out.size; simp; omega))⟩
      · obtain ⟨v3, rfl, ⟨ad3, n3, c3, rfl, hr3⟩, hb3⟩ := hpost.2 (by rw [HL.out]; omega)
        have hd1 : decide ((65536 : Int) < (L : Int)) = false := decide_eq_false (by omega)
        have hd2 : decide ((L : Int) ≤ 65536) = true := decide_eq_true (by omega)
        have HI3 := Lib.hid (show IntV w3 (.agg #[.bool (decide (x < 0)), .slice ad3 n3 c3]) x from ⟨_, _, _, rfl, hr3⟩)
        have hB4 := Lib.hid (HB4.out.trans (hb3.mono HB4.out.size))
        have HLX := fun v W h => Lib.hid (Length_any x v W (Nat.le_trans (len_of_lenZ (M := 65536) (by rw [HL.out]; omega)) (by decide)) h)
        rw [HL.out] at HLX
        have HLX := Lib.hid HLX
        clear hl hpost hb3 hr3
        generalize decide (x < 0) = bx at *
        have hLne : ((L : Int) != (L : Int)) = false := by simp
        go_wp2_with fail
        refine (HLX.out _ _ (HI3.out.keep ((Below.refl _ _).alloc (Nat.le_refl _) _))).out.mono ?_
        rintro e w4 ⟨rfl, hb4⟩
        have hB5 := Lib.hid ((hB4.out.alloc hB4.out.size (.cells #[.bool bx, .slice ad3 n3 c3] 28)).trans (hb4.mono (by have := hB4.out.size; simp; omega)))
        clear hb4
        go_wp2_with fail
        refine (HAW.out _).out.mono ?_
        rintro e w5 ⟨rfl, hb5⟩
        go_wp2
        go_ret
        exact ⟨rfl, hB5.out.trans (hb5.mono hB5.out.size)⟩
    · have HL := HC3.out (by omega)
      have hpar : (m : Int) % 2 = 0 := by omega
      go_wp2_with fail
      refine (HPN.out _ _ (HI2'.out _ _).out).out.mono ?_
      rintro e w3 hpost
      generalize (-z) ^ m = x at *
      obtain ⟨L, hLL, hLN⟩ : ∃ L : Nat, (p : Int) + 1 = (L : Int) ∧ L = p + 1 := ⟨p + 1, by omega, rfl⟩
      rw [← hLN] at HL
      clear hLN
      by_cases hl : 65536 < L
      · obtain ⟨rfl, hb3⟩ := hpost.1 (by rw [HL.out]; exact hl)
        have hd1 : decide ((65536 : Int) < (L : Int)) = true := decide_eq_true (by omega)
        have hd2 : decide ((L : Int) ≤ 65536) = false := decide_eq_false (by omega)
        clear hl hpost
        have hB4 := Lib.hid (HB4.out.trans (hb3.mono HB4.out.size))
        clear hb3
        go_wp2_with fail
        refine (HAW.out _).out.mono ?_
        rintro e w4 ⟨rfl, hb4⟩
        go_wp2
        go_ret
        exact ⟨rfl, (hB4.out.alloc hB4.out.size _).trans (hb4.mono (by have := hB4.out.size; simp; omega))⟩
      · obtain ⟨v3, rfl, ⟨ad3, n3, c3, rfl, hr3⟩, hb3⟩ := hpost.2 (by rw [HL.out]; omega)
        have hd1 : decide ((65536 : Int) < (L : Int)) = false := decide_eq_false (by omega)
        have hd2 : decide ((L : Int) ≤ 65536) = true := decide_eq_true (by omega)
        have HI3 := Lib.hid (show IntV w3 (.agg #[.bool (decide (x < 0)), .slice ad3 n3 c3]) x from ⟨_, _, _, rfl, hr3⟩)
        have hB4 := Lib.hid (HB4.out.trans (hb3.mono HB4.out.size))
        have HLX := fun v W h => Lib.hid (Length_any x v W (Nat.le_trans (len_of_lenZ (M := 65536) (by rw [HL.out]; omega)) (by decide)) h)
        rw [HL.out] at HLX
        have HLX := Lib.hid HLX
        clear hl hpost hb3 hr3
        generalize decide (x < 0) = bx at *
        have hLne : ((L : Int) != (L : Int)) = false := by simp
        go_wp2_with fail
        refine (HLX.out _ _ (HI3.out.keep ((Below.refl _ _).alloc (Nat.le_refl _) _))).out.mono ?_
        rintro e w4 ⟨rfl, hb4⟩
        have hB5 := Lib.hid ((hB4.out.alloc hB4.out.size (.cells #[.bool bx, .slice ad3 n3 c3] 28)).trans (hb4.mono (by have := hB4.out.size; simp; omega)))
        clear hb4
        go_wp2_with fail
        refine (HAW.out _).out.mono ?_
        rintro e w5 ⟨rfl, hb5⟩
        go_wp2
        go_ret
        exact ⟨rfl, hB5.out.trans (hb5.mono hB5.out.size)⟩

end Go.Proofs.Ytgepnkdnenjogaa
