/- Lehmer's steps: the mathematics. -/
import Derived.Test.YtiegkjfpdiohkaaGreatMath
namespace Go.Proofs.YtiegkjfpdiohkaaGreat
namespace Leh

/-- What is known of the cofactors that are handed back, for the whole numbers A and B. -/
structure Out (A B u0 u1 v0 v1 : Nat) (odd : Bool) : Prop where
  even : odd = false → u1 * A ≤ v1 * B ∧ (v0 + v1) * B < (u0 + u1) * A ∧ u0 * v1 = u1 * v0 + 1
  odd' : odd = true → v1 * B ≤ u1 * A ∧ (u0 + u1) * A < (v0 + v1) * B ∧ u1 * v0 = u0 * v1 + 1
  one : 1 ≤ u1
  u0b : u0 < 4294967296
  u1b : u1 < 4294967296
  v0b : v0 < 4294967296
  v1b : v1 < 4294967296

/-- What holds at the head of each round. -/
structure Inv (X Y A B : Nat) (x y u0 u1 u2 v0 v1 v2 : Nat) (odd : Bool) : Prop where
  eq1 : odd = true → x + v1 * Y = u1 * X ∧ y + u2 * X = v2 * Y
  eq0 : odd = false → x + u1 * X = v1 * Y ∧ y + v2 * Y = u2 * X
  cont : v2 * x + v1 * y = X
  le1 : u2 ≤ v2
  le2 : u1 + u2 ≤ v1 + v2
  le3 : y ≤ x
  le4 : v1 ≤ v2
  le5 : 1 ≤ v2
  le6 : u1 ≤ v2
  le7 : v1 ≠ 0 → 1 ≤ u2
  det1 : odd = true → u1 * v2 = u2 * v1 + 1
  det0 : odd = false → u2 * v1 = u1 * v2 + 1
  out : v0 ≠ 0 → Out A B u0 u1 v0 v1 odd
  bd : u0 < 4294967296 ∧ u1 < 4294967296 ∧ v0 < 4294967296 ∧ v1 < 4294967296

theorem Inv.start {X Y A B : Nat} (h : Y ≤ X) : Inv X Y A B X Y 0 1 0 0 0 1 true := by
  refine ⟨fun _ => ⟨by omega, by omega⟩, (by intro h; cases h), by omega, by omega, by omega, h, by omega, by omega, by omega, by omega, fun _ => by omega, (by intro h; cases h), fun h => absurd rfl h, by omega⟩

theorem key1 (X Y a b d1 d2 d3 u2 : Nat) (h2 : u2 + d2 + d1 + u2 * X = (u2 + d2) * Y) : (u2 + d2) * (Y * (a + d3) + b) = u2 * (X * (a + d3) + a) + (d1 * (a + d3) + d2 * (a + d3) + u2 * d3 + (u2 + d2) * b) := by
  have h : (u2 + d2 + d1 + u2 * X) * (a + d3) = (u2 + d2) * Y * (a + d3) := by rw [h2]
  grind
theorem key2 (X Y T a b e3 x y u1 u2 v1 v2 d4 : Nat) (h1 : x + v1 * Y = u1 * X) (h2 : y + u2 * X = v2 * Y) (h3 : x = v1 + v2 + y + d4) (h4 : T = b + e3) : (u1 + u2) * (X * T + a) = (v1 + v2) * (Y * T + b) + (d4 * T + (v1 + v2) * e3 + (u1 + u2) * a) := by
  have ha : (x + v1 * Y) * T = u1 * X * T := by rw [h1]
  have hb : (y + u2 * X) * T = v2 * Y * T := by rw [h2]
  grind
theorem key3 (X Y T a b e3 y u2 v2 d1 : Nat) (h2 : y + v2 * Y = u2 * X) (hy : y = v2 + d1) (h4 : T = b + e3) : u2 * (X * T + a) = v2 * (Y * T + b) + (d1 * T + v2 * e3 + u2 * a) := by
  have hb : (y + v2 * Y) * T = u2 * X * T := by rw [h2]
  grind
theorem key4 (X Y T a b x y u1 u2 v1 v2 d4 d5 d3 : Nat) (h1 : x + u1 * X = v1 * Y) (h2 : y + v2 * Y = u2 * X) (h3 : x = v1 + v2 + y + d4) (h4 : T = a + d3) (h5 : v1 + v2 = u1 + u2 + d5) : (v1 + v2) * (Y * T + b) = (u1 + u2) * (X * T + a) + (d4 * T + d5 * T + (u1 + u2) * d3 + (v1 + v2) * b) := by
  have ha : (x + u1 * X) * T = v1 * Y * T := by rw [h1]
  have hb : (y + v2 * Y) * T = u2 * X * T := by rw [h2]
  have hc : (v1 + v2) * T = (u1 + u2 + d5) * T := by rw [h5]
  grind
theorem small_of {a x X : Nat} (h : a ≤ x) (h2 : a * x ≤ X) (hX : X < 18446744073709551616) : a < 4294967296 := by
  rcases Nat.lt_or_ge a 4294967296 with h3 | h3
  · exact h3
  · exfalso
    have h4 : 4294967296 * 4294967296 ≤ a * x := Nat.mul_le_mul h3 (Nat.le_trans h3 h)
    omega

theorem Inv.step {X Y A B T a' b' : Nat} {x y u0 u1 u2 v0 v1 v2 : Nat} {odd : Bool} (h : Inv X Y A B x y u0 u1 u2 v0 v1 v2 odd)
    (hA : A = X * T + a') (ha : a' < T) (hB : B = Y * T + b') (hb : b' < T) (hX : X < 18446744073709551616) (c1 : v2 ≤ y) (c2 : v1 + v2 + y ≤ x) :
    Inv X Y A B y (x % y) u1 u2 (u1 + x / y * u2) v1 v2 (v1 + x / y * v2) (!odd) ∧ v1 + x / y * v2 ≤ X ∧ u1 + x / y * u2 ≤ X := by
  obtain ⟨eq1, eq0, cont, le1, le2, le3, le4, le5, le6, le7, det1, det0, _, _⟩ := h
  have hy : 0 < y := by omega
  have hq1 : 1 ≤ x / y := (Nat.le_div_iff_mul_le hy).2 (by omega)
  have hr := Nat.mod_lt x hy
  have hdm : x = x / y * y + x % y := by have := Nat.div_add_mod x y; rw [Nat.mul_comm] at this; exact this.symm
  generalize x / y = q at *
  generalize x % y = r at *
  obtain ⟨q', rfl⟩ : ∃ q', q = q' + 1 := ⟨q - 1, by omega⟩
  obtain ⟨d1, rfl⟩ : ∃ d, y = v2 + d := ⟨y - v2, by omega⟩
  obtain ⟨d2, rfl⟩ : ∃ d, v2 = u2 + d := ⟨v2 - u2, by omega⟩
  obtain ⟨d3, rfl⟩ : ∃ d, T = a' + d := ⟨T - a', by omega⟩
  obtain ⟨e3, he3⟩ : ∃ d, a' + d3 = b' + d := ⟨a' + d3 - b', by omega⟩
  obtain ⟨d4, hd4⟩ : ∃ d, x = v1 + (u2 + d2) + (u2 + d2 + d1) + d := ⟨x - (v1 + (u2 + d2) + (u2 + d2 + d1)), by omega⟩
  obtain ⟨d5, hd5⟩ : ∃ d, v1 + (u2 + d2) = u1 + u2 + d := ⟨v1 + (u2 + d2) - (u1 + u2), by omega⟩
  have hcont2 : (v1 + (q' + 1) * (u2 + d2)) * (u2 + d2 + d1) + (u2 + d2) * r = X := by grind
  have hv2X : (u2 + d2) * x ≤ X := by rw [← cont]; exact Nat.le_add_right _ _
  have hsm := small_of (a := u2 + d2) (x := x) (by omega) hv2X hX
  have hqu : q' * u2 ≤ q' * (u2 + d2) := Nat.mul_le_mul_left _ (by omega)
  have hmul1 : (q' + 1) * u2 = q' * u2 + u2 := by grind
  have hmul2 : (q' + 1) * (u2 + d2) = q' * (u2 + d2) + (u2 + d2) := by grind
  have hnew : v1 + (q' + 1) * (u2 + d2) ≤ X := by
    rw [← hcont2]
    exact Nat.le_trans (Nat.le_mul_of_pos_right _ hy) (Nat.le_add_right _ _)
  have hle1' : u1 + (q' + 1) * u2 ≤ v1 + (q' + 1) * (u2 + d2) := by omega
  refine ⟨⟨?_, ?_, hcont2, hle1', by omega, by omega, by omega, by omega, by omega, ?_, ?_, ?_, ?_, by omega⟩, hnew, by omega⟩
  · intro ho
    have ho' : odd = false := by simpa using ho
    obtain ⟨h1, h2⟩ := eq0 ho'
    exact ⟨h2, by grind⟩
  · intro ho
    have ho' : odd = true := by simpa using ho
    obtain ⟨h1, h2⟩ := eq1 ho'
    exact ⟨h2, by grind⟩
  · intro _
    cases odd with
    | true =>
      have := det1 rfl
      have h1 : u1 ≠ 0 := by rintro rfl; omega
      omega
    | false =>
      have := det0 rfl
      have h1 : u2 ≠ 0 := by rintro rfl; omega
      omega
  · intro ho
    have ho' : odd = false := by simpa using ho
    have := det0 ho'
    grind
  · intro ho
    have ho' : odd = true := by simpa using ho
    have := det1 ho'
    grind
  · intro hv1
    refine ⟨?_, ?_, le7 hv1, by omega, by omega, by omega, hsm⟩
    · intro ho
      have ho' : odd = true := by simpa using ho
      obtain ⟨h1, h2⟩ := eq1 ho'
      have := det1 ho'
      refine ⟨?_, ?_, by omega⟩
      · have key := key1 X Y a' b' d1 d2 d3 u2 h2
        rw [← hB, ← hA] at key
        omega
      · have key := key2 X Y (a' + d3) a' b' e3 x _ u1 u2 v1 (u2 + d2) d4 h1 h2 hd4 he3
        rw [← hB, ← hA] at key
        have h3 : 0 < (v1 + (u2 + d2)) * e3 := Nat.mul_pos (by omega) (by omega)
        omega
    · intro ho
      have ho' : odd = false := by simpa using ho
      obtain ⟨h1, h2⟩ := eq0 ho'
      have := det0 ho'
      refine ⟨?_, ?_, by omega⟩
      · have key := key3 X Y (a' + d3) a' b' e3 _ u2 (u2 + d2) d1 h2 rfl he3
        rw [← hB, ← hA] at key
        omega
      · have key := key4 X Y (a' + d3) a' b' x _ u1 u2 v1 (u2 + d2) d4 d5 d3 h1 h2 hd4 rfl hd5
        rw [← hB, ← hA] at key
        have h6 : u2 ≠ 0 := by rintro rfl; omega
        have h3 : 0 < (u1 + u2) * d3 := Nat.mul_pos (by omega) (by omega)
        omega

end Leh
end Go.Proofs.YtiegkjfpdiohkaaGreat
