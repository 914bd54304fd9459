/-  Leh Powers Gc1 Gc2  -/
import Derived.Test.YtghgcbedajaldaaGreatMpaa
import Derived.Test.YtghgcbedajaldaaGreatMpao
/- Lehmer's steps: the mathematics. -/
namespace Go.Proofs.YtghgcbedajaldaaGreat
namespace Leh
structure Out (A B u0 u1 v0 v1 : Nat) (odd : Bool) : Prop where
 even : odd = false → u1 * A ≤ v1 * B ∧ (v0 + v1) * B < (u0 + u1) * A ∧ u0 * v1 = u1 * v0 + 1
 odd' : odd = true → v1 * B ≤ u1 * A ∧ (u0 + u1) * A < (v0 + v1) * B ∧ u1 * v0 = u0 * v1 + 1
 one : 1 ≤ u1
 u0b : u0 < 4294967296
 u1b : u1 < 4294967296
 v0b : v0 < 4294967296
 v1b : v1 < 4294967296
structure Inv (X Y A B : Nat) (x y u0 u1 u2 v0 v1 v2 : Nat) (odd : Bool) : Prop where
 eq1 : odd = true → x + v1 * Y = u1 * X ∧ y + u2 * X = v2 * Y
 eq0 : odd = false → x + u1 * X = v1 * Y ∧ y + v2 * Y = u2 * X
 cont : v2 * x + v1 * y = X
 le1 : u2 ≤ v2
 le2 : u1 + u2 ≤ v1 + v2
 le3 : y ≤ x
 le4 : v1 ≤ v2
 le5 : 1 ≤ v2
 le6 : u1 ≤ v2
 le7 : v1 ≠ 0 → 1 ≤ u2
 det1 : odd = true → u1 * v2 = u2 * v1 + 1
 det0 : odd = false → u2 * v1 = u1 * v2 + 1
 out : v0 ≠ 0 → Out A B u0 u1 v0 v1 odd
 bd : u0 < 4294967296 ∧ u1 < 4294967296 ∧ v0 < 4294967296 ∧ v1 < 4294967296
theorem Inv.start {X Y A B : Nat} (h : Y ≤ X) : Inv X Y A B X Y 0 1 0 0 0 1 true := by
 refine ⟨fun _ => ⟨by omega, by omega⟩, (by intro h; cases h), by omega, by omega, by omega, h, by omega, by omega, by omega, by omega, fun _ => by omega, (by intro h; cases h), fun h => absurd rfl h, by omega⟩
theorem key1 (X Y a b d1 d2 d3 u2 : Nat) (h2 : u2 + d2 + d1 + u2 * X = (u2 + d2) * Y) : (u2 + d2) * (Y * (a + d3) + b) = u2 * (X * (a + d3) + a) + (d1 * (a + d3) + d2 * (a + d3) + u2 * d3 + (u2 + d2) * b) := by
 have h : (u2 + d2 + d1 + u2 * X) * (a + d3) = (u2 + d2) * Y * (a + d3) := by rw [h2]
 grind
theorem key2 (X Y T a b e3 x y u1 u2 v1 v2 d4 : Nat) (h1 : x + v1 * Y = u1 * X) (h2 : y + u2 * X = v2 * Y) (h3 : x = v1 + v2 + y + d4) (h4 : T = b + e3) : (u1 + u2) * (X * T + a) = (v1 + v2) * (Y * T + b) + (d4 * T + (v1 + v2) * e3 + (u1 + u2) * a) := by
 have ha : (x + v1 * Y) * T = u1 * X * T := by rw [h1]
 have hb : (y + u2 * X) * T = v2 * Y * T := by rw [h2]
 grind
theorem key3 (X Y T a b e3 y u2 v2 d1 : Nat) (h2 : y + v2 * Y = u2 * X) (hy : y = v2 + d1) (h4 : T = b + e3) : u2 * (X * T + a) = v2 * (Y * T + b) + (d1 * T + v2 * e3 + u2 * a) := by
 have hb : (y + v2 * Y) * T = u2 * X * T := by rw [h2]
 grind
theorem key4 (X Y T a b x y u1 u2 v1 v2 d4 d5 d3 : Nat) (h1 : x + u1 * X = v1 * Y) (h2 : y + v2 * Y = u2 * X) (h3 : x = v1 + v2 + y + d4) (h4 : T = a + d3) (h5 : v1 + v2 = u1 + u2 + d5) : (v1 + v2) * (Y * T + b) = (u1 + u2) * (X * T + a) + (d4 * T + d5 * T + (u1 + u2) * d3 + (v1 + v2) * b) := by
 have ha : (x + u1 * X) * T = v1 * Y * T := by rw [h1]
 have hb : (y + v2 * Y) * T = u2 * X * T := by rw [h2]
 have hc : (v1 + v2) * T = (u1 + u2 + d5) * T := by rw [h5]
 grind
theorem small_of {a x X : Nat} (h : a ≤ x) (h2 : a * x ≤ X) (hX : X < 18446744073709551616) : a < 4294967296 := by
 rcases Nat.lt_or_ge a 4294967296 with h3 | h3
 ·exact h3
 ·exfalso
  have h4 : 4294967296 * 4294967296 ≤ a * x := Nat.mul_le_mul h3 (Nat.le_trans h3 h)
  omega
theorem Inv.step {X Y A B T a' b' : Nat} {x y u0 u1 u2 v0 v1 v2 : Nat} {odd : Bool} (h : Inv X Y A B x y u0 u1 u2 v0 v1 v2 odd)
  (hA : A = X * T + a') (ha : a' < T) (hB : B = Y * T + b') (hb : b' < T) (hX : X < 18446744073709551616) (c1 : v2 ≤ y) (c2 : v1 + v2 + y ≤ x) :
  Inv X Y A B y (x % y) u1 u2 (u1 + x / y * u2) v1 v2 (v1 + x / y * v2) (!odd) ∧ v1 + x / y * v2 ≤ X ∧ u1 + x / y * u2 ≤ X := by
 obtain ⟨eq1, eq0, cont, le1, le2, le3, le4, le5, le6, le7, det1, det0, _, _⟩ := h
 have hy : 0 < y := by omega
 have hq1 : 1 ≤ x / y := (Nat.le_div_iff_mul_le hy).2 (by omega)
 have hr := Nat.mod_lt x hy
 have hdm : x = x / y * y + x % y := by have := Nat.div_add_mod x y; rw [Nat.mul_comm] at this; exact this.symm
 generalize x / y = q at *
 generalize x % y = r at *
 obtain ⟨q', rfl⟩ : ∃ q', q = q' + 1 := ⟨q - 1, by omega⟩
 obtain ⟨d1, rfl⟩ : ∃ d, y = v2 + d := ⟨y - v2, by omega⟩
 obtain ⟨d2, rfl⟩ : ∃ d, v2 = u2 + d := ⟨v2 - u2, by omega⟩
 obtain ⟨d3, rfl⟩ : ∃ d, T = a' + d := ⟨T - a', by omega⟩
 obtain ⟨e3, he3⟩ : ∃ d, a' + d3 = b' + d := ⟨a' + d3 - b', by omega⟩
 obtain ⟨d4, hd4⟩ : ∃ d, x = v1 + (u2 + d2) + (u2 + d2 + d1) + d := ⟨x - (v1 + (u2 + d2) + (u2 + d2 + d1)), by omega⟩
 obtain ⟨d5, hd5⟩ : ∃ d, v1 + (u2 + d2) = u1 + u2 + d := ⟨v1 + (u2 + d2) - (u1 + u2), by omega⟩
 have hcont2 : (v1 + (q' + 1) * (u2 + d2)) * (u2 + d2 + d1) + (u2 + d2) * r = X := by grind
 have hv2X : (u2 + d2) * x ≤ X := by rw [← cont]; exact Nat.le_add_right _ _
 have hsm := small_of (a := u2 + d2) (x := x) (by omega) hv2X hX
 have hqu : q' * u2 ≤ q' * (u2 + d2) := Nat.mul_le_mul_left _ (by omega)
 have hmul1 : (q' + 1) * u2 = q' * u2 + u2 := by grind
 have hmul2 : (q' + 1) * (u2 + d2) = q' * (u2 + d2) + (u2 + d2) := by grind
 have hnew : v1 + (q' + 1) * (u2 + d2) ≤ X := by
  rw [← hcont2]
  exact Nat.le_trans (Nat.le_mul_of_pos_right _ hy) (Nat.le_add_right _ _)
 have hle1' : u1 + (q' + 1) * u2 ≤ v1 + (q' + 1) * (u2 + d2) := by omega
 refine ⟨⟨?_, ?_, hcont2, hle1', by omega, by omega, by omega, by omega, by omega, ?_, ?_, ?_, ?_, by omega⟩, hnew, by omega⟩
 ·intro ho
  have ho' : odd = false := by simpa using ho
  obtain ⟨h1, h2⟩ := eq0 ho'
  exact ⟨h2, by grind⟩
 ·intro ho
  have ho' : odd = true := by simpa using ho
  obtain ⟨h1, h2⟩ := eq1 ho'
  exact ⟨h2, by grind⟩
 ·intro _
  cases odd with
  | true =>
   have := det1 rfl
   have h1 : u1 ≠ 0 := by rintro rfl; omega
   omega
  | false =>
   have := det0 rfl
   have h1 : u2 ≠ 0 := by rintro rfl; omega
   omega
 ·intro ho
  have ho' : odd = false := by simpa using ho
  have := det0 ho'
  grind
 ·intro ho
  have ho' : odd = true := by simpa using ho
  have := det1 ho'
  grind
 ·intro hv1
  refine ⟨?_, ?_, le7 hv1, by omega, by omega, by omega, hsm⟩
  ·intro ho
   have ho' : odd = true := by simpa using ho
   obtain ⟨h1, h2⟩ := eq1 ho'
   have := det1 ho'
   refine ⟨?_, ?_, by omega⟩
   ·have key := key1 X Y a' b' d1 d2 d3 u2 h2
    rw [← hB, ← hA] at key
    omega
   ·have key := key2 X Y (a' + d3) a' b' e3 x _ u1 u2 v1 (u2 + d2) d4 h1 h2 hd4 he3
    rw [← hB, ← hA] at key
    have h3 : 0 < (v1 + (u2 + d2)) * e3 := Nat.mul_pos (by omega) (by omega)
    omega
  ·intro ho
   have ho' : odd = false := by simpa using ho
   obtain ⟨h1, h2⟩ := eq0 ho'
   have := det0 ho'
   refine ⟨?_, ?_, by omega⟩
   ·have key := key3 X Y (a' + d3) a' b' e3 _ u2 (u2 + d2) d1 h2 rfl he3
    rw [← hB, ← hA] at key
    omega
   ·have key := key4 X Y (a' + d3) a' b' x _ u1 u2 v1 (u2 + d2) d4 d5 d3 h1 h2 hd4 rfl hd5
    rw [← hB, ← hA] at key
    have h6 : u2 ≠ 0 := by rintro rfl; omega
    have h3 : 0 < (u1 + u2) * d3 := Nat.mul_pos (by omega) (by omega)
    omega
end Leh
end Go.Proofs.YtghgcbedajaldaaGreat
/-  PowB Powers  -/
namespace Go.Proofs.YtghgcbedajaldaaGreat
section
open Go.RowKit Digs
def IntRes (w : World) (z c : Int) (e : Ending) (w' : World) : Prop := ∃ v, e = .returned (.tuple #[v, .int .i64 c]) ∧ IntV w' v z ∧ Below w.heap.size w w'
def RefRes (w : World) (z c : Int) (e : Ending) (w' : World) : Prop := ∃ v, e = .returned (.tuple #[v, .int .i64 c]) ∧ RefV w' v z ∧ Below w.heap.size w w'
theorem IntErr.res {w w' : World} {c : Int} {e : Ending} (h : IntErr w c e w') : IntRes w 0 c e w' := ⟨_, h.1, IntV.zero _ false 0 rfl, h.2⟩
theorem RefErr.res {w w' : World} {c : Int} {e : Ending} (h : RefErr w c e w') : RefRes w 0 c e w' := ⟨_, h.1, RefV.zero0 _, h.2⟩
end
section
open Go.RowKit Digs
end
end Go.Proofs.YtghgcbedajaldaaGreat
/- Gcd: smallGcd, first, and what Lehmer's steps lead to. -/
namespace Go.Proofs.YtghgcbedajaldaaGreat
namespace Leh
theorem Out.fin {A B s u0 u1 v0 v1 : Nat} {odd : Bool} (h : Out (A * s) (B * s) u0 u1 v0 v1 odd) (hs : 0 < s) :
  ∃ C D : Nat, (odd = false → C + v0 * B = u0 * A ∧ D + u1 * A = v1 * B) ∧ (odd = true → C + u0 * A = v0 * B ∧ D + v1 * B = u1 * A) ∧ D < C ∧ C ≤ B ∧ Nat.gcd C D = Nat.gcd A B := by
 obtain ⟨h0, h1, hone, _, _, _, _⟩ := h
 cases odd with
 | false =>
  obtain ⟨a1, a2, a3⟩ := h0 rfl
  rw [← Nat.mul_assoc, ← Nat.mul_assoc] at a1 a2
  have b1 := Nat.le_of_mul_le_mul_right a1 hs
  have b2 := Nat.lt_of_mul_lt_mul_right a2
  have e1 : (v0 + v1) * B = v0 * B + v1 * B := Nat.add_mul _ _ _
  have e2 : (u0 + u1) * A = u0 * A + u1 * A := Nat.add_mul _ _ _
  obtain ⟨D, hD⟩ : ∃ D, D + u1 * A = v1 * B := ⟨v1 * B - u1 * A, by omega⟩
  obtain ⟨C, hC⟩ : ∃ C, C + v0 * B = u0 * A := ⟨u0 * A - v0 * B, by omega⟩
  have hB : u1 * C + u0 * D = B := by grind
  have hA : v1 * C + v0 * D = A := by grind
  refine ⟨C, D, fun _ => ⟨hC, hD⟩, (by intro h; cases h), by omega, ?_, ?_⟩
  ·rw [← hB]
   exact Nat.le_trans (Nat.le_mul_of_pos_left _ hone) (Nat.le_add_right _ _)
  ·apply Nat.dvd_antisymm
   ·have d1 := Nat.gcd_dvd_left C D
    have d2 := Nat.gcd_dvd_right C D
    refine Nat.dvd_gcd ?_ ?_
    ·rw [← hA]; exact Nat.dvd_add (Nat.dvd_trans d1 (Nat.dvd_mul_left _ _)) (Nat.dvd_trans d2 (Nat.dvd_mul_left _ _))
    ·rw [← hB]; exact Nat.dvd_add (Nat.dvd_trans d1 (Nat.dvd_mul_left _ _)) (Nat.dvd_trans d2 (Nat.dvd_mul_left _ _))
   ·have d1 := Nat.gcd_dvd_left A B
    have d2 := Nat.gcd_dvd_right A B
    refine Nat.dvd_gcd ?_ ?_
    ·exact (Nat.dvd_add_left (Nat.dvd_trans d2 (Nat.dvd_mul_left _ _))).1 (by rw [hC]; exact Nat.dvd_trans d1 (Nat.dvd_mul_left _ _))
    ·exact (Nat.dvd_add_left (Nat.dvd_trans d1 (Nat.dvd_mul_left _ _))).1 (by rw [hD]; exact Nat.dvd_trans d2 (Nat.dvd_mul_left _ _))
 | true =>
  obtain ⟨a1, a2, a3⟩ := h1 rfl
  rw [← Nat.mul_assoc, ← Nat.mul_assoc] at a1 a2
  have b1 := Nat.le_of_mul_le_mul_right a1 hs
  have b2 := Nat.lt_of_mul_lt_mul_right a2
  have e1 : (v0 + v1) * B = v0 * B + v1 * B := Nat.add_mul _ _ _
  have e2 : (u0 + u1) * A = u0 * A + u1 * A := Nat.add_mul _ _ _
  obtain ⟨D, hD⟩ : ∃ D, D + v1 * B = u1 * A := ⟨u1 * A - v1 * B, by omega⟩
  obtain ⟨C, hC⟩ : ∃ C, C + u0 * A = v0 * B := ⟨v0 * B - u0 * A, by omega⟩
  have hB : u1 * C + u0 * D = B := by grind
  have hA : v1 * C + v0 * D = A := by grind
  refine ⟨C, D, (by intro h; cases h), fun _ => ⟨hC, hD⟩, by omega, ?_, ?_⟩
  ·rw [← hB]
   exact Nat.le_trans (Nat.le_mul_of_pos_left _ hone) (Nat.le_add_right _ _)
  ·apply Nat.dvd_antisymm
   ·have d1 := Nat.gcd_dvd_left C D
    have d2 := Nat.gcd_dvd_right C D
    refine Nat.dvd_gcd ?_ ?_
    ·rw [← hA]; exact Nat.dvd_add (Nat.dvd_trans d1 (Nat.dvd_mul_left _ _)) (Nat.dvd_trans d2 (Nat.dvd_mul_left _ _))
    ·rw [← hB]; exact Nat.dvd_add (Nat.dvd_trans d1 (Nat.dvd_mul_left _ _)) (Nat.dvd_trans d2 (Nat.dvd_mul_left _ _))
   ·have d1 := Nat.gcd_dvd_left A B
    have d2 := Nat.gcd_dvd_right A B
    refine Nat.dvd_gcd ?_ ?_
    ·exact (Nat.dvd_add_left (Nat.dvd_trans d1 (Nat.dvd_mul_left _ _))).1 (by rw [hC]; exact Nat.dvd_trans d2 (Nat.dvd_mul_left _ _))
    ·exact (Nat.dvd_add_left (Nat.dvd_trans d2 (Nat.dvd_mul_left _ _))).1 (by rw [hD]; exact Nat.dvd_trans d1 (Nat.dvd_mul_left _ _))
end Leh
section
open Go.RowKit Digs
theorem smallGcd_any (a b : Nat) (w : World) (ha : a < 4294967296) (hb : b < 4294967296) :
  Calls Tryz.prog 138 #[.int .u32 a, .int .u32 b] w fun e w' => e = .returned (.int .u32 (Nat.gcd a b : Nat)) ∧ ∃ n, w' = w.drewN n := by
 go_enter Tryz.func138, Tryz.ntmps138
 go_wp2
 go_loopw [0, 1] (fun x y wr => ∃ p q n : Nat, x = .int .u32 p ∧ y = .int .u32 q ∧ p < 4294967296 ∧ q < 4294967296 ∧ Nat.gcd p q = Nat.gcd a b ∧ wr = w.drewN n) (fun _ y _ => (intOf y).toNat)
 case atStart => exact ⟨a, b, 0, rfl, rfl, ha, hb, rfl, rfl⟩
 case round =>
  obtain ⟨p, q, n, rfl, rfl, hp, hq, hg, rfl⟩ := hrel
  have HG := Lib.hid hg
  clear hg
  by_cases h0 : q = 0
  ·subst h0
   go_wp2
   go_ret
   have h1 := HG.out
   rw [Nat.gcd_zero_right] at h1
   exact ⟨by rw [← h1]; rfl, n, rfl⟩
  ·have h1 : ((q : Int) != 0) = true := by rw [bne_iff_ne]; omega
   obtain ⟨m, hm⟩ : ∃ m, m = p % q := ⟨_, rfl⟩
   have hmq : m < q := by rw [hm]; exact Nat.mod_lt _ (by omega)
   have hmi : (p : Int) % (q : Int) = (m : Int) := by rw [hm, Int.natCast_emod]
   have HM := Lib.hid hm
   clear hm
   have h2 : (0 : Int) < (q : Int) := by omega
   clear h0
   go_wp2_with fail
   go_quiet (fail)
   go_wp2
   go_roundw
   case rel =>
    refine ⟨q, m, n + nq, rfl, by rw [hmi], hq, by omega, ?_, by rw [World.drewN_drewN]⟩
    rw [← HG.out, HM.out, Nat.gcd_comm q (p % q), ← Nat.gcd_rec, Nat.gcd_comm]
   case measure => simp [intOf]; omega
end
end Go.Proofs.YtghgcbedajaldaaGreat
/- Gcd: the first 64 bits. -/
namespace Go.Proofs.YtghgcbedajaldaaGreat
section
open Go.RowKit Digs
def limbAt (l : List Nat) (i : Int) : Nat := if i < 0 then 0 else l[i.toNat]?.getD 0
theorem limb_any (i : Int) (p : Nat) (ad : Option Addr) (cap : Nat) (l : List Nat) (w : World) (h1 : -9223372036854775808 ≤ i) (h2 : i ≤ 9223372036854775807) (hp : w.cell? ⟨p, 0, none⟩ = some (.slice ad l.length cap)) (hr : RdA .u32 w ad l) (hlt : ∀ x ∈ l, x < 4294967296) :
  Calls Tryz.prog 180 #[.int .i64 i, .pointer (some ⟨p, 0, none⟩)] w fun e w' => e = .returned (.int .u64 (limbAt l i : Nat)) ∧ w = w' := by
 unfold limbAt
 by_cases h0 : i < 0
 ·rw [if_pos h0]
  clear hr hlt
  go_enter Tryz.func180, Tryz.ntmps180
  go_wp2
  go_ret
  exact ⟨rfl, rfl⟩
 ·rw [if_neg h0]
  obtain ⟨k, rfl⟩ : ∃ k : Nat, i = k := ⟨i.toNat, by omega⟩
  rw [Int.toNat_natCast]
  by_cases hk : k < l.length
  ·obtain ⟨b, off, rfl, _, hc⟩ := hr k hk
   obtain ⟨x, hx⟩ : ∃ x, x = l[k]?.getD 0 := ⟨_, rfl⟩
   have hxb : x < 4294967296 := by rw [hx, List.getElem?_eq_getElem hk]; exact hlt _ (List.getElem_mem hk)
   rw [← hx] at hc ⊢
   generalize l.length = n at *
   clear hr hlt h0 hx
   go_enter Tryz.func180, Tryz.ntmps180
   go_wp2
   go_ret
   exact ⟨rfl, rfl⟩
  ·have e : l[k]?.getD 0 = 0 := by rw [List.getElem?_eq_none (by omega)]; rfl
   rw [e]
   have hk' : l.length ≤ k := by omega
   generalize l.length = n at *
   clear hr hlt h0 e hk
   go_enter Tryz.func180, Tryz.ntmps180
   go_wp2
   go_ret
   exact ⟨rfl, rfl⟩
theorem or_add (i a b : Nat) (hb : b < 2 ^ i) (h : 2 ^ i * a + b < 18446744073709551616) : bits BinOp.or IntKind.u64 ((2 ^ i * a : Nat) : Int) (b : Int) = ((2 ^ i * a + b : Nat) : Int) := by
 rw [bits_or_u64_nat _ _ (by omega) (by omega), Nat.two_pow_add_eq_or_of_lt hb]
theorem top_bits (l1 l2 l3 up : Nat) (hup : up < 32) (h1 : l1 < 2 ^ (32 - up)) (h2 : l2 < 4294967296) (h3 : l3 < 4294967296) :
  bits BinOp.or IntKind.u64 (bits BinOp.or IntKind.u64 (IntKind.u64.wrap ((l1 : Int) * 2 ^ (32 + up))) (IntKind.u64.wrap ((l2 : Int) * 2 ^ up))) ((l3 : Int) / 2 ^ (32 - up)) = ((2 ^ (32 + up) * l1 + 2 ^ up * l2 + l3 / 2 ^ (32 - up) : Nat) : Int) := by
 have p1 : (2 : Nat) ^ (32 - up) * 2 ^ (32 + up) = 18446744073709551616 := by rw [← Nat.pow_add, show 32 - up + (32 + up) = 64 by omega]
 have p2 : (2 : Nat) ^ (32 - up) * 2 ^ up = 4294967296 := by rw [← Nat.pow_add, show 32 - up + up = 32 by omega]
 have p3 : (2 : Nat) ^ (32 + up) = 4294967296 * 2 ^ up := by rw [Nat.pow_add]
 have e1 : ((l1 : Int) * 2 ^ (32 + up)) = ((2 ^ (32 + up) * l1 : Nat) : Int) := by rw [Int.natCast_mul, Int.natCast_pow, Int.mul_comm]; rfl
 have e2 : ((l2 : Int) * 2 ^ up) = ((2 ^ up * l2 : Nat) : Int) := by rw [Int.natCast_mul, Int.natCast_pow, Int.mul_comm]; rfl
 have e3 : ((l3 : Int) / 2 ^ (32 - up)) = ((l3 / 2 ^ (32 - up) : Nat) : Int) := by rw [Int.natCast_ediv, Int.natCast_pow]; rfl
 have g1 : (l1 + 1) * 2 ^ (32 + up) ≤ 18446744073709551616 := by rw [← p1]; exact Nat.mul_le_mul_right _ h1
 have g2 : 2 ^ up * l2 + 2 ^ up ≤ 2 ^ (32 + up) := by rw [p3, ← Nat.mul_succ, Nat.mul_comm 4294967296]; exact Nat.mul_le_mul_left _ h2
 have g3 : l3 / 2 ^ (32 - up) < 2 ^ up := by rw [Nat.div_lt_iff_lt_mul (Nat.pow_pos (by decide)), Nat.mul_comm, p2]; exact h3
 have g4 : (l1 + 1) * 2 ^ (32 + up) = 2 ^ (32 + up) * l1 + 2 ^ (32 + up) := by rw [Nat.add_mul, Nat.one_mul, Nat.mul_comm]
 have hpos : 0 < 2 ^ up := Nat.pow_pos (by decide)
 rw [e1, e2, e3]
 have w1 : IntKind.u64.wrap ((2 ^ (32 + up) * l1 : Nat) : Int) = ((2 ^ (32 + up) * l1 : Nat) : Int) := by rw [IntKind.wrap_u64]; omega
 have w2 : IntKind.u64.wrap ((2 ^ up * l2 : Nat) : Int) = ((2 ^ up * l2 : Nat) : Int) := by rw [IntKind.wrap_u64]; omega
 rw [w1, w2, or_add (32 + up) l1 (2 ^ up * l2) (by omega) (by omega)]
 have e4 : 2 ^ (32 + up) * l1 + 2 ^ up * l2 = 2 ^ up * (4294967296 * l1 + l2) := by rw [p3, Nat.mul_add, ← Nat.mul_assoc, Nat.mul_comm 4294967296]
 rw [e4, or_add up _ _ g3 (by rw [← e4]; omega)]
def topV (A n up : Nat) : Nat := A * 2 ^ up / 4294967296 ^ (n - 2)
theorem topV_eq (A n up : Nat) (hup : up < 32) (hn : 2 ≤ n) (hA : A < 4294967296 ^ n) :
  topV A n up = 2 ^ (32 + up) * limbAt (digs 4294967296 A) ((n : Int) - 1) + 2 ^ up * limbAt (digs 4294967296 A) ((n : Int) - 2) + limbAt (digs 4294967296 A) ((n : Int) - 3) / 2 ^ (32 - up) := by
 obtain ⟨m, rfl⟩ : ∃ m, n = m + 2 := ⟨n - 2, by omega⟩
 have hb : 0 < 4294967296 ^ m := Nat.pow_pos (by decide)
 have k1 : limbAt (digs 4294967296 A) (((m + 2 : Nat) : Int) - 1) = A / 4294967296 ^ m / 4294967296 := by
  unfold limbAt
  rw [if_neg (by omega), show (((m + 2 : Nat) : Int) - 1).toNat = m + 1 by omega, digs_get (by decide), Nat.pow_succ, ← Nat.div_div_eq_div_mul, Nat.mod_eq_of_lt]
  rw [Nat.div_lt_iff_lt_mul (by decide), Nat.div_lt_iff_lt_mul hb]
  rw [Nat.pow_succ, Nat.pow_succ] at hA
  rw [Nat.mul_comm, ← Nat.mul_assoc]; exact hA
 have k2 : limbAt (digs 4294967296 A) (((m + 2 : Nat) : Int) - 2) = A / 4294967296 ^ m % 4294967296 := by
  unfold limbAt
  rw [if_neg (by omega), show (((m + 2 : Nat) : Int) - 2).toNat = m by omega, digs_get (by decide)]
 have k3 : limbAt (digs 4294967296 A) (((m + 2 : Nat) : Int) - 3) / 2 ^ (32 - up) = A % 4294967296 ^ m * 2 ^ up / 4294967296 ^ m := by
  rcases Nat.eq_zero_or_pos m with rfl | hm
  ·unfold limbAt
   rw [if_pos (by omega), Nat.pow_zero, Nat.mod_one, Nat.zero_mul, Nat.zero_div, Nat.zero_div]
  ·obtain ⟨j, rfl⟩ : ∃ j, m = j + 1 := ⟨m - 1, by omega⟩
   unfold limbAt
   rw [if_neg (by omega), show (((j + 1 + 2 : Nat) : Int) - 3).toNat = j by omega, digs_get (by decide)]
   have p2 : (2 : Nat) ^ (32 - up) * 2 ^ up = 4294967296 := by rw [← Nat.pow_add, show 32 - up + up = 32 by omega]
   have e1 : (4294967296 : Nat) ^ (j + 1) = 4294967296 ^ j * 2 ^ (32 - up) * 2 ^ up := by rw [Nat.mul_assoc, p2, Nat.pow_succ]
   have e2 : A % 4294967296 ^ (j + 1) / 4294967296 ^ j = A / 4294967296 ^ j % 4294967296 := by rw [Nat.pow_succ, Nat.mod_mul_right_div_self]
   rw [← e2, Nat.div_div_eq_div_mul]
   generalize A % 4294967296 ^ (j + 1) = R
   rw [e1, Nat.mul_div_mul_right _ _ (Nat.pow_pos (by decide))]
 rw [k1, k2, k3]
 unfold topV
 rw [show m + 2 - 2 = m by omega]
 have hd := Nat.div_add_mod A (4294967296 ^ m)
 have hq := Nat.div_add_mod (A / 4294967296 ^ m) 4294967296
 generalize A / 4294967296 ^ m / 4294967296 = l1 at *
 generalize A / 4294967296 ^ m % 4294967296 = l2 at *
 have e5 : A * 2 ^ up = 4294967296 ^ m * (2 ^ up * (4294967296 * l1 + l2)) + A % 4294967296 ^ m * 2 ^ up := by
  rw [hq]
  generalize A / 4294967296 ^ m = Q at *
  generalize A % 4294967296 ^ m = R at *
  rw [← hd]
  grind
 rw [e5, Nat.mul_add_div hb, Nat.pow_add]
 grind
set_option maxHeartbeats 2000000 in
set_option maxRecDepth 100000 in
theorem first_any (up n A : Nat) (ad : Option Addr) (cap : Nat) (w : World) (hup : up < 32) (hn : 2 ≤ n) (hn2 : n ≤ 1000000) (hA : A < 4294967296 ^ n) (htop : limbAt (digs 4294967296 A) ((n : Int) - 1) < 2 ^ (32 - up)) (hr : RdA .u32 w ad (digs 4294967296 A)) :
    Calls Tryz.prog 169 #[.slice ad (digs 4294967296 A).length cap, .int .i64 n, .int .i64 up] w fun e w' => e = .returned (.int .u64 (topV A n up : Nat)) ∧ Below w.heap.size w w' := by
  have hlt := digs_lt (b := 4294967296) (by decide) A
  have hl : (digs 4294967296 A).length ≤ 1000000 := Nat.le_trans (digs_length_le (by decide) A n hA) hn2
  have hlim : ∀ i, limbAt (digs 4294967296 A) i < 4294967296 := fun i => by
    unfold limbAt
    split
    · decide
    · rw [digs_get (by decide)]; exact Nat.mod_lt _ (by decide)
  have HTB := Lib.hid (top_bits (limbAt (digs 4294967296 A) ((n : Int) - 1)) (limbAt (digs 4294967296 A) ((n : Int) - 2)) (limbAt (digs 4294967296 A) ((n : Int) - 3)) up hup htop (hlim _) (hlim _))
  rw [← topV_eq A n up hup hn hA] at HTB
  have HL := Lib.hid fun (i : Int) (W : World) (hW : Below (w.alloc (.cells #[.slice ad (digs 4294967296 A).length cap] 22)).heap.size (w.alloc (.cells #[.slice ad (digs 4294967296 A).length cap] 22)) W) (h1 : -9223372036854775808 ≤ i) (h2 : i ≤ 9223372036854775807) => limb_any i w.heap.size ad cap (digs 4294967296 A) W h1 h2
    ((hW.cell (p := ⟨w.heap.size, 0, none⟩) (by simp)).trans (by rw [World.cell?_alloc_at _ _ _ _ rfl]; rfl))
    (fun j hj => by
      obtain ⟨b, off, e1, e2, e3⟩ := hr j hj
      exact ⟨b, off, e1, by have := hW.size; simp at this; omega, (hW.cell (p := ⟨b, off + j, none⟩) (by simp; omega)).trans ((World.cell?_alloc_past _ _ _ e2).trans e3)⟩) hlt
  generalize digs 4294967296 A = l at *
  generalize topV A n up = V at *
  generalize limbAt l = f at *
  clear hr hlt htop hA hlim
  go_enter Tryz.func169, Tryz.ntmps169
  go_wp2_with fail
  go_quiet ((go_at_call 180; exact Calls.quiet_of_same ((HL.out _ _ (below_drewN' (Below.refl _ _) _) (by omega) (by omega)).mono fun _ _ ⟨a, b⟩ => ⟨a, b.symm⟩)))
  go_wp2
  go_ret
  exact ⟨by rw [← HTB.out]; rfl, below_drewN' ((Below.refl _ _).alloc (Nat.le_refl _) _) _⟩

end
end Go.Proofs.YtghgcbedajaldaaGreat
