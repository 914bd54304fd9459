/-  Fractions in lowest terms: no run of the model.  -/
import Derived.Test.YtiegkjfpdiohkaaGreatMath
namespace Go.Proofs.YtiegkjfpdiohkaaGreat
/-- No common divisor. -/
def cop (a b : Int) : Prop := Int.gcd a b = 1
theorem cop_comm {a b : Int} (h : cop a b) : cop b a := by unfold cop at *; rw [Int.gcd_comm]; exact h
theorem cop_mul {a b c : Int} (h1 : cop a b) (h2 : cop a c) : cop a (b * c) := by
  unfold cop at *
  rw [Int.gcd_mul_right_right_of_gcd_eq_one h1]; exact h2
theorem cop_dvd {a b c : Int} (h : cop a b) (hc : c ∣ b) : cop a c := by
  unfold cop at *
  rw [Int.gcd_eq_one_iff] at *
  intro k h1 h2
  exact h k h1 (Int.dvd_trans h2 hc)
theorem cop_of_dvd_mul {a b c : Int} (h : cop a b) (hd : a ∣ b * c) : a ∣ c := by
  unfold cop at h
  have h1 : Int.gcd a (b * c) = Int.gcd a c := Int.gcd_mul_right_right_of_gcd_eq_one h
  have h2 : ((Int.gcd a (b * c) : Nat) : Int) ∣ c := by rw [h1]; exact Int.gcd_dvd_right ..
  exact Int.dvd_trans (Int.dvd_coe_gcd (Int.dvd_refl a) hd) h2
/-- In lowest terms. -/
def Low (n d : Int) : Prop := 0 < d ∧ cop n d
/-- a / b in lowest terms. -/
def qn (a b : Int) : Int := (if b < 0 then -a else a).tdiv (Int.gcd a b)
def qd (a b : Int) : Int := (if b < 0 then -b else b).tdiv (Int.gcd a b)
theorem gcd_split (a b : Int) (h : b ≠ 0) : ∃ g x y : Int, ((Int.gcd a b : Nat) : Int) = g ∧ 0 < g ∧ a = g * x ∧ b = g * y ∧ cop x y := by
  obtain ⟨x, hx⟩ := Int.gcd_dvd_left a b
  obtain ⟨y, hy⟩ := Int.gcd_dvd_right a b
  have hg : ((Int.gcd a b : Nat) : Int) ≠ 0 := by
    intro h0
    exact h (Int.gcd_eq_zero_iff.1 (by omega : Int.gcd a b = 0)).2
  refine ⟨_, x, y, rfl, by omega, hx, hy, ?_⟩
  unfold cop
  have h1 : Int.gcd (((Int.gcd a b : Nat) : Int) * x) (((Int.gcd a b : Nat) : Int) * y) = Int.gcd a b := by rw [← hx, ← hy]
  rw [Int.gcd_mul_left, Int.natAbs_natCast] at h1
  have h3 : 0 < Int.gcd a b := by omega
  exact Nat.eq_of_mul_eq_mul_left h3 (by rw [h1, Nat.mul_one])
theorem tdiv_cancel {g x : Int} (hg : 0 < g) : (g * x).tdiv g = x := Int.mul_tdiv_cancel_left x (by omega)
theorem low_uniq {n d n' d' : Int} (h : Low n d) (h' : Low n' d') (he : n * d' = n' * d) : n = n' ∧ d = d' := by
  have h1 : d ∣ d' := cop_of_dvd_mul (b := n) (cop_comm h.2) ⟨n', by rw [he, Int.mul_comm]⟩
  have h2 : d' ∣ d := cop_of_dvd_mul (b := n') (cop_comm h'.2) ⟨n, by rw [← he, Int.mul_comm]⟩
  have h3 : d = d' := Int.dvd_antisymm (by have := h.1; omega) (by have := h'.1; omega) h1 h2
  subst h3
  exact ⟨Int.eq_of_mul_eq_mul_right (by have := h.1; omega) he, rfl⟩
theorem q_low (a b : Int) (hb : b ≠ 0) : Low (qn a b) (qd a b) ∧ qn a b * b = a * qd a b := by
  obtain ⟨g, x, y, hg, h0, rfl, rfl, hc⟩ := gcd_split a b hb
  have hy : y ≠ 0 := by rintro rfl; simp at hb
  unfold qn qd
  rw [hg]
  by_cases hn : g * y < 0
  · have hy0 : y < 0 := by
      rcases Int.lt_or_gt_of_ne hy with h | h
      · exact h
      · have := Int.mul_pos h0 h; omega
    rw [if_pos hn, if_pos hn, ← Int.mul_neg, ← Int.mul_neg, tdiv_cancel h0, tdiv_cancel h0]
    refine ⟨⟨by omega, ?_⟩, by grind⟩
    unfold cop at *
    rw [Int.gcd_neg, Int.neg_gcd]; exact hc
  · have hy0 : 0 < y := by
      rcases Int.lt_or_gt_of_ne hy with h | h
      · have := Int.mul_neg_of_pos_of_neg h0 h; omega
      · exact h
    rw [if_neg hn, if_neg hn, tdiv_cancel h0, tdiv_cancel h0]
    exact ⟨⟨by omega, hc⟩, by grind⟩
theorem q_uniq {n d a b : Int} (h : Low n d) (hb : b ≠ 0) (hx : n * b = a * d) : qn a b = n ∧ qd a b = d := by
  obtain ⟨h1, h2⟩ := q_low a b hb
  have h3 : qn a b * d = n * qd a b := by
    have : (qn a b * d) * b = (n * qd a b) * b := by grind
    exact Int.eq_of_mul_eq_mul_right hb this
  exact low_uniq h1 h h3
theorem cop_add {n1 n2 a b : Int} (h : cop a b) (h1 : cop n1 a) : cop (n1 * b + n2 * a) a := by
  unfold cop
  rw [Int.gcd_add_mul_right_left]
  have : cop a (n1 * b) := cop_mul (cop_comm h1) h
  have := cop_comm this
  exact this
/-- The program's sum. -/
theorem add_low {n1 d1 n2 d2 : Int} (h1 : Low n1 d1) (h2 : Low n2 d2) :
    ∀ c a b n r : Int, ((Int.gcd d1 d2 : Nat) : Int) = c → d1.tdiv c = a → d2.tdiv c = b → n1 * b + n2 * a = n → ((Int.gcd n c : Nat) : Int) = r →
      qn (n1 * d2 + n2 * d1) (d1 * d2) = n.tdiv r ∧ qd (n1 * d2 + n2 * d1) (d1 * d2) = a * (d2.tdiv r) := by
  intro c a b n r hc ha hb hn hr
  have hd1 := h1.1
  have hd2 := h2.1
  obtain ⟨g, x, y, hg, h0, e1, e2, hxy⟩ := gcd_split d1 d2 (by omega)
  rw [hg] at hc
  subst hc
  have ea : a = x := by rw [← ha, e1, tdiv_cancel h0]
  have eb : b = y := by rw [← hb, e2, tdiv_cancel h0]
  subst ea eb
  have hx0 : 0 < a := by
    rcases Int.lt_trichotomy a 0 with h | h | h
    · have := Int.mul_neg_of_pos_of_neg h0 h; omega
    · subst h; simp at e1; omega
    · exact h
  have hy0 : 0 < b := by
    rcases Int.lt_trichotomy b 0 with h | h | h
    · have := Int.mul_neg_of_pos_of_neg h0 h; omega
    · subst h; simp at e2; omega
    · exact h
  obtain ⟨s, u, v, hs, hs0, f1, f2, huv⟩ := gcd_split n g (by omega)
  rw [hs] at hr
  subst hr
  have hv0 : 0 < v := by
    rcases Int.lt_trichotomy v 0 with h | h | h
    · have := Int.mul_neg_of_pos_of_neg hs0 h; omega
    · subst h; simp at f2; omega
    · exact h
  have en : n.tdiv s = u := by rw [f1, tdiv_cancel hs0]
  have ed : d2.tdiv s = v * b := by rw [e2, f2, Int.mul_assoc, tdiv_cancel hs0]
  rw [en, ed]
  -- what has nothing in common
  have hn1a : cop n1 a := cop_dvd h1.2 ⟨g, by rw [e1, Int.mul_comm]⟩
  have hn2b : cop n2 b := cop_dvd h2.2 ⟨g, by rw [e2, Int.mul_comm]⟩
  have hna : cop n a := by rw [← hn]; exact cop_add hxy hn1a
  have hnb : cop n b := by rw [← hn, Int.add_comm]; exact cop_add (cop_comm hxy) hn2b
  have hun : u ∣ n := ⟨s, by rw [f1, Int.mul_comm]⟩
  have hua : cop u a := cop_comm (cop_dvd (cop_comm hna) hun)
  have hub : cop u b := cop_comm (cop_dvd (cop_comm hnb) hun)
  refine q_uniq ⟨Int.mul_pos hx0 (Int.mul_pos hv0 hy0), cop_mul hua (cop_mul huv hub)⟩ (by have := Int.mul_pos hd1 hd2; omega) ?_
  grind
/-- The program's product. -/
theorem mul_low {n1 d1 n2 d2 : Int} (h1 : Low n1 d1) (h2 : Low n2 d2) :
    ∀ f s : Int, ((Int.gcd n1 d2 : Nat) : Int) = f → ((Int.gcd n2 d1 : Nat) : Int) = s →
      qn (n1 * n2) (d1 * d2) = n1.tdiv f * n2.tdiv s ∧ qd (n1 * n2) (d1 * d2) = d1.tdiv s * d2.tdiv f := by
  intro f s hf hs
  have hd1 := h1.1
  have hd2 := h2.1
  obtain ⟨f', x, y, hf', f0, e1, e2, hxy⟩ := gcd_split n1 d2 (by omega)
  obtain ⟨s', u, v, hs', s0, e3, e4, huv⟩ := gcd_split n2 d1 (by omega)
  rw [hf'] at hf
  rw [hs'] at hs
  subst hf hs
  have a1 : n1.tdiv f' = x := by rw [e1, tdiv_cancel f0]
  have a2 : d2.tdiv f' = y := by rw [e2, tdiv_cancel f0]
  have a3 : n2.tdiv s' = u := by rw [e3, tdiv_cancel s0]
  have a4 : d1.tdiv s' = v := by rw [e4, tdiv_cancel s0]
  rw [a1, a2, a3, a4]
  have hy0 : 0 < y := by
    rcases Int.lt_trichotomy y 0 with h | h | h
    · have := Int.mul_neg_of_pos_of_neg f0 h; omega
    · subst h; simp at e2; omega
    · exact h
  have hv0 : 0 < v := by
    rcases Int.lt_trichotomy v 0 with h | h | h
    · have := Int.mul_neg_of_pos_of_neg s0 h; omega
    · subst h; simp at e4; omega
    · exact h
  have hxv : cop x v := by
    have p : cop n1 v := cop_dvd h1.2 ⟨s', by rw [e4, Int.mul_comm]⟩
    exact cop_comm (cop_dvd (cop_comm p) ⟨f', by rw [e1, Int.mul_comm]⟩)
  have huy : cop u y := by
    have p : cop n2 y := cop_dvd h2.2 ⟨f', by rw [e2, Int.mul_comm]⟩
    exact cop_comm (cop_dvd (cop_comm p) ⟨s', by rw [e3, Int.mul_comm]⟩)
  refine q_uniq ⟨Int.mul_pos hv0 hy0, ?_⟩ (by have := Int.mul_pos hd1 hd2; omega) ?_
  · exact cop_comm (cop_mul (cop_comm (cop_mul hxv hxy)) (cop_comm (cop_mul huv huy)))
  · rw [e1, e2, e3, e4]; grind

theorem sgn_cross {n d a b : Int} (hd : 0 < d) (hb : 0 < b) (he : n * b = a * d) : (n < 0 ↔ a < 0) ∧ (n = 0 ↔ a = 0) := by
  rcases Int.lt_trichotomy n 0 with h | h | h <;> rcases Int.lt_trichotomy a 0 with k | k | k
  · omega
  · subst k; rw [Int.zero_mul] at he; have := Int.mul_neg_of_neg_of_pos h hb; omega
  · have := Int.mul_neg_of_neg_of_pos h hb; have := Int.mul_pos k hd; omega
  · subst h; rw [Int.zero_mul] at he; have := Int.mul_neg_of_neg_of_pos k hd; omega
  · omega
  · subst h; rw [Int.zero_mul] at he; have := Int.mul_pos k hd; omega
  · have := Int.mul_neg_of_neg_of_pos k hd; have := Int.mul_pos h hb; omega
  · subst k; rw [Int.zero_mul] at he; have := Int.mul_pos h hb; omega
  · omega
theorem q_sgn {a b : Int} (hb : 0 < b) : (qn a b < 0 ↔ a < 0) ∧ (qn a b = 0 ↔ a = 0) :=
  have h := q_low a b (by omega)
  sgn_cross h.1.1 hb h.2

end Go.Proofs.YtiegkjfpdiohkaaGreat
