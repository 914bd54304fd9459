/-  The reference's chosen and Of (of bits).  -/
import Derived.Test.YtiegkjfpdiohkaaGreatRB
namespace Go.Proofs.YtiegkjfpdiohkaaGreat
open Go.RowKit Digs

theorem opB_at (op n : Nat) (a b : Bool) (h : (if a then 2 else 0) + (if b then 1 else 0) = n) : opB op a b = decide (op / 2 ^ n % 2 = 1) := by
  unfold opB
  rw [h, Nat.testBit_eq_decide_div_mod_eq]

/-- A digit to 65536 of V, as far as its bits from j on are there. -/
def dig (V j K : Nat) : Nat := if 16 * K + 16 ≤ j then 0 else if j ≤ 16 * K then V / 2 ^ (16 * K) % 65536 else V / 2 ^ j % 2 ^ (16 * K + 16 - j)
theorem dig_mid (V j K : Nat) (h1 : 16 * K ≤ j) (h2 : j ≤ 16 * K + 16) : dig V j K = V / 2 ^ j % 2 ^ (16 * K + 16 - j) := by
  unfold dig
  by_cases h : 16 * K + 16 ≤ j
  · rw [if_pos h, show 16 * K + 16 - j = 0 by omega, Nat.pow_zero, Nat.mod_one]
  · rw [if_neg h]
    by_cases h3 : j ≤ 16 * K
    · obtain rfl : j = 16 * K := by omega
      rw [if_pos h3, show 16 * K + 16 - 16 * K = 16 by omega]
    · rw [if_neg h3]
theorem mod_half (x e : Nat) : x % 2 ^ (e + 1) = 2 * (x / 2 % 2 ^ e) + x % 2 := by
  rw [Nat.pow_succ, Nat.mul_comm, Nat.mod_mul, Nat.add_comm]
theorem dig_step (V j K : Nat) (hK : K = j / 16) : dig V j K = dig V (j + 1) K * 2 + if V.testBit j then 1 else 0 := by
  rw [dig_mid V j K (by omega) (by omega), dig_mid V (j + 1) K (by omega) (by omega), show 16 * K + 16 - j = (16 * K + 16 - (j + 1)) + 1 by omega, mod_half, Nat.div_div_eq_div_mul, show 2 ^ j * 2 = 2 ^ (j + 1) from (Nat.pow_succ 2 j).symm, Nat.testBit_eq_decide_div_mod_eq]
  have h2 : V / 2 ^ j % 2 < 2 := Nat.mod_lt _ (by decide)
  by_cases h : V / 2 ^ j % 2 = 1
  · rw [decide_eq_true h, if_pos rfl, h]
    omega
  · rw [decide_eq_false h, if_neg (by decide)]
    omega
theorem dig_other (V j K : Nat) (hK : K ≠ j / 16) : dig V j K = dig V (j + 1) K := by
  unfold dig
  by_cases h : 16 * K + 16 ≤ j
  · rw [if_pos h, if_pos (by omega)]
  · rw [if_neg h, if_pos (show j ≤ 16 * K by omega), if_neg (show ¬ 16 * K + 16 ≤ j + 1 by omega), if_pos (show j + 1 ≤ 16 * K by omega)]
theorem dig_half (V j K : Nat) (hK : K = j / 16) : dig V (j + 1) K < 32768 := by
  rw [dig_mid V (j + 1) K (by omega) (by omega)]
  exact Nat.lt_of_lt_of_le (Nat.mod_lt _ (Nat.two_pow_pos _)) (show 2 ^ (16 * K + 16 - (j + 1)) ≤ 2 ^ 15 from Nat.pow_le_pow_right (by decide) (by omega))
theorem dig_lt (V j K : Nat) : dig V j K < 65536 := by
  unfold dig
  split
  · decide
  · split
    · exact Nat.mod_lt _ (by decide)
    · exact Nat.lt_of_lt_of_le (Nat.mod_lt _ (Nat.two_pow_pos _)) (show _ ≤ 2 ^ 16 from Nat.pow_le_pow_right (by decide) (by omega))
def rowD (V j M : Nat) : List Nat := (List.range M).map (dig V j)
theorem rowD_length (V j M : Nat) : (rowD V j M).length = M := by simp [rowD]
theorem rowD_get (V j M K : Nat) (h : K < M) : (rowD V j M)[K]?.getD 0 = dig V j K := by
  unfold rowD
  rw [List.getElem?_map, List.getElem?_range h]
  rfl
theorem rowD_lt (V j M : Nat) : ∀ x ∈ rowD V j M, x < 65536 := by
  intro x hx
  simp only [rowD, List.mem_map] at hx
  obtain ⟨K, _, rfl⟩ := hx
  exact dig_lt V j K
theorem rowD_set (V j M K x : Nat) (hK : K = j / 16) (hx : x = dig V j K) : (rowD V (j + 1) M).set K x = rowD V j M := by
  apply List.ext_getElem
  · simp [rowD]
  · intro i h1 h2
    rw [List.getElem_set]
    by_cases h : K = i
    · rw [if_pos h, hx, h]
      simp [rowD]
    · rw [if_neg h]
      simp only [rowD, List.getElem_map, List.getElem_range]
      exact (dig_other V j i (by omega)).symm
theorem rowD_start (V n M : Nat) (h : V < 2 ^ n) : rowD V n M = List.replicate M 0 := by
  apply List.ext_getElem
  · simp [rowD]
  · intro i h1 h2
    simp only [rowD, List.getElem_map, List.getElem_range, List.getElem_replicate]
    unfold dig
    split
    · rfl
    · split
      · rw [Nat.div_eq_of_lt (Nat.lt_of_lt_of_le h (Nat.pow_le_pow_right (by decide) (by assumption))), Nat.zero_mod]
      · rw [Nat.div_eq_of_lt h, Nat.zero_mod]
theorem vl_range (b V M : Nat) : vl b ((List.range M).map fun K => V / b ^ K % b) = V % b ^ M := by
  induction M with
  | zero => simp [vl, Nat.mod_one]
  | succ M ih =>
    rw [List.range_succ, List.map_append, List.map_singleton, vl_snoc, ih, List.length_map, List.length_range, Nat.pow_succ, Nat.mod_mul]
theorem rowD_val (V n M : Nat) (h : V < 2 ^ n) (hM : n / 16 + 1 = M) : vl 65536 (rowD V 0 M) = V := by
  have e : rowD V 0 M = (List.range M).map fun K => V / 65536 ^ K % 65536 := by
    unfold rowD
    refine List.map_congr_left fun K _ => ?_
    unfold dig
    rw [if_neg (by omega), if_pos (Nat.zero_le _), pow16]
  rw [e, vl_range, Nat.mod_eq_of_lt]
  rw [pow16]
  exact Nat.lt_of_lt_of_le h (Nat.pow_le_pow_right (by decide) (by omega))

/-- The bits that differ from the sign. -/
def xb (l : List Bool) (s : Bool) : List Bool := l.map (· != s)
theorem xb_length (l : List Bool) (s : Bool) : (xb l s).length = l.length := by simp [xb]
theorem xb_bit (l : List Bool) (s : Bool) (j : Nat) (h : j < l.length) : (valB (xb l s)).testBit j = (l[j]?.getD false != s) := by
  rw [valB_bit]
  unfold xb
  rw [List.getElem?_map, List.getElem?_eq_getElem h]
  rfl
theorem ofB_xb (l : List Bool) (s : Bool) : ofB l s = if s then -1 - (valB (xb l s) : Int) else (valB (xb l s) : Int) := by
  unfold ofB xb
  cases s with
  | false =>
    rw [if_neg (by decide), if_neg (by decide)]
    congr 2
    induction l with
    | nil => rfl
    | cons b l ih => rw [List.map_cons, ← ih]; cases b <;> rfl
  | true =>
    rw [if_pos rfl, if_pos rfl]
    congr 3
    refine List.map_congr_left fun b _ => ?_
    cases b <;> rfl

def OfRel (V n M : Nat) (W : World) (base : Nat) (i : Value) (wr : World) : Prop :=
  ∃ (j : Nat) (q : Int), j ≤ n ∧ i = .int .i64 q ∧ q = (j : Int) - 1 ∧ Ri wr base base M (rowD V j M) ∧ Below base W wr

end Go.Proofs.YtiegkjfpdiohkaaGreat
