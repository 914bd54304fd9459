/-  shiftDown; Shift by a number that is not above 0.  -/
import Derived.Test.YtnbnbjgdplpemaaRBo
namespace Go.Proofs.Ytnbnbjgdplpemaa
open Go.RowKit Digs

theorem ediv_compl (c P : Int) (hP : 0 < P) : (-1 - c) / P = -1 - c / P := by
  have h1 := Int.emod_add_mul_ediv c P
  have h2 := Int.emod_nonneg c (Int.ne_of_gt hP)
  have h3 := Int.emod_lt_of_pos c hP
  have h4 : P * (-1 - c / P) = -P - P * (c / P) := by rw [Int.mul_sub, Int.mul_neg, Int.mul_one]
  have := (Int.ediv_emod_unique (a := -1 - c) (b := P) (r := P - 1 - c % P) (q := -1 - c / P) hP).2 ⟨by rw [h4]; omega, by omega, by omega⟩
  exact this.1
theorem shd_pos (m k q : Nat) (hq : q = min k (bl m)) : ((m / 2 ^ q : Nat) : Int) = (m : Int) / 2 ^ k := by
  have e : ((m / 2 ^ k : Nat) : Int) = (m : Int) / 2 ^ k := by rw [Int.natCast_ediv, Int.natCast_pow]; rfl
  rw [← e]
  by_cases h : k ≤ bl m
  · rw [hq, Nat.min_eq_left h]
  · have hb := bl_lt m
    rw [hq, Nat.min_eq_right (by omega), Nat.div_eq_of_lt hb, Nat.div_eq_of_lt (Nat.lt_of_lt_of_le hb (Nat.pow_le_pow_right (by decide) (by omega)))]
theorem shd_neg (z : Int) (k q : Nat) (hz : z < 0) (hq : q = min k (bl z.natAbs)) : -1 - (((-1 - z).natAbs / 2 ^ q : Nat) : Int) = z / 2 ^ k := by
  obtain ⟨c, hc⟩ : ∃ c, c = (-1 - z).natAbs := ⟨_, rfl⟩
  have hzc : z = -1 - (c : Int) := by omega
  have hb := bl_lt z.natAbs
  rw [← hc]
  have e : ((c / 2 ^ k : Nat) : Int) = (c : Int) / 2 ^ k := by rw [Int.natCast_ediv, Int.natCast_pow]; rfl
  have hP : (0 : Int) < 2 ^ k := Int.pow_pos (by decide)
  rw [hzc, ediv_compl _ _ hP, ← e]
  by_cases h : k ≤ bl z.natAbs
  · rw [hq, Nat.min_eq_left h]
  · rw [hq, Nat.min_eq_right (by omega), Nat.div_eq_of_lt (show c < _ by omega), Nat.div_eq_of_lt (Nat.lt_of_lt_of_le (show c < _ by omega) (Nat.pow_le_pow_right (by decide) (show bl z.natAbs ≤ k by omega)))]

theorem run_max2i (a b n : Int) (hn : n = max a b) : ∀ (w : World) (ts : Array TypeId) (t : TypeId), (Builtin.max_ ts t #[.int .i64 a, .int .i64 b]).run Try.prog w = .ok (.int .i64 n) w := fun w ts t => by
  have e : (if b > a then b else a) = n := by rw [hn]; split <;> omega
  have h : (Builtin.max_ ts t #[.int .i64 a, .int .i64 b]).run Try.prog w = .ok (.int .i64 (if b > a then b else a)) w := rfl
  rw [h, e]

set_option maxHeartbeats 1000000 in
set_option maxRecDepth 100000 in
theorem shiftDown_pos (z : Int) (v : Value) (k : Nat) (w : World) (hz : len z ≤ 1000000) (hk : k ≤ 9223372036854775808) (h0 : ¬ z < 0) (h : IntV w v z) :
    Calls Try.prog 98 #[v, .int .i64 (-(k : Int))] w (IntPost w (z / 2 ^ k)) := by
  have h' := h
  obtain ⟨ad, n, c, rfl, hr⟩ := h
  obtain ⟨q, hq⟩ : ∃ q, q = min k (bl z.natAbs) := ⟨_, rfl⟩
  have hZ := shd_pos z.natAbs k q hq
  rw [show (z.natAbs : Int) = z by omega] at hZ
  have hbl : bl z.natAbs ≤ 32 * len z := bl_le_iff.2 (by rw [← pow32]; exact digs_lt_pow (by decide) _)
  have hqb : q ≤ 32000000 := by omega
  have hblb : bl z.natAbs ≤ 32000000 := by omega
  have HBL := Lib.hid fun W hw => Lib.hid (bitLength_any z.natAbs (.slice ad n c) W hz (hr.keep (w' := W) hw))
  have HSH := Lib.hid fun W hw => Lib.hid (shr_any z.natAbs q (.slice ad n c) W (by omega) hz (hr.keep (w' := W) hw))
  have HOW := Lib.hid fun v W h => Lib.hid (own_any false v (digs 4294967296 (z.natAbs / 2 ^ q)) W h (digs_lt (by decide) _))
  rw [vl_digs (by decide), show sg false (z.natAbs / 2 ^ q) = ((z.natAbs / 2 ^ q : Nat) : Int) from rfl, hZ] at HOW
  have hmax := run_max2i (-(k : Int)) (-((bl z.natAbs : Nat) : Int)) (-(q : Int)) (by omega)
  rw [decide_eq_false h0]
  clear h' hr hZ hz hbl hq h0
  generalize bl z.natAbs = B at *
  generalize z / 2 ^ k = Z at *
  go_enter Try.func98, Try.ntmps98
  go_wp2_with fail
  (with_reducible refine (HBL.out _ (below2 _ _ _)).out.mono ?_)
  rintro e w1 ⟨rfl, rfl⟩
  go_wp2_with fail
  (with_reducible refine (HSH.out _ (below2 _ _ _)).out.mono ?_)
  rintro e w1 ⟨v1, rfl, ho1, hb1⟩
  go_wp2_with fail
  (with_reducible refine (HOW.out _ _ ho1.rd).out.mono ?_)
  rintro e w2 ⟨v2, rfl, ⟨ad2, n2, c2, rfl, hr2⟩, hb2'⟩
  have hb2 := hb1.trans (hb2'.mono hb1.size)
  obtain ⟨_, cE, cF, fE, fF⟩ := zc2 hb2
  have hX : BX (w.heap.size + 1) (.bool false) (.slice none 0 0) 0 w2 := ⟨cE, cF, fE, fF, IntV.zero _ false 0 rfl⟩
  have hI2 : IntV w2 (.agg #[.bool (decide (Z < 0)), .slice ad2 n2 c2]) Z := ⟨_, _, _, rfl, hr2⟩
  have HX2 := Lib.hid (hX.mine hI2)
  have hc2 := HX2.out.cells
  have HB2 := Lib.hid ((below2 w _ _).trans (hb2.mono (by simp <;> omega)))
  clear hX hI2 hr2 hb1 hb2 hb2'
  go_wp2_with fail
  refine bodyPost_ret (v := .agg #[.bool (decide (Z < 0)), .slice ad2 n2 c2]) (by simp [results, Try.results98, go_sem, hc2.1, hc2.2]) rfl ⟨_, rfl, HX2.out.iv, ?_⟩
  exact (HB2.out.setCell (by simp) _).setCell (by simp) _

set_option maxHeartbeats 1000000 in
set_option maxRecDepth 100000 in
theorem shiftDown_neg (z : Int) (v : Value) (k : Nat) (w : World) (hz : len z ≤ 1000000) (hk : k ≤ 9223372036854775808) (h0 : z < 0) (h : IntV w v z) :
    Calls Try.prog 98 #[v, .int .i64 (-(k : Int))] w (IntPost w (z / 2 ^ k)) := by
  have HC := Lib.hid fun W hw => Lib.hid (complement_any z v W hz (h.keep (w' := W) hw))
  obtain ⟨ad, n, c, rfl, hr⟩ := h
  obtain ⟨q, hq⟩ : ∃ q, q = min k (bl z.natAbs) := ⟨_, rfl⟩
  have hZ := shd_neg z k q h0 hq
  have hbl : bl z.natAbs ≤ 32 * len z := bl_le_iff.2 (by rw [← pow32]; exact digs_lt_pow (by decide) _)
  have hqb : q ≤ 32000000 := by omega
  have hblb : bl z.natAbs ≤ 32000000 := by omega
  have hlz := Nat.le_trans (compl_len h0) hz
  have HBL := Lib.hid fun W hw => Lib.hid (bitLength_any z.natAbs (.slice ad n c) W hz (hr.keep (w' := W) hw))
  have HSH := Lib.hid fun u W h => Lib.hid (shr_any (-1 - z).natAbs q u W (by omega) hlz h)
  have HOW := Lib.hid fun v W h => Lib.hid (own_any false v (digs 4294967296 ((-1 - z).natAbs / 2 ^ q)) W h (digs_lt (by decide) _))
  rw [vl_digs (by decide), show sg false ((-1 - z).natAbs / 2 ^ q) = (((-1 - z).natAbs / 2 ^ q : Nat) : Int) from rfl] at HOW
  have hlm : len (((-1 - z).natAbs / 2 ^ q : Nat) : Int) ≤ 1000000 := by
    unfold len at hlz ⊢
    rw [Int.natAbs_natCast]
    exact Nat.le_trans (digs_length_mono (by decide) (Nat.div_le_self _ _)) hlz
  have HC2 := Lib.hid fun u W hu => Lib.hid (complement_any (((-1 - z).natAbs / 2 ^ q : Nat) : Int) u W hlm hu)
  rw [hZ] at HC2
  have hmax := run_max2i (-(k : Int)) (-((bl z.natAbs : Nat) : Int)) (-(q : Int)) (by omega)
  rw [decide_eq_true h0] at HC ⊢
  have hlim := run_limbs
  clear hr hZ hz hbl hq h0 hlz hlm
  generalize bl z.natAbs = B at *
  generalize z / 2 ^ k = Z at *
  go_enter Try.func98, Try.ntmps98
  go_wp2_with fail
  (with_reducible refine (HBL.out _ (below2 _ _ _)).out.mono ?_)
  rintro e w1 ⟨rfl, rfl⟩
  go_wp2_with fail
  (with_reducible refine (HC.out _ (below2 _ _ _)).out.mono ?_)
  rintro e wa ⟨va, rfl, ⟨da, na, ca, rfl, hra⟩, hba⟩
  go_wp2_with fail
  (with_reducible refine (HSH.out _ _ hra).out.mono ?_)
  rintro e wb ⟨vb, rfl, hob, hbb⟩
  go_wp2_with fail
  (with_reducible refine (HOW.out _ _ hob.rd).out.mono ?_)
  rintro e wc ⟨vc, rfl, hic, hbc⟩
  have hb1 := (hba.trans (hbb.mono hba.size)).trans (hbc.mono (by have := hba.size; have := hbb.size; omega))
  clear hba hbb hbc hra hob
  go_wp2_with fail
  (with_reducible refine (HC2.out _ _ hic).out.mono ?_)
  rintro e w2 ⟨v2, rfl, ⟨ad2, n2, c2, rfl, hr2⟩, hb2'⟩
  have hb2 := hb1.trans (hb2'.mono hb1.size)
  obtain ⟨_, cE, cF, fE, fF⟩ := zc2 hb2
  have hX : BX (w.heap.size + 1) (.bool false) (.slice none 0 0) 0 w2 := ⟨cE, cF, fE, fF, IntV.zero _ false 0 rfl⟩
  have hI2 : IntV w2 (.agg #[.bool (decide (Z < 0)), .slice ad2 n2 c2]) Z := ⟨_, _, _, rfl, hr2⟩
  have HX2 := Lib.hid (hX.mine hI2)
  have hc2 := HX2.out.cells
  have HB2 := Lib.hid ((below2 w _ _).trans (hb2.mono (by simp <;> omega)))
  clear hX hI2 hr2 hb1 hb2 hb2'
  go_wp2_with fail
  refine bodyPost_ret (v := .agg #[.bool (decide (Z < 0)), .slice ad2 n2 c2]) (by simp [results, Try.results98, go_sem, hc2.1, hc2.2]) rfl ⟨_, rfl, HX2.out.iv, ?_⟩
  exact (HB2.out.setCell (by simp) _).setCell (by simp) _

theorem shiftDown_any (z : Int) (v : Value) (k : Nat) (w : World) (hz : len z ≤ 1000000) (hk : k ≤ 9223372036854775808) (h : IntV w v z) :
    Calls Try.prog 98 #[v, .int .i64 (-(k : Int))] w (IntPost w (z / 2 ^ k)) := by
  by_cases h0 : z < 0
  · exact shiftDown_neg z v k w hz hk h0 h
  · exact shiftDown_pos z v k w hz hk h0 h

set_option maxHeartbeats 1000000 in
set_option maxRecDepth 100000 in
theorem Shift_down (z : Int) (v : Value) (k : Nat) (w : World) (hz : len z ≤ 1000000) (hk : k ≤ 9223372036854775808) (h : IntV w v z) :
    Calls Try.prog 50 #[v, .int .i64 (-(k : Int))] w (IntOK w (z / 2 ^ k)) := by
  have HS := Lib.hid fun W hw => Lib.hid (shiftDown_any z v k W hz hk (h.keep (w' := W) hw))
  obtain ⟨ad, n, c, rfl, hr⟩ := h
  clear hr hz
  generalize decide (z < 0) = b at *
  generalize z / 2 ^ k = Z at *
  have hn0 : -(k : Int) ≤ 0 := by omega
  go_enter Try.func50, Try.ntmps50
  go_wp2_with fail
  (with_reducible refine (HS.out _ (below2 _ _ _)).out.mono ?_)
  rintro e w2 ⟨v2, rfl, ⟨ad2, n2, c2, rfl, hr2⟩, hb2⟩
  obtain ⟨_, cE, cF, fE, fF⟩ := zc2 hb2
  have hX : BX (w.heap.size + 1) (.bool false) (.slice none 0 0) 0 w2 := ⟨cE, cF, fE, fF, IntV.zero _ false 0 rfl⟩
  have hI2 : IntV w2 (.agg #[.bool (decide (Z < 0)), .slice ad2 n2 c2]) Z := ⟨_, _, _, rfl, hr2⟩
  have HX2 := Lib.hid (hX.mine hI2)
  have hc2 := HX2.out.cells
  have HB2 := Lib.hid ((below2 w _ _).trans (hb2.mono (by simp <;> omega)))
  clear hX hI2 hr2 hb2
  go_wp2_with fail
  refine bodyPost_ret (v := .tuple #[.agg #[.bool (decide (Z < 0)), .slice ad2 n2 c2], .int .i64 0]) (by simp [results, Try.results50, go_sem, hc2.1, hc2.2]) rfl ⟨_, rfl, HX2.out.iv, ?_⟩
  exact (HB2.out.setCell (by simp) _).setCell (by simp) _

end Go.Proofs.Ytnbnbjgdplpemaa
