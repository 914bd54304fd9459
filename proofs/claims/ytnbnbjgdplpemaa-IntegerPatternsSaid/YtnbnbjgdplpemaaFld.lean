/-  ones, checkField, Field, Deposit, of the program.  -/
import Derived.Test.YtnbnbjgdplpemaaShd
namespace Go.Proofs.Ytnbnbjgdplpemaa
open Go.RowKit Digs

theorem digs_pow_len (s : Nat) (h : s ≤ 65536) : (digs 4294967296 (2 ^ s)).length ≤ 3000 := by
  refine Nat.le_trans (digs_length_le (by decide) _ (s / 32 + 1) ?_) (by omega)
  rw [pow32]
  exact Nat.pow_lt_pow_right (by decide) (by omega)

/-- The number whose bits from p to p + s - 1 are set. -/
def onesN (s p : Nat) : Nat := (1 * 2 ^ s - 1) * 2 ^ p

set_option maxHeartbeats 1000000 in
set_option maxRecDepth 100000 in
theorem ones_any (s p : Nat) (w : World) (hs : s ≤ 65536) (hp : p ≤ 65536) :
    Calls Try.prog 106 #[.int .i64 (s : Int), .int .i64 (p : Int)] w (IntPost w ((onesN s p : Nat) : Int)) := by
  have hl1 : (digs 4294967296 (1 * 2 ^ s)).length ≤ 3000 := by rw [Nat.one_mul]; exact digs_pow_len s hs
  have hl2 : (digs 4294967296 (1 * 2 ^ s - 1)).length ≤ 3000 := Nat.le_trans (digs_length_mono (by decide) (Nat.sub_le _ _)) hl1
  have hone : 1 ≤ 1 * 2 ^ s := by have := Nat.two_pow_pos s; omega
  have HS1 := Lib.hid fun u W h => Lib.hid (shl_any 1 s u W (by omega) (by decide +kernel) h)
  have HSB := Lib.hid fun u v W h h' => Lib.hid (sub_any (1 * 2 ^ s) 1 u v W (by omega) hone h h')
  have HS2 := Lib.hid fun u W h => Lib.hid (shl_any (1 * 2 ^ s - 1) p u W (by omega) (by omega) h)
  have HOW := Lib.hid fun v W h => Lib.hid (own_any false v (digs 4294967296 ((1 * 2 ^ s - 1) * 2 ^ p)) W h (digs_lt (by decide) _))
  rw [vl_digs (by decide), show sg false ((1 * 2 ^ s - 1) * 2 ^ p) = (((1 * 2 ^ s - 1) * 2 ^ p : Nat) : Int) from rfl] at HOW
  unfold onesN
  clear hl1 hl2 hone
  generalize (1 * 2 ^ s - 1) * 2 ^ p = M at *
  go_enter Try.func106, Try.ntmps106
  go_wp2_with fail
  (with_reducible refine (HS1.out _ _ (rd_one' _ _ _ (by simp))).out.mono ?_)
  rintro e w1 ⟨v1, rfl, ho1, hb1⟩
  have hbx1 := ((Below.refl (w.alloc (.cells #[.bool false, .slice none 0 0] 28)).heap.size _).alloc (Nat.le_refl _) (.cells #[.int .u32 1] 93)).trans (hb1.mono (by simp))
  go_wp2_with fail
  (with_reducible refine (HSB.out _ _ _ (ho1.rd.keep ((Below.refl _ _).alloc (Nat.le_refl _) _)) (rd_one' _ _ _ rfl)).out.mono ?_)
  rintro e w2 ⟨v2, rfl, ho2, hb2⟩
  have hbx2 := (hbx1.alloc hbx1.size (.cells #[.int .u32 1] 93)).trans (hb2.mono (by have := hbx1.size; simp at this ⊢; omega))
  go_wp2_with fail
  (with_reducible refine (HS2.out _ _ ho2.rd).out.mono ?_)
  rintro e w3 ⟨v3, rfl, ho3, hb3⟩
  have hbx3 := hbx2.trans (hb3.mono hbx2.size)
  go_wp2_with fail
  (with_reducible refine (HOW.out _ _ ho3.rd).out.mono ?_)
  rintro e w4 ⟨v4, rfl, ⟨ad, n, c, rfl, hr4⟩, hb4⟩
  have hbx4 := hbx3.trans (hb4.mono hbx3.size)
  obtain ⟨cE, cF, fE, fF, _⟩ := box2 hbx4
  have hX : BX w.heap.size (.bool false) (.slice none 0 0) 0 w4 := ⟨cE, cF, fE, fF, IntV.zero _ false 0 rfl⟩
  have hI4 : IntV w4 (.agg #[.bool (decide ((M : Int) < 0)), .slice ad n c]) (M : Int) := ⟨_, _, _, rfl, hr4⟩
  have HX4 := Lib.hid (hX.mine hI4)
  have hc4 := HX4.out.cells
  have HB4 := Lib.hid (box1b hbx4)
  clear hX hI4 hr4 hb1 hb2 hb3 hb4 hbx1 hbx2 hbx3 hbx4 ho1 ho2 ho3
  go_wp2_with fail
  refine bodyPost_ret (v := .agg #[.bool (decide ((M : Int) < 0)), .slice ad n c]) (by simp [results, Try.results106, go_sem, hc4.1, hc4.2]) rfl ⟨_, rfl, HX4.out.iv, ?_⟩
  exact (HB4.out.setCell (Nat.le_refl _) _).setCell (Nat.le_refl _) _

set_option maxHeartbeats 1000000 in
set_option maxRecDepth 100000 in
theorem check_ok (s p : Nat) (w : World) (hs : s ≤ 65536) (hp : p ≤ 65536) :
    Calls Try.prog 105 #[.int .i64 (s : Int), .int .i64 (p : Int)] w fun e w' => e = .returned (.int .i64 0) ∧ w = w' := by
  have h1 : ¬ (65536 : Int) < (s : Int) := by omega
  have h2 : ¬ (65536 : Int) < (p : Int) := by omega
  go_enter Try.func105, Try.ntmps105
  go_wp2
  go_ret
  exact ⟨rfl, rfl⟩

set_option maxHeartbeats 1000000 in
set_option maxRecDepth 100000 in
theorem check_bad (s p : Int) (w : World) (h : s < 0 ∨ 65536 < s ∨ p < 0 ∨ 65536 < p) :
    Calls Try.prog 105 #[.int .i64 s, .int .i64 p] w fun e w' => e = .returned (.int .i64 1) ∧ w = w' := by
  by_cases h1 : s < 0
  · go_enter Try.func105, Try.ntmps105
    go_wp2
    go_ret
    exact ⟨rfl, rfl⟩
  · by_cases h2 : 65536 < s
    · go_enter Try.func105, Try.ntmps105
      go_wp2
      go_ret
      exact ⟨rfl, rfl⟩
    · by_cases h3 : p < 0
      · go_enter Try.func105, Try.ntmps105
        go_wp2
        go_ret
        exact ⟨rfl, rfl⟩
      · have h4 : 65536 < p := by omega
        clear h
        go_enter Try.func105, Try.ntmps105
        go_wp2
        go_ret
        exact ⟨rfl, rfl⟩

/-- The field of z: s bits from p on. -/
def fieldZ (z : Int) (s p : Nat) : Int := boolZ 8 (z / 2 ^ p) ((onesN s 0 : Nat) : Int)

set_option maxHeartbeats 1000000 in
set_option maxRecDepth 100000 in
theorem Field_bad (z s p : Int) (v : Value) (w : World) (hb : s < 0 ∨ 65536 < s ∨ p < 0 ∨ 65536 < p) (h : IntV w v z) :
    Calls Try.prog 56 #[v, .int .i64 s, .int .i64 p] w (IntErr w 1) := by
  have HC := Lib.hid fun W => Lib.hid (check_bad s p W hb)
  obtain ⟨ad, k, c, rfl, _⟩ := h
  generalize decide (z < 0) = b at *
  clear hb
  go_enter Try.func56, Try.ntmps56
  go_wp2_with fail
  (with_reducible refine (HC.out _).out.mono ?_)
  rintro e w1 ⟨rfl, rfl⟩
  go_wp2_with fail
  refine bodyPost_ret (v := .tuple #[.agg #[.bool false, .slice none 0 0], .int .i64 1]) (by simp [results, Try.results56, go_sem]) rfl ⟨rfl, ?_⟩
  first | exact below2 w _ _ | exact Below.setCell (Below.setCell (below2 w _ _) (by simp) _) (by simp) _

set_option maxHeartbeats 2000000 in
set_option maxRecDepth 100000 in
theorem Field_any (z : Int) (s p : Nat) (v : Value) (w : World) (hs : s ≤ 65536) (hp : p ≤ 65536) (hz : len z ≤ 900000) (h : IntV w v z) :
    Calls Try.prog 56 #[v, .int .i64 (s : Int), .int .i64 (p : Int)] w (IntOK w (fieldZ z s p)) := by
  have hlo : len ((onesN s 0 : Nat) : Int) ≤ 3000 := by
    unfold len onesN
    rw [Int.natAbs_natCast, Nat.pow_zero, Nat.mul_one, Nat.one_mul]
    exact Nat.le_trans (digs_length_mono (by decide) (Nat.sub_le _ _)) (digs_pow_len s hs)
  have hld : len (z / 2 ^ p) ≤ 900000 := Nat.le_trans (digs_length_mono (by decide) (Int.natAbs_ediv_le_natAbs _ _)) hz
  have HC := Lib.hid fun W => Lib.hid (check_ok s p W hs hp)
  have HD := Lib.hid fun W hw => Lib.hid (shiftDown_any z v p W (by omega) (by omega) (h.keep (w' := W) hw))
  have HOP := Lib.hid fun W => Lib.hid (show Calls Try.prog 100 #[.int .i64 8] W (OpPost 8 W) from operation_at 8 W (by decide))
  have HON := Lib.hid fun W => Lib.hid (show Calls Try.prog 106 #[.int .i64 (s : Int), .int .i64 0] W (IntPost W ((onesN s 0 : Nat) : Int)) from ones_any s 0 W hs (by decide))
  have HCB := Lib.hid fun u v T W ha hb hT => Lib.hid (combine_any 8 T (z / 2 ^ p) ((onesN s 0 : Nat) : Int) u v W (by omega) (by omega) ha hb hT)
  obtain ⟨ad, n, c, rfl, hr⟩ := h
  unfold fieldZ
  clear hr hlo hld hs hz
  generalize decide (z < 0) = b at *
  generalize ((onesN s 0 : Nat) : Int) = O at *
  generalize z / 2 ^ p = D at *
  go_enter Try.func56, Try.ntmps56
  go_wp2_with fail
  (with_reducible refine (HC.out _).out.mono ?_)
  rintro e w1 ⟨rfl, rfl⟩
  go_wp2_with fail
  (with_reducible refine (HD.out _ (below2 _ _ _)).out.mono ?_)
  rintro e w1 ⟨v1, rfl, hi1, hb1⟩
  go_wp2_with fail
  (with_reducible refine (HOP.out _).out.mono ?_)
  rintro e w2 ⟨T, rfl, hT, hb2⟩
  go_wp2_with fail
  (with_reducible refine (HON.out _).out.mono ?_)
  rintro e w3 ⟨v3, rfl, hi3, hb3⟩
  have hT3 : w3.heap[T]? = some (.cells (tbl 8) 143 (0, 0)) := by rw [hb3.block T (Array.getElem?_eq_some_iff.1 hT).1]; exact hT
  have hi13 := (hi1.keep hb2).keep hb3
  have hb13 := hb1.trans ((hb2.trans (hb3.mono hb2.size)).mono hb1.size)
  go_wp2_with fail
  (with_reducible refine (HCB.out _ _ _ _ hi13 hi3 hT3).out.mono ?_)
  rintro e w4 ⟨v4, rfl, ⟨ad4, n4, c4, rfl, hr4⟩, hb4⟩
  have hb14 := hb13.trans (hb4.mono hb13.size)
  obtain ⟨_, cE, cF, fE, fF⟩ := zc2 hb14
  have hX : BX (w.heap.size + 1) (.bool false) (.slice none 0 0) 0 w4 := ⟨cE, cF, fE, fF, IntV.zero _ false 0 rfl⟩
  have hI4 : IntV w4 (.agg #[.bool (decide (boolZ 8 D O < 0)), .slice ad4 n4 c4]) (boolZ 8 D O) := ⟨_, _, _, rfl, hr4⟩
  have HX4 := Lib.hid (hX.mine hI4)
  have hc4 := HX4.out.cells
  have HB4 := Lib.hid ((below2 w _ _).trans (hb14.mono (by simp <;> omega)))
  clear hX hI4 hr4 hb1 hb2 hb3 hb4 hb13 hb14 hi1 hi3 hi13 hT hT3
  go_wp2_with fail
  refine bodyPost_ret (v := .tuple #[.agg #[.bool (decide (boolZ 8 D O < 0)), .slice ad4 n4 c4], .int .i64 0]) (by simp [results, Try.results56, go_sem, hc4.1, hc4.2]) rfl ⟨_, rfl, HX4.out.iv, ?_⟩
  exact (HB4.out.setCell (by simp) _).setCell (by simp) _

end Go.Proofs.Ytnbnbjgdplpemaa
