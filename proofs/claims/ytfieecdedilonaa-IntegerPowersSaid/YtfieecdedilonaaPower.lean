/-  Length, Neg, Abs, Shift (up), Power, of integers.  -/
import Derived.Test.YtfieecdedilonaaShl
import Derived.Test.YtfieecdedilonaaBl
import Derived.Test.YtfieecdedilonaaSigned
import Derived.Test.YtfieecdedilonaaBoole
namespace Go.Proofs.Ytfieecdedilonaa
open Go.RowKit Digs

theorem box1b {w w1 : World} {a b : Value} {t : TypeId} (h : Below (w.alloc (.cells #[a, b] t)).heap.size (w.alloc (.cells #[a, b] t)) w1) : Below w.heap.size w w1 :=
  ((Below.refl _ _).alloc (Nat.le_refl _) _).trans (h.mono (by simp))

set_option maxHeartbeats 1000000 in
set_option maxRecDepth 100000 in
theorem Length_any (z : Int) (v : Value) (w : World) (hz : len z ≤ 1000000) (h : IntV w v z) :
    Calls Try.prog 26 #[v] w fun e w' => e = .returned (.int .i64 ((lenZ z : Nat) : Int)) ∧ Below w.heap.size w w' := by
  have h' := h
  obtain ⟨ad, n, c, rfl, hr⟩ := h
  have hlim := run_limbs
  unfold lenZ
  by_cases hneg : z < 0
  · have hd : decide (z < 0) = true := by simpa using hneg
    rw [if_pos hneg]
    have HC := fun W hw => Lib.hid (complement_any z _ W hz (h'.keep (w' := W) hw))
    have HC := Lib.hid HC
    have HL := fun v W h => Lib.hid (bitLength_any (-1 - z).natAbs v W (Nat.le_trans (compl_len hneg) hz) h)
    have HL := Lib.hid HL
    rw [hd] at HC ⊢
    clear hr h' hz hneg hd
    go_enter Try.func26, Try.ntmps26
    go_wp2_with fail
    refine (HC.out _ ((Below.refl _ _).alloc (Nat.le_refl _) _)).out.mono ?_
    rintro e w1 ⟨v1, rfl, ⟨ad1, n1, c1, rfl, hr1⟩, hb1⟩
    go_wp2_with fail
    refine (HL.out _ _ hr1).out.mono ?_
    rintro e w2 ⟨rfl, rfl⟩
    clear hr1
    go_wp2
    go_ret
    exact ⟨rfl, box1b hb1⟩
  · have hd : decide (z < 0) = false := by simpa using hneg
    rw [if_neg hneg]
    have HL := fun W h => Lib.hid (bitLength_any z.natAbs (.slice ad n c) W hz (hr.keep (w' := W) h))
    have HL := Lib.hid HL
    rw [hd]
    clear hr h' hz hneg hd
    go_enter Try.func26, Try.ntmps26
    go_wp2_with fail
    refine (HL.out _ ((Below.refl _ _).alloc (Nat.le_refl _) _)).out.mono ?_
    rintro e w2 ⟨rfl, rfl⟩
    go_wp2
    go_ret
    exact ⟨rfl, (Below.refl _ _).alloc (Nat.le_refl _) _⟩

theorem len4 {n : Nat} (h : n ≤ 1000000) : n * 4 ≤ 140737488355328 := by omega

set_option maxHeartbeats 1000000 in
set_option maxRecDepth 100000 in
theorem Neg_any (z : Int) (v : Value) (w : World) (hz : len z ≤ 1000000) (h : IntV w v z) :
    Calls Try.prog 34 #[v] w (IntPost w (-z)) := by
  obtain ⟨ad, n, c, rfl, hr⟩ := h
  have HM := fun W hw => Lib.hid (make_any (!decide (z < 0)) (.slice ad n c) _ W (len4 hz) (hr.keep (w' := W) hw) (digs_lt (by decide) _))
  have e : sg (!decide (z < 0)) (vl 4294967296 (digs 4294967296 z.natAbs)) = -z := by
    rw [vl_digs (by decide)]
    have h2 := sg_self z
    revert h2
    cases decide (z < 0) <;> simp [sg] <;> omega
  rw [e] at HM
  have HM := Lib.hid HM
  clear hr hz e
  generalize decide (z < 0) = b at *
  go_enter Try.func34, Try.ntmps34
  go_wp2_with fail
  refine (HM.out _ (below2 _ _ _)).out.mono ?_
  rintro e w1 ⟨v1, rfl, ⟨ad1, n1, c1, rfl, hr1⟩, hb1⟩
  obtain ⟨cE, cF, fE, fF, hsz⟩ := box2r hb1
  have HR := Lib.hid (hr1.store2 cE cF (by intro n h; cases h) (by intro n h; cases h))
  have HB := Lib.hid ((below2 w _ _).trans (hb1.mono (by simp <;> omega)))
  clear hr1 hb1
  go_wp2_with fail
  refine bodyPost_ret (v := .agg #[.bool (decide (-z < 0)), .slice ad1 n1 c1]) (by simp [results, Try.results34, go_sem, cE, cF]) rfl ⟨_, rfl, ⟨_, _, _, rfl, HR.out _ _⟩, ?_⟩
  exact (HB.out.setCell (by simp) _).setCell (by simp) _

theorem sgnZ_zero {z : Int} (h : z = 0) : (sgnZ z == 0) = true := by subst h; rfl
theorem sgnZ_ne {z : Int} (h : z ≠ 0) : (sgnZ z == 0) = false := by unfold sgnZ; split <;> (try split) <;> first | rfl | (exfalso; omega)

set_option maxHeartbeats 1000000 in
set_option maxRecDepth 100000 in
theorem Shift_zero (z : Int) (v : Value) (n : Nat) (w : World) (hz : len z ≤ 1000000) (hn : 1 ≤ n) (h : IntV w v z) (h0 : z = 0) :
    Calls Try.prog 50 #[v, .int .i64 n] w (IntOK w 0) := by
  have h' := h
  obtain ⟨ad, c, k, rfl, hr⟩ := h
  have HS := fun W hw => Lib.hid (sign_any z _ W hz (h'.keep (w' := W) hw))
  have HS := Lib.hid HS
  have hsg := sgnZ_zero h0
  clear hr h' hz h0
  generalize sgnZ z = sy at *
  generalize decide (z < 0) = b at *
  go_enter Try.func50, Try.ntmps50
  go_wp2_with fail
  refine (HS.out _ (below2 _ _ _)).out.mono ?_
  rintro e w1 ⟨rfl, hb1⟩
  obtain ⟨cE, cF, fE, fF, hsz⟩ := box2r hb1
  have HB := Lib.hid ((below2 w _ _).trans (hb1.mono (by simp <;> omega)))
  clear hb1
  go_wp2_with fail
  refine bodyPost_ret (v := .tuple #[.agg #[.bool false, .slice none 0 0], .int .i64 0]) (by simp [results, Try.results50, go_sem, cE, cF]) rfl ⟨_, rfl, ⟨_, _, _, rfl, .inl ⟨rfl, by rw [Int.natAbs_zero, digs_zero]⟩⟩, ?_⟩
  exact (HB.out.setCell (by simp) _).setCell (by simp) _

set_option maxHeartbeats 1000000 in
set_option maxRecDepth 100000 in
theorem Shift_large (z : Int) (v : Value) (n : Nat) (w : World) (hz : len z ≤ 1000000) (hn : 1 ≤ n) (hn2 : n ≤ 9223372036854775807) (h : IntV w v z) (h0 : z ≠ 0) (hl : 65536 < lenZ z + n) :
    Calls Try.prog 50 #[v, .int .i64 n] w (IntErr w 14) := by
  have h' := h
  obtain ⟨ad, c, k, rfl, hr⟩ := h
  have HS := fun W hw => Lib.hid (sign_any z _ W hz (h'.keep (w' := W) hw))
  have HS := Lib.hid HS
  have HL := fun W hw => Lib.hid (Length_any z _ W hz (h'.keep (w' := W) hw))
  have HL := Lib.hid HL
  have hsg := sgnZ_ne h0
  clear hr h' hz h0
  generalize sgnZ z = sy at *
  generalize decide (z < 0) = b at *
  generalize lenZ z = lz at *
  go_enter Try.func50, Try.ntmps50
  go_wp2_with fail
  refine (HS.out _ (below2 _ _ _)).out.mono ?_
  rintro e w1 ⟨rfl, hb1⟩
  have hb1' := hb1
  obtain ⟨cE, cF, fE, fF, hsz⟩ := box2r hb1
  obtain ⟨cA, cB, _, _⟩ := box2two hb1
  have HB := Lib.hid ((below2 w _ _).trans (hb1.mono (by simp <;> omega)))
  clear hb1
  go_wp2_with fail
  refine (HL.out _ HB.out).out.mono ?_
  rintro e w2 ⟨rfl, hb2⟩
  have hb3 := hb1'.trans (hb2.mono hb1'.size)
  obtain ⟨cE2, cF2, fE2, fF2, hsz2⟩ := box2r hb3
  have HB2 := Lib.hid (HB.out.trans (hb2.mono (by omega)))
  clear hb1' hb2 hb3
  go_wp2_with fail
  refine bodyPost_ret (v := .tuple #[.agg #[.bool false, .slice none 0 0], .int .i64 14]) (by simp [results, Try.results50, go_sem, cE2, cF2]) rfl ⟨rfl, ?_⟩
  exact (HB2.out.setCell (by simp) _).setCell (by simp) _

end Go.Proofs.Ytfieecdedilonaa
