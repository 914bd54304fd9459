/-  The reference's Floor, by a number above 0.  -/
import Derived.Test.YtnbnbjgdplpemaaRDiv
import Derived.Test.YtnbnbjgdplpemaaDepo
namespace Go.Proofs.Ytnbnbjgdplpemaa
open Go.RowKit Digs

theorem floor_pos {x y : Int} (hx : 0 ≤ x) : x.tdiv y = x / y := Int.tdiv_eq_ediv_of_nonneg hx
theorem floor_neg {x y : Int} (hy : 0 < y) (hx : x < 0) : x / y = if x.tmod y = 0 then x.tdiv y else x.tdiv y - 1 := by
  obtain ⟨m, rfl⟩ : ∃ m : Int, x = -m := ⟨-x, by omega⟩
  have h0 : 0 ≤ m := by omega
  rw [Int.neg_tdiv, Int.neg_tmod, Int.tdiv_eq_ediv_of_nonneg h0, Int.tmod_eq_emod_of_nonneg h0]
  have h1 := Int.emod_add_mul_ediv m y
  have h2 := Int.emod_nonneg m (Int.ne_of_gt hy)
  have h3 := Int.emod_lt_of_pos m hy
  have h5 : y * (-(m / y)) = -(y * (m / y)) := Int.mul_neg _ _
  by_cases hr : m % y = 0
  · rw [if_pos (by omega)]
    exact ((Int.ediv_emod_unique (a := -m) (b := y) (r := 0) (q := -(m / y)) hy).2 ⟨by rw [h5]; omega, by omega, by omega⟩).1
  · rw [if_neg (by omega)]
    have h4 : y * (-(m / y) - 1) = -(y * (m / y)) - y := by rw [Int.mul_sub, Int.mul_neg, Int.mul_one]
    exact ((Int.ediv_emod_unique (a := -m) (b := y) (r := y - m % y) (q := -(m / y) - 1) hy).2 ⟨by rw [h4]; omega, by omega, by omega⟩).1

set_option maxHeartbeats 4000000 in
set_option maxRecDepth 100000 in
theorem rFloor_any (x y : Int) (vx vy : Value) (w : World) (hx : rlen x ≤ 50000) (hy : rlen y ≤ 50000) (hy0 : 0 < y) (ha : RefV w vx x) (hb : RefV w vy y) :
    Calls Try.prog 104 #[vx, vy] w (RefPost w (x / y)) := by
  have HDV := Lib.hid fun W hw => Lib.hid (rDivide_any x y vx vy W hx hy (by omega) (ha.keep (w' := W) hw) (hb.keep hw))
  have hrl : rlen (x.tmod y) ≤ 1000000 := by
    have h1 : (x.tmod y).natAbs ≤ x.natAbs := by rw [Int.natAbs_tmod]; exact Nat.mod_le _ _
    exact Nat.le_trans (digs_length_mono (by decide) h1) (by unfold rlen at hx; omega)
  have hql : rlen (x.tdiv y) ≤ 50000 := by
    have h1 : (x.tdiv y).natAbs ≤ x.natAbs := by rw [Int.natAbs_tdiv]; exact Nat.div_le_self _ _
    exact Nat.le_trans (digs_length_mono (by decide) h1) hx
  have HSG := Lib.hid fun W v h => Lib.hid (rSign_any (x.tmod y) v W hrl h)
  have HN1 := Lib.hid fun W => Lib.hid (rnew_any 1 W (by decide) (by decide))
  have HSB := Lib.hid fun W u v hu hv => Lib.hid (rSub_any (x.tdiv y) 1 u v W (by omega) (Nat.le_trans (rlen_small 1 (by decide)) (by decide)) hu hv)
  have hyd : decide (y < 0) = false := decide_eq_false (by omega)
  have HFP := Lib.hid fun (h : 0 ≤ x) => floor_pos (y := y) h
  have HFN := Lib.hid fun (h : x < 0) => floor_neg hy0 h
  have hs0 : sgnZ (x.tmod y) = 0 ↔ x.tmod y = 0 := by unfold sgnZ; split <;> (try split) <;> omega
  obtain ⟨adx, nx, cx, rfl, _⟩ := ha
  obtain ⟨ady, ny, cy, rfl, _⟩ := hb
  rw [hyd] at HDV ⊢
  unfold RDivOK at HDV
  clear hrl hql hyd hx hy
  generalize hQ : x.tdiv y = Q at *
  generalize hR : x.tmod y = R at *
  generalize hZ : x / y = Z at *
  clear hQ hR hZ hy0
  generalize hsg : sgnZ R = sg' at *
  go_enter Try.func104, Try.ntmps104
  have HB0 := Lib.hid (below3 w (.cells #[.bool (decide (x < 0)), .slice adx nx cx] 31) (.cells #[.bool false, .slice ady ny cy] 31) (.cells #[.bool false, .slice none 0 0] 31))
  go_wp2_with fail
  (with_reducible refine (HDV.out _ HB0.out).out.mono ?_)
  rintro e w1 ⟨vq, vr, rfl, ⟨dq, nq, eq, rfl, hrq⟩, ⟨dr, nr, er, rfl, hrr⟩, hb1⟩
  obtain ⟨cA, cB, cC, cD, cE, cF, fC, fE, fF, hsz⟩ := box3 hb1
  have HIQ : Hid (RefV w1 (.agg #[.bool (decide (Q < 0)), .slice dq nq eq]) Q) := Lib.hid ⟨_, _, _, rfl, hrq⟩
  have HIR : Hid (RefV w1 (.agg #[.bool (decide (R < 0)), .slice dr nr er]) R) := Lib.hid ⟨_, _, _, rfl, hrr⟩
  have HB1 := Lib.hid (HB0.out.trans (hb1.mono (by simp <;> omega)))
  have HRES : Hid (RX (w.heap.size + 2) (.bool false) (.slice none 0 0) 0 w1) := Lib.hid ⟨cE, cF, fE, fF, RefV.zero0 _⟩
  have HXC : Hid (w1.cell? ⟨w.heap.size, 0, none⟩ = some (.bool (decide (x < 0))) ∧ w1.cell? ⟨w.heap.size + 1, 0, none⟩ = some (.bool false)) := Lib.hid ⟨cA, cC⟩
  clear hrq hrr hb1 cA cB cC cD cE cF fC fE fF
  generalize hbq : decide (Q < 0) = bq at *
  generalize hbr : decide (R < 0) = br at *
  clear hbr
  have hal : Below w1.heap.size w1 ((w1.alloc (.cells #[.bool bq, .slice dq nq eq] 31)).alloc (.cells #[.bool br, .slice dr nr er] 31)) := below2 _ _ _
  have HKQ : Hid (RX w1.heap.size (.bool bq) (.slice dq nq eq) Q ((w1.alloc (.cells #[.bool bq, .slice dq nq eq] 31)).alloc (.cells #[.bool br, .slice dr nr er] 31))) := Lib.hid ((RX.made HIQ.out).keep ((Below.refl _ _).alloc (Nat.le_refl _) _))
  have HKR : Hid (RX (w1.heap.size + 1) (.bool br) (.slice dr nr er) R ((w1.alloc (.cells #[.bool bq, .slice dq nq eq] 31)).alloc (.cells #[.bool br, .slice dr nr er] 31))) := Lib.hid (by
    have h := RX.made (t := 31) (HIR.out.keep ((Below.refl w1.heap.size w1).alloc (Nat.le_refl _) (.cells #[.bool bq, .slice dq nq eq] 31)))
    rw [World.size_alloc] at h
    exact h)
  have HRES2 := Lib.hid (HRES.out.keep hal)
  have HXC2 : Hid (((w1.alloc (.cells #[.bool bq, .slice dq nq eq] 31)).alloc (.cells #[.bool br, .slice dr nr er] 31)).cell? ⟨w.heap.size, 0, none⟩ = some (.bool (decide (x < 0))) ∧ ((w1.alloc (.cells #[.bool bq, .slice dq nq eq] 31)).alloc (.cells #[.bool br, .slice dr nr er] 31)).cell? ⟨w.heap.size + 1, 0, none⟩ = some (.bool false)) :=
    Lib.hid ⟨(hal.cell (p := ⟨w.heap.size, 0, none⟩) (by show w.heap.size < _; omega)).trans HXC.out.1, (hal.cell (p := ⟨w.heap.size + 1, 0, none⟩) (by show w.heap.size + 1 < _; omega)).trans HXC.out.2⟩
  have HB2 := Lib.hid (HB1.out.trans (hal.mono HB1.out.size))
  clear hal HRES HXC HIQ HIR
  obtain ⟨ga0, ga1⟩ := HKR.out.cells
  have hszq : w.heap.size + 2 < w1.heap.size := hsz
  go_wp2_with fail
  (with_reducible refine (HSG.out _ _ HKR.out.rv).out.mono ?_)
  rintro e w2 ⟨rfl, hb2⟩
  have HKQ3 := Lib.hid (HKQ.out.keep hb2)
  have HRES3 := Lib.hid (HRES2.out.keep hb2)
  have HB3 := Lib.hid (HB2.out.trans (hb2.mono HB2.out.size))
  have hcx : w2.cell? ⟨w.heap.size, 0, none⟩ = some (.bool (decide (x < 0))) := (hb2.cell (p := ⟨w.heap.size, 0, none⟩) (by simp; omega)).trans HXC2.out.1
  have hcy : w2.cell? ⟨w.heap.size + 1, 0, none⟩ = some (.bool false) := (hb2.cell (p := ⟨w.heap.size + 1, 0, none⟩) (by simp; omega)).trans HXC2.out.2
  clear hb2 ga0 ga1
  by_cases hc : x < 0 ∧ sg' ≠ 0
  · have hZZ : Z = Q - 1 := by rw [HFN.out hc.1, if_neg (fun h => hc.2 (hs0.2 h))]
    subst hZZ
    have hn1 : (sg' != 0) = true := by simpa using hc.2
    have hn2 : (sg' == 0) = false := by simpa using hc.2
    rw [decide_eq_true hc.1] at hcx
    obtain ⟨gq0, gq1⟩ := HKQ3.out.cells
    go_wp2_with fail
    go_region_held3 (fun w' => w'.cell? ⟨w1.heap.size, 0, none⟩ = some (.bool bq) ∧ w'.cell? ⟨w1.heap.size, 1, none⟩ = some (.slice dq nq eq))
      (first | exact ⟨(cell_store2 (by omega)).trans hs2.1, (cell_store2 (by omega)).trans hs2.2⟩ | exact hs2 | exact hs1 | go_keep)
      (go_loud (first
        | (go_at_call 18; (with_reducible refine (HN1.out _).out.mono ?_); rintro e w3 ⟨v3, rfl, hi3, hb3'⟩; have hb3 := below_dr hb3'; have hs1 := (HKQ3.out.keep hb3).cells)
        | (go_at_call 41; (with_reducible refine (HSB.out _ _ _ (HKQ3.out.keep hb3).rv hi3).out.mono ?_); rintro e w4 ⟨v4, rfl, ⟨d4, n4, e4, rfl, hr4⟩, hb4'⟩; have hb4 := hb3.trans (hb4'.mono hb3.size); have hs2 := (HKQ3.out.keep hb4).cells; have hX4 := HRES3.out.keep hb4; have kc0 := hX4.c0; have kc1 := hX4.c1; have kf0 := hX4.f0; have kf1 := hX4.f1)))
    have hI4 : RefV w4 (.agg #[.bool (decide (Q - 1 < 0)), .slice d4 n4 e4]) (Q - 1) := ⟨_, _, _, rfl, hr4⟩
    have HX5 := Lib.hid (hX4.mine hI4)
    have hc5 := HX5.out.cells
    have HB5 := Lib.hid (HB3.out.trans (hb4.mono HB3.out.size))
    clear hI4 hX4 hr4 hb3 hb3' hb4 hb4' hs1 hs2 hi3
    go_wp2
    refine bodyPost_ret (v := .agg #[.bool (decide (Q - 1 < 0)), .slice d4 n4 e4]) (by simp [results, Try.results104, go_sem, hc5.1, hc5.2]) rfl ⟨_, rfl, HX5.out.rv, ?_⟩
    exact (HB5.out.setCell (by simp <;> omega) _).setCell (by simp <;> omega) _
  · have hZZ : Z = Q := by
      by_cases hx0 : x < 0
      · have h9 : sg' = 0 := by
          rcases Decidable.em (sg' = 0) with h | h
          · exact h
          · exact absurd ⟨hx0, h⟩ hc
        rw [HFN.out hx0, if_pos (hs0.1 h9)]
      · exact (HFP.out (by omega)).symm
    subst hZZ
    by_cases hs9 : sg' = 0
    · have hn1 : (sg' != 0) = false := by simpa using hs9
      have hn2 : (sg' == 0) = true := by simpa using hs9
      clear hc hs0
      obtain ⟨gq0, gq1⟩ := HKQ3.out.cells
      obtain ⟨kc0, kc1, kf0, kf1, _⟩ := HRES3.out
      have hX5 := Lib.hid (HRES3.out.mine HKQ3.out.rv)
      have hc5 := hX5.out.cells
      go_wp2
      refine bodyPost_ret (v := .agg #[.bool bq, .slice dq nq eq]) (by simp [results, Try.results104, go_sem, hc5.1, hc5.2]) rfl ⟨_, rfl, hX5.out.rv, ?_⟩
      exact (HB3.out.setCell (by simp <;> omega) _).setCell (by simp <;> omega) _
    · have hx0 : ¬ x < 0 := fun h => hc ⟨h, hs9⟩
      have hn1 : (sg' != 0) = true := by simpa using hs9
      have hn2 : (sg' == 0) = false := by simpa using hs9
      rw [decide_eq_false hx0] at hcx
      clear hc hs0
      obtain ⟨gq0, gq1⟩ := HKQ3.out.cells
      obtain ⟨kc0, kc1, kf0, kf1, _⟩ := HRES3.out
      have hX5 := Lib.hid (HRES3.out.mine HKQ3.out.rv)
      have hc5 := hX5.out.cells
      go_wp2
      refine bodyPost_ret (v := .agg #[.bool bq, .slice dq nq eq]) (by simp [results, Try.results104, go_sem, hc5.1, hc5.2]) rfl ⟨_, rfl, hX5.out.rv, ?_⟩
      exact (HB3.out.setCell (by simp <;> omega) _).setCell (by simp <;> omega) _

end Go.Proofs.Ytnbnbjgdplpemaa
