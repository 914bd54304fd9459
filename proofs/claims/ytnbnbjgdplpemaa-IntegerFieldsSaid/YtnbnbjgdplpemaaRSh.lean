/-  The reference's Shift.  -/
import Derived.Test.YtnbnbjgdplpemaaRFl
namespace Go.Proofs.Ytnbnbjgdplpemaa
open Go.RowKit Digs

theorem sgn_ne {x : Int} (h : x ≠ 0) : (sgnZ x == 0) = false := by unfold sgnZ; split <;> (try split) <;> first | rfl | omega
theorem rlen_two (k : Nat) (hk : k ≤ 1000) : rlen ((2 ^ k : Nat) : Int) ≤ 100 := by
  unfold rlen
  rw [Int.natAbs_natCast]
  refine Nat.le_trans (digs_length_le (by decide) _ (k / 16 + 1) ?_) (by omega)
  rw [pow16]
  exact Nat.pow_lt_pow_right (by decide) (by omega)

set_option maxHeartbeats 2000000 in
set_option maxRecDepth 100000 in
theorem rShift_zero (x : Int) (v : Value) (n : Int) (w : World) (hx : rlen x ≤ 40000) (h0 : x = 0) (h : RefV w v x) :
    Calls Try.prog 55 #[v, .int .i64 n] w (RefOK w 0) := by
  have HSG := Lib.hid fun W hw => Lib.hid (rSign_any x v W (by omega) (h.keep (w' := W) hw))
  have HV := Lib.hid h
  obtain ⟨ad, m, c, rfl, _⟩ := h
  generalize hb : decide (x < 0) = b at *
  have hz : sgnZ x = 0 := by rw [h0]; rfl
  rw [hz] at HSG
  have hv0 := HV.out
  rw [h0] at hv0
  have HV0 := Lib.hid hv0
  clear hv0 hz
  go_enter Try.func55, Try.ntmps55
  have HB0 := Lib.hid (below2 w (.cells #[.bool b, .slice ad m c] 31) (.cells #[.bool false, .slice none 0 0] 31))
  go_wp2_with fail
  (with_reducible refine (HSG.out _ HB0.out).out.mono ?_)
  rintro e w1 ⟨rfl, hb1⟩
  obtain ⟨⟨cA, cB⟩, kc0, kc1, kf0, kf1⟩ := zc2 hb1
  have HB1 := Lib.hid (HB0.out.trans (hb1.mono (by simp <;> omega)))
  have HR1 : Hid (RX (w.heap.size + 1) (.bool false) (.slice none 0 0) 0 w1) := Lib.hid ⟨kc0, kc1, kf0, kf1, RefV.zero0 _⟩
  clear hb1
  have HX9 := Lib.hid (HR1.out.mine (HV0.out.keep HB1.out))
  have hc9 := HX9.out.cells
  go_wp2_with fail
  refine bodyPost_ret (v := .tuple #[.agg #[.bool b, .slice ad m c], .int .i64 0]) (by simp [results, Try.results55, go_sem, hc9.1, hc9.2]) rfl ⟨_, rfl, HX9.out.rv, ?_⟩
  exact (HB1.out.setCell (by simp <;> omega) _).setCell (by simp <;> omega) _

set_option maxHeartbeats 2000000 in
set_option maxRecDepth 100000 in
theorem rShift_large (x : Int) (v : Value) (n : Int) (w : World) (hx : rlen x ≤ 40000) (h0 : x ≠ 0) (hn : 65536 < n) (h : RefV w v x) :
    Calls Try.prog 55 #[v, .int .i64 n] w (RefErr w 14) := by
  have HSG := Lib.hid fun W hw => Lib.hid (rSign_any x v W (by omega) (h.keep (w' := W) hw))
  have HV := Lib.hid h
  obtain ⟨ad, m, c, rfl, _⟩ := h
  generalize hb : decide (x < 0) = b at *
  have hz := sgn_ne h0
  generalize sgnZ x = sg' at *
  go_enter Try.func55, Try.ntmps55
  have HB0 := Lib.hid (below2 w (.cells #[.bool b, .slice ad m c] 31) (.cells #[.bool false, .slice none 0 0] 31))
  go_wp2_with fail
  (with_reducible refine (HSG.out _ HB0.out).out.mono ?_)
  rintro e w1 ⟨rfl, hb1⟩
  obtain ⟨⟨cA, cB⟩, kc0, kc1, kf0, kf1⟩ := zc2 hb1
  have HB1 := Lib.hid (HB0.out.trans (hb1.mono (by simp <;> omega)))
  have HR1 : Hid (RX (w.heap.size + 1) (.bool false) (.slice none 0 0) 0 w1) := Lib.hid ⟨kc0, kc1, kf0, kf1, RefV.zero0 _⟩
  clear hb1
  go_wp2_with fail
  refine bodyPost_ret (v := .tuple #[.agg #[.bool false, .slice none 0 0], .int .i64 14]) (by simp [results, Try.results55, go_sem, kc0, kc1]) rfl ⟨rfl, ?_⟩
  first | exact HB1.out | exact (HB1.out.setCell (by simp <;> omega) _).setCell (by simp <;> omega) _

set_option maxHeartbeats 2000000 in
set_option maxRecDepth 100000 in
theorem rShift_up (x : Int) (v : Value) (n : Nat) (w : World) (hx : rlen x ≤ 40000) (h0 : x ≠ 0) (hn : n ≤ 300) (hl : lenZ x + n ≤ 65536) (h : RefV w v x) :
    Calls Try.prog 55 #[v, .int .i64 (n : Int)] w (RefOK w (x * 2 ^ n)) := by
  have HSG := Lib.hid fun W hw => Lib.hid (rSign_any x v W (by omega) (h.keep (w' := W) hw))
  have HLN := Lib.hid fun W hw => Lib.hid (rLength_any x v W (by omega) (h.keep (w' := W) hw))
  have HTW := Lib.hid fun W => Lib.hid (two_any n W (by omega))
  have HML := Lib.hid fun W u hw (hu : RefV W u ((2 ^ n : Nat) : Int)) => Lib.hid (rMul_any x ((2 ^ n : Nat) : Int) v u W (by omega) (Nat.le_trans (rlen_two n (by omega)) (by decide)) (h.keep (w' := W) hw) hu)
  rw [show ((2 ^ n : Nat) : Int) = 2 ^ n by rw [Int.natCast_pow]; rfl] at HTW HML
  generalize lenZ x = lx at *
  have HV := Lib.hid h
  obtain ⟨ad, m, c, rfl, _⟩ := h
  generalize hb : decide (x < 0) = b at *
  have hz := sgn_ne h0
  generalize sgnZ x = sg' at *
  generalize x * 2 ^ n = Z at *
  have hn1 : ¬ (65536 : Int) < (n : Int) := by omega
  have hn2 : ¬ (65536 : Int) < (lx : Int) + (n : Int) := by omega
  go_enter Try.func55, Try.ntmps55
  have HB0 := Lib.hid (below2 w (.cells #[.bool b, .slice ad m c] 31) (.cells #[.bool false, .slice none 0 0] 31))
  go_wp2_with fail
  (with_reducible refine (HSG.out _ HB0.out).out.mono ?_)
  rintro e w1 ⟨rfl, hb1⟩
  obtain ⟨⟨cA, cB⟩, kc0, kc1, kf0, kf1⟩ := zc2 hb1
  have HB1 := Lib.hid (HB0.out.trans (hb1.mono (by simp <;> omega)))
  have HR1 : Hid (RX (w.heap.size + 1) (.bool false) (.slice none 0 0) 0 w1) := Lib.hid ⟨kc0, kc1, kf0, kf1, RefV.zero0 _⟩
  clear hb1
  go_wp2_with fail
  (with_reducible refine (HLN.out _ HB1.out).out.mono ?_)
  rintro e w2 ⟨rfl, hb2⟩
  have HB2 := Lib.hid (HB1.out.trans (hb2.mono HB1.out.size))
  have HR2 := Lib.hid (HR1.out.keep hb2)
  have HXB : Hid (∀ W, Below w2.heap.size w2 W → W.cell? ⟨w.heap.size, 0, none⟩ = some (.bool b) ∧ W.cell? ⟨w.heap.size, 1, none⟩ = some (.slice ad m c)) := Lib.hid fun W hw => by
    have h1 := HR1.out.lt
    have h2 := hb2.size
    exact ⟨(hw.cell (p := ⟨w.heap.size, 0, none⟩) (by show w.heap.size < _; omega)).trans ((hb2.cell (p := ⟨w.heap.size, 0, none⟩) (by show w.heap.size < _; omega)).trans cA), (hw.cell (p := ⟨w.heap.size, 1, none⟩) (by show w.heap.size < _; omega)).trans ((hb2.cell (p := ⟨w.heap.size, 1, none⟩) (by show w.heap.size < _; omega)).trans cB)⟩
  obtain ⟨kx0, kx1⟩ := HXB.out _ (Below.refl _ _)
  clear hb2 cA cB kc0 kc1 kf0 kf1
  go_wp2_with fail
  go_region_held3 (fun w' => w'.cell? ⟨w.heap.size, 0, none⟩ = some (.bool b) ∧ w'.cell? ⟨w.heap.size, 1, none⟩ = some (.slice ad m c))
    (first | exact ⟨(cell_store2 (by omega)).trans hs2.1, (cell_store2 (by omega)).trans hs2.2⟩ | exact hs2 | exact hs1 | go_keep)
    (go_loud (first
      | (go_at_call 97; (with_reducible refine (HTW.out _).out.mono ?_); rintro e w3 ⟨v3, rfl, hi3, hb3'⟩; have hb3 := below_dr hb3'; have hs1 := HXB.out _ hb3)
      | (go_at_call 43; (with_reducible refine (HML.out _ _ (HB2.out.trans (hb3.mono HB2.out.size)) hi3).out.mono ?_); rintro e w4 ⟨v4, rfl, ⟨d4, n4, e4, rfl, hr4⟩, hb4'⟩; have hb4 := hb3.trans (hb4'.mono hb3.size); have hs2 := HXB.out _ hb4; have hX4 := HR2.out.keep hb4; have kc0 := hX4.c0; have kc1 := hX4.c1; have kf0 := hX4.f0; have kf1 := hX4.f1)))
  have hI4 : RefV w4 (.agg #[.bool (decide (Z < 0)), .slice d4 n4 e4]) Z := ⟨_, _, _, rfl, hr4⟩
  have HX9 := Lib.hid (hX4.mine hI4)
  have hc9 := HX9.out.cells
  have HB9 := Lib.hid (HB2.out.trans (hb4.mono HB2.out.size))
  clear hI4 hX4 hr4 hb3 hb3' hb4 hb4' hs1 hs2 hi3
  go_wp2
  refine bodyPost_ret (v := .tuple #[.agg #[.bool (decide (Z < 0)), .slice d4 n4 e4], .int .i64 0]) (by simp [results, Try.results55, go_sem, hc9.1, hc9.2]) rfl ⟨_, rfl, HX9.out.rv, ?_⟩
  exact (HB9.out.setCell (by simp <;> omega) _).setCell (by simp <;> omega) _

set_option maxHeartbeats 2000000 in
set_option maxRecDepth 100000 in
theorem rShift_gone_neg (x : Int) (v : Value) (k : Nat) (w : World) (hx : rlen x ≤ 40000) (h0 : x < 0) (hk : bl x.natAbs < k) (hk2 : k ≤ 9223372036854775808) (h : RefV w v x) :
    Calls Try.prog 55 #[v, .int .i64 (-(k : Int))] w (RefOK w (-1)) := by
  have HSG := Lib.hid fun W hw => Lib.hid (rSign_any x v W (by omega) (h.keep (w' := W) hw))
  have HWD := Lib.hid fun W hw => Lib.hid (width_any x v W (by omega) (h.keep (w' := W) hw))
  have HN := Lib.hid fun W => Lib.hid (rnew_any (-1) W (by decide) (by decide))
  have hbl : bl x.natAbs ≤ 16 * rlen x := bl_le_iff.2 (by rw [← pow16]; exact digs_lt_pow (by decide) _)
  have HV := Lib.hid h
  obtain ⟨ad, m, c, rfl, _⟩ := h
  generalize hb : decide (x < 0) = b at *
  have hz := sgn_ne (x := x) (by omega)
  generalize sgnZ x = sg' at *
  have hbb : b = true := by rw [← hb]; first | exact decide_eq_true (by omega) | exact decide_eq_false (by omega)
  subst hbb
  generalize bl x.natAbs = B at *
  have hBb : B ≤ 640000 := by omega
  have hn0 : ¬ 0 ≤ -(k : Int) := by omega
  have hn1 : -(k : Int) < -(B : Int) := by omega
  clear hb
  go_enter Try.func55, Try.ntmps55
  have HB0 := Lib.hid (below2 w (.cells #[.bool true, .slice ad m c] 31) (.cells #[.bool false, .slice none 0 0] 31))
  go_wp2_with fail
  (with_reducible refine (HSG.out _ HB0.out).out.mono ?_)
  rintro e w1 ⟨rfl, hb1⟩
  obtain ⟨⟨cA, cB⟩, kc0, kc1, kf0, kf1⟩ := zc2 hb1
  have HB1 := Lib.hid (HB0.out.trans (hb1.mono (by simp <;> omega)))
  have HR1 : Hid (RX (w.heap.size + 1) (.bool false) (.slice none 0 0) 0 w1) := Lib.hid ⟨kc0, kc1, kf0, kf1, RefV.zero0 _⟩
  clear hb1
  go_wp2_with fail
  (with_reducible refine (HWD.out _ HB1.out).out.mono ?_)
  rintro e w2 ⟨rfl, hb2⟩
  have hr1 := HR1.out.lt
  have kx0 : w2.cell? ⟨w.heap.size, 0, none⟩ = some (.bool true) := (hb2.cell (p := ⟨w.heap.size, 0, none⟩) (by show w.heap.size < _; omega)).trans cA
  have HB2 := Lib.hid (HB1.out.trans (hb2.mono HB1.out.size))
  have HR2 := Lib.hid (HR1.out.keep hb2)
  clear hb2 cA cB kc0 kc1 kf0 kf1
  go_wp2_with fail
  (with_reducible refine (HN.out _).out.mono ?_)
  rintro e w3 ⟨v3, rfl, ⟨d4, n4, e4, rfl, hr4⟩, hb3⟩
  obtain ⟨kc0, kc1, kf0, kf1, _⟩ := HR2.out.keep hb3
  have hI4 : RefV w3 (.agg #[.bool true, .slice d4 n4 e4]) (-1) := ⟨_, _, _, rfl, hr4⟩
  have HX9 := Lib.hid ((HR2.out.keep hb3).mine hI4)
  have hc9 := HX9.out.cells
  have HB9 := Lib.hid (HB2.out.trans (hb3.mono HB2.out.size))
  clear hI4 hr4 hb3
  go_wp2
  refine bodyPost_ret (v := .tuple #[.agg #[.bool true, .slice d4 n4 e4], .int .i64 0]) (by simp [results, Try.results55, go_sem, hc9.1, hc9.2]) rfl ⟨_, rfl, HX9.out.rv, ?_⟩
  exact (HB9.out.setCell (by simp <;> omega) _).setCell (by simp <;> omega) _

set_option maxHeartbeats 2000000 in
set_option maxRecDepth 100000 in
theorem rShift_gone_pos (x : Int) (v : Value) (k : Nat) (w : World) (hx : rlen x ≤ 40000) (h0 : 0 < x) (hk : bl x.natAbs < k) (hk2 : k ≤ 9223372036854775808) (h : RefV w v x) :
    Calls Try.prog 55 #[v, .int .i64 (-(k : Int))] w (RefOK w 0) := by
  have HSG := Lib.hid fun W hw => Lib.hid (rSign_any x v W (by omega) (h.keep (w' := W) hw))
  have HWD := Lib.hid fun W hw => Lib.hid (width_any x v W (by omega) (h.keep (w' := W) hw))
  have HN := Lib.hid fun W => Lib.hid (rnew_any 0 W (by decide) (by decide))
  have hbl : bl x.natAbs ≤ 16 * rlen x := bl_le_iff.2 (by rw [← pow16]; exact digs_lt_pow (by decide) _)
  have HV := Lib.hid h
  obtain ⟨ad, m, c, rfl, _⟩ := h
  generalize hb : decide (x < 0) = b at *
  have hz := sgn_ne (x := x) (by omega)
  generalize sgnZ x = sg' at *
  have hbb : b = false := by rw [← hb]; first | exact decide_eq_true (by omega) | exact decide_eq_false (by omega)
  subst hbb
  generalize bl x.natAbs = B at *
  have hBb : B ≤ 640000 := by omega
  have hn0 : ¬ 0 ≤ -(k : Int) := by omega
  have hn1 : -(k : Int) < -(B : Int) := by omega
  clear hb
  go_enter Try.func55, Try.ntmps55
  have HB0 := Lib.hid (below2 w (.cells #[.bool false, .slice ad m c] 31) (.cells #[.bool false, .slice none 0 0] 31))
  go_wp2_with fail
  (with_reducible refine (HSG.out _ HB0.out).out.mono ?_)
  rintro e w1 ⟨rfl, hb1⟩
  obtain ⟨⟨cA, cB⟩, kc0, kc1, kf0, kf1⟩ := zc2 hb1
  have HB1 := Lib.hid (HB0.out.trans (hb1.mono (by simp <;> omega)))
  have HR1 : Hid (RX (w.heap.size + 1) (.bool false) (.slice none 0 0) 0 w1) := Lib.hid ⟨kc0, kc1, kf0, kf1, RefV.zero0 _⟩
  clear hb1
  go_wp2_with fail
  (with_reducible refine (HWD.out _ HB1.out).out.mono ?_)
  rintro e w2 ⟨rfl, hb2⟩
  have hr1 := HR1.out.lt
  have kx0 : w2.cell? ⟨w.heap.size, 0, none⟩ = some (.bool false) := (hb2.cell (p := ⟨w.heap.size, 0, none⟩) (by show w.heap.size < _; omega)).trans cA
  have HB2 := Lib.hid (HB1.out.trans (hb2.mono HB1.out.size))
  have HR2 := Lib.hid (HR1.out.keep hb2)
  clear hb2 cA cB kc0 kc1 kf0 kf1
  go_wp2_with fail
  (with_reducible refine (HN.out _).out.mono ?_)
  rintro e w3 ⟨v3, rfl, ⟨d4, n4, e4, rfl, hr4⟩, hb3⟩
  obtain ⟨kc0, kc1, kf0, kf1, _⟩ := HR2.out.keep hb3
  have hI4 : RefV w3 (.agg #[.bool false, .slice d4 n4 e4]) 0 := ⟨_, _, _, rfl, hr4⟩
  have HX9 := Lib.hid ((HR2.out.keep hb3).mine hI4)
  have hc9 := HX9.out.cells
  have HB9 := Lib.hid (HB2.out.trans (hb3.mono HB2.out.size))
  clear hI4 hr4 hb3
  go_wp2
  refine bodyPost_ret (v := .tuple #[.agg #[.bool false, .slice d4 n4 e4], .int .i64 0]) (by simp [results, Try.results55, go_sem, hc9.1, hc9.2]) rfl ⟨_, rfl, HX9.out.rv, ?_⟩
  exact (HB9.out.setCell (by simp <;> omega) _).setCell (by simp <;> omega) _

set_option maxHeartbeats 2000000 in
set_option maxRecDepth 100000 in
theorem rShift_floor (x : Int) (v : Value) (k : Nat) (w : World) (hx : rlen x ≤ 40000) (h0 : x ≠ 0) (hk1 : 1 ≤ k) (hk : k ≤ bl x.natAbs) (hk2 : k ≤ 1000) (h : RefV w v x) :
    Calls Try.prog 55 #[v, .int .i64 (-(k : Int))] w (RefOK w (x / 2 ^ k)) := by
  have HSG := Lib.hid fun W hw => Lib.hid (rSign_any x v W (by omega) (h.keep (w' := W) hw))
  have HWD := Lib.hid fun W hw => Lib.hid (width_any x v W (by omega) (h.keep (w' := W) hw))
  have hbl : bl x.natAbs ≤ 16 * rlen x := bl_le_iff.2 (by rw [← pow16]; exact digs_lt_pow (by decide) _)
  have HTW := Lib.hid fun W => Lib.hid (two_any k W (by omega))
  have HFL := Lib.hid fun W u hw (hu : RefV W u ((2 ^ k : Nat) : Int)) => Lib.hid (rFloor_any x ((2 ^ k : Nat) : Int) v u W (by omega) (Nat.le_trans (rlen_two k hk2) (by decide)) (by have := Nat.two_pow_pos k; omega) (h.keep (w' := W) hw) hu)
  rw [show ((2 ^ k : Nat) : Int) = 2 ^ k by rw [Int.natCast_pow]; rfl] at HTW HFL
  have HV := Lib.hid h
  obtain ⟨ad, m, c, rfl, _⟩ := h
  generalize hb : decide (x < 0) = b at *
  have hz := sgn_ne h0
  generalize sgnZ x = sg' at *
  generalize x / 2 ^ k = Z at *
  generalize bl x.natAbs = B at *
  have hBb : B ≤ 640000 := by omega
  have hn0 : ¬ 0 ≤ -(k : Int) := by omega
  have hn1 : ¬ -(k : Int) < -(B : Int) := by omega
  have hk5 : IntKind.i64.wrap (k : Int) = (k : Int) := by rw [IntKind.wrap_i64]; omega
  go_enter Try.func55, Try.ntmps55
  have HB0 := Lib.hid (below2 w (.cells #[.bool b, .slice ad m c] 31) (.cells #[.bool false, .slice none 0 0] 31))
  go_wp2_with fail
  (with_reducible refine (HSG.out _ HB0.out).out.mono ?_)
  rintro e w1 ⟨rfl, hb1⟩
  obtain ⟨⟨cA, cB⟩, kc0, kc1, kf0, kf1⟩ := zc2 hb1
  have HB1 := Lib.hid (HB0.out.trans (hb1.mono (by simp <;> omega)))
  have HR1 : Hid (RX (w.heap.size + 1) (.bool false) (.slice none 0 0) 0 w1) := Lib.hid ⟨kc0, kc1, kf0, kf1, RefV.zero0 _⟩
  clear hb1
  go_wp2_with fail
  (with_reducible refine (HWD.out _ HB1.out).out.mono ?_)
  rintro e w2 ⟨rfl, hb2⟩
  have HB2 := Lib.hid (HB1.out.trans (hb2.mono HB1.out.size))
  have HR2 := Lib.hid (HR1.out.keep hb2)
  have HXB : Hid (∀ W, Below w2.heap.size w2 W → W.cell? ⟨w.heap.size, 0, none⟩ = some (.bool b) ∧ W.cell? ⟨w.heap.size, 1, none⟩ = some (.slice ad m c)) := Lib.hid fun W hw => by
    have h1 := HR1.out.lt
    have h2 := hb2.size
    exact ⟨(hw.cell (p := ⟨w.heap.size, 0, none⟩) (by show w.heap.size < _; omega)).trans ((hb2.cell (p := ⟨w.heap.size, 0, none⟩) (by show w.heap.size < _; omega)).trans cA), (hw.cell (p := ⟨w.heap.size, 1, none⟩) (by show w.heap.size < _; omega)).trans ((hb2.cell (p := ⟨w.heap.size, 1, none⟩) (by show w.heap.size < _; omega)).trans cB)⟩
  obtain ⟨kx0, kx1⟩ := HXB.out _ (Below.refl _ _)
  clear hb2 cA cB kc0 kc1 kf0 kf1
  go_wp2_with fail
  go_region_held3 (fun w' => w'.cell? ⟨w.heap.size, 0, none⟩ = some (.bool b) ∧ w'.cell? ⟨w.heap.size, 1, none⟩ = some (.slice ad m c))
    (first | exact ⟨(cell_store2 (by omega)).trans hs2.1, (cell_store2 (by omega)).trans hs2.2⟩ | exact hs2 | exact hs1 | go_keep)
    (go_loud (first
      | (go_at_call 97; (with_reducible refine (HTW.out _).out.mono ?_); rintro e w3 ⟨v3, rfl, hi3, hb3'⟩; have hb3 := below_dr hb3'; have hs1 := HXB.out _ hb3)
      | (go_at_call 104; (with_reducible refine (HFL.out _ _ (HB2.out.trans (hb3.mono HB2.out.size)) hi3).out.mono ?_); rintro e w4 ⟨v4, rfl, ⟨d4, n4, e4, rfl, hr4⟩, hb4'⟩; have hb4 := hb3.trans (hb4'.mono hb3.size); have hs2 := HXB.out _ hb4; have hX4 := HR2.out.keep hb4; have kc0 := hX4.c0; have kc1 := hX4.c1; have kf0 := hX4.f0; have kf1 := hX4.f1)))
  have hI4 : RefV w4 (.agg #[.bool (decide (Z < 0)), .slice d4 n4 e4]) Z := ⟨_, _, _, rfl, hr4⟩
  have HX9 := Lib.hid (hX4.mine hI4)
  have hc9 := HX9.out.cells
  have HB9 := Lib.hid (HB2.out.trans (hb4.mono HB2.out.size))
  clear hI4 hX4 hr4 hb3 hb3' hb4 hb4' hs1 hs2 hi3
  go_wp2
  refine bodyPost_ret (v := .tuple #[.agg #[.bool (decide (Z < 0)), .slice d4 n4 e4], .int .i64 0]) (by simp [results, Try.results55, go_sem, hc9.1, hc9.2]) rfl ⟨_, rfl, HX9.out.rv, ?_⟩
  exact (HB9.out.setCell (by simp <;> omega) _).setCell (by simp <;> omega) _

end Go.Proofs.Ytnbnbjgdplpemaa
