/-  IntegerBits' walk.  -/
import Derived.Test.YtnbnbjgdplpemaaRBo
import Derived.Test.YtnbnbjgdplpemaaPowers
namespace Go.Proofs.Ytnbnbjgdplpemaa
open Go.RowKit Digs

set_option maxHeartbeats 1000000 in
set_option maxRecDepth 100000 in
theorem Boole_bad (op x y : Int) (vx vy : Value) (w : World) (hop : op < 0 ∨ 15 < op) (ha : IntV w vx x) (hb : IntV w vy y) :
    Calls Try.prog 51 #[vx, .int .i64 op, vy] w (IntErr w 1) := by
  obtain ⟨adx, nx, cx, rfl, _⟩ := ha
  obtain ⟨ady, ny, cy, rfl, _⟩ := hb
  generalize decide (x < 0) = bx at *
  generalize decide (y < 0) = by' at *
  rcases hop with hop | hop
  all_goals
  go_enter Try.func51, Try.ntmps51
  go_wp2_with fail
  refine bodyPost_ret (v := .tuple #[.agg #[.bool false, .slice none 0 0], .int .i64 1]) (by simp [results, Try.results51, go_sem]) rfl ⟨rfl, ?_⟩
  first | exact below3 w _ _ _ | exact Below.setCell (Below.setCell (below3 w _ _ _) (by simp <;> omega) _) (by simp <;> omega) _

set_option maxHeartbeats 1000000 in
set_option maxRecDepth 100000 in
theorem rBoole_bad (op x y : Int) (vx vy : Value) (w : World) (hop : op < 0 ∨ 15 < op) (ha : RefV w vx x) (hb : RefV w vy y) :
    Calls Try.prog 52 #[.int .i64 op, vx, vy] w (RefErr w 1) := by
  obtain ⟨adx, nx, cx, rfl, _⟩ := ha
  obtain ⟨ady, ny, cy, rfl, _⟩ := hb
  generalize decide (x < 0) = bx at *
  generalize decide (y < 0) = by' at *
  rcases hop with hop | hop
  all_goals
  go_enter Try.func52, Try.ntmps52
  go_wp2_with fail
  refine bodyPost_ret (v := .tuple #[.agg #[.bool false, .slice none 0 0], .int .i64 1]) (by simp [results, Try.results52, go_sem]) rfl ⟨rfl, ?_⟩
  first | exact below3 w _ _ _ | exact Below.setCell (Below.setCell (below3 w _ _ _) (by simp <;> omega) _) (by simp <;> omega) _

theorem nn_of_bits (z : Int) (n : Nat) (h : ∀ i, n ≤ i → bitZ z i = decide (z < 0)) : nn z < 2 ^ n := by
  apply Nat.lt_pow_two_of_testBit
  intro i hi
  have h1 := h i hi
  rw [bitZ_nn] at h1
  revert h1
  cases (nn z).testBit i <;> cases decide (z < 0) <;> simp
theorem bd_of_nn {z : Int} {k : Nat} (h : nn z < 2 ^ (32 * k)) : Bd (k + 1) z := by
  unfold Bd
  have h1 : z.natAbs ≤ nn z + 1 := by unfold nn; split <;> omega
  rw [pow32]
  have h2 : 2 ^ (32 * (k + 1)) = 2 ^ (32 * k) * 4294967296 := by rw [Nat.mul_succ, Nat.pow_add]
  have h3 := Nat.two_pow_pos (32 * k)
  omega
theorem nn_bd {z : Int} {k : Nat} (h : Bd k z) : nn z < 2 ^ (32 * k) := by
  unfold Bd at h
  rw [pow32] at h
  have h1 : nn z ≤ z.natAbs := by unfold nn; split <;> omega
  omega
theorem sign_of_bits {z : Int} {n : Nat} {s : Bool} (h : ∀ i, n ≤ i → bitZ z i = s) : s = decide (z < 0) := by
  have h1 := h (n + nn z) (by omega)
  rw [bitZ_past z (nn z) _ Nat.lt_two_pow_self (by omega)] at h1
  exact h1.symm
theorem boolZ_bd (op : Nat) {x y : Int} {k : Nat} (hx : Bd k x) (hy : Bd k y) : Bd (k + 1) (boolZ op x y) := by
  have h : ∀ i, 32 * k ≤ i → bitZ (boolZ op x y) i = opB op (decide (x < 0)) (decide (y < 0)) := fun i hi => by
    rw [boolZ_bit, bitZ_past x _ i (nn_bd hx) hi, bitZ_past y _ i (nn_bd hy) hi]
  refine bd_of_nn (nn_of_bits _ _ fun i hi => ?_)
  rw [h i hi]
  exact sign_of_bits h

theorem boole_pair (op x y : Int) (hop : op < 9223372036854775808) (hx : Bd 8 x) (hy : Bd 8 y) :
    ∃ z c : Int, (∀ W u v, IntV W u x → IntV W v y → Calls Try.prog 51 #[u, .int .i64 op, v] W (IntRes W z c)) ∧ (∀ W u v, RefV W u x → RefV W v y → Calls Try.prog 52 #[.int .i64 op, u, v] W (RefRes W z c)) ∧ len z ≤ 1000000 ∧ rlen z ≤ 1000000 := by
  by_cases h : op < 0 ∨ 15 < op
  · exact ⟨0, 1, fun W u v hu hv => (Boole_bad op x y u v W h hu hv).mono fun _ _ h => h.res, fun W u v hu hv => (rBoole_bad op x y u v W h hu hv).mono fun _ _ h => h.res, len_le (by decide) Bd.zero, rlen_bd Bd.zero (by decide)⟩
  · obtain ⟨k, rfl⟩ : ∃ k : Nat, op = (k : Int) := ⟨op.toNat, by omega⟩
    have hB := boolZ_bd k hx hy
    exact ⟨boolZ k x y, 0, fun W u v hu hv => Boole_ok k x y u v W (by omega) (Nat.le_trans (digs_length_le (by decide) _ _ hx) (by decide)) (Nat.le_trans (digs_length_le (by decide) _ _ hy) (by decide)) hu hv, fun W u v hu hv => rBoole_any k x y u v W (by omega) (rlen_bd hx (by decide)) (rlen_bd hy (by decide)) hu hv, len_le (by decide) hB, rlen_bd hB (by decide)⟩

theorem bit_pair (x i : Int) (hi : i < 9223372036854775808) (hx : Bd 8 x) :
    ∃ b : Bool, (∀ W u, IntV W u x → Calls Try.prog 53 #[u, .int .i64 i] W (BoolPost W b)) ∧ (∀ W u, RefV W u x → Calls Try.prog 54 #[u, .int .i64 i] W (BoolPost W b)) := by
  by_cases h : i < 0
  · exact ⟨false, fun W u hu => Bit_neg x i u W h hu, fun W u hu => rBit_neg x i u W h hu⟩
  · obtain ⟨k, rfl⟩ : ∃ k : Nat, i = (k : Int) := ⟨i.toNat, by omega⟩
    exact ⟨bitZ x k, fun W u hu => Bit_any x u k W (len_le (by decide) hx) (by omega) hu, fun W u hu => rBit_any x u k W (rlen_bd hx (by decide)) (by omega) hu⟩

/-- Two arguments in one row. -/
abbrev row2 (b1 b2 : Bool) (a1 a2 : Option Addr) (c1 c2 : Nat) (l1 l2 : List Nat) : Obj := .cells #[.bool b1, .slice a1 l1.length c1, .bool b2, .slice a2 l2.length c2] 24
theorem nrow2 (b1 b2 : Bool) (a1 a2 : Option Addr) (c1 c2 : Nat) (l1 l2 : List Nat) (w : World) (h1 : NArg w a1 c1 l1) (h2 : NArg w a2 c2 l2) :
    NRow (w.alloc (row2 b1 b2 a1 a2 c1 c2 l1 l2)) w.heap.size [l1.length, l2.length] := by
  refine ⟨by simp, fun j hj => ?_⟩
  match j, hj with
  | 0, _ => exact ⟨b1, a1, c1, by rw [World.cell?_alloc_at _ _ _ _ rfl]; rfl, by rw [World.cell?_alloc_at _ _ _ _ rfl]; rfl, h1.mx⟩
  | 1, _ => exact ⟨b2, a2, c2, by rw [World.cell?_alloc_at _ _ _ _ rfl]; rfl, by rw [World.cell?_alloc_at _ _ _ _ rfl]; rfl, h2.mx⟩
theorem short28 (b1 b2 : Bool) (a1 a2 : Option Addr) (c1 c2 : Nat) (l1 l2 : List Nat) (w : World) (N : Nat) (hN : w.heap.size = N) (h1 : NArg w a1 c1 l1) (h2 : NArg w a2 c2 l2) :
    Calls Try.prog 14 #[.int .i64 8, .slice (some ⟨N, 0, none⟩) 2 2] (w.alloc (.cells #[.bool b1, .slice a1 l1.length c1, .bool b2, .slice a2 l2.length c2] 24)) (BoolPost (w.alloc (.cells #[.bool b1, .slice a1 l1.length c1, .bool b2, .slice a2 l2.length c2] 24)) (allLe [l1.length, l2.length] 8)) := by
  subst hN
  exact Short_any w.heap.size 8 2 [l1.length, l2.length] _ (show 2 ≤ 1000 by decide) (nrow2 b1 b2 a1 a2 c1 c2 l1 l2 w h1 h2)
theorem allLe2 {a b k : Nat} (h : allLe [a, b] k = true) : a ≤ k ∧ b ≤ k := by
  have h' := of_decide_eq_true h
  exact ⟨h' 0 (by simp), h' 1 (by simp)⟩

set_option maxHeartbeats 8000000 in
set_option maxRecDepth 100000 in
theorem bits_any (op : Int) (b1 : Bool) (a1 : Option Addr) (c1 : Nat) (l1 : List Nat) (b2 : Bool) (a2 : Option Addr) (c2 : Nat) (l2 : List Nat) (i : Int) (w : World) (h1 : NArg w a1 c1 l1) (h2 : NArg w a2 c2 l2) (hop : op < 9223372036854775808) (hi : i < 9223372036854775808) :
    Calls Try.prog 7 #[.int .i64 op, .agg #[.bool b1, .slice a1 l1.length c1], .agg #[.bool b2, .slice a2 l2.length c2], .int .i64 i] w (BoolPost w true) := by
  have HAW := Lib.hid fun W => Lib.hid (awake_any W)
  have HA := Lib.hid h1
  have HC := Lib.hid h2
  clear h1 h2
  go_enter Try.func7, Try.ntmps7
  have HB0 := Lib.hid (below2 w (.cells #[.bool b1, .slice a1 l1.length c1] 24) (.cells #[.bool b2, .slice a2 l2.length c2] 24))
  have HS8 := Lib.hid (short28 b1 b2 a1 a2 c1 c2 l1 l2 _ (w.heap.size + 1 + 1) (by simp) (HA.out.keep HB0.out) (HC.out.keep HB0.out))
  go_wp2_with fail
  (with_reducible refine HS8.out.mono ?_)
  rintro e w1 ⟨rfl, hb1⟩
  have hb1' := ((Below.refl _ _).alloc (Nat.le_refl _) (row2 b1 b2 a1 a2 c1 c2 l1 l2)).trans (hb1.mono (by simp))
  have HD1 := Lib.hid (HB0.out.trans (hb1'.mono HB0.out.size))
  have HBX1 := Lib.hid hb1'
  obtain ⟨⟨cx0, cx1⟩, cy0, cy1⟩ := zcells w _ _ _ _ _ _ hb1'
  clear hb1 hb1'
  cases hall : allLe [l1.length, l2.length] 8 with
  | false =>
    clear hall
    go_wp2_with fail
    (with_reducible refine (HAW.out _).out.mono ?_)
    rintro e w2 ⟨rfl, hb2⟩
    go_wp2
    go_ret
    exact ⟨rfl, HD1.out.trans (hb2.mono HD1.out.size)⟩
  | true =>
    obtain ⟨hle1, hle2⟩ := allLe2 hall
    clear hall
    have HOx := Lib.hid (of_any b1 a1 c1 l1 w1 (by omega) (HA.out.keep HD1.out))
    have HOy := Lib.hid fun W hw => Lib.hid (of_any b2 a2 c2 l2 W (by omega) (HC.out.keep (HD1.out.trans ((hw : Below w1.heap.size w1 W).mono HD1.out.size))))
    have HYC : Hid (∀ w', Below w1.heap.size w1 w' → w'.cell? ⟨w.heap.size + 1, 0, none⟩ = some (.bool b2) ∧ w'.cell? ⟨w.heap.size + 1, 1, none⟩ = some (.slice a2 l2.length c2)) := Lib.hid fun w' hb => (zcells w _ _ _ _ _ _ (HBX1.out.trans (hb.mono HBX1.out.size))).2
    have hBX : Bd 8 (nz (b1, l1)) := nz_bd hle1 HA.out.lt
    have hBY : Bd 8 (nz (b2, l2)) := nz_bd hle2 HC.out.lt
    clear hle1 hle2
    generalize nz (b1, l1) = x at *
    generalize nz (b2, l2) = y at *
    obtain ⟨zp, cp, q1, q2, q3, q4⟩ := boole_pair op x y hop hBX hBY
    have HP1 : Hid (∀ W u v, IntV W u x → IntV W v y → Hid (Calls Try.prog 51 #[u, .int .i64 op, v] W (IntRes W zp cp))) := Lib.hid fun W u v h h' => Lib.hid (q1 W u v h h')
    have HP2 : Hid (∀ W u v, RefV W u x → RefV W v y → Hid (Calls Try.prog 52 #[.int .i64 op, u, v] W (RefRes W zp cp))) := Lib.hid fun W u v h h' => Lib.hid (q2 W u v h h')
    have HIS : Hid (∀ W u v, IntV W u zp → RefV W v zp → Hid (Calls Try.prog 21 #[u, v] W (BoolPost W true))) := Lib.hid fun W u v h h' => Lib.hid (is_same zp u v W q3 q4 h h')
    obtain ⟨bt, r1, r2⟩ := bit_pair x i hi hBX
    have HT1 : Hid (∀ W u, IntV W u x → Hid (Calls Try.prog 53 #[u, .int .i64 i] W (BoolPost W bt))) := Lib.hid fun W u h => Lib.hid (r1 W u h)
    have HT2 : Hid (∀ W u, RefV W u x → Hid (Calls Try.prog 54 #[u, .int .i64 i] W (BoolPost W bt))) := Lib.hid fun W u h => Lib.hid (r2 W u h)
    clear q1 q2 q3 q4 r1 r2 hBX hBY
    have HE1 := Lib.hid (Below.refl w1.heap.size w1)
    go_wp2_with fail
    (with_reducible refine (HOx.out).mono ?_)
    rintro e w2 ⟨vA, vU, rfl, ⟨dA, nA, eA, rfl, hrA⟩, ⟨dU, nU, eU, rfl, hrU⟩, hb2⟩
    have HIA : Hid (IntV w2 (.agg #[.bool (decide (x < 0)), .slice dA nA eA]) x) := Lib.hid ⟨_, _, _, rfl, hrA⟩
    have HIU : Hid (RefV w2 (.agg #[.bool (decide (x < 0)), .slice dU nU eU]) x) := Lib.hid ⟨_, _, _, rfl, hrU⟩
    have HD2 := Lib.hid (HE1.out.trans (hb2.mono HE1.out.size))
    clear hb2 hrA hrU 
    generalize decide (x < 0) = bA at *
    have hal : Below w2.heap.size w2 ((w2.alloc (.cells #[.bool bA, .slice dA nA eA] 28)).alloc (.cells #[.bool bA, .slice dU nU eU] 31)) := below2 _ _ _
    have HD3 := Lib.hid (HD2.out.trans (hal.mono HD2.out.size))
    have KA3 : Hid (BX (w2.heap.size) (.bool bA) (.slice dA nA eA) x ((w2.alloc (.cells #[.bool bA, .slice dA nA eA] 28)).alloc (.cells #[.bool bA, .slice dU nU eU] 31))) := Lib.hid ((BX.made HIA.out).keep ((Below.refl _ _).alloc (Nat.le_refl _) _))
    have KU3 : Hid (RX (w2.heap.size + 1) (.bool bA) (.slice dU nU eU) x ((w2.alloc (.cells #[.bool bA, .slice dA nA eA] 28)).alloc (.cells #[.bool bA, .slice dU nU eU] 31))) := Lib.hid (by have h := RX.made (t := 31) (HIU.out.keep ((Below.refl w2.heap.size w2).alloc (Nat.le_refl _) (.cells #[.bool bA, .slice dA nA eA] 28))); rw [World.size_alloc] at h; exact h)
    clear hal
    clear cx0 cx1 cy0 cy1
    obtain ⟨cy0, cy1⟩ := HYC.out _ HD3.out
    go_wp2_with fail
    (with_reducible refine ((HOy.out _ HD3.out).out).mono ?_)
    rintro e w4 ⟨vB, vV, rfl, ⟨dB, nB, eB, rfl, hrB⟩, ⟨dV, nV, eV, rfl, hrV⟩, hb4⟩
    have HIB : Hid (IntV w4 (.agg #[.bool (decide (y < 0)), .slice dB nB eB]) y) := Lib.hid ⟨_, _, _, rfl, hrB⟩
    have HIV : Hid (RefV w4 (.agg #[.bool (decide (y < 0)), .slice dV nV eV]) y) := Lib.hid ⟨_, _, _, rfl, hrV⟩
    have HD4 := Lib.hid (HD3.out.trans (hb4.mono HD3.out.size))
    have KA4 := Lib.hid (KA3.out.keep hb4)
    have KU4 := Lib.hid (KU3.out.keep hb4)
    clear hb4 hrB hrV 
    generalize decide (y < 0) = bB at *
    have hal : Below w4.heap.size w4 ((w4.alloc (.cells #[.bool bB, .slice dB nB eB] 28)).alloc (.cells #[.bool bB, .slice dV nV eV] 31)) := below2 _ _ _
    have HD5 := Lib.hid (HD4.out.trans (hal.mono HD4.out.size))
    have KA5 := Lib.hid (KA4.out.keep hal)
    have KU5 := Lib.hid (KU4.out.keep hal)
    have KB5 : Hid (BX (w4.heap.size) (.bool bB) (.slice dB nB eB) y ((w4.alloc (.cells #[.bool bB, .slice dB nB eB] 28)).alloc (.cells #[.bool bB, .slice dV nV eV] 31))) := Lib.hid ((BX.made HIB.out).keep ((Below.refl _ _).alloc (Nat.le_refl _) _))
    have KV5 : Hid (RX (w4.heap.size + 1) (.bool bB) (.slice dV nV eV) y ((w4.alloc (.cells #[.bool bB, .slice dB nB eB] 28)).alloc (.cells #[.bool bB, .slice dV nV eV] 31))) := Lib.hid (by have h := RX.made (t := 31) (HIV.out.keep ((Below.refl w4.heap.size w4).alloc (Nat.le_refl _) (.cells #[.bool bB, .slice dB nB eB] 28))); rw [World.size_alloc] at h; exact h)
    clear hal
    clear cy0 cy1
    obtain ⟨ga0, gb0⟩ := KA5.out.cells
    obtain ⟨ga1, gb1⟩ := KB5.out.cells
    go_wp2_with fail
    (with_reducible refine ((HP1.out _ _ _ KA5.out.iv KB5.out.iv).out).mono ?_)
    rintro e w6 ⟨vP, rfl, ⟨dP, nP, eP, rfl, hrP⟩, hb6⟩
    have HIP : Hid (IntV w6 (.agg #[.bool (decide (zp < 0)), .slice dP nP eP]) zp) := Lib.hid ⟨_, _, _, rfl, hrP⟩
    have HD6 := Lib.hid (HD5.out.trans (hb6.mono HD5.out.size))
    have KA6 := Lib.hid (KA5.out.keep hb6)
    have KU6 := Lib.hid (KU5.out.keep hb6)
    have KB6 := Lib.hid (KB5.out.keep hb6)
    have KV6 := Lib.hid (KV5.out.keep hb6)
    clear hb6 hrP ga0 gb0 ga1 gb1
    generalize decide (zp < 0) = bP at *
    have hal : Below w6.heap.size w6 (w6.alloc (.cells #[.bool bP, .slice dP nP eP] 28)) := (Below.refl _ _).alloc (Nat.le_refl _) _
    have HD7 := Lib.hid (HD6.out.trans (hal.mono HD6.out.size))
    have KA7 := Lib.hid (KA6.out.keep hal)
    have KU7 := Lib.hid (KU6.out.keep hal)
    have KB7 := Lib.hid (KB6.out.keep hal)
    have KV7 := Lib.hid (KV6.out.keep hal)
    have KP7 : Hid (BX (w6.heap.size) (.bool bP) (.slice dP nP eP) zp (w6.alloc (.cells #[.bool bP, .slice dP nP eP] 28))) := Lib.hid (BX.made HIP.out)
    clear hal
    obtain ⟨ga0, gb0⟩ := KU7.out.cells
    obtain ⟨ga1, gb1⟩ := KV7.out.cells
    go_wp2_with fail
    (with_reducible refine ((HP2.out _ _ _ KU7.out.rv KV7.out.rv).out).mono ?_)
    rintro e w8 ⟨vQ, rfl, ⟨dQ, nQ, eQ, rfl, hrQ⟩, hb8⟩
    have HIQ : Hid (RefV w8 (.agg #[.bool (decide (zp < 0)), .slice dQ nQ eQ]) zp) := Lib.hid ⟨_, _, _, rfl, hrQ⟩
    have HD8 := Lib.hid (HD7.out.trans (hb8.mono HD7.out.size))
    have KA8 := Lib.hid (KA7.out.keep hb8)
    have KU8 := Lib.hid (KU7.out.keep hb8)
    have KB8 := Lib.hid (KB7.out.keep hb8)
    have KV8 := Lib.hid (KV7.out.keep hb8)
    have KP8 := Lib.hid (KP7.out.keep hb8)
    clear hb8 hrQ ga0 gb0 ga1 gb1
    generalize decide (zp < 0) = bQ at *
    have hal : Below w8.heap.size w8 (w8.alloc (.cells #[.bool bQ, .slice dQ nQ eQ] 31)) := (Below.refl _ _).alloc (Nat.le_refl _) _
    have HD9 := Lib.hid (HD8.out.trans (hal.mono HD8.out.size))
    have KA9 := Lib.hid (KA8.out.keep hal)
    have KU9 := Lib.hid (KU8.out.keep hal)
    have KB9 := Lib.hid (KB8.out.keep hal)
    have KV9 := Lib.hid (KV8.out.keep hal)
    have KP9 := Lib.hid (KP8.out.keep hal)
    have KQ9 : Hid (RX (w8.heap.size) (.bool bQ) (.slice dQ nQ eQ) zp (w8.alloc (.cells #[.bool bQ, .slice dQ nQ eQ] 31))) := Lib.hid (RX.made HIQ.out)
    clear hal
    have eq0 : (cp == cp) = true := by simp
    have eq1 : (bt == bt) = true := by simp
    obtain ⟨ga0, gb0⟩ := KA9.out.cells
    have HKA : Hid (∀ W, Below (w8.alloc (.cells #[.bool bQ, .slice dQ nQ eQ] 31)).heap.size (w8.alloc (.cells #[.bool bQ, .slice dQ nQ eQ] 31)) W → BX (w2.heap.size) (.bool bA) (.slice dA nA eA) x W) := Lib.hid fun W hb => KA9.out.keep hb
    obtain ⟨ga1, gb1⟩ := KU9.out.cells
    have HKU : Hid (∀ W, Below (w8.alloc (.cells #[.bool bQ, .slice dQ nQ eQ] 31)).heap.size (w8.alloc (.cells #[.bool bQ, .slice dQ nQ eQ] 31)) W → RX (w2.heap.size + 1) (.bool bA) (.slice dU nU eU) x W) := Lib.hid fun W hb => KU9.out.keep hb
    obtain ⟨ga2, gb2⟩ := KB9.out.cells
    have HKB : Hid (∀ W, Below (w8.alloc (.cells #[.bool bQ, .slice dQ nQ eQ] 31)).heap.size (w8.alloc (.cells #[.bool bQ, .slice dQ nQ eQ] 31)) W → BX (w4.heap.size) (.bool bB) (.slice dB nB eB) y W) := Lib.hid fun W hb => KB9.out.keep hb
    obtain ⟨ga3, gb3⟩ := KV9.out.cells
    have HKV : Hid (∀ W, Below (w8.alloc (.cells #[.bool bQ, .slice dQ nQ eQ] 31)).heap.size (w8.alloc (.cells #[.bool bQ, .slice dQ nQ eQ] 31)) W → RX (w4.heap.size + 1) (.bool bB) (.slice dV nV eV) y W) := Lib.hid fun W hb => KV9.out.keep hb
    obtain ⟨ga4, gb4⟩ := KP9.out.cells
    have HKP : Hid (∀ W, Below (w8.alloc (.cells #[.bool bQ, .slice dQ nQ eQ] 31)).heap.size (w8.alloc (.cells #[.bool bQ, .slice dQ nQ eQ] 31)) W → BX (w6.heap.size) (.bool bP) (.slice dP nP eP) zp W) := Lib.hid fun W hb => KP9.out.keep hb
    obtain ⟨ga5, gb5⟩ := KQ9.out.cells
    have HKQ : Hid (∀ W, Below (w8.alloc (.cells #[.bool bQ, .slice dQ nQ eQ] 31)).heap.size (w8.alloc (.cells #[.bool bQ, .slice dQ nQ eQ] 31)) W → RX (w8.heap.size) (.bool bQ) (.slice dQ nQ eQ) zp W) := Lib.hid fun W hb => KQ9.out.keep hb
    have HSS : Hid (∀ w', Below (w8.alloc (.cells #[.bool bQ, .slice dQ nQ eQ] 31)).heap.size (w8.alloc (.cells #[.bool bQ, .slice dQ nQ eQ] 31)) w' → w'.cell? ⟨w2.heap.size, 0, none⟩ = some (.bool bA) ∧ w'.cell? ⟨w2.heap.size, 1, none⟩ = some (.slice dA nA eA) ∧ w'.cell? ⟨w2.heap.size + 1, 0, none⟩ = some (.bool bA) ∧ w'.cell? ⟨w2.heap.size + 1, 1, none⟩ = some (.slice dU nU eU) ∧ w'.cell? ⟨w4.heap.size, 0, none⟩ = some (.bool bB) ∧ w'.cell? ⟨w4.heap.size, 1, none⟩ = some (.slice dB nB eB) ∧ w'.cell? ⟨w4.heap.size + 1, 0, none⟩ = some (.bool bB) ∧ w'.cell? ⟨w4.heap.size + 1, 1, none⟩ = some (.slice dV nV eV) ∧ w'.cell? ⟨w6.heap.size, 0, none⟩ = some (.bool bP) ∧ w'.cell? ⟨w6.heap.size, 1, none⟩ = some (.slice dP nP eP) ∧ w'.cell? ⟨w8.heap.size, 0, none⟩ = some (.bool bQ) ∧ w'.cell? ⟨w8.heap.size, 1, none⟩ = some (.slice dQ nQ eQ)) := Lib.hid fun W hb => ⟨(KA9.out.keep hb).c0, (KA9.out.keep hb).c1, (KU9.out.keep hb).c0, (KU9.out.keep hb).c1, (KB9.out.keep hb).c0, (KB9.out.keep hb).c1, (KV9.out.keep hb).c0, (KV9.out.keep hb).c1, (KP9.out.keep hb).c0, (KP9.out.keep hb).c1, (KQ9.out.keep hb).c0, (KQ9.out.keep hb).c1⟩
    have hc0 : Below (w8.alloc (.cells #[.bool bQ, .slice dQ nQ eQ] 31)).heap.size (w8.alloc (.cells #[.bool bQ, .slice dQ nQ eQ] 31)) (w8.alloc (.cells #[.bool bQ, .slice dQ nQ eQ] 31)).drew := (Below.refl _ _).drew
    go_upto_region 7 with fail
    go_region_held3 (fun w' => w'.cell? ⟨w2.heap.size, 0, none⟩ = some (.bool bA) ∧ w'.cell? ⟨w2.heap.size, 1, none⟩ = some (.slice dA nA eA) ∧ w'.cell? ⟨w2.heap.size + 1, 0, none⟩ = some (.bool bA) ∧ w'.cell? ⟨w2.heap.size + 1, 1, none⟩ = some (.slice dU nU eU) ∧ w'.cell? ⟨w4.heap.size, 0, none⟩ = some (.bool bB) ∧ w'.cell? ⟨w4.heap.size, 1, none⟩ = some (.slice dB nB eB) ∧ w'.cell? ⟨w4.heap.size + 1, 0, none⟩ = some (.bool bB) ∧ w'.cell? ⟨w4.heap.size + 1, 1, none⟩ = some (.slice dV nV eV) ∧ w'.cell? ⟨w6.heap.size, 0, none⟩ = some (.bool bP) ∧ w'.cell? ⟨w6.heap.size, 1, none⟩ = some (.slice dP nP eP) ∧ w'.cell? ⟨w8.heap.size, 0, none⟩ = some (.bool bQ) ∧ w'.cell? ⟨w8.heap.size, 1, none⟩ = some (.slice dQ nQ eQ))
      (first | exact hs4 | exact hs3 | exact hs2 | exact hs1 | go_keep)
      (go_loud (first
        | (go_at_call 21; (with_reducible refine (HIS.out _ _ _ (HKP.out _ hc0).iv (HKQ.out _ hc0).rv).out.mono ?_); rintro e v1 ⟨rfl, hb1⟩; have hc1 := hc0.trans (hb1.mono hc0.size); have hs1 := HSS.out _ hc1)
        | (go_at_call 53; (with_reducible refine (HT1.out _ _ (HKA.out _ hc1).iv).out.mono ?_); rintro e v2 ⟨rfl, hb2⟩; have hc2 := hc1.trans (hb2.mono hc1.size); have hs2 := HSS.out _ hc2)
        | (go_at_call 54; (with_reducible refine (HT2.out _ _ (HKU.out _ hc2).rv).out.mono ?_); rintro e v3 ⟨rfl, hb3⟩; have hc3 := hc2.trans (hb3.mono hc2.size); have hs3 := HSS.out _ hc3)
        | (go_at_call 15; (with_reducible refine (HAW.out _).out.mono ?_); rintro e v4 ⟨rfl, hb4⟩; have hc4 := hc3.trans (hb4.mono hc3.size); have hs4 := HSS.out _ hc4)))
    go_wp2
    go_ret
    exact ⟨rfl, HD1.out.trans ((HD9.out.trans (hc4.mono HD9.out.size)).mono HD1.out.size)⟩

end Go.Proofs.Ytnbnbjgdplpemaa
