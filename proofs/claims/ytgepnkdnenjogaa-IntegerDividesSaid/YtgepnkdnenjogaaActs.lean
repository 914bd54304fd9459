/-  IntegerActs' walk.  -/
import Derived.Test.YtgepnkdnenjogaaActs0
import Derived.Test.YtgepnkdnenjogaaPowers
namespace Go.Proofs.Ytgepnkdnenjogaa
section
open Go.RowKit Digs

/-- Two arguments in one row. -/
abbrev row2A (b1 b2 : Bool) (a1 a2 : Option Addr) (c1 c2 : Nat) (l1 l2 : List Nat) : Obj := .cells #[.bool b1, .slice a1 l1.length c1, .bool b2, .slice a2 l2.length c2] 24
theorem nrow2A (b1 b2 : Bool) (a1 a2 : Option Addr) (c1 c2 : Nat) (l1 l2 : List Nat) (w : World) (h1 : NArg w a1 c1 l1) (h2 : NArg w a2 c2 l2) :
    NRow (w.alloc (row2A b1 b2 a1 a2 c1 c2 l1 l2)) w.heap.size [l1.length, l2.length] := by
  refine ⟨by simp, fun j hj => ?_⟩
  match j, hj with
  | 0, _ => exact ⟨b1, a1, c1, by rw [World.cell?_alloc_at _ _ _ _ rfl]; rfl, by rw [World.cell?_alloc_at _ _ _ _ rfl]; rfl, h1.mx⟩
  | 1, _ => exact ⟨b2, a2, c2, by rw [World.cell?_alloc_at _ _ _ _ rfl]; rfl, by rw [World.cell?_alloc_at _ _ _ _ rfl]; rfl, h2.mx⟩
theorem short28A (b1 b2 : Bool) (a1 a2 : Option Addr) (c1 c2 : Nat) (l1 l2 : List Nat) (w : World) (N : Nat) (hN : w.heap.size = N) (h1 : NArg w a1 c1 l1) (h2 : NArg w a2 c2 l2) :
    Calls Try.prog 14 #[.int .i64 8, .slice (some ⟨N, 0, none⟩) 2 2] (w.alloc (.cells #[.bool b1, .slice a1 l1.length c1, .bool b2, .slice a2 l2.length c2] 24)) (BoolPost (w.alloc (.cells #[.bool b1, .slice a1 l1.length c1, .bool b2, .slice a2 l2.length c2] 24)) (allLe [l1.length, l2.length] 8)) := by
  subst hN
  exact Short_any w.heap.size 8 2 [l1.length, l2.length] _ (show 2 ≤ 1000 by decide) (nrow2A b1 b2 a1 a2 c1 c2 l1 l2 w h1 h2)
theorem allLe2A {a b k : Nat} (h : allLe [a, b] k = true) : a ≤ k ∧ b ≤ k := by
  have h' := of_decide_eq_true h
  exact ⟨h' 0 (by simp), h' 1 (by simp)⟩

/-- What may be known of a slot: an integer of the program's, one of the reference's, a value. -/
inductive FaR where
  | z (x : Int)
  | r (x : Int)
  | v (u : Value)
def FaR.ok : FaR → Value → World → Prop
  | .z x, y, w => IntV w y x
  | .r x, y, w => RefV w y x
  | .v u, y, _ => y = u
def falR : List FaR → Nat → Value → World → Prop
  | [], _ => fun _ _ => True
  | f :: _, 0 => f.ok
  | _ :: r, n + 1 => falR r n
theorem falR_mono : ∀ (l : List FaR) (i : Nat) (v : Value) (w w' : World), falR l i v w → Below w.heap.size w w' → falR l i v w'
  | [], _, _, _, _, _, _ => trivial
  | .z _ :: _, 0, _, _, _, h, hb => IntV.keep (show IntV _ _ _ from h) hb
  | .r _ :: _, 0, _, _, _, h, hb => RefV.keep (show RefV _ _ _ from h) hb
  | .v _ :: _, 0, _, _, _, h, _ => h
  | _ :: r, n + 1, v, w, w', h, hb => falR_mono r n v w w' h hb
section
variable {ops : Array Oper} {Q : Exit → Act → World → Prop} {md : Region.Mode} {F : Nat → Value → World → Prop} {S : World → Prop} {a0 : Act} {i : Nat} {o : Oper}
theorem step_loadR {x : Operand} {b : Nat} {u v : Value} (hop : o.op = .load 31 x) (hg : Gd ops md F o) (hx : Arg ops md F S a0 o x (fun p _ => p = .pointer (some ⟨b, 0, none⟩)))
    (hc : ∀ w, S w → w.cell? ⟨b, 0, none⟩ = some u ∧ w.cell? ⟨b, 1, none⟩ = some v) (hf : ∀ w, S w → F i (.agg #[u, v]) w) : StepOK Try.prog ops md F S a0 Q i o :=
  step_of hg fun a w hs hsm hk => by
    have h1 := hx a w hs hsm hk
    obtain ⟨c0, c1⟩ := hc w hs
    have h2 := hf w hs
    unfold Oper.wp execOp
    rw [hop]
    simp only [h1]
    go_simp
    exact ⟨_, rfl, h2, Below.refl _ _⟩
theorem step_eql {x y : Operand} {R1 R2 : Value → World → Prop} {z1 z2 : Int} {b : Bool} (hb : b = (z1 == z2)) (hop : o.op = .binOp .eql 3 x y 3) (hg : Gd ops md F o) (hx : Arg ops md F S a0 o x R1) (hr1 : ∀ v w, R1 v w → v = .int .i64 z1) (hy : Arg ops md F S a0 o y R2) (hr2 : ∀ v w, R2 v w → v = .int .i64 z2) (hf : ∀ w, F i (.bool b) w) : StepOK Try.prog ops md F S a0 Q i o :=
  step_of hg fun a w hs hsm hk => by
    subst hb
    have h1 := hr1 _ _ (hx a w hs hsm hk)
    have h2 := hr2 _ _ (hy a w hs hsm hk)
    have h3 := hf w
    unfold Oper.wp execOp
    rw [hop]
    simp only [h1, h2]
    go_simp
    exact ⟨_, rfl, h3, Below.refl _ _⟩
theorem step_eqlE {x y : Operand} {R1 R2 : Value → World → Prop} {z1 z2 : Int} {b : Bool} (hb : b = (z1 == z2)) (hop : o.op = .binOp .eql 44 x y 44) (hg : Gd ops md F o) (hx : Arg ops md F S a0 o x R1) (hr1 : ∀ v w, R1 v w → v = .int .i64 z1) (hy : Arg ops md F S a0 o y R2) (hr2 : ∀ v w, R2 v w → v = .int .i64 z2) (hf : ∀ w, F i (.bool b) w) : StepOK Try.prog ops md F S a0 Q i o :=
  step_of hg fun a w hs hsm hk => by
    subst hb
    have h1 := hr1 _ _ (hx a w hs hsm hk)
    have h2 := hr2 _ _ (hy a w hs hsm hk)
    have h3 := hf w
    unfold Oper.wp execOp
    rw [hop]
    simp only [h1, h2]
    go_simp
    exact ⟨_, rfl, h3, Below.refl _ _⟩
theorem step_assign {x : Operand} {R : Value → World → Prop} (hop : o.op = .assign x) (hg : Gd ops md F o) (hx : Arg ops md F S a0 o x R) (hf : ∀ v w, R v w → F i v w) : StepOK Try.prog ops md F S a0 Q i o :=
  step_of hg fun a w hs hsm hk => by
    unfold Oper.wp execOp
    rw [hop]
    exact ⟨_, rfl, hf _ _ (hx a w hs hsm hk), Below.refl _ _⟩
end

theorem cmp_sgn (x y : Int) : sgnZ (x - y) = cmpZ x y := by
  unfold sgnZ cmpZ
  split <;> split <;> (try split) <;> (try split) <;> first | rfl | (exfalso; omega)
theorem Bd.of_le {k : Nat} {z x : Int} (h : Bd k x) (hz : z.natAbs ≤ x.natAbs) : Bd k z := Nat.lt_of_le_of_lt hz h
theorem dvq_bd {k : Nat} {x y : Int} (h : Bd k x) : Bd k (dvq x y) := by
  unfold dvq
  split
  · exact h.of_le (by rw [show (0 : Int).natAbs = 0 from rfl]; exact Nat.zero_le _)
  · exact h.of_le (by rw [Int.natAbs_tdiv]; exact Nat.div_le_self _ _)
theorem dvr_bd {k : Nat} {x y : Int} (h : Bd k x) : Bd k (dvr x y) := by
  unfold dvr
  split
  · exact h.of_le (by rw [show (0 : Int).natAbs = 0 from rfl]; exact Nat.zero_le _)
  · exact h.of_le (by rw [Int.natAbs_tmod]; exact Nat.mod_le _ _)
theorem gcd_bd {k : Nat} {x y : Int} (hx : Bd k x) (hy : Bd k y) : Bd k ((Int.gcd x y : Nat) : Int) := by
  by_cases h : x = 0
  · subst h
    exact hy.of_le (by rw [Int.natAbs_natCast]; show Nat.gcd 0 y.natAbs ≤ _; rw [Nat.gcd_zero_left]; exact Nat.le_refl _)
  · exact hx.of_le (by rw [Int.natAbs_natCast]; exact Nat.le_of_dvd (by omega) (Nat.gcd_dvd_left _ _))

set_option maxHeartbeats 16000000 in
set_option maxRecDepth 100000 in
theorem acts_any (b1 : Bool) (a1 : Option Addr) (c1 : Nat) (l1 : List Nat) (b2 : Bool) (a2 : Option Addr) (c2 : Nat) (l2 : List Nat) (w : World) (h1 : NArg w a1 c1 l1) (h2 : NArg w a2 c2 l2) :
    Calls Try.prog 4 #[.agg #[.bool b1, .slice a1 l1.length c1], .agg #[.bool b2, .slice a2 l2.length c2]] w (BoolPost w true) := by
  have HAW := Lib.hid fun W => Lib.hid (awake_any W)
  have HA := Lib.hid h1
  have HC := Lib.hid h2
  clear h1 h2
  go_enter Try.func4, Try.ntmps4
  have HB0 := Lib.hid (below2 w (.cells #[.bool b1, .slice a1 l1.length c1] 24) (.cells #[.bool b2, .slice a2 l2.length c2] 24))
  have HS8 := Lib.hid (short28A b1 b2 a1 a2 c1 c2 l1 l2 _ (w.heap.size + 1 + 1) (by simp) (HA.out.keep HB0.out) (HC.out.keep HB0.out))
  go_wp2_with fail
  (with_reducible refine HS8.out.mono ?_)
  rintro e w1 ⟨rfl, hb1⟩
  have hb1' := ((Below.refl _ _).alloc (Nat.le_refl _) (row2A b1 b2 a1 a2 c1 c2 l1 l2)).trans (hb1.mono (by simp))
  have HD1 := Lib.hid (HB0.out.trans (hb1'.mono HB0.out.size))
  have HBX1 := Lib.hid hb1'
  obtain ⟨⟨cx0, cx1⟩, cy0, cy1⟩ := zcells w _ _ _ _ _ _ hb1'
  clear hb1 hb1'
  cases hall : allLe [l1.length, l2.length] 8 with
  | false =>
    clear hall
    go_wp2_with fail
    (with_reducible refine (HAW.out _).out.mono ?_)
    rintro e w2 ⟨rfl, hb2⟩
    go_wp2
    go_ret
    exact ⟨rfl, HD1.out.trans (hb2.mono HD1.out.size)⟩
  | true =>
    obtain ⟨hle1, hle2⟩ := allLe2A hall
    clear hall
    have HOx := Lib.hid (of_any b1 a1 c1 l1 w1 (by omega) (HA.out.keep HD1.out))
    have HOy := Lib.hid fun W hw => Lib.hid (of_any b2 a2 c2 l2 W (by omega) (HC.out.keep (HD1.out.trans ((hw : Below w1.heap.size w1 W).mono HD1.out.size))))
    have HYC : Hid (∀ w', Below w1.heap.size w1 w' → w'.cell? ⟨w.heap.size + 1, 0, none⟩ = some (.bool b2) ∧ w'.cell? ⟨w.heap.size + 1, 1, none⟩ = some (.slice a2 l2.length c2)) := Lib.hid fun w' hb => (zcells w _ _ _ _ _ _ (HBX1.out.trans (hb.mono HBX1.out.size))).2
    have hBX : Bd 8 (nz (b1, l1)) := nz_bd hle1 HA.out.lt
    have hBY : Bd 8 (nz (b2, l2)) := nz_bd hle2 HC.out.lt
    clear hle1 hle2
    generalize nz (b1, l1) = x at *
    generalize nz (b2, l2) = y at *
    have hlx : len x ≤ 1000000 := len_le (by decide) hBX
    have hly : len y ≤ 1000000 := len_le (by decide) hBY
    have hrx : rlen x ≤ 50000 := rlen_bd hBX (by decide)
    have hry : rlen y ≤ 50000 := rlen_bd hBY (by decide)
    have HIS : Hid (∀ (k : Nat) (z : Int), k ≤ 20 → Bd k z → ∀ W u v, IntV W u z → RefV W v z → Hid (Calls Try.prog 21 #[u, v] W (BoolPost W true))) := Lib.hid fun k z hk hz W u v h h' => Lib.hid (is_same z u v W (len_le (by omega) hz) (rlen_bd hz (by omega)) h h')
    have HDV := Lib.hid fun W u v h h' => Lib.hid (Divide_all x y u v W hlx hly h h')
    have HRV := Lib.hid fun W u v h h' => Lib.hid (rDivide_all x y u v W hrx hry h h')
    have HCM := Lib.hid fun W u v h h' => Lib.hid (Cmp_any x y u v W h h')
    have HRC := Lib.hid fun W u v h h' => Lib.hid (rCmp_any x y u v W (by omega) (by omega) (rlen_bd (hBX.sub hBY) (by decide)) h h')
    rw [cmp_sgn] at HRC
    have HNG := Lib.hid fun W u h => Lib.hid (Neg_any x u W hlx h)
    have HRN := Lib.hid fun W u h => Lib.hid (rNeg_any x u W h)
    have HAB := Lib.hid fun W u h => Lib.hid (Abs_any x u W hlx h)
    have HRA := Lib.hid fun W u h => Lib.hid (rAbs_any x u W h)
    have HAD := Lib.hid fun W u v h h' => Lib.hid (Add_any x y u v W hlx hly h h')
    have HRD := Lib.hid fun W u v h h' => Lib.hid (rAdd_any x y u v W (by omega) (by omega) h h')
    have HSU := Lib.hid fun W u v h h' => Lib.hid (Sub_any x y u v W hlx hly h h')
    have HRS := Lib.hid fun W u v h h' => Lib.hid (rSub_any x y u v W (by omega) (by omega) h h')
    have HMU := Lib.hid fun W u v h h' => Lib.hid (Mul_any x y u v W hlx hly h h')
    have HRM := Lib.hid fun W u v h h' => Lib.hid (rMul_any x y u v W (by omega) (by omega) h h')
    have HGC := Lib.hid fun W u v h h' => Lib.hid (Gcd_any x y u v W hlx hly h h')
    have HRG := Lib.hid fun W u v h h' => Lib.hid (rGcd_any x y u v W hrx hry h h')
    have I1 := Lib.hid (HIS.out 8 (-x) (by decide) (hBX.of_le (by rw [Int.natAbs_neg]; exact Nat.le_refl _)))
    have I2 := Lib.hid (HIS.out 8 (x.natAbs : Int) (by decide) (hBX.of_le (by rw [Int.natAbs_natCast]; exact Nat.le_refl _)))
    have I3 := Lib.hid (HIS.out 17 (x + y) (by decide) ((hBX.add hBY).up (show 8 + 8 + 1 ≤ 17 by decide)))
    have I4 := Lib.hid (HIS.out 17 (x - y) (by decide) ((hBX.sub hBY).up (show 8 + 8 + 1 ≤ 17 by decide)))
    have I5 := Lib.hid (HIS.out 16 (x * y) (by decide) ((hBX.mul hBY).up (show 8 + 8 ≤ 16 by decide)))
    have I6 := Lib.hid (HIS.out 8 (dvq x y) (by decide) (dvq_bd hBX))
    have I7 := Lib.hid (HIS.out 8 (dvr x y) (by decide) (dvr_bd hBX))
    have I8 := Lib.hid (HIS.out 8 ((Int.gcd x y : Nat) : Int) (by decide) (gcd_bd hBX hBY))
    clear hlx hly hrx hry hBX hBY HIS
    generalize dvq x y = zq at *
    generalize dvr x y = zr at *
    generalize dvc y = dc at *
    generalize cmpZ x y = cz at *
    generalize ((Int.gcd x y : Nat) : Int) = zg at *
    generalize ((x.natAbs : Nat) : Int) = zb at *
    generalize -x = zn at *
    generalize x + y = za at *
    generalize x - y = zs at *
    generalize x * y = zm at *
    have HE1 := Lib.hid (Below.refl w1.heap.size w1)
    go_wp2_with fail
    (with_reducible refine (HOx.out).mono ?_)
    rintro e w2 ⟨vA, vU, rfl, ⟨dA, nA, eA, rfl, hrA⟩, ⟨dU, nU, eU, rfl, hrU⟩, hb2⟩
    have HIA : Hid (IntV w2 (.agg #[.bool (decide (x < 0)), .slice dA nA eA]) x) := Lib.hid ⟨_, _, _, rfl, hrA⟩
    have HIU : Hid (RefV w2 (.agg #[.bool (decide (x < 0)), .slice dU nU eU]) x) := Lib.hid ⟨_, _, _, rfl, hrU⟩
    have HD2 := Lib.hid (HE1.out.trans (hb2.mono HE1.out.size))
    clear hb2 HE1 hrA hrU 
    generalize decide (x < 0) = bA at *
    have hal : Below w2.heap.size w2 ((w2.alloc (.cells #[.bool bA, .slice dA nA eA] 28)).alloc (.cells #[.bool bA, .slice dU nU eU] 31)) := below2 _ _ _
    have HD3 := Lib.hid (HD2.out.trans (hal.mono HD2.out.size))
    have KA3 : Hid (BX (w2.heap.size) (.bool bA) (.slice dA nA eA) x ((w2.alloc (.cells #[.bool bA, .slice dA nA eA] 28)).alloc (.cells #[.bool bA, .slice dU nU eU] 31))) := Lib.hid ((BX.made HIA.out).keep ((Below.refl _ _).alloc (Nat.le_refl _) _))
    have KU3 : Hid (RX (w2.heap.size + 1) (.bool bA) (.slice dU nU eU) x ((w2.alloc (.cells #[.bool bA, .slice dA nA eA] 28)).alloc (.cells #[.bool bA, .slice dU nU eU] 31))) := Lib.hid (by have h := RX.made (t := 31) (HIU.out.keep ((Below.refl w2.heap.size w2).alloc (Nat.le_refl _) (.cells #[.bool bA, .slice dA nA eA] 28))); rw [World.size_alloc] at h; exact h)
    clear hal HD2 HIA HIU
    clear cx0 cx1 cy0 cy1
    obtain ⟨cy0, cy1⟩ := HYC.out _ HD3.out
    go_wp2_with fail
    (with_reducible refine ((HOy.out _ HD3.out).out).mono ?_)
    rintro e w4 ⟨vB, vV, rfl, ⟨dB, nB, eB, rfl, hrB⟩, ⟨dV, nV, eV, rfl, hrV⟩, hb4⟩
    have HIB : Hid (IntV w4 (.agg #[.bool (decide (y < 0)), .slice dB nB eB]) y) := Lib.hid ⟨_, _, _, rfl, hrB⟩
    have HIV : Hid (RefV w4 (.agg #[.bool (decide (y < 0)), .slice dV nV eV]) y) := Lib.hid ⟨_, _, _, rfl, hrV⟩
    have HD4 := Lib.hid (HD3.out.trans (hb4.mono HD3.out.size))
    have KA4 := Lib.hid (KA3.out.keep hb4)
    have KU4 := Lib.hid (KU3.out.keep hb4)
    clear KA3 KU3
    clear hb4 HD3 hrB hrV 
    generalize decide (y < 0) = bB at *
    have hal : Below w4.heap.size w4 ((w4.alloc (.cells #[.bool bB, .slice dB nB eB] 28)).alloc (.cells #[.bool bB, .slice dV nV eV] 31)) := below2 _ _ _
    have HD5 := Lib.hid (HD4.out.trans (hal.mono HD4.out.size))
    have KA5 := Lib.hid (KA4.out.keep hal)
    have KU5 := Lib.hid (KU4.out.keep hal)
    clear KA4 KU4
    have KB5 : Hid (BX (w4.heap.size) (.bool bB) (.slice dB nB eB) y ((w4.alloc (.cells #[.bool bB, .slice dB nB eB] 28)).alloc (.cells #[.bool bB, .slice dV nV eV] 31))) := Lib.hid ((BX.made HIB.out).keep ((Below.refl _ _).alloc (Nat.le_refl _) _))
    have KV5 : Hid (RX (w4.heap.size + 1) (.bool bB) (.slice dV nV eV) y ((w4.alloc (.cells #[.bool bB, .slice dB nB eB] 28)).alloc (.cells #[.bool bB, .slice dV nV eV] 31))) := Lib.hid (by have h := RX.made (t := 31) (HIV.out.keep ((Below.refl w4.heap.size w4).alloc (Nat.le_refl _) (.cells #[.bool bB, .slice dB nB eB] 28))); rw [World.size_alloc] at h; exact h)
    clear hal HD4 HIB HIV
    clear cy0 cy1
    obtain ⟨ga0, gb0⟩ := KA5.out.cells
    obtain ⟨ga1, gb1⟩ := KB5.out.cells
    go_wp2_with fail
    (with_reducible refine ((HDV.out _ _ _ KA5.out.iv KB5.out.iv).out).mono ?_)
    rintro e w6 ⟨vQ, vS, rfl, ⟨dQ, nQ, eQ, rfl, hrQ⟩, ⟨dS, nS, eS, rfl, hrS⟩, hb6⟩
    have HIQ : Hid (IntV w6 (.agg #[.bool (decide (zq < 0)), .slice dQ nQ eQ]) zq) := Lib.hid ⟨_, _, _, rfl, hrQ⟩
    have HIS : Hid (IntV w6 (.agg #[.bool (decide (zr < 0)), .slice dS nS eS]) zr) := Lib.hid ⟨_, _, _, rfl, hrS⟩
    have HD6 := Lib.hid (HD5.out.trans (hb6.mono HD5.out.size))
    have KA6 := Lib.hid (KA5.out.keep hb6)
    have KU6 := Lib.hid (KU5.out.keep hb6)
    have KB6 := Lib.hid (KB5.out.keep hb6)
    have KV6 := Lib.hid (KV5.out.keep hb6)
    clear KA5 KU5 KB5 KV5
    clear hb6 HD5 hrQ hrS ga0 gb0 ga1 gb1
    generalize decide (zq < 0) = bQ at *
    generalize decide (zr < 0) = bS at *
    have hal : Below w6.heap.size w6 ((w6.alloc (.cells #[.bool bQ, .slice dQ nQ eQ] 28)).alloc (.cells #[.bool bS, .slice dS nS eS] 28)) := below2 _ _ _
    have HD7 := Lib.hid (HD6.out.trans (hal.mono HD6.out.size))
    have KA7 := Lib.hid (KA6.out.keep hal)
    have KU7 := Lib.hid (KU6.out.keep hal)
    have KB7 := Lib.hid (KB6.out.keep hal)
    have KV7 := Lib.hid (KV6.out.keep hal)
    clear KA6 KU6 KB6 KV6
    have KQ7 : Hid (BX (w6.heap.size) (.bool bQ) (.slice dQ nQ eQ) zq ((w6.alloc (.cells #[.bool bQ, .slice dQ nQ eQ] 28)).alloc (.cells #[.bool bS, .slice dS nS eS] 28))) := Lib.hid ((BX.made HIQ.out).keep ((Below.refl _ _).alloc (Nat.le_refl _) _))
    have KS7 : Hid (BX (w6.heap.size + 1) (.bool bS) (.slice dS nS eS) zr ((w6.alloc (.cells #[.bool bQ, .slice dQ nQ eQ] 28)).alloc (.cells #[.bool bS, .slice dS nS eS] 28))) := Lib.hid (by have h := BX.made (t := 28) (HIS.out.keep ((Below.refl w6.heap.size w6).alloc (Nat.le_refl _) (.cells #[.bool bQ, .slice dQ nQ eQ] 28))); rw [World.size_alloc] at h; exact h)
    clear hal HD6 HIQ HIS
    obtain ⟨ga0, gb0⟩ := KU7.out.cells
    obtain ⟨ga1, gb1⟩ := KV7.out.cells
    go_wp2_with fail
    (with_reducible refine ((HRV.out _ _ _ KU7.out.rv KV7.out.rv).out).mono ?_)
    rintro e w8 ⟨vJ, vL, rfl, ⟨dJ, nJ, eJ, rfl, hrJ⟩, ⟨dL, nL, eL, rfl, hrL⟩, hb8⟩
    have HIJ : Hid (RefV w8 (.agg #[.bool (decide (zq < 0)), .slice dJ nJ eJ]) zq) := Lib.hid ⟨_, _, _, rfl, hrJ⟩
    have HIL : Hid (RefV w8 (.agg #[.bool (decide (zr < 0)), .slice dL nL eL]) zr) := Lib.hid ⟨_, _, _, rfl, hrL⟩
    have HD8 := Lib.hid (HD7.out.trans (hb8.mono HD7.out.size))
    have KA8 := Lib.hid (KA7.out.keep hb8)
    have KU8 := Lib.hid (KU7.out.keep hb8)
    have KB8 := Lib.hid (KB7.out.keep hb8)
    have KV8 := Lib.hid (KV7.out.keep hb8)
    have KQ8 := Lib.hid (KQ7.out.keep hb8)
    have KS8 := Lib.hid (KS7.out.keep hb8)
    clear KA7 KU7 KB7 KV7 KQ7 KS7
    clear hb8 HD7 hrJ hrL ga0 gb0 ga1 gb1
    generalize decide (zq < 0) = bJ at *
    generalize decide (zr < 0) = bL at *
    have hal : Below w8.heap.size w8 ((w8.alloc (.cells #[.bool bJ, .slice dJ nJ eJ] 31)).alloc (.cells #[.bool bL, .slice dL nL eL] 31)) := below2 _ _ _
    have HD9 := Lib.hid (HD8.out.trans (hal.mono HD8.out.size))
    have KA9 := Lib.hid (KA8.out.keep hal)
    have KU9 := Lib.hid (KU8.out.keep hal)
    have KB9 := Lib.hid (KB8.out.keep hal)
    have KV9 := Lib.hid (KV8.out.keep hal)
    have KQ9 := Lib.hid (KQ8.out.keep hal)
    have KS9 := Lib.hid (KS8.out.keep hal)
    clear KA8 KU8 KB8 KV8 KQ8 KS8
    have KJ9 : Hid (RX (w8.heap.size) (.bool bJ) (.slice dJ nJ eJ) zq ((w8.alloc (.cells #[.bool bJ, .slice dJ nJ eJ] 31)).alloc (.cells #[.bool bL, .slice dL nL eL] 31))) := Lib.hid ((RX.made HIJ.out).keep ((Below.refl _ _).alloc (Nat.le_refl _) _))
    have KL9 : Hid (RX (w8.heap.size + 1) (.bool bL) (.slice dL nL eL) zr ((w8.alloc (.cells #[.bool bJ, .slice dJ nJ eJ] 31)).alloc (.cells #[.bool bL, .slice dL nL eL] 31))) := Lib.hid (by have h := RX.made (t := 31) (HIL.out.keep ((Below.refl w8.heap.size w8).alloc (Nat.le_refl _) (.cells #[.bool bJ, .slice dJ nJ eJ] 31))); rw [World.size_alloc] at h; exact h)
    clear hal HD8 HIJ HIL
    have E__commonform_integer_Int__Abs := Lib.hid (enters_of Try.func36 (by kernel_rfl))
    have E__commonform_integer_Int__Add := Lib.hid (enters_of Try.func38 (by kernel_rfl))
    have E__commonform_integer_Int__Cmp := Lib.hid (enters_of Try.func32 (by kernel_rfl))
    have E__commonform_integer_Int__Gcd := Lib.hid (enters_of Try.func44 (by kernel_rfl))
    have E__commonform_integer_Int__Mul := Lib.hid (enters_of Try.func42 (by kernel_rfl))
    have E__commonform_integer_Int__Neg := Lib.hid (enters_of Try.func34 (by kernel_rfl))
    have E__commonform_integer_Int__Sub := Lib.hid (enters_of Try.func40 (by kernel_rfl))
    have E_commonform_commonformlaw02_Is := Lib.hid (enters_of Try.func21 (by kernel_rfl))
    have E_commonform_commonformlaw02_awake := Lib.hid (enters_of Try.func15 (by kernel_rfl))
    have E_commonform_commonformref02_Abs := Lib.hid (enters_of Try.func37 (by kernel_rfl))
    have E_commonform_commonformref02_Add := Lib.hid (enters_of Try.func39 (by kernel_rfl))
    have E_commonform_commonformref02_Cmp := Lib.hid (enters_of Try.func33 (by kernel_rfl))
    have E_commonform_commonformref02_Gcd := Lib.hid (enters_of Try.func45 (by kernel_rfl))
    have E_commonform_commonformref02_Mul := Lib.hid (enters_of Try.func43 (by kernel_rfl))
    have E_commonform_commonformref02_Neg := Lib.hid (enters_of Try.func35 (by kernel_rfl))
    have E_commonform_commonformref02_Sub := Lib.hid (enters_of Try.func41 (by kernel_rfl))
    have HSB : Hid (BX (w2.heap.size) (.bool bA) (.slice dA nA eA) x ((w8.alloc (.cells #[.bool bJ, .slice dJ nJ eJ] 31)).alloc (.cells #[.bool bL, .slice dL nL eL] 31)) ∧ RX (w2.heap.size + 1) (.bool bA) (.slice dU nU eU) x ((w8.alloc (.cells #[.bool bJ, .slice dJ nJ eJ] 31)).alloc (.cells #[.bool bL, .slice dL nL eL] 31)) ∧ BX (w4.heap.size) (.bool bB) (.slice dB nB eB) y ((w8.alloc (.cells #[.bool bJ, .slice dJ nJ eJ] 31)).alloc (.cells #[.bool bL, .slice dL nL eL] 31)) ∧ RX (w4.heap.size + 1) (.bool bB) (.slice dV nV eV) y ((w8.alloc (.cells #[.bool bJ, .slice dJ nJ eJ] 31)).alloc (.cells #[.bool bL, .slice dL nL eL] 31)) ∧ BX (w6.heap.size) (.bool bQ) (.slice dQ nQ eQ) zq ((w8.alloc (.cells #[.bool bJ, .slice dJ nJ eJ] 31)).alloc (.cells #[.bool bL, .slice dL nL eL] 31)) ∧ BX (w6.heap.size + 1) (.bool bS) (.slice dS nS eS) zr ((w8.alloc (.cells #[.bool bJ, .slice dJ nJ eJ] 31)).alloc (.cells #[.bool bL, .slice dL nL eL] 31)) ∧ RX (w8.heap.size) (.bool bJ) (.slice dJ nJ eJ) zq ((w8.alloc (.cells #[.bool bJ, .slice dJ nJ eJ] 31)).alloc (.cells #[.bool bL, .slice dL nL eL] 31)) ∧ RX (w8.heap.size + 1) (.bool bL) (.slice dL nL eL) zr ((w8.alloc (.cells #[.bool bJ, .slice dJ nJ eJ] 31)).alloc (.cells #[.bool bL, .slice dL nL eL] 31)) ∧ Below w.heap.size w ((w8.alloc (.cells #[.bool bJ, .slice dJ nJ eJ] 31)).alloc (.cells #[.bool bL, .slice dL nL eL] 31))) := Lib.hid ⟨KA9.out, KU9.out, KB9.out, KV9.out, KQ9.out, KS9.out, KJ9.out, KL9.out, HD1.out.trans (HD9.out.mono HD1.out.size)⟩
    go_upto_region 7 with fail
    refine wp_region_facts (falR (FaR.z x :: FaR.z y :: FaR.v (.int .i64 cz) :: FaR.r x :: FaR.r y :: FaR.v (.int .i64 cz) :: FaR.v (.bool true) :: FaR.v (.bool true) :: FaR.z x :: FaR.z zn :: FaR.r x :: FaR.r zn :: FaR.v (.bool true) :: FaR.v (.bool true) :: FaR.v (.bool true) :: FaR.z x :: FaR.z zb :: FaR.r x :: FaR.r zb :: FaR.v (.bool true) :: FaR.v (.bool true) :: FaR.v (.bool true) :: FaR.z x :: FaR.z y :: FaR.z za :: FaR.r x :: FaR.r y :: FaR.r za :: FaR.v (.bool true) :: FaR.v (.bool true) :: FaR.v (.bool true) :: FaR.z x :: FaR.z y :: FaR.z zs :: FaR.r x :: FaR.r y :: FaR.r zs :: FaR.v (.bool true) :: FaR.v (.bool true) :: FaR.v (.bool true) :: FaR.z x :: FaR.z y :: FaR.z zm :: FaR.r x :: FaR.r y :: FaR.r zm :: FaR.v (.bool true) :: FaR.v (.bool true) :: FaR.v (.bool true) :: FaR.v (.int .i64 dc) :: FaR.v (.int .i64 dc) :: FaR.v (.bool true) :: FaR.v (.bool true) :: FaR.v (.bool true) :: FaR.z zq :: FaR.r zq :: FaR.v (.bool true) :: FaR.v (.bool true) :: FaR.v (.bool true) :: FaR.z zr :: FaR.r zr :: FaR.v (.bool true) :: FaR.v (.bool true) :: FaR.v (.bool true) :: FaR.z x :: FaR.z y :: FaR.z zg :: FaR.r x :: FaR.r y :: FaR.r zg :: FaR.v (.bool true) :: FaR.v (.bool true) :: FaR.v (.bool true) :: FaR.v (.bool true) :: FaR.v (.bool true) :: FaR.v (.bool true) :: [])) (fun W => BX (w2.heap.size) (.bool bA) (.slice dA nA eA) x W ∧ RX (w2.heap.size + 1) (.bool bA) (.slice dU nU eU) x W ∧ BX (w4.heap.size) (.bool bB) (.slice dB nB eB) y W ∧ RX (w4.heap.size + 1) (.bool bB) (.slice dV nV eV) y W ∧ BX (w6.heap.size) (.bool bQ) (.slice dQ nQ eQ) zq W ∧ BX (w6.heap.size + 1) (.bool bS) (.slice dS nS eS) zr W ∧ RX (w8.heap.size) (.bool bJ) (.slice dJ nJ eJ) zq W ∧ RX (w8.heap.size + 1) (.bool bL) (.slice dL nL eL) zr W ∧ Below w.heap.size w W) (by kernel_rfl) (by kernel_rfl) (falR_mono _) (fun _ _ h hb => ⟨h.1.keep hb, h.2.1.keep hb, h.2.2.1.keep hb, h.2.2.2.1.keep hb, h.2.2.2.2.1.keep hb, h.2.2.2.2.2.1.keep hb, h.2.2.2.2.2.2.1.keep hb, h.2.2.2.2.2.2.2.1.keep hb, Below.trans h.2.2.2.2.2.2.2.2 (hb.mono h.2.2.2.2.2.2.2.2.size)⟩) ?_ ?_ (some 45 :: some 46 :: some 47 :: some 48 :: some 49 :: some 50 :: some 51 :: some 52 :: some 53 :: some 54 :: some 55 :: some 56 :: some 57 :: some 58 :: some 59 :: some 60 :: some 61 :: some 62 :: some 63 :: some 64 :: some 65 :: some 66 :: some 67 :: some 68 :: some 69 :: some 70 :: some 71 :: some 72 :: some 73 :: some 74 :: some 75 :: some 76 :: some 77 :: some 78 :: some 79 :: some 80 :: some 81 :: some 82 :: some 83 :: some 84 :: some 85 :: some 86 :: some 87 :: some 88 :: some 89 :: some 90 :: some 91 :: some 92 :: some 93 :: some 94 :: some 95 :: some 96 :: some 97 :: some 98 :: some 99 :: some 100 :: some 101 :: some 102 :: some 103 :: some 104 :: some 105 :: some 106 :: some 107 :: some 108 :: some 109 :: some 110 :: some 111 :: some 112 :: some 113 :: some 114 :: some 115 :: some 116 :: some 117 :: some 118 :: some 119 :: some 4 :: []) (by rfl) ?_
    · have h := HSB.out
      have hb : Below ((w8.alloc (.cells #[.bool bJ, .slice dJ nJ eJ] 31)).alloc (.cells #[.bool bL, .slice dL nL eL] 31)).heap.size ((w8.alloc (.cells #[.bool bJ, .slice dJ nJ eJ] 31)).alloc (.cells #[.bool bL, .slice dL nL eL] 31)) ((w8.alloc (.cells #[.bool bJ, .slice dJ nJ eJ] 31)).alloc (.cells #[.bool bL, .slice dL nL eL] 31)).drew := (Below.refl _ _).drew
      exact ⟨h.1.keep hb, h.2.1.keep hb, h.2.2.1.keep hb, h.2.2.2.1.keep hb, h.2.2.2.2.1.keep hb, h.2.2.2.2.2.1.keep hb, h.2.2.2.2.2.2.1.keep hb, h.2.2.2.2.2.2.2.1.keep hb, Below.trans h.2.2.2.2.2.2.2.2 (hb.mono h.2.2.2.2.2.2.2.2.size)⟩
    · refine And.intro (step_load (b := w2.heap.size) rfl (.inl rfl) (Arg.old (by kernel_rfl)) (fun _ h => h.1.cells) (fun _ h => h.1.iv)) ?_
      refine And.intro (step_load (b := w4.heap.size) rfl (.inl rfl) (Arg.old (by kernel_rfl)) (fun _ h => h.2.2.1.cells) (fun _ h => h.2.2.1.iv)) ?_
      refine And.intro (step_call2 E__commonform_integer_Int__Cmp.out rfl (.inl rfl) (Arg.tmp (j := 0) (by kernel_rfl) rfl) (Arg.tmp (j := 1) (by kernel_rfl) rfl) (fun u v w _ h1 h2 => (HCM.out _ _ _ h1 h2).out.mono fun e w' h => ⟨_, h.1, rfl, h.2⟩)) ?_
      refine And.intro (step_loadR (b := w2.heap.size + 1) rfl (.inl rfl) (Arg.old (by kernel_rfl)) (fun _ h => h.2.1.cells) (fun _ h => h.2.1.rv)) ?_
      refine And.intro (step_loadR (b := w4.heap.size + 1) rfl (.inl rfl) (Arg.old (by kernel_rfl)) (fun _ h => h.2.2.2.1.cells) (fun _ h => h.2.2.2.1.rv)) ?_
      refine And.intro (step_call2 E_commonform_commonformref02_Cmp.out rfl (.inl rfl) (Arg.tmp (j := 3) (by kernel_rfl) rfl) (Arg.tmp (j := 4) (by kernel_rfl) rfl) (fun u v w _ h1 h2 => (HRC.out _ _ _ h1 h2).out.mono fun e w' h => ⟨_, h.1, rfl, h.2⟩)) ?_
      refine And.intro (step_eql (b := true) (by simp) rfl (.inl rfl) (Arg.tmp (j := 2) (by kernel_rfl) rfl) (fun _ _ h => h) (Arg.tmp (j := 5) (by kernel_rfl) rfl) (fun _ _ h => h) (fun _ => rfl)) ?_
      refine And.intro (step_move rfl (.inl rfl) (Arg.tmp (j := 6) (by kernel_rfl) rfl) (fun _ _ h => h)) ?_
      refine And.intro (step_load (b := w2.heap.size) rfl (.inr ⟨7, true, _, rfl, rfl, by kernel_rfl, fun _ _ h => h⟩) (Arg.old (by kernel_rfl)) (fun _ h => h.1.cells) (fun _ h => h.1.iv)) ?_
      refine And.intro (step_call1 E__commonform_integer_Int__Neg.out rfl (.inr ⟨7, true, _, rfl, rfl, by kernel_rfl, fun _ _ h => h⟩) (Arg.tmp (j := 8) (by kernel_rfl) rfl) (fun u w _ h1 => (HNG.out _ _ h1).out)) ?_
      refine And.intro (step_loadR (b := w2.heap.size + 1) rfl (.inr ⟨7, true, _, rfl, rfl, by kernel_rfl, fun _ _ h => h⟩) (Arg.old (by kernel_rfl)) (fun _ h => h.2.1.cells) (fun _ h => h.2.1.rv)) ?_
      refine And.intro (step_call1 E_commonform_commonformref02_Neg.out rfl (.inr ⟨7, true, _, rfl, rfl, by kernel_rfl, fun _ _ h => h⟩) (Arg.tmp (j := 10) (by kernel_rfl) rfl) (fun u w _ h1 => (HRN.out _ _ h1).out)) ?_
      refine And.intro (step_call2 E_commonform_commonformlaw02_Is.out rfl (.inr ⟨7, true, _, rfl, rfl, by kernel_rfl, fun _ _ h => h⟩) (Arg.tmp (j := 9) (by kernel_rfl) rfl) (Arg.tmp (j := 11) (by kernel_rfl) rfl) (fun u v w _ h1 h2 => (I1.out _ _ _ h1 h2).out.mono fun e w' h => ⟨_, h.1, rfl, h.2⟩)) ?_
      refine And.intro (step_pickT rfl (.inl rfl) (Arg.tmp (j := 7) (by kernel_rfl) rfl) (fun _ _ h => h) (Arg.tmp (j := 12) (by kernel_rfl) rfl) (fun _ _ h => h)) ?_
      refine And.intro (step_move rfl (.inl rfl) (Arg.tmp (j := 13) (by kernel_rfl) rfl) (fun _ _ h => h)) ?_
      refine And.intro (step_load (b := w2.heap.size) rfl (.inr ⟨14, true, _, rfl, rfl, by kernel_rfl, fun _ _ h => h⟩) (Arg.old (by kernel_rfl)) (fun _ h => h.1.cells) (fun _ h => h.1.iv)) ?_
      refine And.intro (step_call1 E__commonform_integer_Int__Abs.out rfl (.inr ⟨14, true, _, rfl, rfl, by kernel_rfl, fun _ _ h => h⟩) (Arg.tmp (j := 15) (by kernel_rfl) rfl) (fun u w _ h1 => (HAB.out _ _ h1).out)) ?_
      refine And.intro (step_loadR (b := w2.heap.size + 1) rfl (.inr ⟨14, true, _, rfl, rfl, by kernel_rfl, fun _ _ h => h⟩) (Arg.old (by kernel_rfl)) (fun _ h => h.2.1.cells) (fun _ h => h.2.1.rv)) ?_
      refine And.intro (step_call1 E_commonform_commonformref02_Abs.out rfl (.inr ⟨14, true, _, rfl, rfl, by kernel_rfl, fun _ _ h => h⟩) (Arg.tmp (j := 17) (by kernel_rfl) rfl) (fun u w _ h1 => (HRA.out _ _ h1).out)) ?_
      refine And.intro (step_call2 E_commonform_commonformlaw02_Is.out rfl (.inr ⟨14, true, _, rfl, rfl, by kernel_rfl, fun _ _ h => h⟩) (Arg.tmp (j := 16) (by kernel_rfl) rfl) (Arg.tmp (j := 18) (by kernel_rfl) rfl) (fun u v w _ h1 h2 => (I2.out _ _ _ h1 h2).out.mono fun e w' h => ⟨_, h.1, rfl, h.2⟩)) ?_
      refine And.intro (step_pickT rfl (.inl rfl) (Arg.tmp (j := 14) (by kernel_rfl) rfl) (fun _ _ h => h) (Arg.tmp (j := 19) (by kernel_rfl) rfl) (fun _ _ h => h)) ?_
      refine And.intro (step_move rfl (.inl rfl) (Arg.tmp (j := 20) (by kernel_rfl) rfl) (fun _ _ h => h)) ?_
      refine And.intro (step_load (b := w2.heap.size) rfl (.inr ⟨21, true, _, rfl, rfl, by kernel_rfl, fun _ _ h => h⟩) (Arg.old (by kernel_rfl)) (fun _ h => h.1.cells) (fun _ h => h.1.iv)) ?_
      refine And.intro (step_load (b := w4.heap.size) rfl (.inr ⟨21, true, _, rfl, rfl, by kernel_rfl, fun _ _ h => h⟩) (Arg.old (by kernel_rfl)) (fun _ h => h.2.2.1.cells) (fun _ h => h.2.2.1.iv)) ?_
      refine And.intro (step_call2 E__commonform_integer_Int__Add.out rfl (.inr ⟨21, true, _, rfl, rfl, by kernel_rfl, fun _ _ h => h⟩) (Arg.tmp (j := 22) (by kernel_rfl) rfl) (Arg.tmp (j := 23) (by kernel_rfl) rfl) (fun u v w _ h1 h2 => (HAD.out _ _ _ h1 h2).out)) ?_
      refine And.intro (step_loadR (b := w2.heap.size + 1) rfl (.inr ⟨21, true, _, rfl, rfl, by kernel_rfl, fun _ _ h => h⟩) (Arg.old (by kernel_rfl)) (fun _ h => h.2.1.cells) (fun _ h => h.2.1.rv)) ?_
      refine And.intro (step_loadR (b := w4.heap.size + 1) rfl (.inr ⟨21, true, _, rfl, rfl, by kernel_rfl, fun _ _ h => h⟩) (Arg.old (by kernel_rfl)) (fun _ h => h.2.2.2.1.cells) (fun _ h => h.2.2.2.1.rv)) ?_
      refine And.intro (step_call2 E_commonform_commonformref02_Add.out rfl (.inr ⟨21, true, _, rfl, rfl, by kernel_rfl, fun _ _ h => h⟩) (Arg.tmp (j := 25) (by kernel_rfl) rfl) (Arg.tmp (j := 26) (by kernel_rfl) rfl) (fun u v w _ h1 h2 => (HRD.out _ _ _ h1 h2).out)) ?_
      refine And.intro (step_call2 E_commonform_commonformlaw02_Is.out rfl (.inr ⟨21, true, _, rfl, rfl, by kernel_rfl, fun _ _ h => h⟩) (Arg.tmp (j := 24) (by kernel_rfl) rfl) (Arg.tmp (j := 27) (by kernel_rfl) rfl) (fun u v w _ h1 h2 => (I3.out _ _ _ h1 h2).out.mono fun e w' h => ⟨_, h.1, rfl, h.2⟩)) ?_
      refine And.intro (step_pickT rfl (.inl rfl) (Arg.tmp (j := 21) (by kernel_rfl) rfl) (fun _ _ h => h) (Arg.tmp (j := 28) (by kernel_rfl) rfl) (fun _ _ h => h)) ?_
      refine And.intro (step_move rfl (.inl rfl) (Arg.tmp (j := 29) (by kernel_rfl) rfl) (fun _ _ h => h)) ?_
      refine And.intro (step_load (b := w2.heap.size) rfl (.inr ⟨30, true, _, rfl, rfl, by kernel_rfl, fun _ _ h => h⟩) (Arg.old (by kernel_rfl)) (fun _ h => h.1.cells) (fun _ h => h.1.iv)) ?_
      refine And.intro (step_load (b := w4.heap.size) rfl (.inr ⟨30, true, _, rfl, rfl, by kernel_rfl, fun _ _ h => h⟩) (Arg.old (by kernel_rfl)) (fun _ h => h.2.2.1.cells) (fun _ h => h.2.2.1.iv)) ?_
      refine And.intro (step_call2 E__commonform_integer_Int__Sub.out rfl (.inr ⟨30, true, _, rfl, rfl, by kernel_rfl, fun _ _ h => h⟩) (Arg.tmp (j := 31) (by kernel_rfl) rfl) (Arg.tmp (j := 32) (by kernel_rfl) rfl) (fun u v w _ h1 h2 => (HSU.out _ _ _ h1 h2).out)) ?_
      refine And.intro (step_loadR (b := w2.heap.size + 1) rfl (.inr ⟨30, true, _, rfl, rfl, by kernel_rfl, fun _ _ h => h⟩) (Arg.old (by kernel_rfl)) (fun _ h => h.2.1.cells) (fun _ h => h.2.1.rv)) ?_
      refine And.intro (step_loadR (b := w4.heap.size + 1) rfl (.inr ⟨30, true, _, rfl, rfl, by kernel_rfl, fun _ _ h => h⟩) (Arg.old (by kernel_rfl)) (fun _ h => h.2.2.2.1.cells) (fun _ h => h.2.2.2.1.rv)) ?_
      refine And.intro (step_call2 E_commonform_commonformref02_Sub.out rfl (.inr ⟨30, true, _, rfl, rfl, by kernel_rfl, fun _ _ h => h⟩) (Arg.tmp (j := 34) (by kernel_rfl) rfl) (Arg.tmp (j := 35) (by kernel_rfl) rfl) (fun u v w _ h1 h2 => (HRS.out _ _ _ h1 h2).out)) ?_
      refine And.intro (step_call2 E_commonform_commonformlaw02_Is.out rfl (.inr ⟨30, true, _, rfl, rfl, by kernel_rfl, fun _ _ h => h⟩) (Arg.tmp (j := 33) (by kernel_rfl) rfl) (Arg.tmp (j := 36) (by kernel_rfl) rfl) (fun u v w _ h1 h2 => (I4.out _ _ _ h1 h2).out.mono fun e w' h => ⟨_, h.1, rfl, h.2⟩)) ?_
      refine And.intro (step_pickT rfl (.inl rfl) (Arg.tmp (j := 30) (by kernel_rfl) rfl) (fun _ _ h => h) (Arg.tmp (j := 37) (by kernel_rfl) rfl) (fun _ _ h => h)) ?_
      refine And.intro (step_move rfl (.inl rfl) (Arg.tmp (j := 38) (by kernel_rfl) rfl) (fun _ _ h => h)) ?_
      refine And.intro (step_load (b := w2.heap.size) rfl (.inr ⟨39, true, _, rfl, rfl, by kernel_rfl, fun _ _ h => h⟩) (Arg.old (by kernel_rfl)) (fun _ h => h.1.cells) (fun _ h => h.1.iv)) ?_
      refine And.intro (step_load (b := w4.heap.size) rfl (.inr ⟨39, true, _, rfl, rfl, by kernel_rfl, fun _ _ h => h⟩) (Arg.old (by kernel_rfl)) (fun _ h => h.2.2.1.cells) (fun _ h => h.2.2.1.iv)) ?_
      refine And.intro (step_call2 E__commonform_integer_Int__Mul.out rfl (.inr ⟨39, true, _, rfl, rfl, by kernel_rfl, fun _ _ h => h⟩) (Arg.tmp (j := 40) (by kernel_rfl) rfl) (Arg.tmp (j := 41) (by kernel_rfl) rfl) (fun u v w _ h1 h2 => (HMU.out _ _ _ h1 h2).out)) ?_
      refine And.intro (step_loadR (b := w2.heap.size + 1) rfl (.inr ⟨39, true, _, rfl, rfl, by kernel_rfl, fun _ _ h => h⟩) (Arg.old (by kernel_rfl)) (fun _ h => h.2.1.cells) (fun _ h => h.2.1.rv)) ?_
      refine And.intro (step_loadR (b := w4.heap.size + 1) rfl (.inr ⟨39, true, _, rfl, rfl, by kernel_rfl, fun _ _ h => h⟩) (Arg.old (by kernel_rfl)) (fun _ h => h.2.2.2.1.cells) (fun _ h => h.2.2.2.1.rv)) ?_
      refine And.intro (step_call2 E_commonform_commonformref02_Mul.out rfl (.inr ⟨39, true, _, rfl, rfl, by kernel_rfl, fun _ _ h => h⟩) (Arg.tmp (j := 43) (by kernel_rfl) rfl) (Arg.tmp (j := 44) (by kernel_rfl) rfl) (fun u v w _ h1 h2 => (HRM.out _ _ _ h1 h2).out)) ?_
      refine And.intro (step_call2 E_commonform_commonformlaw02_Is.out rfl (.inr ⟨39, true, _, rfl, rfl, by kernel_rfl, fun _ _ h => h⟩) (Arg.tmp (j := 42) (by kernel_rfl) rfl) (Arg.tmp (j := 45) (by kernel_rfl) rfl) (fun u v w _ h1 h2 => (I5.out _ _ _ h1 h2).out.mono fun e w' h => ⟨_, h.1, rfl, h.2⟩)) ?_
      refine And.intro (step_pickT rfl (.inl rfl) (Arg.tmp (j := 39) (by kernel_rfl) rfl) (fun _ _ h => h) (Arg.tmp (j := 46) (by kernel_rfl) rfl) (fun _ _ h => h)) ?_
      refine And.intro (step_move rfl (.inl rfl) (Arg.tmp (j := 47) (by kernel_rfl) rfl) (fun _ _ h => h)) ?_
      refine And.intro (step_move rfl (.inr ⟨48, true, _, rfl, rfl, by kernel_rfl, fun _ _ h => h⟩) (Arg.old (by kernel_rfl)) (fun _ _ h => h)) ?_
      refine And.intro (step_move rfl (.inr ⟨48, true, _, rfl, rfl, by kernel_rfl, fun _ _ h => h⟩) (Arg.old (by kernel_rfl)) (fun _ _ h => h)) ?_
      refine And.intro (step_eqlE (b := true) (by simp) rfl (.inr ⟨48, true, _, rfl, rfl, by kernel_rfl, fun _ _ h => h⟩) (Arg.tmp (j := 49) (by kernel_rfl) rfl) (fun _ _ h => h) (Arg.tmp (j := 50) (by kernel_rfl) rfl) (fun _ _ h => h) (fun _ => rfl)) ?_
      refine And.intro (step_pickT rfl (.inl rfl) (Arg.tmp (j := 48) (by kernel_rfl) rfl) (fun _ _ h => h) (Arg.tmp (j := 51) (by kernel_rfl) rfl) (fun _ _ h => h)) ?_
      refine And.intro (step_move rfl (.inl rfl) (Arg.tmp (j := 52) (by kernel_rfl) rfl) (fun _ _ h => h)) ?_
      refine And.intro (step_load (b := w6.heap.size) rfl (.inr ⟨53, true, _, rfl, rfl, by kernel_rfl, fun _ _ h => h⟩) (Arg.old (by kernel_rfl)) (fun _ h => h.2.2.2.2.1.cells) (fun _ h => h.2.2.2.2.1.iv)) ?_
      refine And.intro (step_loadR (b := w8.heap.size) rfl (.inr ⟨53, true, _, rfl, rfl, by kernel_rfl, fun _ _ h => h⟩) (Arg.old (by kernel_rfl)) (fun _ h => h.2.2.2.2.2.2.1.cells) (fun _ h => h.2.2.2.2.2.2.1.rv)) ?_
      refine And.intro (step_call2 E_commonform_commonformlaw02_Is.out rfl (.inr ⟨53, true, _, rfl, rfl, by kernel_rfl, fun _ _ h => h⟩) (Arg.tmp (j := 54) (by kernel_rfl) rfl) (Arg.tmp (j := 55) (by kernel_rfl) rfl) (fun u v w _ h1 h2 => (I6.out _ _ _ h1 h2).out.mono fun e w' h => ⟨_, h.1, rfl, h.2⟩)) ?_
      refine And.intro (step_pickT rfl (.inl rfl) (Arg.tmp (j := 53) (by kernel_rfl) rfl) (fun _ _ h => h) (Arg.tmp (j := 56) (by kernel_rfl) rfl) (fun _ _ h => h)) ?_
      refine And.intro (step_move rfl (.inl rfl) (Arg.tmp (j := 57) (by kernel_rfl) rfl) (fun _ _ h => h)) ?_
      refine And.intro (step_load (b := w6.heap.size + 1) rfl (.inr ⟨58, true, _, rfl, rfl, by kernel_rfl, fun _ _ h => h⟩) (Arg.old (by kernel_rfl)) (fun _ h => h.2.2.2.2.2.1.cells) (fun _ h => h.2.2.2.2.2.1.iv)) ?_
      refine And.intro (step_loadR (b := w8.heap.size + 1) rfl (.inr ⟨58, true, _, rfl, rfl, by kernel_rfl, fun _ _ h => h⟩) (Arg.old (by kernel_rfl)) (fun _ h => h.2.2.2.2.2.2.2.1.cells) (fun _ h => h.2.2.2.2.2.2.2.1.rv)) ?_
      refine And.intro (step_call2 E_commonform_commonformlaw02_Is.out rfl (.inr ⟨58, true, _, rfl, rfl, by kernel_rfl, fun _ _ h => h⟩) (Arg.tmp (j := 59) (by kernel_rfl) rfl) (Arg.tmp (j := 60) (by kernel_rfl) rfl) (fun u v w _ h1 h2 => (I7.out _ _ _ h1 h2).out.mono fun e w' h => ⟨_, h.1, rfl, h.2⟩)) ?_
      refine And.intro (step_pickT rfl (.inl rfl) (Arg.tmp (j := 58) (by kernel_rfl) rfl) (fun _ _ h => h) (Arg.tmp (j := 61) (by kernel_rfl) rfl) (fun _ _ h => h)) ?_
      refine And.intro (step_move rfl (.inl rfl) (Arg.tmp (j := 62) (by kernel_rfl) rfl) (fun _ _ h => h)) ?_
      refine And.intro (step_load (b := w2.heap.size) rfl (.inr ⟨63, true, _, rfl, rfl, by kernel_rfl, fun _ _ h => h⟩) (Arg.old (by kernel_rfl)) (fun _ h => h.1.cells) (fun _ h => h.1.iv)) ?_
      refine And.intro (step_load (b := w4.heap.size) rfl (.inr ⟨63, true, _, rfl, rfl, by kernel_rfl, fun _ _ h => h⟩) (Arg.old (by kernel_rfl)) (fun _ h => h.2.2.1.cells) (fun _ h => h.2.2.1.iv)) ?_
      refine And.intro (step_call2 E__commonform_integer_Int__Gcd.out rfl (.inr ⟨63, true, _, rfl, rfl, by kernel_rfl, fun _ _ h => h⟩) (Arg.tmp (j := 64) (by kernel_rfl) rfl) (Arg.tmp (j := 65) (by kernel_rfl) rfl) (fun u v w _ h1 h2 => (HGC.out _ _ _ h1 h2).out)) ?_
      refine And.intro (step_loadR (b := w2.heap.size + 1) rfl (.inr ⟨63, true, _, rfl, rfl, by kernel_rfl, fun _ _ h => h⟩) (Arg.old (by kernel_rfl)) (fun _ h => h.2.1.cells) (fun _ h => h.2.1.rv)) ?_
      refine And.intro (step_loadR (b := w4.heap.size + 1) rfl (.inr ⟨63, true, _, rfl, rfl, by kernel_rfl, fun _ _ h => h⟩) (Arg.old (by kernel_rfl)) (fun _ h => h.2.2.2.1.cells) (fun _ h => h.2.2.2.1.rv)) ?_
      refine And.intro (step_call2 E_commonform_commonformref02_Gcd.out rfl (.inr ⟨63, true, _, rfl, rfl, by kernel_rfl, fun _ _ h => h⟩) (Arg.tmp (j := 67) (by kernel_rfl) rfl) (Arg.tmp (j := 68) (by kernel_rfl) rfl) (fun u v w _ h1 h2 => (HRG.out _ _ _ h1 h2).out)) ?_
      refine And.intro (step_call2 E_commonform_commonformlaw02_Is.out rfl (.inr ⟨63, true, _, rfl, rfl, by kernel_rfl, fun _ _ h => h⟩) (Arg.tmp (j := 66) (by kernel_rfl) rfl) (Arg.tmp (j := 69) (by kernel_rfl) rfl) (fun u v w _ h1 h2 => (I8.out _ _ _ h1 h2).out.mono fun e w' h => ⟨_, h.1, rfl, h.2⟩)) ?_
      refine And.intro (step_pickT rfl (.inl rfl) (Arg.tmp (j := 63) (by kernel_rfl) rfl) (fun _ _ h => h) (Arg.tmp (j := 70) (by kernel_rfl) rfl) (fun _ _ h => h)) ?_
      refine And.intro (step_move rfl (.inl rfl) (Arg.tmp (j := 71) (by kernel_rfl) rfl) (fun _ _ h => h)) ?_
      refine And.intro (step_of (.inr ⟨72, true, _, rfl, rfl, by kernel_rfl, fun _ _ h => h⟩) fun a w hs hsm hk => wp_call0 E_commonform_commonformlaw02_awake.out rfl _ (HAW.out _).out fun e w' h => ⟨_, h.1, _, rfl, rfl, h.2⟩) ?_
      refine And.intro (step_pickT rfl (.inl rfl) (Arg.tmp (j := 72) (by kernel_rfl) rfl) (fun _ _ h => h) (Arg.tmp (j := 73) (by kernel_rfl) rfl) (fun _ _ h => h)) ?_
      refine And.intro (step_assign rfl (.inl rfl) (Arg.tmp (j := 74) (by kernel_rfl) rfl) (fun _ _ h => h)) ?_
      trivial
    · intro v5 wv5 hk hs
      have hv : v5 75 = .bool true := hk 75 _ rfl
      have hbl := hs.2.2.2.2.2.2.2.2
      clear hk hs
      simp only [putV, Act.put, List.setIfInBounds_toArray, List.set_cons_zero, List.set_cons_succ, Nat.reduceAdd, hv]
      clear hv
      have HBL := Lib.hid hbl
      clear hbl
      go_wp2
      go_ret
      exact ⟨rfl, HBL.out⟩

end
end Go.Proofs.Ytgepnkdnenjogaa
