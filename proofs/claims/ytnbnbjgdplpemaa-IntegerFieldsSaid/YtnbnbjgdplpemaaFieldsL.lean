/-  IntegerFields' walk.  -/
import Derived.Test.YtnbnbjgdplpemaaFieldP
namespace Go.Proofs.Ytnbnbjgdplpemaa
open Go.RowKit Digs

/-- What a size, a position or a number of places may be, for the law to go on. -/
abbrev okN (n : Int) : Prop := n ≤ 300 ∨ 65536 < n
theorem okN_cases (n : Int) : (okN n ∧ n ≤ 300 ∧ decide (300 < n) = false) ∨ (okN n ∧ 65536 < n ∧ decide (300 < n) = true ∧ decide (n ≤ 65536) = false) ∨ (¬ okN n ∧ decide (300 < n) = true ∧ decide (n ≤ 65536) = true) := by
  unfold okN
  by_cases h1 : n ≤ 300
  · exact .inl ⟨.inl h1, h1, decide_eq_false (by omega)⟩
  · by_cases h2 : 65536 < n
    · exact .inr (.inl ⟨.inr h2, h2, decide_eq_true (by omega), decide_eq_false (by omega)⟩)
    · exact .inr (.inr ⟨by omega, decide_eq_true (by omega), decide_eq_true (by omega)⟩)

set_option maxHeartbeats 8000000 in
set_option maxRecDepth 100000 in
theorem fields_any (b1 : Bool) (a1 : Option Addr) (c1 : Nat) (l1 : List Nat) (b2 : Bool) (a2 : Option Addr) (c2 : Nat) (l2 : List Nat) (n s p : Int) (w : World) (h1 : NArg w a1 c1 l1) (h2 : NArg w a2 c2 l2) (hn1 : -9223372036854775808 ≤ n) (hn2 : n ≤ 9223372036854775807) :
    Calls Try.prog 8 #[.agg #[.bool b1, .slice a1 l1.length c1], .agg #[.bool b2, .slice a2 l2.length c2], .int .i64 n, .int .i64 s, .int .i64 p] w (BoolPost w true) := by
  have HAW := Lib.hid fun W => Lib.hid (awake_any W)
  have HA := Lib.hid h1
  have HC := Lib.hid h2
  clear h1 h2
  go_enter Try.func8, Try.ntmps8
  have HB0 := Lib.hid (below2 w (.cells #[.bool b1, .slice a1 l1.length c1] 24) (.cells #[.bool b2, .slice a2 l2.length c2] 24))
  have HS8 := Lib.hid (short28 b1 b2 a1 a2 c1 c2 l1 l2 _ (w.heap.size + 1 + 1) (by simp) (HA.out.keep HB0.out) (HC.out.keep HB0.out))
  go_upto_region 1 with fail
  go_cut [55] from 27 to 55 (fun s55 wx => s55 = .bool (!decide (allLe [l1.length, l2.length] 8 = true ∧ okN n ∧ okN s ∧ okN p)) ∧ Below ((w.alloc (.cells #[.bool b1, .slice a1 l1.length c1] 24)).alloc (.cells #[.bool b2, .slice a2 l2.length c2] 24)).heap.size ((w.alloc (.cells #[.bool b1, .slice a1 l1.length c1] 24)).alloc (.cells #[.bool b2, .slice a2 l2.length c2] 24)) wx)
  case first =>
    go_wp2_with fail
    (with_reducible refine HS8.out.mono ?_)
    rintro e w1 ⟨rfl, hb1⟩
    have HB1 := Lib.hid (((Below.refl _ _).alloc (Nat.le_refl _) (row2 b1 b2 a1 a2 c1 c2 l1 l2)).trans (hb1.mono (by simp)))
    clear hb1
    cases hall : allLe [l1.length, l2.length] 8 with
    | false =>
      go_wp2_with fail
      go_meet
      exact ⟨by rw [decide_eq_false (fun h => by rw [hall] at h; exact absurd h.1 (by decide))]; rfl, HB1.out⟩
    | true =>
      rcases okN_cases n with ⟨hn0, hn3, hn4⟩ | ⟨hn0, hn3, hn4, hn5⟩ | ⟨hn0, hn4, hn5⟩
      · rcases okN_cases s with ⟨hs0, hs3, hs4⟩ | ⟨hs0, hs3, hs4, hs5⟩ | ⟨hs0, hs4, hs5⟩
        · rcases okN_cases p with ⟨hp0, hp3, hp4⟩ | ⟨hp0, hp3, hp4, hp5⟩ | ⟨hp0, hp4, hp5⟩
          · go_wp2_with fail
            go_meet
            exact ⟨by rw [decide_eq_true ⟨hall, hn0, hs0, hp0⟩]; rfl, HB1.out⟩
          · go_wp2_with fail
            go_meet
            exact ⟨by rw [decide_eq_true ⟨hall, hn0, hs0, hp0⟩]; rfl, HB1.out⟩
          · go_wp2_with fail
            go_meet
            exact ⟨by rw [decide_eq_false (fun h => hp0 h.2.2.2)]; rfl, HB1.out⟩
        · rcases okN_cases p with ⟨hp0, hp3, hp4⟩ | ⟨hp0, hp3, hp4, hp5⟩ | ⟨hp0, hp4, hp5⟩
          · go_wp2_with fail
            go_meet
            exact ⟨by rw [decide_eq_true ⟨hall, hn0, hs0, hp0⟩]; rfl, HB1.out⟩
          · go_wp2_with fail
            go_meet
            exact ⟨by rw [decide_eq_true ⟨hall, hn0, hs0, hp0⟩]; rfl, HB1.out⟩
          · go_wp2_with fail
            go_meet
            exact ⟨by rw [decide_eq_false (fun h => hp0 h.2.2.2)]; rfl, HB1.out⟩
        · go_wp2_with fail
          go_meet
          exact ⟨by rw [decide_eq_false (fun h => hs0 h.2.2.1)]; rfl, HB1.out⟩
      · rcases okN_cases s with ⟨hs0, hs3, hs4⟩ | ⟨hs0, hs3, hs4, hs5⟩ | ⟨hs0, hs4, hs5⟩
        · rcases okN_cases p with ⟨hp0, hp3, hp4⟩ | ⟨hp0, hp3, hp4, hp5⟩ | ⟨hp0, hp4, hp5⟩
          · go_wp2_with fail
            go_meet
            exact ⟨by rw [decide_eq_true ⟨hall, hn0, hs0, hp0⟩]; rfl, HB1.out⟩
          · go_wp2_with fail
            go_meet
            exact ⟨by rw [decide_eq_true ⟨hall, hn0, hs0, hp0⟩]; rfl, HB1.out⟩
          · go_wp2_with fail
            go_meet
            exact ⟨by rw [decide_eq_false (fun h => hp0 h.2.2.2)]; rfl, HB1.out⟩
        · rcases okN_cases p with ⟨hp0, hp3, hp4⟩ | ⟨hp0, hp3, hp4, hp5⟩ | ⟨hp0, hp4, hp5⟩
          · go_wp2_with fail
            go_meet
            exact ⟨by rw [decide_eq_true ⟨hall, hn0, hs0, hp0⟩]; rfl, HB1.out⟩
          · go_wp2_with fail
            go_meet
            exact ⟨by rw [decide_eq_true ⟨hall, hn0, hs0, hp0⟩]; rfl, HB1.out⟩
          · go_wp2_with fail
            go_meet
            exact ⟨by rw [decide_eq_false (fun h => hp0 h.2.2.2)]; rfl, HB1.out⟩
        · go_wp2_with fail
          go_meet
          exact ⟨by rw [decide_eq_false (fun h => hs0 h.2.2.1)]; rfl, HB1.out⟩
      · go_wp2_with fail
        go_meet
        exact ⟨by rw [decide_eq_false (fun h => hn0 h.2.1)]; rfl, HB1.out⟩
  case rest =>
    obtain ⟨rfl, hbx⟩ := hcut
    have HBX1 := Lib.hid hbx
    have HD1 := Lib.hid (HB0.out.trans (hbx.mono HB0.out.size))
    obtain ⟨⟨cx0, cx1⟩, cy0, cy1, _⟩ := zc2 hbx
    clear hbx
    by_cases hG : allLe [l1.length, l2.length] 8 = true ∧ okN n ∧ okN s ∧ okN p
    · rw [decide_eq_true hG]
      obtain ⟨hall, hgn, hgs, hgp⟩ := hG
      obtain ⟨hle1, hle2⟩ := allLe2 hall
      have HOx := Lib.hid (of_any b1 a1 c1 l1 wc (by omega) (HA.out.keep HD1.out))
      have HOy := Lib.hid fun W hw => Lib.hid (of_any b2 a2 c2 l2 W (by omega) (HC.out.keep (HD1.out.trans ((hw : Below wc.heap.size wc W).mono HD1.out.size))))
      have HYC : Hid (∀ w', Below wc.heap.size wc w' → w'.cell? ⟨w.heap.size + 1, 0, none⟩ = some (.bool b2) ∧ w'.cell? ⟨w.heap.size + 1, 1, none⟩ = some (.slice a2 l2.length c2)) := Lib.hid fun w' hb => ⟨(zc2 (HBX1.out.trans (hb.mono HBX1.out.size))).2.1, (zc2 (HBX1.out.trans (hb.mono HBX1.out.size))).2.2.1⟩
      have hBX : Bd 8 (nz (b1, l1)) := nz_bd hle1 HA.out.lt
      have hBY : Bd 8 (nz (b2, l2)) := nz_bd hle2 HC.out.lt
      clear hle1 hle2 hall
      generalize nz (b1, l1) = x at *
      generalize nz (b2, l2) = y at *
      obtain ⟨z1, k1, q1, q2, q3, q4⟩ := shift_pair x n hBX hn1 hn2 hgn
      have HP1 : Hid (∀ W u, IntV W u x → Hid (Calls Try.prog 50 #[u, .int .i64 n] W (IntRes W z1 k1))) := Lib.hid fun W u h => Lib.hid (q1 W u h)
      have HP2 : Hid (∀ W u, RefV W u x → Hid (Calls Try.prog 55 #[u, .int .i64 n] W (RefRes W z1 k1))) := Lib.hid fun W u h => Lib.hid (q2 W u h)
      have HI1 : Hid (∀ W u v, IntV W u z1 → RefV W v z1 → Hid (Calls Try.prog 21 #[u, v] W (BoolPost W true))) := Lib.hid fun W u v h h' => Lib.hid (is_same z1 u v W q3 q4 h h')
      clear q1 q2 q3 q4
      obtain ⟨z2, k2, q1, q2, q3, q4⟩ := field_pair x s p hBX hgs hgp
      have HP3 : Hid (∀ W u, IntV W u x → Hid (Calls Try.prog 56 #[u, .int .i64 s, .int .i64 p] W (IntRes W z2 k2))) := Lib.hid fun W u h => Lib.hid (q1 W u h)
      have HP4 : Hid (∀ W u, RefV W u x → Hid (Calls Try.prog 57 #[u, .int .i64 s, .int .i64 p] W (RefRes W z2 k2))) := Lib.hid fun W u h => Lib.hid (q2 W u h)
      have HI2 : Hid (∀ W u v, IntV W u z2 → RefV W v z2 → Hid (Calls Try.prog 21 #[u, v] W (BoolPost W true))) := Lib.hid fun W u v h h' => Lib.hid (is_same z2 u v W q3 q4 h h')
      clear q1 q2 q3 q4
      obtain ⟨z3, k3, q1, q2, q3, q4⟩ := deposit_pair x y s p hBX hBY hgs hgp
      have HP5 : Hid (∀ W u v, IntV W u x → IntV W v y → Hid (Calls Try.prog 58 #[u, v, .int .i64 s, .int .i64 p] W (IntRes W z3 k3))) := Lib.hid fun W u v h h' => Lib.hid (q1 W u v h h')
      have HP6 : Hid (∀ W u v, RefV W u x → RefV W v y → Hid (Calls Try.prog 59 #[u, v, .int .i64 s, .int .i64 p] W (RefRes W z3 k3))) := Lib.hid fun W u v h h' => Lib.hid (q2 W u v h h')
      have HI3 : Hid (∀ W u v, IntV W u z3 → RefV W v z3 → Hid (Calls Try.prog 21 #[u, v] W (BoolPost W true))) := Lib.hid fun W u v h h' => Lib.hid (is_same z3 u v W q3 q4 h h')
      clear q1 q2 q3 q4 hBX hBY hgn hgs hgp hn1 hn2
      have HE3 := Lib.hid (Below.refl wc.heap.size wc)
      go_wp2_with fail
      (with_reducible refine (HOx.out).mono ?_)
      rintro e w4 ⟨vA, vU, rfl, ⟨dA, nA, eA, rfl, hrA⟩, ⟨dU, nU, eU, rfl, hrU⟩, hb4⟩
      have HIA : Hid (IntV w4 (.agg #[.bool (decide (x < 0)), .slice dA nA eA]) x) := Lib.hid ⟨_, _, _, rfl, hrA⟩
      have HIU : Hid (RefV w4 (.agg #[.bool (decide (x < 0)), .slice dU nU eU]) x) := Lib.hid ⟨_, _, _, rfl, hrU⟩
      have HD4 := Lib.hid (HE3.out.trans (hb4.mono HE3.out.size))
      clear hb4 HE3 hrA hrU 
      generalize decide (x < 0) = bA at *
      have hal : Below w4.heap.size w4 ((w4.alloc (.cells #[.bool bA, .slice dA nA eA] 28)).alloc (.cells #[.bool bA, .slice dU nU eU] 31)) := below2 _ _ _
      have HD5 := Lib.hid (HD4.out.trans (hal.mono HD4.out.size))
      have KA5 : Hid (BX (w4.heap.size) (.bool bA) (.slice dA nA eA) x ((w4.alloc (.cells #[.bool bA, .slice dA nA eA] 28)).alloc (.cells #[.bool bA, .slice dU nU eU] 31))) := Lib.hid ((BX.made HIA.out).keep ((Below.refl _ _).alloc (Nat.le_refl _) _))
      have KU5 : Hid (RX (w4.heap.size + 1) (.bool bA) (.slice dU nU eU) x ((w4.alloc (.cells #[.bool bA, .slice dA nA eA] 28)).alloc (.cells #[.bool bA, .slice dU nU eU] 31))) := Lib.hid (by have h := RX.made (t := 31) (HIU.out.keep ((Below.refl w4.heap.size w4).alloc (Nat.le_refl _) (.cells #[.bool bA, .slice dA nA eA] 28))); rw [World.size_alloc] at h; exact h)
      clear hal HD4 HIA HIU
      clear cx0 cx1 cy0 cy1
      obtain ⟨cy0, cy1⟩ := HYC.out _ HD5.out
      go_wp2_with fail
      (with_reducible refine ((HOy.out _ HD5.out).out).mono ?_)
      rintro e w6 ⟨vB, vV, rfl, ⟨dB, nB, eB, rfl, hrB⟩, ⟨dV, nV, eV, rfl, hrV⟩, hb6⟩
      have HIB : Hid (IntV w6 (.agg #[.bool (decide (y < 0)), .slice dB nB eB]) y) := Lib.hid ⟨_, _, _, rfl, hrB⟩
      have HIV : Hid (RefV w6 (.agg #[.bool (decide (y < 0)), .slice dV nV eV]) y) := Lib.hid ⟨_, _, _, rfl, hrV⟩
      have HD6 := Lib.hid (HD5.out.trans (hb6.mono HD5.out.size))
      have KA6 := Lib.hid (KA5.out.keep hb6)
      have KU6 := Lib.hid (KU5.out.keep hb6)
      clear KA5 KU5
      clear hb6 HD5 hrB hrV 
      generalize decide (y < 0) = bB at *
      have hal : Below w6.heap.size w6 ((w6.alloc (.cells #[.bool bB, .slice dB nB eB] 28)).alloc (.cells #[.bool bB, .slice dV nV eV] 31)) := below2 _ _ _
      have HD7 := Lib.hid (HD6.out.trans (hal.mono HD6.out.size))
      have KA7 := Lib.hid (KA6.out.keep hal)
      have KU7 := Lib.hid (KU6.out.keep hal)
      clear KA6 KU6
      have KB7 : Hid (BX (w6.heap.size) (.bool bB) (.slice dB nB eB) y ((w6.alloc (.cells #[.bool bB, .slice dB nB eB] 28)).alloc (.cells #[.bool bB, .slice dV nV eV] 31))) := Lib.hid ((BX.made HIB.out).keep ((Below.refl _ _).alloc (Nat.le_refl _) _))
      have KV7 : Hid (RX (w6.heap.size + 1) (.bool bB) (.slice dV nV eV) y ((w6.alloc (.cells #[.bool bB, .slice dB nB eB] 28)).alloc (.cells #[.bool bB, .slice dV nV eV] 31))) := Lib.hid (by have h := RX.made (t := 31) (HIV.out.keep ((Below.refl w6.heap.size w6).alloc (Nat.le_refl _) (.cells #[.bool bB, .slice dB nB eB] 28))); rw [World.size_alloc] at h; exact h)
      clear hal HD6 HIB HIV
      clear cy0 cy1
      obtain ⟨ga0, gb0⟩ := KA7.out.cells
      go_wp2_with fail
      (with_reducible refine ((HP1.out _ _ KA7.out.iv).out).mono ?_)
      rintro e w8 ⟨vC, rfl, ⟨dC, nC, eC, rfl, hrC⟩, hb8⟩
      have HIC : Hid (IntV w8 (.agg #[.bool (decide (z1 < 0)), .slice dC nC eC]) z1) := Lib.hid ⟨_, _, _, rfl, hrC⟩
      have HD8 := Lib.hid (HD7.out.trans (hb8.mono HD7.out.size))
      have KA8 := Lib.hid (KA7.out.keep hb8)
      have KU8 := Lib.hid (KU7.out.keep hb8)
      have KB8 := Lib.hid (KB7.out.keep hb8)
      have KV8 := Lib.hid (KV7.out.keep hb8)
      clear KA7 KU7 KB7 KV7
      clear hb8 HD7 hrC ga0 gb0
      generalize decide (z1 < 0) = bC at *
      have hal : Below w8.heap.size w8 (w8.alloc (.cells #[.bool bC, .slice dC nC eC] 28)) := (Below.refl _ _).alloc (Nat.le_refl _) _
      have HD9 := Lib.hid (HD8.out.trans (hal.mono HD8.out.size))
      have KA9 := Lib.hid (KA8.out.keep hal)
      have KU9 := Lib.hid (KU8.out.keep hal)
      have KB9 := Lib.hid (KB8.out.keep hal)
      have KV9 := Lib.hid (KV8.out.keep hal)
      clear KA8 KU8 KB8 KV8
      have KC9 : Hid (BX (w8.heap.size) (.bool bC) (.slice dC nC eC) z1 (w8.alloc (.cells #[.bool bC, .slice dC nC eC] 28))) := Lib.hid (BX.made HIC.out)
      clear hal HD8 HIC
      obtain ⟨ga0, gb0⟩ := KU9.out.cells
      go_wp2_with fail
      (with_reducible refine ((HP2.out _ _ KU9.out.rv).out).mono ?_)
      rintro e w10 ⟨vD, rfl, ⟨dD, nD, eD, rfl, hrD⟩, hb10⟩
      have HID : Hid (RefV w10 (.agg #[.bool (decide (z1 < 0)), .slice dD nD eD]) z1) := Lib.hid ⟨_, _, _, rfl, hrD⟩
      have HD10 := Lib.hid (HD9.out.trans (hb10.mono HD9.out.size))
      have KA10 := Lib.hid (KA9.out.keep hb10)
      have KU10 := Lib.hid (KU9.out.keep hb10)
      have KB10 := Lib.hid (KB9.out.keep hb10)
      have KV10 := Lib.hid (KV9.out.keep hb10)
      have KC10 := Lib.hid (KC9.out.keep hb10)
      clear KA9 KU9 KB9 KV9 KC9
      clear hb10 HD9 hrD ga0 gb0
      generalize decide (z1 < 0) = bD at *
      have hal : Below w10.heap.size w10 (w10.alloc (.cells #[.bool bD, .slice dD nD eD] 31)) := (Below.refl _ _).alloc (Nat.le_refl _) _
      have HD11 := Lib.hid (HD10.out.trans (hal.mono HD10.out.size))
      have KA11 := Lib.hid (KA10.out.keep hal)
      have KU11 := Lib.hid (KU10.out.keep hal)
      have KB11 := Lib.hid (KB10.out.keep hal)
      have KV11 := Lib.hid (KV10.out.keep hal)
      have KC11 := Lib.hid (KC10.out.keep hal)
      clear KA10 KU10 KB10 KV10 KC10
      have KD11 : Hid (RX (w10.heap.size) (.bool bD) (.slice dD nD eD) z1 (w10.alloc (.cells #[.bool bD, .slice dD nD eD] 31))) := Lib.hid (RX.made HID.out)
      clear hal HD10 HID
      obtain ⟨ga0, gb0⟩ := KA11.out.cells
      go_wp2_with fail
      (with_reducible refine ((HP3.out _ _ KA11.out.iv).out).mono ?_)
      rintro e w12 ⟨vE, rfl, ⟨dE, nE, eE, rfl, hrE⟩, hb12⟩
      have HIE : Hid (IntV w12 (.agg #[.bool (decide (z2 < 0)), .slice dE nE eE]) z2) := Lib.hid ⟨_, _, _, rfl, hrE⟩
      have HD12 := Lib.hid (HD11.out.trans (hb12.mono HD11.out.size))
      have KA12 := Lib.hid (KA11.out.keep hb12)
      have KU12 := Lib.hid (KU11.out.keep hb12)
      have KB12 := Lib.hid (KB11.out.keep hb12)
      have KV12 := Lib.hid (KV11.out.keep hb12)
      have KC12 := Lib.hid (KC11.out.keep hb12)
      have KD12 := Lib.hid (KD11.out.keep hb12)
      clear KA11 KU11 KB11 KV11 KC11 KD11
      clear hb12 HD11 hrE ga0 gb0
      generalize decide (z2 < 0) = bE at *
      have hal : Below w12.heap.size w12 (w12.alloc (.cells #[.bool bE, .slice dE nE eE] 28)) := (Below.refl _ _).alloc (Nat.le_refl _) _
      have HD13 := Lib.hid (HD12.out.trans (hal.mono HD12.out.size))
      have KA13 := Lib.hid (KA12.out.keep hal)
      have KU13 := Lib.hid (KU12.out.keep hal)
      have KB13 := Lib.hid (KB12.out.keep hal)
      have KV13 := Lib.hid (KV12.out.keep hal)
      have KC13 := Lib.hid (KC12.out.keep hal)
      have KD13 := Lib.hid (KD12.out.keep hal)
      clear KA12 KU12 KB12 KV12 KC12 KD12
      have KE13 : Hid (BX (w12.heap.size) (.bool bE) (.slice dE nE eE) z2 (w12.alloc (.cells #[.bool bE, .slice dE nE eE] 28))) := Lib.hid (BX.made HIE.out)
      clear hal HD12 HIE
      obtain ⟨ga0, gb0⟩ := KU13.out.cells
      go_wp2_with fail
      (with_reducible refine ((HP4.out _ _ KU13.out.rv).out).mono ?_)
      rintro e w14 ⟨vF, rfl, ⟨dF, nF, eF, rfl, hrF⟩, hb14⟩
      have HIF : Hid (RefV w14 (.agg #[.bool (decide (z2 < 0)), .slice dF nF eF]) z2) := Lib.hid ⟨_, _, _, rfl, hrF⟩
      have HD14 := Lib.hid (HD13.out.trans (hb14.mono HD13.out.size))
      have KA14 := Lib.hid (KA13.out.keep hb14)
      have KU14 := Lib.hid (KU13.out.keep hb14)
      have KB14 := Lib.hid (KB13.out.keep hb14)
      have KV14 := Lib.hid (KV13.out.keep hb14)
      have KC14 := Lib.hid (KC13.out.keep hb14)
      have KD14 := Lib.hid (KD13.out.keep hb14)
      have KE14 := Lib.hid (KE13.out.keep hb14)
      clear KA13 KU13 KB13 KV13 KC13 KD13 KE13
      clear hb14 HD13 hrF ga0 gb0
      generalize decide (z2 < 0) = bF at *
      have hal : Below w14.heap.size w14 (w14.alloc (.cells #[.bool bF, .slice dF nF eF] 31)) := (Below.refl _ _).alloc (Nat.le_refl _) _
      have HD15 := Lib.hid (HD14.out.trans (hal.mono HD14.out.size))
      have KA15 := Lib.hid (KA14.out.keep hal)
      have KU15 := Lib.hid (KU14.out.keep hal)
      have KB15 := Lib.hid (KB14.out.keep hal)
      have KV15 := Lib.hid (KV14.out.keep hal)
      have KC15 := Lib.hid (KC14.out.keep hal)
      have KD15 := Lib.hid (KD14.out.keep hal)
      have KE15 := Lib.hid (KE14.out.keep hal)
      clear KA14 KU14 KB14 KV14 KC14 KD14 KE14
      have KF15 : Hid (RX (w14.heap.size) (.bool bF) (.slice dF nF eF) z2 (w14.alloc (.cells #[.bool bF, .slice dF nF eF] 31))) := Lib.hid (RX.made HIF.out)
      clear hal HD14 HIF
      obtain ⟨ga0, gb0⟩ := KA15.out.cells
      obtain ⟨ga1, gb1⟩ := KB15.out.cells
      go_wp2_with fail
      (with_reducible refine ((HP5.out _ _ _ KA15.out.iv KB15.out.iv).out).mono ?_)
      rintro e w16 ⟨vG, rfl, ⟨dG, nG, eG, rfl, hrG⟩, hb16⟩
      have HIG : Hid (IntV w16 (.agg #[.bool (decide (z3 < 0)), .slice dG nG eG]) z3) := Lib.hid ⟨_, _, _, rfl, hrG⟩
      have HD16 := Lib.hid (HD15.out.trans (hb16.mono HD15.out.size))
      have KA16 := Lib.hid (KA15.out.keep hb16)
      have KU16 := Lib.hid (KU15.out.keep hb16)
      have KB16 := Lib.hid (KB15.out.keep hb16)
      have KV16 := Lib.hid (KV15.out.keep hb16)
      have KC16 := Lib.hid (KC15.out.keep hb16)
      have KD16 := Lib.hid (KD15.out.keep hb16)
      have KE16 := Lib.hid (KE15.out.keep hb16)
      have KF16 := Lib.hid (KF15.out.keep hb16)
      clear KA15 KU15 KB15 KV15 KC15 KD15 KE15 KF15
      clear hb16 HD15 hrG ga0 gb0 ga1 gb1
      generalize decide (z3 < 0) = bG at *
      have hal : Below w16.heap.size w16 (w16.alloc (.cells #[.bool bG, .slice dG nG eG] 28)) := (Below.refl _ _).alloc (Nat.le_refl _) _
      have HD17 := Lib.hid (HD16.out.trans (hal.mono HD16.out.size))
      have KA17 := Lib.hid (KA16.out.keep hal)
      have KU17 := Lib.hid (KU16.out.keep hal)
      have KB17 := Lib.hid (KB16.out.keep hal)
      have KV17 := Lib.hid (KV16.out.keep hal)
      have KC17 := Lib.hid (KC16.out.keep hal)
      have KD17 := Lib.hid (KD16.out.keep hal)
      have KE17 := Lib.hid (KE16.out.keep hal)
      have KF17 := Lib.hid (KF16.out.keep hal)
      clear KA16 KU16 KB16 KV16 KC16 KD16 KE16 KF16
      have KG17 : Hid (BX (w16.heap.size) (.bool bG) (.slice dG nG eG) z3 (w16.alloc (.cells #[.bool bG, .slice dG nG eG] 28))) := Lib.hid (BX.made HIG.out)
      clear hal HD16 HIG
      obtain ⟨ga0, gb0⟩ := KU17.out.cells
      obtain ⟨ga1, gb1⟩ := KV17.out.cells
      go_wp2_with fail
      (with_reducible refine ((HP6.out _ _ _ KU17.out.rv KV17.out.rv).out).mono ?_)
      rintro e w18 ⟨vH, rfl, ⟨dH, nH, eH, rfl, hrH⟩, hb18⟩
      have HIH : Hid (RefV w18 (.agg #[.bool (decide (z3 < 0)), .slice dH nH eH]) z3) := Lib.hid ⟨_, _, _, rfl, hrH⟩
      have HD18 := Lib.hid (HD17.out.trans (hb18.mono HD17.out.size))
      have KA18 := Lib.hid (KA17.out.keep hb18)
      have KU18 := Lib.hid (KU17.out.keep hb18)
      have KB18 := Lib.hid (KB17.out.keep hb18)
      have KV18 := Lib.hid (KV17.out.keep hb18)
      have KC18 := Lib.hid (KC17.out.keep hb18)
      have KD18 := Lib.hid (KD17.out.keep hb18)
      have KE18 := Lib.hid (KE17.out.keep hb18)
      have KF18 := Lib.hid (KF17.out.keep hb18)
      have KG18 := Lib.hid (KG17.out.keep hb18)
      clear KA17 KU17 KB17 KV17 KC17 KD17 KE17 KF17 KG17
      clear hb18 HD17 hrH ga0 gb0 ga1 gb1
      generalize decide (z3 < 0) = bH at *
      have hal : Below w18.heap.size w18 (w18.alloc (.cells #[.bool bH, .slice dH nH eH] 31)) := (Below.refl _ _).alloc (Nat.le_refl _) _
      have HD19 := Lib.hid (HD18.out.trans (hal.mono HD18.out.size))
      have KA19 := Lib.hid (KA18.out.keep hal)
      have KU19 := Lib.hid (KU18.out.keep hal)
      have KB19 := Lib.hid (KB18.out.keep hal)
      have KV19 := Lib.hid (KV18.out.keep hal)
      have KC19 := Lib.hid (KC18.out.keep hal)
      have KD19 := Lib.hid (KD18.out.keep hal)
      have KE19 := Lib.hid (KE18.out.keep hal)
      have KF19 := Lib.hid (KF18.out.keep hal)
      have KG19 := Lib.hid (KG18.out.keep hal)
      clear KA18 KU18 KB18 KV18 KC18 KD18 KE18 KF18 KG18
      have KH19 : Hid (RX (w18.heap.size) (.bool bH) (.slice dH nH eH) z3 (w18.alloc (.cells #[.bool bH, .slice dH nH eH] 31))) := Lib.hid (RX.made HIH.out)
      clear hal HD18 HIH
      have heq1 : (k1 == k1) = true := by simp
      have heq2 : (k2 == k2) = true := by simp
      have heq3 : (k3 == k3) = true := by simp
      obtain ⟨ga0, gb0⟩ := KC19.out.cells
      obtain ⟨ga1, gb1⟩ := KD19.out.cells
      go_wp2_with fail
      (with_reducible refine ((HI1.out _ _ _ KC19.out.iv KD19.out.rv).out).mono ?_)
      rintro e w20 ⟨rfl, hb20⟩
      have HD20 := Lib.hid (HD19.out.trans (hb20.mono HD19.out.size))
      have KA20 := Lib.hid (KA19.out.keep hb20)
      have KU20 := Lib.hid (KU19.out.keep hb20)
      have KB20 := Lib.hid (KB19.out.keep hb20)
      have KV20 := Lib.hid (KV19.out.keep hb20)
      have KC20 := Lib.hid (KC19.out.keep hb20)
      have KD20 := Lib.hid (KD19.out.keep hb20)
      have KE20 := Lib.hid (KE19.out.keep hb20)
      have KF20 := Lib.hid (KF19.out.keep hb20)
      have KG20 := Lib.hid (KG19.out.keep hb20)
      have KH20 := Lib.hid (KH19.out.keep hb20)
      clear KA19 KU19 KB19 KV19 KC19 KD19 KE19 KF19 KG19 KH19
      clear hb20 HD19  ga0 gb0 ga1 gb1
      obtain ⟨ga0, gb0⟩ := KE20.out.cells
      obtain ⟨ga1, gb1⟩ := KF20.out.cells
      go_wp2_with fail
      (with_reducible refine ((HI2.out _ _ _ KE20.out.iv KF20.out.rv).out).mono ?_)
      rintro e w21 ⟨rfl, hb21⟩
      have HD21 := Lib.hid (HD20.out.trans (hb21.mono HD20.out.size))
      have KA21 := Lib.hid (KA20.out.keep hb21)
      have KU21 := Lib.hid (KU20.out.keep hb21)
      have KB21 := Lib.hid (KB20.out.keep hb21)
      have KV21 := Lib.hid (KV20.out.keep hb21)
      have KC21 := Lib.hid (KC20.out.keep hb21)
      have KD21 := Lib.hid (KD20.out.keep hb21)
      have KE21 := Lib.hid (KE20.out.keep hb21)
      have KF21 := Lib.hid (KF20.out.keep hb21)
      have KG21 := Lib.hid (KG20.out.keep hb21)
      have KH21 := Lib.hid (KH20.out.keep hb21)
      clear KA20 KU20 KB20 KV20 KC20 KD20 KE20 KF20 KG20 KH20
      clear hb21 HD20  ga0 gb0 ga1 gb1
      obtain ⟨ga0, gb0⟩ := KG21.out.cells
      obtain ⟨ga1, gb1⟩ := KH21.out.cells
      go_wp2_with fail
      (with_reducible refine ((HI3.out _ _ _ KG21.out.iv KH21.out.rv).out).mono ?_)
      rintro e w22 ⟨rfl, hb22⟩
      have HD22 := Lib.hid (HD21.out.trans (hb22.mono HD21.out.size))
      have KA22 := Lib.hid (KA21.out.keep hb22)
      have KU22 := Lib.hid (KU21.out.keep hb22)
      have KB22 := Lib.hid (KB21.out.keep hb22)
      have KV22 := Lib.hid (KV21.out.keep hb22)
      have KC22 := Lib.hid (KC21.out.keep hb22)
      have KD22 := Lib.hid (KD21.out.keep hb22)
      have KE22 := Lib.hid (KE21.out.keep hb22)
      have KF22 := Lib.hid (KF21.out.keep hb22)
      have KG22 := Lib.hid (KG21.out.keep hb22)
      have KH22 := Lib.hid (KH21.out.keep hb22)
      clear KA21 KU21 KB21 KV21 KC21 KD21 KE21 KF21 KG21 KH21
      clear hb22 HD21  ga0 gb0 ga1 gb1
      go_wp2_with fail
      (with_reducible refine ((HAW.out _).out).mono ?_)
      rintro e w23 ⟨rfl, hb23⟩
      have HD23 := Lib.hid (HD22.out.trans (hb23.mono HD22.out.size))
      have KA23 := Lib.hid (KA22.out.keep hb23)
      have KU23 := Lib.hid (KU22.out.keep hb23)
      have KB23 := Lib.hid (KB22.out.keep hb23)
      have KV23 := Lib.hid (KV22.out.keep hb23)
      have KC23 := Lib.hid (KC22.out.keep hb23)
      have KD23 := Lib.hid (KD22.out.keep hb23)
      have KE23 := Lib.hid (KE22.out.keep hb23)
      have KF23 := Lib.hid (KF22.out.keep hb23)
      have KG23 := Lib.hid (KG22.out.keep hb23)
      have KH23 := Lib.hid (KH22.out.keep hb23)
      clear KA22 KU22 KB22 KV22 KC22 KD22 KE22 KF22 KG22 KH22
      clear hb23 HD22  
      go_wp2
      go_ret
      exact ⟨rfl, HD1.out.trans (HD23.out.mono HD1.out.size)⟩
    · rw [decide_eq_false hG]
      clear hG
      go_wp2_with fail
      (with_reducible refine (HAW.out _).out.mono ?_)
      rintro e w2 ⟨rfl, hb2⟩
      go_wp2
      go_ret
      exact ⟨rfl, HD1.out.trans (hb2.mono HD1.out.size)⟩

end Go.Proofs.Ytnbnbjgdplpemaa
