/-  IntegerNumbers' walk.  -/
import Derived.Test.YtnbnbjgdplpemaaRC
import Derived.Test.YtnbnbjgdplpemaaPowers
namespace Go.Proofs.Ytnbnbjgdplpemaa
open Go.RowKit Digs

theorem nz_bdk {b : Bool} {l : List Nat} {k : Nat} (hl : l.length ≤ k) (hlt : ∀ x ∈ l, x < 4294967296) : Bd k (nz (b, l)) := by
  have h : (nz (b, l)).natAbs = vl 4294967296 l := sg_natAbs _ _
  unfold Bd
  rw [h]
  exact Nat.lt_of_lt_of_le (vl_lt l hlt) (Nat.pow_le_pow_right (by decide) hl)
theorem short1k (b1 : Bool) (a1 : Option Addr) (c1 : Nat) (l1 : List Nat) (w : World) (N : Nat) (hN : w.heap.size = N) (h1 : NArg w a1 c1 l1) :
    Calls Try.prog 14 #[.int .i64 12, .slice (some ⟨N, 0, none⟩) 1 1] (w.alloc (.cells #[.bool b1, .slice a1 l1.length c1] 24)) (BoolPost (w.alloc (.cells #[.bool b1, .slice a1 l1.length c1] 24)) (allLe [l1.length] 12)) :=
  short1a b1 a1 c1 l1 w N 12 hN h1

set_option maxHeartbeats 4000000 in
set_option maxRecDepth 100000 in
theorem numbers_any (b1 : Bool) (a1 : Option Addr) (c1 : Nat) (l1 : List Nat) (n : Int) (w : World) (h1 : NArg w a1 c1 l1) (hlo : -9223372036854775808 ≤ n) (hhi : n ≤ 9223372036854775807) :
    Calls Try.prog 3 #[.agg #[.bool b1, .slice a1 l1.length c1], .int .i64 n] w (BoolPost w true) := by
  have HAW := fun W => Lib.hid (awake_any W)
  have HAW := Lib.hid HAW
  have HA := Lib.hid h1
  have hfn : fits64 n = true := decide_eq_true ⟨hlo, hhi⟩
  have hBn : Bd 2 n := by unfold Bd; show n.natAbs < 18446744073709551616; omega
  have HN1 := fun W => Lib.hid (new_any n W hlo hhi)
  have HN1 := Lib.hid HN1
  have HN2 := fun W => Lib.hid (rnew_any n W hlo hhi)
  have HN2 := Lib.hid HN2
  have HIN : Hid (∀ W v, IntV W v n → Hid (Calls Try.prog 19 #[v] W (fun e w' => e = .returned (.tuple #[.int .i64 n, .bool true]) ∧ Below W.heap.size W w'))) := Lib.hid fun W v h => Lib.hid (by
    have h1 := Int64_any n v W (len_le (by decide) hBn) h
    unfold Int64Post at h1
    rw [hfn, if_pos rfl] at h1
    exact h1)
  have HISN : Hid (∀ W u v, IntV W u n → RefV W v n → Hid (Calls Try.prog 21 #[u, v] W (BoolPost W true))) := Lib.hid fun W u v h h' => Lib.hid (is_same n u v W (len_le (by decide) hBn) (rlen_bd hBn (by decide)) h h')
  clear h1 hlo hhi hfn hBn
  go_enter Try.func3, Try.ntmps3
  have HB0 := Lib.hid ((Below.refl w.heap.size w).alloc (Nat.le_refl _) (.cells #[.bool b1, .slice a1 l1.length c1] 24))
  have HS8 := Lib.hid (short1k b1 a1 c1 l1 _ (w.heap.size + 1) (by simp) (HA.out.keep HB0.out))
  go_wp2_with fail
  (with_reducible refine HS8.out.mono ?_)
  rintro e w1 ⟨rfl, hb1⟩
  have hb1' := ((Below.refl _ _).alloc (Nat.le_refl _) (row1 b1 a1 c1 l1)).trans (hb1.mono (by simp))
  have HB1 := Lib.hid (HB0.out.trans (hb1'.mono HB0.out.size))
  obtain ⟨cx0, cx1, _⟩ := box2 hb1'
  clear hb1 hb1'
  cases hall : allLe [l1.length] 12 with
  | false =>
    clear hall
    go_wp2_with fail
    (with_reducible refine (HAW.out _).out.mono ?_)
    rintro e w2 ⟨rfl, hb2⟩
    go_wp2
    go_ret
    exact ⟨rfl, HB1.out.trans (hb2.mono HB1.out.size)⟩
  | true =>
    have hle1 := allLe1 hall
    clear hall
    have HOx := Lib.hid (of_any b1 a1 c1 l1 w1 (by omega) (HA.out.keep HB1.out))
    have hBX : Bd 12 (nz (b1, l1)) := nz_bdk hle1 HA.out.lt
    generalize nz (b1, l1) = x at *
    have hlx : len x ≤ 1000000 := len_le (by decide) hBX
    have hrx : rlen x ≤ 50000 := rlen_bd hBX (by decide)
    have HI1 : Hid (∀ W v, IntV W v x → Hid (Calls Try.prog 19 #[v] W (Int64Post W x))) := Lib.hid fun W v h => Lib.hid (Int64_any x v W hlx h)
    have HI2 : Hid (∀ W v, RefV W v x → Hid (Calls Try.prog 20 #[v] W (Int64Post W x))) := Lib.hid fun W v h => Lib.hid (rInt64_any x v W (hBX.up (by decide)) h)
    have HIS : Hid (∀ W u v, IntV W u x → RefV W v x → Hid (Calls Try.prog 21 #[u, v] W (BoolPost W true))) := Lib.hid fun W u v h h' => Lib.hid (is_same x u v W hlx (by omega) h h')
    have HSG := Lib.hid fun W v h => Lib.hid (sign_any x v W hlx h)
    have HRG := Lib.hid fun W v h => Lib.hid (rSign_any x v W (by omega) h)
    have HOD := Lib.hid fun W v h => Lib.hid (Odd_any x v W hlx h)
    have HRO := Lib.hid fun W v h => Lib.hid (rOdd_any x v W (by omega) h)
    have HLE := Lib.hid fun W v h => Lib.hid (Length_any x v W hlx h)
    have HRL := Lib.hid fun W v h => Lib.hid (rLength_any x v W (by omega) h)
    have HCO := Lib.hid fun W v h => Lib.hid (Count_any x v W hlx h)
    have HRC := Lib.hid fun W v h => Lib.hid (rCount_any x v W hrx h)
    unfold Int64Post at HI1 HI2
    generalize (if fits64 x then x else 0) = kv at *
    generalize fits64 x = fv at *
    generalize sgnZ x = sx at *
    generalize decide (x.natAbs % 2 = 1) = ox at *
    generalize lenZ x = lx at *
    generalize countZ x = cx at *
    clear hle1 hBX hlx hrx
    go_wp2_with fail
    (with_reducible refine HOx.out.mono ?_)
    rintro e w3 ⟨vx, vu, rfl, ⟨dx, nx, ex, rfl, hrx⟩, ⟨du, nu, eu, rfl, hru⟩, hb3⟩
    have HIx : Hid (IntV w3 (.agg #[.bool (decide (x < 0)), .slice dx nx ex]) x) := Lib.hid ⟨_, _, _, rfl, hrx⟩
    have HIu : Hid (RefV w3 (.agg #[.bool (decide (x < 0)), .slice du nu eu]) x) := Lib.hid ⟨_, _, _, rfl, hru⟩
    have HD3 := Lib.hid (HB1.out.trans (hb3.mono HB1.out.size))
    clear hrx hru hb3 cx0 cx1
    generalize decide (x < 0) = bx at *
    have hal : Below w3.heap.size w3 ((w3.alloc (.cells #[.bool bx, .slice dx nx ex] 28)).alloc (.cells #[.bool bx, .slice du nu eu] 31)) := below2 _ _ _
    have HD4 := Lib.hid (HD3.out.trans (hal.mono HD3.out.size))
    have KA4 : Hid (BX w3.heap.size (.bool bx) (.slice dx nx ex) x ((w3.alloc (.cells #[.bool bx, .slice dx nx ex] 28)).alloc (.cells #[.bool bx, .slice du nu eu] 31))) := Lib.hid ((BX.made HIx.out).keep ((Below.refl _ _).alloc (Nat.le_refl _) _))
    have KU4 : Hid (RX (w3.heap.size + 1) (.bool bx) (.slice du nu eu) x ((w3.alloc (.cells #[.bool bx, .slice dx nx ex] 28)).alloc (.cells #[.bool bx, .slice du nu eu] 31))) := Lib.hid (by
      have h := RX.made (t := 31) (HIu.out.keep ((Below.refl w3.heap.size w3).alloc (Nat.le_refl _) (.cells #[.bool bx, .slice dx nx ex] 28)))
      rw [World.size_alloc] at h
      exact h)
    clear hal
    go_wp2_with fail
    (with_reducible refine (HN1.out _).out.mono ?_)
    rintro e w5 ⟨vm, rfl, ⟨dm, nm, em, rfl, hrm⟩, hb5⟩
    have HD5 := Lib.hid (HD4.out.trans (hb5.mono HD4.out.size))
    have KA5 := Lib.hid (KA4.out.keep hb5)
    have KU5 := Lib.hid (KU4.out.keep hb5)
    have HIm : Hid (IntV w5 (.agg #[.bool (decide (n < 0)), .slice dm nm em]) n) := Lib.hid ⟨_, _, _, rfl, hrm⟩
    clear hrm hb5
    go_wp2_with fail
    (with_reducible refine (HN2.out _).out.mono ?_)
    rintro e w6 ⟨vq, rfl, ⟨dq, nq, eq, rfl, hrq⟩, hb6⟩
    have HD6 := Lib.hid (HD5.out.trans (hb6.mono HD5.out.size))
    have KA6 := Lib.hid (KA5.out.keep hb6)
    have KU6 := Lib.hid (KU5.out.keep hb6)
    have HIm6 := Lib.hid (HIm.out.keep hb6)
    have HIq : Hid (RefV w6 (.agg #[.bool (decide (n < 0)), .slice dq nq eq]) n) := Lib.hid ⟨_, _, _, rfl, hrq⟩
    clear hrq hb6
    generalize decide (n < 0) = bn at *
    have hal : Below w6.heap.size w6 ((w6.alloc (.cells #[.bool bn, .slice dm nm em] 28)).alloc (.cells #[.bool bn, .slice dq nq eq] 31)) := below2 _ _ _
    have HD7 := Lib.hid (HD6.out.trans (hal.mono HD6.out.size))
    have KA7 := Lib.hid (KA6.out.keep hal)
    have KU7 := Lib.hid (KU6.out.keep hal)
    have KM7 : Hid (BX w6.heap.size (.bool bn) (.slice dm nm em) n ((w6.alloc (.cells #[.bool bn, .slice dm nm em] 28)).alloc (.cells #[.bool bn, .slice dq nq eq] 31))) := Lib.hid ((BX.made HIm6.out).keep ((Below.refl _ _).alloc (Nat.le_refl _) _))
    have KQ7 : Hid (RX (w6.heap.size + 1) (.bool bn) (.slice dq nq eq) n ((w6.alloc (.cells #[.bool bn, .slice dm nm em] 28)).alloc (.cells #[.bool bn, .slice dq nq eq] 31))) := Lib.hid (by
      have h := RX.made (t := 31) (HIq.out.keep ((Below.refl w6.heap.size w6).alloc (Nat.le_refl _) (.cells #[.bool bn, .slice dm nm em] 28)))
      rw [World.size_alloc] at h
      exact h)
    clear hal
    obtain ⟨ga0, ga1⟩ := KA7.out.cells
    go_wp2_with fail
    (with_reducible refine (HI1.out _ _ KA7.out.iv).out.mono ?_)
    rintro e w8 ⟨rfl, hb8⟩
    have HD8 := Lib.hid (HD7.out.trans (hb8.mono HD7.out.size))
    have KA8 := Lib.hid (KA7.out.keep hb8)
    have KU8 := Lib.hid (KU7.out.keep hb8)
    have KM8 := Lib.hid (KM7.out.keep hb8)
    have KQ8 := Lib.hid (KQ7.out.keep hb8)
    clear hb8 ga0 ga1
    obtain ⟨ga0, ga1⟩ := KU8.out.cells
    go_wp2_with fail
    (with_reducible refine (HI2.out _ _ KU8.out.rv).out.mono ?_)
    rintro e w9 ⟨rfl, hb9⟩
    have HD9 := Lib.hid (HD8.out.trans (hb9.mono HD8.out.size))
    have KA9 := Lib.hid (KA8.out.keep hb9)
    have KU9 := Lib.hid (KU8.out.keep hb9)
    have KM9 := Lib.hid (KM8.out.keep hb9)
    have KQ9 := Lib.hid (KQ8.out.keep hb9)
    clear hb9 ga0 ga1
    obtain ⟨ga0, ga1⟩ := KM9.out.cells
    go_wp2_with fail
    (with_reducible refine (HIN.out _ _ KM9.out.iv).out.mono ?_)
    rintro e w10 ⟨rfl, hb10⟩
    have HD10 := Lib.hid (HD9.out.trans (hb10.mono HD9.out.size))
    have KA10 := Lib.hid (KA9.out.keep hb10)
    have KU10 := Lib.hid (KU9.out.keep hb10)
    have KM10 := Lib.hid (KM9.out.keep hb10)
    have KQ10 := Lib.hid (KQ9.out.keep hb10)
    clear hb10 ga0 ga1
    have e1 : (kv == kv) = true := by simp
    have e2 : (fv == fv) = true := by simp
    have e3 : (n == n) = true := by simp
    have e4 : (sx == sx) = true := by simp
    have e5 : (ox == ox) = true := by simp
    have e6 : ((lx : Int) == (lx : Int)) = true := by simp
    have e7 : ((cx : Int) == (cx : Int)) = true := by simp
    obtain ⟨ga0, ga1⟩ := KA10.out.cells
    obtain ⟨gu0, gu1⟩ := KU10.out.cells
    obtain ⟨gm0, gm1⟩ := KM10.out.cells
    obtain ⟨gq0, gq1⟩ := KQ10.out.cells
    have HK : Hid (∀ W, Below w10.heap.size w10 W → BX w3.heap.size (.bool bx) (.slice dx nx ex) x W ∧ RX (w3.heap.size + 1) (.bool bx) (.slice du nu eu) x W ∧ BX w6.heap.size (.bool bn) (.slice dm nm em) n W ∧ RX (w6.heap.size + 1) (.bool bn) (.slice dq nq eq) n W) :=
      Lib.hid fun W hb => ⟨KA10.out.keep hb, KU10.out.keep hb, KM10.out.keep hb, KQ10.out.keep hb⟩
    have HSS : Hid (∀ w', Below w10.heap.size w10 w' → w'.cell? ⟨w3.heap.size, 0, none⟩ = some (.bool bx) ∧ w'.cell? ⟨w3.heap.size, 1, none⟩ = some (.slice dx nx ex) ∧ w'.cell? ⟨w3.heap.size + 1, 0, none⟩ = some (.bool bx) ∧ w'.cell? ⟨w3.heap.size + 1, 1, none⟩ = some (.slice du nu eu) ∧ w'.cell? ⟨w6.heap.size, 0, none⟩ = some (.bool bn) ∧ w'.cell? ⟨w6.heap.size, 1, none⟩ = some (.slice dm nm em) ∧ w'.cell? ⟨w6.heap.size + 1, 0, none⟩ = some (.bool bn) ∧ w'.cell? ⟨w6.heap.size + 1, 1, none⟩ = some (.slice dq nq eq)) :=
      Lib.hid fun W hb => ⟨(KA10.out.keep hb).c0, (KA10.out.keep hb).c1, (KU10.out.keep hb).c0, (KU10.out.keep hb).c1, (KM10.out.keep hb).c0, (KM10.out.keep hb).c1, (KQ10.out.keep hb).c0, (KQ10.out.keep hb).c1⟩
    have hc0 : Below w10.heap.size w10 w10.drew := (Below.refl _ _).drew
    go_upto_region 8 with fail
    go_region_held3 (fun w' => w'.cell? ⟨w3.heap.size, 0, none⟩ = some (.bool bx) ∧ w'.cell? ⟨w3.heap.size, 1, none⟩ = some (.slice dx nx ex) ∧ w'.cell? ⟨w3.heap.size + 1, 0, none⟩ = some (.bool bx) ∧ w'.cell? ⟨w3.heap.size + 1, 1, none⟩ = some (.slice du nu eu) ∧ w'.cell? ⟨w6.heap.size, 0, none⟩ = some (.bool bn) ∧ w'.cell? ⟨w6.heap.size, 1, none⟩ = some (.slice dm nm em) ∧ w'.cell? ⟨w6.heap.size + 1, 0, none⟩ = some (.bool bn) ∧ w'.cell? ⟨w6.heap.size + 1, 1, none⟩ = some (.slice dq nq eq))
      (first | exact hs11 | exact hs10 | exact hs9 | exact hs8 | exact hs7 | exact hs6 | exact hs5 | exact hs4 | exact hs3 | exact hs2 | exact hs1 | go_keep)
      (go_loud (first
        | (go_at_call 21; (with_reducible refine (HIS.out _ _ _ (HK.out _ hc0).1.iv (HK.out _ hc0).2.1.rv).out.mono ?_); rintro e v1 ⟨rfl, hb1⟩; have hc1 := hc0.trans (hb1.mono hc0.size); have hs1 := HSS.out _ hc1)
        | (go_at_call 21; (with_reducible refine (HISN.out _ _ _ (HK.out _ hc1).2.2.1.iv (HK.out _ hc1).2.2.2.rv).out.mono ?_); rintro e v2 ⟨rfl, hb2⟩; have hc2 := hc1.trans (hb2.mono hc1.size); have hs2 := HSS.out _ hc2)
        | (go_at_call 22; (with_reducible refine (HSG.out _ _ (HK.out _ hc2).1.iv).out.mono ?_); rintro e v3 ⟨rfl, hb3⟩; have hc3 := hc2.trans (hb3.mono hc2.size); have hs3 := HSS.out _ hc3)
        | (go_at_call 23; (with_reducible refine (HRG.out _ _ (HK.out _ hc3).2.1.rv).out.mono ?_); rintro e v4 ⟨rfl, hb4⟩; have hc4 := hc3.trans (hb4.mono hc3.size); have hs4 := HSS.out _ hc4)
        | (go_at_call 24; (with_reducible refine (HOD.out _ _ (HK.out _ hc4).1.iv).out.mono ?_); rintro e v5 ⟨rfl, hb5⟩; have hc5 := hc4.trans (hb5.mono hc4.size); have hs5 := HSS.out _ hc5)
        | (go_at_call 25; (with_reducible refine (HRO.out _ _ (HK.out _ hc5).2.1.rv).out.mono ?_); rintro e v6 ⟨rfl, hb6⟩; have hc6 := hc5.trans (hb6.mono hc5.size); have hs6 := HSS.out _ hc6)
        | (go_at_call 26; (with_reducible refine (HLE.out _ _ (HK.out _ hc6).1.iv).out.mono ?_); rintro e v7 ⟨rfl, hb7⟩; have hc7 := hc6.trans (hb7.mono hc6.size); have hs7 := HSS.out _ hc7)
        | (go_at_call 27; (with_reducible refine (HRL.out _ _ (HK.out _ hc7).2.1.rv).out.mono ?_); rintro e v8 ⟨rfl, hb8⟩; have hc8 := hc7.trans (hb8.mono hc7.size); have hs8 := HSS.out _ hc8)
        | (go_at_call 28; (with_reducible refine (HCO.out _ _ (HK.out _ hc8).1.iv).out.mono ?_); rintro e v9 ⟨rfl, hb9⟩; have hc9 := hc8.trans (hb9.mono hc8.size); have hs9 := HSS.out _ hc9)
        | (go_at_call 29; (with_reducible refine (HRC.out _ _ (HK.out _ hc9).2.1.rv).out.mono ?_); rintro e v10 ⟨rfl, hb10⟩; have hc10 := hc9.trans (hb10.mono hc9.size); have hs10 := HSS.out _ hc10)
        | (go_at_call 15; (with_reducible refine (HAW.out _).out.mono ?_); rintro e v11 ⟨rfl, hb11⟩; have hc11 := hc10.trans (hb11.mono hc10.size); have hs11 := HSS.out _ hc11)))
    go_wp2
    go_ret
    exact ⟨rfl, HD10.out.trans (hc11.mono HD10.out.size)⟩

end Go.Proofs.Ytnbnbjgdplpemaa
