/-  PowB Powers  -/
import Derived.Test.YtgepnkdnenjogaaRPow
namespace Go.Proofs.Ytgepnkdnenjogaa
section
open Go.RowKit Digs

def IntRes (w : World) (z c : Int) (e : Ending) (w' : World) : Prop := ∃ v, e = .returned (.tuple #[v, .int .i64 c]) ∧ IntV w' v z ∧ Below w.heap.size w w'
def RefRes (w : World) (z c : Int) (e : Ending) (w' : World) : Prop := ∃ v, e = .returned (.tuple #[v, .int .i64 c]) ∧ RefV w' v z ∧ Below w.heap.size w w'
theorem IntErr.res {w w' : World} {c : Int} {e : Ending} (h : IntErr w c e w') : IntRes w 0 c e w' := ⟨_, h.1, IntV.zero _ false 0 rfl, h.2⟩
theorem RefErr.res {w w' : World} {c : Int} {e : Ending} (h : RefErr w c e w') : RefRes w 0 c e w' := ⟨_, h.1, RefV.zero0 _, h.2⟩

theorem sqrt_ex (m : Nat) : ∃ s : Nat, s * s ≤ m ∧ m < (s + 1) * (s + 1) := by
  induction m with
  | zero => exact ⟨0, by decide, by decide⟩
  | succ m ih =>
    obtain ⟨s, h1, h2⟩ := ih
    by_cases h : (s + 1) * (s + 1) ≤ m + 1
    · refine ⟨s + 1, h, ?_⟩
      have h3 : (s + 1) * (s + 1) < (s + 1 + 1) * (s + 1 + 1) := Nat.mul_self_lt_mul_self (Nat.lt_succ_self _)
      omega
    · exact ⟨s, by omega, by omega⟩

def Pair (x : Int) (F G : FuncId) (ex : Value → Array Value) : Prop :=
  ∃ z c : Int, (∀ W v, IntV W v x → Calls Try.prog F (ex v) W (IntRes W z c)) ∧ (∀ W v, RefV W v x → Calls Try.prog G (ex v) W (RefRes W z c)) ∧ len z ≤ 1000000 ∧ rlen z ≤ 1000000

theorem pow_pair (x n : Int) (hB : Bd 2 x) (hn : n < 9223372036854775808) (h : n ≤ 40 ∨ bl x.natAbs ≤ 1) :
    Pair x 46 47 (fun v => #[v, .int .i64 n]) := by
  by_cases h0 : n < 0
  · exact ⟨0, 1, fun W v hv => (Power_bad x v n W h0 hv).mono fun _ _ h => h.res, fun W v hv => (rPower_bad x v n W h0 hv).mono fun _ _ h => h.res, len_le (by decide) Bd.zero, rlen_bd Bd.zero (by decide)⟩
  · obtain ⟨k, rfl⟩ : ∃ k : Nat, n = (k : Int) := ⟨n.toNat, by omega⟩
    have hlx : len x ≤ 1000000 := len_le (by decide) hB
    by_cases h1 : bl x.natAbs ≤ 1
    · have hzz : x ^ k = 0 ∨ x ^ k = 1 ∨ x ^ k = -1 := by
        have hxx : x = 0 ∨ x = 1 ∨ x = -1 := by have := bl_le_iff.1 h1; omega
        rcases hxx with rfl | rfl | rfl
        · rcases Nat.eq_zero_or_pos k with rfl | hk
          · right; left; rfl
          · left; exact Int.zero_pow (by omega)
        · right; left; exact Int.one_pow
        · rw [neg_pow_par, Int.one_pow]
          split
          · right; right; rfl
          · right; left; rfl
      have hB1 : Bd 1 (x ^ k) := by
        unfold Bd
        rcases hzz with h | h | h <;> rw [h] <;> decide
      have hl : lenZ (x ^ k) ≤ 65536 := lenZ_bda (hB1) (by decide)
      exact ⟨x ^ k, 0, fun W v hv => (Power_any x v k W (by omega) hlx hv).mono fun _ _ h => h.2 hl, fun W v hv => rPower_unit x v k W h1 hv (by omega), len_le (by decide) hB1, rlen_bd hB1 (by decide)⟩
    · have hk : k ≤ 40 := by rcases h with h | h <;> omega
      have hBk := (hB.pow' k).up (show 2 * k + 1 ≤ 81 by omega)
      have hl : lenZ (x ^ k) ≤ 65536 := lenZ_bda hBk (by decide)
      exact ⟨x ^ k, 0, fun W v hv => (Power_any x v k W (by omega) hlx hv).mono fun _ _ h => h.2 hl, fun W v hv => rPower_run x v k W (by omega) hB hv hk, len_le (by decide) hBk, rlen_bd hBk (by decide)⟩

theorem root_pair (y : Int) (hB : Bd 8 y) : Pair y 48 49 (fun v => #[v]) := by
  by_cases h0 : y < 0
  · exact ⟨0, 1, fun W v hv => (Root_neg y v W hv h0).mono fun _ _ h => h.res, fun W v hv => (rRoot_neg y v W h0 (rlen_bd hB (by decide)) hv).mono fun _ _ h => h.res, len_le (by decide) Bd.zero, rlen_bd Bd.zero (by decide)⟩
  · obtain ⟨m, rfl⟩ : ∃ m : Nat, y = (m : Int) := ⟨y.toNat, by omega⟩
    obtain ⟨s, hs1, hs2⟩ : ∃ s : Nat, s * s ≤ m ∧ m < (s + 1) * (s + 1) := sqrt_ex m
    have hBs := root_bd hs1 hB
    refine ⟨(s : Int), 0, fun W v hv => (Root_any (m : Int) v W (Nat.le_trans (digs_length_le (by decide) _ _ hB) (by decide)) hv (by omega)).mono fun e w' h => ?_, fun W v hv => (rRoot_any m v W hB hv).mono fun e w' h => ?_, len_le (by decide) hBs, rlen_bd hBs (by decide)⟩
    · obtain ⟨r, h1, h2, h3⟩ := h
      rw [Int.natAbs_natCast] at h1 h2
      have e1 := sqrt_unique h1 hs2
      have e2 := sqrt_unique hs1 h2
      obtain rfl : r = s := by omega
      exact h3
    · obtain ⟨r, h1, h2, h3⟩ := h
      have e1 := sqrt_unique h1 hs2
      have e2 := sqrt_unique hs1 h2
      obtain rfl : r = s := by omega
      exact h3

theorem is_same (z : Int) (vx vy : Value) (w : World) (hx : len z ≤ 1000000) (hy : rlen z ≤ 1000000) (ha : IntV w vx z) (hb : RefV w vy z) :
    Calls Try.prog 21 #[vx, vy] w (BoolPost w true) := by
  have h := is_any z z vx vy w hx hy ha hb
  rw [decide_eq_true (rfl : z = z)] at h
  exact h
end

section
open Go.RowKit Digs

theorem zcells (w : World) (a b c d : Value) (t u : TypeId) {w' : World} (h : Below ((w.alloc (.cells #[a, b] t)).alloc (.cells #[c, d] u)).heap.size ((w.alloc (.cells #[a, b] t)).alloc (.cells #[c, d] u)) w') :
    (w'.cell? ⟨w.heap.size, 0, none⟩ = some a ∧ w'.cell? ⟨w.heap.size, 1, none⟩ = some b) ∧ (w'.cell? ⟨w.heap.size + 1, 0, none⟩ = some c ∧ w'.cell? ⟨w.heap.size + 1, 1, none⟩ = some d) := by
  have k1 := box2r h
  have k0 := box2 (w := w) (((Below.refl (w.alloc (.cells #[a, b] t)).heap.size _).alloc (Nat.le_refl _) (.cells #[c, d] u)).trans (h.mono (by simp)))
  exact ⟨⟨k0.1, k0.2.1⟩, k1.1, k1.2.1⟩

theorem nz_bd2 {b : Bool} {l : List Nat} (hl : l.length ≤ 2) (hlt : ∀ x ∈ l, x < 4294967296) : Bd 2 (nz (b, l)) := by
  have h : (nz (b, l)).natAbs = vl 4294967296 l := sg_natAbs _ _
  unfold Bd
  rw [h]
  exact Nat.lt_of_lt_of_le (vl_lt l hlt) (Nat.pow_le_pow_right (by decide) hl)
theorem short18 (b1 : Bool) (a1 : Option Addr) (c1 : Nat) (l1 : List Nat) (w : World) (N : Nat) (hN : w.heap.size = N) (h1 : NArg w a1 c1 l1) :
    Calls Try.prog 14 #[.int .i64 8, .slice (some ⟨N, 0, none⟩) 1 1] (w.alloc (.cells #[.bool b1, .slice a1 l1.length c1] 24)) (BoolPost (w.alloc (.cells #[.bool b1, .slice a1 l1.length c1] 24)) (allLe [l1.length] 8)) :=
  short1a b1 a1 c1 l1 w N 8 hN h1
theorem short12 (b1 : Bool) (a1 : Option Addr) (c1 : Nat) (l1 : List Nat) (w : World) (N : Nat) (hN : w.heap.size = N) (h1 : NArg w a1 c1 l1) :
    Calls Try.prog 14 #[.int .i64 2, .slice (some ⟨N, 0, none⟩) 1 1] (w.alloc (.cells #[.bool b1, .slice a1 l1.length c1] 24)) (BoolPost (w.alloc (.cells #[.bool b1, .slice a1 l1.length c1] 24)) (allLe [l1.length] 2)) :=
  short1a b1 a1 c1 l1 w N 2 hN h1

set_option maxHeartbeats 4000000 in
set_option maxRecDepth 100000 in
theorem powers_any (b1 : Bool) (a1 : Option Addr) (c1 : Nat) (l1 : List Nat) (n : Int) (b2 : Bool) (a2 : Option Addr) (c2 : Nat) (l2 : List Nat) (w : World) (h1 : NArg w a1 c1 l1) (h2 : NArg w a2 c2 l2) (hn : n < 9223372036854775808) :
    Calls Try.prog 5 #[.agg #[.bool b1, .slice a1 l1.length c1], .int .i64 n, .agg #[.bool b2, .slice a2 l2.length c2]] w (BoolPost w true) := by
  have HAW := fun W => Lib.hid (awake_any W)
  have HAW := Lib.hid HAW
  have HA := Lib.hid h1
  have HC := Lib.hid h2
  clear h1 h2
  go_enter Try.func5, Try.ntmps5
  have HB0 := Lib.hid (below2 w (.cells #[.bool b1, .slice a1 l1.length c1] 24) (.cells #[.bool b2, .slice a2 l2.length c2] 24))
  have HS8 := Lib.hid (short18 b2 a2 c2 l2 _ (w.heap.size + 1 + 1) (by simp) (HC.out.keep HB0.out))
  go_wp2_with fail
  (with_reducible refine HS8.out.mono ?_)
  rintro e w1 ⟨rfl, hb1⟩
  have hb1' := ((Below.refl _ _).alloc (Nat.le_refl _) (row1 b2 a2 c2 l2)).trans (hb1.mono (by simp))
  have HBX1 := Lib.hid hb1'
  have HB1 := Lib.hid (HB0.out.trans (hb1'.mono HB0.out.size))
  obtain ⟨⟨cx0, cx1⟩, cy0, cy1⟩ := zcells w _ _ _ _ _ _ hb1'
  clear hb1 hb1'
  cases hall : allLe [l2.length] 8 with
  | false =>
    clear hall
    go_wp2_with fail
    (with_reducible refine (HAW.out _).out.mono ?_)
    rintro e w2 ⟨rfl, hb2⟩
    go_wp2
    go_ret
    exact ⟨rfl, HB1.out.trans (hb2.mono HB1.out.size)⟩
  | true =>
    have hle2 := allLe1 hall
    clear hall
    have HS2 := Lib.hid (short12 b1 a1 c1 l1 w1 w1.heap.size rfl (HA.out.keep HB1.out))
    go_wp2_with fail
    (with_reducible refine HS2.out.mono ?_)
    rintro e w2 ⟨rfl, hb2⟩
    have hb2' := ((Below.refl _ w1).alloc (Nat.le_refl _) (row1 b1 a1 c1 l1)).trans (hb2.mono (by simp))
    have HBX2 := Lib.hid (HBX1.out.trans (hb2'.mono HBX1.out.size))
    have HB2 := Lib.hid (HB1.out.trans (hb2'.mono HB1.out.size))
    clear cx0 cx1 cy0 cy1
    obtain ⟨⟨cx0, cx1⟩, cy0, cy1⟩ := zcells w _ _ _ _ _ _ HBX2.out
    clear hb2 hb2'
    cases hall : allLe [l1.length] 2 with
    | false =>
      clear hall
      go_wp2_with fail
      (with_reducible refine (HAW.out _).out.mono ?_)
      rintro e w3 ⟨rfl, hb3⟩
      go_wp2
      go_ret
      exact ⟨rfl, HB2.out.trans (hb3.mono HB2.out.size)⟩
    | true =>
      have hle1 := allLe1 hall
      clear hall
      have HOx := Lib.hid (of_any b1 a1 c1 l1 w2 (by omega) (HA.out.keep HB2.out))
      have HOy := fun W hw => Lib.hid (of_any b2 a2 c2 l2 W (by omega) (HC.out.keep (HB2.out.trans (hw : Below w.heap.size w2 W))))
      have HOy := Lib.hid HOy
      have HYC : Hid (∀ w', Below w2.heap.size w2 w' → w'.cell? ⟨w.heap.size + 1, 0, none⟩ = some (.bool b2) ∧ w'.cell? ⟨w.heap.size + 1, 1, none⟩ = some (.slice a2 l2.length c2)) := Lib.hid fun w' hb => (zcells w _ _ _ _ _ _ (HBX2.out.trans (hb.mono HBX2.out.size))).2
      have HBX : Hid (Bd 2 (nz (b1, l1))) := Lib.hid (nz_bd2 hle1 HA.out.lt)
      have HBY : Hid (Bd 8 (nz (b2, l2))) := Lib.hid (nz_bd hle2 HC.out.lt)
      clear hle1 hle2
      generalize nz (b1, l1) = x at *
      generalize nz (b2, l2) = y at *
      go_wp2_with fail
      (with_reducible refine HOx.out.mono ?_)
      rintro e w3 ⟨vx, vu, rfl, ⟨dx, nx, ex, rfl, hrx⟩, ⟨du, nu, eu, rfl, hru⟩, hb3⟩
      have HIx : Hid (IntV w3 (.agg #[.bool (decide (x < 0)), .slice dx nx ex]) x) := Lib.hid ⟨_, _, _, rfl, hrx⟩
      have HIu : Hid (RefV w3 (.agg #[.bool (decide (x < 0)), .slice du nu eu]) x) := Lib.hid ⟨_, _, _, rfl, hru⟩
      have HD3 := Lib.hid hb3
      clear hrx hru hb3 cx0 cx1 cy0 cy1
      generalize decide (x < 0) = bx at *
      have HD4 : Hid (Below w2.heap.size w2 ((w3.alloc (.cells #[.bool bx, .slice dx nx ex] 28)).alloc (.cells #[.bool bx, .slice du nu eu] 31))) := Lib.hid ((HD3.out.alloc HD3.out.size _).alloc (Nat.le_trans HD3.out.size (by simp)) _)
      have KA4 : Hid (BX w3.heap.size (.bool bx) (.slice dx nx ex) x ((w3.alloc (.cells #[.bool bx, .slice dx nx ex] 28)).alloc (.cells #[.bool bx, .slice du nu eu] 31))) := Lib.hid ((BX.made HIx.out).keep ((Below.refl _ _).alloc (Nat.le_refl _) _))
      have KU4 : Hid (RX (w3.heap.size + 1) (.bool bx) (.slice du nu eu) x ((w3.alloc (.cells #[.bool bx, .slice dx nx ex] 28)).alloc (.cells #[.bool bx, .slice du nu eu] 31))) := Lib.hid (by
        have h := RX.made (t := 31) (HIu.out.keep ((Below.refl w3.heap.size w3).alloc (Nat.le_refl _) (.cells #[.bool bx, .slice dx nx ex] 28)))
        rw [World.size_alloc] at h
        exact h)
      by_cases h40 : n ≤ 40
      · have h40' : ¬ (40 : Int) < n := by omega
        obtain ⟨zp, cp, q1, q2, q3, q4⟩ := pow_pair x n HBX.out hn (.inl h40)
        have HP1 : Hid (∀ W v, IntV W v x → Hid (Calls Try.prog 46 #[v, .int .i64 n] W (IntRes W zp cp))) := Lib.hid fun W v h => Lib.hid (q1 W v h)
        have HP2 : Hid (∀ W v, RefV W v x → Hid (Calls Try.prog 47 #[v, .int .i64 n] W (RefRes W zp cp))) := Lib.hid fun W v h => Lib.hid (q2 W v h)
        have HIS : Hid (∀ W u v, IntV W u zp → RefV W v zp → Hid (Calls Try.prog 21 #[u, v] W (BoolPost W true))) := Lib.hid fun W u v h h' => Lib.hid (is_same zp u v W q3 q4 h h')
        clear q1 q2 q3 q4
        obtain ⟨zr, cr, q1, q2, q3, q4⟩ := root_pair y HBY.out
        have HR1 : Hid (∀ W v, IntV W v y → Hid (Calls Try.prog 48 #[v] W (IntRes W zr cr))) := Lib.hid fun W v h => Lib.hid (q1 W v h)
        have HR2 : Hid (∀ W v, RefV W v y → Hid (Calls Try.prog 49 #[v] W (RefRes W zr cr))) := Lib.hid fun W v h => Lib.hid (q2 W v h)
        have HIR : Hid (∀ W u v, IntV W u zr → RefV W v zr → Hid (Calls Try.prog 21 #[u, v] W (BoolPost W true))) := Lib.hid fun W u v h h' => Lib.hid (is_same zr u v W q3 q4 h h')
        clear q1 q2 q3 q4
        obtain ⟨ga0, ga1⟩ := KA4.out.cells
        go_wp2_with fail
        (with_reducible refine (HP1.out _ _ KA4.out.iv).out.mono ?_)
        rintro e w6 ⟨vp, rfl, ⟨dp, np, ep, rfl, hrp⟩, hb6⟩
        have HI6 : Hid (IntV w6 (.agg #[.bool (decide (zp < 0)), .slice dp np ep]) zp) := Lib.hid ⟨_, _, _, rfl, hrp⟩
        have HD6 := Lib.hid (HD4.out.trans (hb6.mono HD4.out.size))
        have KU6 := Lib.hid (KU4.out.keep hb6)
        clear hrp hb6 ga0 ga1
        generalize decide (zp < 0) = bp at *
        have HD7 := Lib.hid (HD6.out.alloc HD6.out.size (.cells #[.bool bp, .slice dp np ep] 28))
        have KP7 := Lib.hid (BX.made (t := 28) HI6.out)
        have hal := (Below.refl _ w6).alloc (Nat.le_refl _) (.cells #[.bool bp, .slice dp np ep] 28)
        have KU7 := Lib.hid (KU6.out.keep hal)
        obtain ⟨ga0, ga1⟩ := KU7.out.cells
        clear hal
        go_wp2_with fail
        (with_reducible refine (HP2.out _ _ KU7.out.rv).out.mono ?_)
        rintro e w8 ⟨vq, rfl, ⟨dq, nq, eq, rfl, hrq⟩, hb8⟩
        have HI8 : Hid (RefV w8 (.agg #[.bool (decide (zp < 0)), .slice dq nq eq]) zp) := Lib.hid ⟨_, _, _, rfl, hrq⟩
        have HD8 := Lib.hid (HD7.out.trans (hb8.mono HD7.out.size))
        have KP8 := Lib.hid (KP7.out.keep hb8)
        clear hrq hb8 ga0 ga1
        generalize decide (zp < 0) = bq at *
        have HD9 := Lib.hid (HD8.out.alloc HD8.out.size (.cells #[.bool bq, .slice dq nq eq] 31))
        have KQ9 := Lib.hid (RX.made (t := 31) HI8.out)
        have hal := (Below.refl _ w8).alloc (Nat.le_refl _) (.cells #[.bool bq, .slice dq nq eq] 31)
        have KP9 := Lib.hid (KP8.out.keep hal)
        clear hal
        obtain ⟨gy0, gy1⟩ := HYC.out _ HD9.out
        go_wp2_with fail
        (with_reducible refine (HOy.out _ (HD9.out.mono HB2.out.size)).out.mono ?_)
        rintro e w10 ⟨vy, vz, rfl, ⟨dy, ny, ey, rfl, hry⟩, ⟨dz, nz', ez, rfl, hrz⟩, hb10⟩
        have HI10 : Hid (IntV w10 (.agg #[.bool (decide (y < 0)), .slice dy ny ey]) y) := Lib.hid ⟨_, _, _, rfl, hry⟩
        have HJ10 : Hid (RefV w10 (.agg #[.bool (decide (y < 0)), .slice dz nz' ez]) y) := Lib.hid ⟨_, _, _, rfl, hrz⟩
        have HD10 := Lib.hid (HD9.out.trans (hb10.mono HD9.out.size))
        have KP10 := Lib.hid (KP9.out.keep hb10)
        have KQ10 := Lib.hid (KQ9.out.keep hb10)
        clear hry hrz hb10 gy0 gy1
        generalize decide (y < 0) = by' at *
        have hal : Below w10.heap.size w10 ((w10.alloc (.cells #[.bool by', .slice dy ny ey] 28)).alloc (.cells #[.bool by', .slice dz nz' ez] 31)) := below2 _ _ _
        have HD11 := Lib.hid (HD10.out.trans (hal.mono HD10.out.size))
        have KB11 : Hid (BX w10.heap.size (.bool by') (.slice dy ny ey) y ((w10.alloc (.cells #[.bool by', .slice dy ny ey] 28)).alloc (.cells #[.bool by', .slice dz nz' ez] 31))) := Lib.hid ((BX.made HI10.out).keep ((Below.refl _ _).alloc (Nat.le_refl _) _))
        have KV11 : Hid (RX (w10.heap.size + 1) (.bool by') (.slice dz nz' ez) y ((w10.alloc (.cells #[.bool by', .slice dy ny ey] 28)).alloc (.cells #[.bool by', .slice dz nz' ez] 31))) := Lib.hid (by
          have h := RX.made (t := 31) (HJ10.out.keep ((Below.refl w10.heap.size w10).alloc (Nat.le_refl _) (.cells #[.bool by', .slice dy ny ey] 28)))
          rw [World.size_alloc] at h
          exact h)
        have KP11 := Lib.hid (KP10.out.keep hal)
        have KQ11 := Lib.hid (KQ10.out.keep hal)
        clear hal
        obtain ⟨ga0, ga1⟩ := KB11.out.cells
        go_wp2_with fail
        (with_reducible refine (HR1.out _ _ KB11.out.iv).out.mono ?_)
        rintro e w12 ⟨vr, rfl, ⟨dr, nr, er, rfl, hrr⟩, hb12⟩
        have HI12 : Hid (IntV w12 (.agg #[.bool (decide (zr < 0)), .slice dr nr er]) zr) := Lib.hid ⟨_, _, _, rfl, hrr⟩
        have HD12 := Lib.hid (HD11.out.trans (hb12.mono HD11.out.size))
        have KP12 := Lib.hid (KP11.out.keep hb12)
        have KQ12 := Lib.hid (KQ11.out.keep hb12)
        have KV12 := Lib.hid (KV11.out.keep hb12)
        clear hrr hb12 ga0 ga1
        generalize decide (zr < 0) = br at *
        have hal := (Below.refl _ w12).alloc (Nat.le_refl _) (.cells #[.bool br, .slice dr nr er] 28)
        have HD13 := Lib.hid (HD12.out.trans (hal.mono HD12.out.size))
        have KR13 := Lib.hid (BX.made (t := 28) HI12.out)
        have KP13 := Lib.hid (KP12.out.keep hal)
        have KQ13 := Lib.hid (KQ12.out.keep hal)
        have KV13 := Lib.hid (KV12.out.keep hal)
        clear hal
        obtain ⟨ga0, ga1⟩ := KV13.out.cells
        go_wp2_with fail
        (with_reducible refine (HR2.out _ _ KV13.out.rv).out.mono ?_)
        rintro e w14 ⟨vs, rfl, ⟨ds, ns, es, rfl, hrs⟩, hb14⟩
        have HI14 : Hid (RefV w14 (.agg #[.bool (decide (zr < 0)), .slice ds ns es]) zr) := Lib.hid ⟨_, _, _, rfl, hrs⟩
        have HD14 := Lib.hid (HD13.out.trans (hb14.mono HD13.out.size))
        have KP14 := Lib.hid (KP13.out.keep hb14)
        have KQ14 := Lib.hid (KQ13.out.keep hb14)
        have KR14 := Lib.hid (KR13.out.keep hb14)
        clear hrs hb14 ga0 ga1
        generalize decide (zr < 0) = bs at *
        have hal := (Below.refl _ w14).alloc (Nat.le_refl _) (.cells #[.bool bs, .slice ds ns es] 31)
        have HD15 := Lib.hid (HD14.out.trans (hal.mono HD14.out.size))
        have KS15 := Lib.hid (RX.made (t := 31) HI14.out)
        have KP15 := Lib.hid (KP14.out.keep hal)
        have KQ15 := Lib.hid (KQ14.out.keep hal)
        have KR15 := Lib.hid (KR14.out.keep hal)
        clear hal
        have heq1 : (cp == cp) = true := by simp
        have heq2 : (cr == cr) = true := by simp
        obtain ⟨gp0, gp1⟩ := KP15.out.cells
        obtain ⟨gq0, gq1⟩ := KQ15.out.cells
        go_wp2_with fail
        (with_reducible refine (HIS.out _ _ _ KP15.out.iv KQ15.out.rv).out.mono ?_)
        rintro e w16 ⟨rfl, hb16⟩
        have HD16 := Lib.hid (HD15.out.trans (hb16.mono HD15.out.size))
        have KR16 := Lib.hid (KR15.out.keep hb16)
        have KS16 := Lib.hid (KS15.out.keep hb16)
        clear hb16 gp0 gp1 gq0 gq1
        obtain ⟨gp0, gp1⟩ := KR16.out.cells
        obtain ⟨gq0, gq1⟩ := KS16.out.cells
        go_wp2_with fail
        (with_reducible refine (HIR.out _ _ _ KR16.out.iv KS16.out.rv).out.mono ?_)
        rintro e w17 ⟨rfl, hb17⟩
        have HD17 := Lib.hid (HD16.out.trans (hb17.mono HD16.out.size))
        clear hb17 gp0 gp1 gq0 gq1
        go_wp2_with fail
        (with_reducible refine (HAW.out _).out.mono ?_)
        rintro e w18 ⟨rfl, hb18⟩
        have HD18 := Lib.hid (HD17.out.trans (hb18.mono HD17.out.size))
        clear hb18
        go_wp2
        go_ret
        exact ⟨rfl, HB2.out.trans (HD18.out.mono HB2.out.size)⟩
      · have h40' : (40 : Int) < n := by omega
        have hrlx : rlen x ≤ 1000000 := rlen_bd HBX.out (by decide)
        have hrla : rlen (x.natAbs : Int) ≤ 999999 := by
          unfold rlen at *
          rw [Int.natAbs_natCast]
          exact rlen_bd HBX.out (by decide)
        have HABS := Lib.hid (rAbs_any x _ _ KU4.out.rv)
        have HLN := fun W v h => Lib.hid (rLength_any (x.natAbs : Int) v W hrla h)
        have HLN := Lib.hid HLN
        have hLL : lenZ (x.natAbs : Int) = bl x.natAbs := by
          unfold lenZ
          rw [if_neg (by omega), Int.natAbs_natCast]
        rw [hLL] at HLN
        clear hrlx hrla hLL
        obtain ⟨ga0, ga1⟩ := KU4.out.cells
        go_wp2_with fail
        (with_reducible refine HABS.out.mono ?_)
        rintro e w5 ⟨va, rfl, hia, hb5⟩
        go_wp2_with fail
        (with_reducible refine (HLN.out _ _ hia).out.mono ?_)
        rintro e w5' ⟨rfl, hb5'⟩
        have hbb := hb5.trans (hb5'.mono hb5.size)
        have HD5 := Lib.hid (HD4.out.trans (hbb.mono HD4.out.size))
        have KA5 := Lib.hid (KA4.out.keep hbb)
        have KU5 := Lib.hid (KU4.out.keep hbb)
        clear hbb hb5 hb5' hia ga0 ga1
        have HLB := Lib.hid (rfl : bl x.natAbs = bl x.natAbs)
        by_cases h1 : (1 : Int) < ((bl x.natAbs : Nat) : Int)
        · generalize hL : bl x.natAbs = L at *
          clear hL HLB
          obtain ⟨zp, cp, q1, q2, q3, q4⟩ := pow_pair x 40 HBX.out (by decide) (.inl (by decide))
          have HP1 : Hid (∀ W v, IntV W v x → Hid (Calls Try.prog 46 #[v, .int .i64 40] W (IntRes W zp cp))) := Lib.hid fun W v h => Lib.hid (q1 W v h)
          have HP2 : Hid (∀ W v, RefV W v x → Hid (Calls Try.prog 47 #[v, .int .i64 40] W (RefRes W zp cp))) := Lib.hid fun W v h => Lib.hid (q2 W v h)
          have HIS : Hid (∀ W u v, IntV W u zp → RefV W v zp → Hid (Calls Try.prog 21 #[u, v] W (BoolPost W true))) := Lib.hid fun W u v h h' => Lib.hid (is_same zp u v W q3 q4 h h')
          clear q1 q2 q3 q4
          obtain ⟨zr, cr, q1, q2, q3, q4⟩ := root_pair y HBY.out
          have HR1 : Hid (∀ W v, IntV W v y → Hid (Calls Try.prog 48 #[v] W (IntRes W zr cr))) := Lib.hid fun W v h => Lib.hid (q1 W v h)
          have HR2 : Hid (∀ W v, RefV W v y → Hid (Calls Try.prog 49 #[v] W (RefRes W zr cr))) := Lib.hid fun W v h => Lib.hid (q2 W v h)
          have HIR : Hid (∀ W u v, IntV W u zr → RefV W v zr → Hid (Calls Try.prog 21 #[u, v] W (BoolPost W true))) := Lib.hid fun W u v h h' => Lib.hid (is_same zr u v W q3 q4 h h')
          clear q1 q2 q3 q4
          obtain ⟨ga0, ga1⟩ := KA5.out.cells
          go_wp2_with fail
          (with_reducible refine (HP1.out _ _ KA5.out.iv).out.mono ?_)
          rintro e w6 ⟨vp, rfl, ⟨dp, np, ep, rfl, hrp⟩, hb6⟩
          have HI6 : Hid (IntV w6 (.agg #[.bool (decide (zp < 0)), .slice dp np ep]) zp) := Lib.hid ⟨_, _, _, rfl, hrp⟩
          have HD6 := Lib.hid (HD5.out.trans (hb6.mono HD5.out.size))
          have KU6 := Lib.hid (KU5.out.keep hb6)
          clear hrp hb6 ga0 ga1
          generalize decide (zp < 0) = bp at *
          have HD7 := Lib.hid (HD6.out.alloc HD6.out.size (.cells #[.bool bp, .slice dp np ep] 28))
          have KP7 := Lib.hid (BX.made (t := 28) HI6.out)
          have hal := (Below.refl _ w6).alloc (Nat.le_refl _) (.cells #[.bool bp, .slice dp np ep] 28)
          have KU7 := Lib.hid (KU6.out.keep hal)
          obtain ⟨ga0, ga1⟩ := KU7.out.cells
          clear hal
          go_wp2_with fail
          (with_reducible refine (HP2.out _ _ KU7.out.rv).out.mono ?_)
          rintro e w8 ⟨vq, rfl, ⟨dq, nq, eq, rfl, hrq⟩, hb8⟩
          have HI8 : Hid (RefV w8 (.agg #[.bool (decide (zp < 0)), .slice dq nq eq]) zp) := Lib.hid ⟨_, _, _, rfl, hrq⟩
          have HD8 := Lib.hid (HD7.out.trans (hb8.mono HD7.out.size))
          have KP8 := Lib.hid (KP7.out.keep hb8)
          clear hrq hb8 ga0 ga1
          generalize decide (zp < 0) = bq at *
          have HD9 := Lib.hid (HD8.out.alloc HD8.out.size (.cells #[.bool bq, .slice dq nq eq] 31))
          have KQ9 := Lib.hid (RX.made (t := 31) HI8.out)
          have hal := (Below.refl _ w8).alloc (Nat.le_refl _) (.cells #[.bool bq, .slice dq nq eq] 31)
          have KP9 := Lib.hid (KP8.out.keep hal)
          clear hal
          obtain ⟨gy0, gy1⟩ := HYC.out _ HD9.out
          go_wp2_with fail
          (with_reducible refine (HOy.out _ (HD9.out.mono HB2.out.size)).out.mono ?_)
          rintro e w10 ⟨vy, vz, rfl, ⟨dy, ny, ey, rfl, hry⟩, ⟨dz, nz', ez, rfl, hrz⟩, hb10⟩
          have HI10 : Hid (IntV w10 (.agg #[.bool (decide (y < 0)), .slice dy ny ey]) y) := Lib.hid ⟨_, _, _, rfl, hry⟩
          have HJ10 : Hid (RefV w10 (.agg #[.bool (decide (y < 0)), .slice dz nz' ez]) y) := Lib.hid ⟨_, _, _, rfl, hrz⟩
          have HD10 := Lib.hid (HD9.out.trans (hb10.mono HD9.out.size))
          have KP10 := Lib.hid (KP9.out.keep hb10)
          have KQ10 := Lib.hid (KQ9.out.keep hb10)
          clear hry hrz hb10 gy0 gy1
          generalize decide (y < 0) = by' at *
          have hal : Below w10.heap.size w10 ((w10.alloc (.cells #[.bool by', .slice dy ny ey] 28)).alloc (.cells #[.bool by', .slice dz nz' ez] 31)) := below2 _ _ _
          have HD11 := Lib.hid (HD10.out.trans (hal.mono HD10.out.size))
          have KB11 : Hid (BX w10.heap.size (.bool by') (.slice dy ny ey) y ((w10.alloc (.cells #[.bool by', .slice dy ny ey] 28)).alloc (.cells #[.bool by', .slice dz nz' ez] 31))) := Lib.hid ((BX.made HI10.out).keep ((Below.refl _ _).alloc (Nat.le_refl _) _))
          have KV11 : Hid (RX (w10.heap.size + 1) (.bool by') (.slice dz nz' ez) y ((w10.alloc (.cells #[.bool by', .slice dy ny ey] 28)).alloc (.cells #[.bool by', .slice dz nz' ez] 31))) := Lib.hid (by
            have h := RX.made (t := 31) (HJ10.out.keep ((Below.refl w10.heap.size w10).alloc (Nat.le_refl _) (.cells #[.bool by', .slice dy ny ey] 28)))
            rw [World.size_alloc] at h
            exact h)
          have KP11 := Lib.hid (KP10.out.keep hal)
          have KQ11 := Lib.hid (KQ10.out.keep hal)
          clear hal
          obtain ⟨ga0, ga1⟩ := KB11.out.cells
          go_wp2_with fail
          (with_reducible refine (HR1.out _ _ KB11.out.iv).out.mono ?_)
          rintro e w12 ⟨vr, rfl, ⟨dr, nr, er, rfl, hrr⟩, hb12⟩
          have HI12 : Hid (IntV w12 (.agg #[.bool (decide (zr < 0)), .slice dr nr er]) zr) := Lib.hid ⟨_, _, _, rfl, hrr⟩
          have HD12 := Lib.hid (HD11.out.trans (hb12.mono HD11.out.size))
          have KP12 := Lib.hid (KP11.out.keep hb12)
          have KQ12 := Lib.hid (KQ11.out.keep hb12)
          have KV12 := Lib.hid (KV11.out.keep hb12)
          clear hrr hb12 ga0 ga1
          generalize decide (zr < 0) = br at *
          have hal := (Below.refl _ w12).alloc (Nat.le_refl _) (.cells #[.bool br, .slice dr nr er] 28)
          have HD13 := Lib.hid (HD12.out.trans (hal.mono HD12.out.size))
          have KR13 := Lib.hid (BX.made (t := 28) HI12.out)
          have KP13 := Lib.hid (KP12.out.keep hal)
          have KQ13 := Lib.hid (KQ12.out.keep hal)
          have KV13 := Lib.hid (KV12.out.keep hal)
          clear hal
          obtain ⟨ga0, ga1⟩ := KV13.out.cells
          go_wp2_with fail
          (with_reducible refine (HR2.out _ _ KV13.out.rv).out.mono ?_)
          rintro e w14 ⟨vs, rfl, ⟨ds, ns, es, rfl, hrs⟩, hb14⟩
          have HI14 : Hid (RefV w14 (.agg #[.bool (decide (zr < 0)), .slice ds ns es]) zr) := Lib.hid ⟨_, _, _, rfl, hrs⟩
          have HD14 := Lib.hid (HD13.out.trans (hb14.mono HD13.out.size))
          have KP14 := Lib.hid (KP13.out.keep hb14)
          have KQ14 := Lib.hid (KQ13.out.keep hb14)
          have KR14 := Lib.hid (KR13.out.keep hb14)
          clear hrs hb14 ga0 ga1
          generalize decide (zr < 0) = bs at *
          have hal := (Below.refl _ w14).alloc (Nat.le_refl _) (.cells #[.bool bs, .slice ds ns es] 31)
          have HD15 := Lib.hid (HD14.out.trans (hal.mono HD14.out.size))
          have KS15 := Lib.hid (RX.made (t := 31) HI14.out)
          have KP15 := Lib.hid (KP14.out.keep hal)
          have KQ15 := Lib.hid (KQ14.out.keep hal)
          have KR15 := Lib.hid (KR14.out.keep hal)
          clear hal
          have heq1 : (cp == cp) = true := by simp
          have heq2 : (cr == cr) = true := by simp
          obtain ⟨gp0, gp1⟩ := KP15.out.cells
          obtain ⟨gq0, gq1⟩ := KQ15.out.cells
          go_wp2_with fail
          (with_reducible refine (HIS.out _ _ _ KP15.out.iv KQ15.out.rv).out.mono ?_)
          rintro e w16 ⟨rfl, hb16⟩
          have HD16 := Lib.hid (HD15.out.trans (hb16.mono HD15.out.size))
          have KR16 := Lib.hid (KR15.out.keep hb16)
          have KS16 := Lib.hid (KS15.out.keep hb16)
          clear hb16 gp0 gp1 gq0 gq1
          obtain ⟨gp0, gp1⟩ := KR16.out.cells
          obtain ⟨gq0, gq1⟩ := KS16.out.cells
          go_wp2_with fail
          (with_reducible refine (HIR.out _ _ _ KR16.out.iv KS16.out.rv).out.mono ?_)
          rintro e w17 ⟨rfl, hb17⟩
          have HD17 := Lib.hid (HD16.out.trans (hb17.mono HD16.out.size))
          clear hb17 gp0 gp1 gq0 gq1
          go_wp2_with fail
          (with_reducible refine (HAW.out _).out.mono ?_)
          rintro e w18 ⟨rfl, hb18⟩
          have HD18 := Lib.hid (HD17.out.trans (hb18.mono HD17.out.size))
          clear hb18
          go_wp2
          go_ret
          exact ⟨rfl, HB2.out.trans (HD18.out.mono HB2.out.size)⟩
        · have hcond : n ≤ 40 ∨ bl x.natAbs ≤ 1 := .inr (by omega)
          have HCO := Lib.hid hcond
          clear hcond HLB
          obtain ⟨zp, cp, q1, q2, q3, q4⟩ := pow_pair x n HBX.out hn HCO.out
          have HP1 : Hid (∀ W v, IntV W v x → Hid (Calls Try.prog 46 #[v, .int .i64 n] W (IntRes W zp cp))) := Lib.hid fun W v h => Lib.hid (q1 W v h)
          have HP2 : Hid (∀ W v, RefV W v x → Hid (Calls Try.prog 47 #[v, .int .i64 n] W (RefRes W zp cp))) := Lib.hid fun W v h => Lib.hid (q2 W v h)
          have HIS : Hid (∀ W u v, IntV W u zp → RefV W v zp → Hid (Calls Try.prog 21 #[u, v] W (BoolPost W true))) := Lib.hid fun W u v h h' => Lib.hid (is_same zp u v W q3 q4 h h')
          clear q1 q2 q3 q4
          obtain ⟨zr, cr, q1, q2, q3, q4⟩ := root_pair y HBY.out
          have HR1 : Hid (∀ W v, IntV W v y → Hid (Calls Try.prog 48 #[v] W (IntRes W zr cr))) := Lib.hid fun W v h => Lib.hid (q1 W v h)
          have HR2 : Hid (∀ W v, RefV W v y → Hid (Calls Try.prog 49 #[v] W (RefRes W zr cr))) := Lib.hid fun W v h => Lib.hid (q2 W v h)
          have HIR : Hid (∀ W u v, IntV W u zr → RefV W v zr → Hid (Calls Try.prog 21 #[u, v] W (BoolPost W true))) := Lib.hid fun W u v h h' => Lib.hid (is_same zr u v W q3 q4 h h')
          clear q1 q2 q3 q4
          obtain ⟨ga0, ga1⟩ := KA5.out.cells
          go_wp2_with fail
          (with_reducible refine (HP1.out _ _ KA5.out.iv).out.mono ?_)
          rintro e w6 ⟨vp, rfl, ⟨dp, np, ep, rfl, hrp⟩, hb6⟩
          have HI6 : Hid (IntV w6 (.agg #[.bool (decide (zp < 0)), .slice dp np ep]) zp) := Lib.hid ⟨_, _, _, rfl, hrp⟩
          have HD6 := Lib.hid (HD5.out.trans (hb6.mono HD5.out.size))
          have KU6 := Lib.hid (KU5.out.keep hb6)
          clear hrp hb6 ga0 ga1
          generalize decide (zp < 0) = bp at *
          have HD7 := Lib.hid (HD6.out.alloc HD6.out.size (.cells #[.bool bp, .slice dp np ep] 28))
          have KP7 := Lib.hid (BX.made (t := 28) HI6.out)
          have hal := (Below.refl _ w6).alloc (Nat.le_refl _) (.cells #[.bool bp, .slice dp np ep] 28)
          have KU7 := Lib.hid (KU6.out.keep hal)
          obtain ⟨ga0, ga1⟩ := KU7.out.cells
          clear hal
          go_wp2_with fail
          (with_reducible refine (HP2.out _ _ KU7.out.rv).out.mono ?_)
          rintro e w8 ⟨vq, rfl, ⟨dq, nq, eq, rfl, hrq⟩, hb8⟩
          have HI8 : Hid (RefV w8 (.agg #[.bool (decide (zp < 0)), .slice dq nq eq]) zp) := Lib.hid ⟨_, _, _, rfl, hrq⟩
          have HD8 := Lib.hid (HD7.out.trans (hb8.mono HD7.out.size))
          have KP8 := Lib.hid (KP7.out.keep hb8)
          clear hrq hb8 ga0 ga1
          generalize decide (zp < 0) = bq at *
          have HD9 := Lib.hid (HD8.out.alloc HD8.out.size (.cells #[.bool bq, .slice dq nq eq] 31))
          have KQ9 := Lib.hid (RX.made (t := 31) HI8.out)
          have hal := (Below.refl _ w8).alloc (Nat.le_refl _) (.cells #[.bool bq, .slice dq nq eq] 31)
          have KP9 := Lib.hid (KP8.out.keep hal)
          clear hal
          obtain ⟨gy0, gy1⟩ := HYC.out _ HD9.out
          go_wp2_with fail
          (with_reducible refine (HOy.out _ (HD9.out.mono HB2.out.size)).out.mono ?_)
          rintro e w10 ⟨vy, vz, rfl, ⟨dy, ny, ey, rfl, hry⟩, ⟨dz, nz', ez, rfl, hrz⟩, hb10⟩
          have HI10 : Hid (IntV w10 (.agg #[.bool (decide (y < 0)), .slice dy ny ey]) y) := Lib.hid ⟨_, _, _, rfl, hry⟩
          have HJ10 : Hid (RefV w10 (.agg #[.bool (decide (y < 0)), .slice dz nz' ez]) y) := Lib.hid ⟨_, _, _, rfl, hrz⟩
          have HD10 := Lib.hid (HD9.out.trans (hb10.mono HD9.out.size))
          have KP10 := Lib.hid (KP9.out.keep hb10)
          have KQ10 := Lib.hid (KQ9.out.keep hb10)
          clear hry hrz hb10 gy0 gy1
          generalize decide (y < 0) = by' at *
          have hal : Below w10.heap.size w10 ((w10.alloc (.cells #[.bool by', .slice dy ny ey] 28)).alloc (.cells #[.bool by', .slice dz nz' ez] 31)) := below2 _ _ _
          have HD11 := Lib.hid (HD10.out.trans (hal.mono HD10.out.size))
          have KB11 : Hid (BX w10.heap.size (.bool by') (.slice dy ny ey) y ((w10.alloc (.cells #[.bool by', .slice dy ny ey] 28)).alloc (.cells #[.bool by', .slice dz nz' ez] 31))) := Lib.hid ((BX.made HI10.out).keep ((Below.refl _ _).alloc (Nat.le_refl _) _))
          have KV11 : Hid (RX (w10.heap.size + 1) (.bool by') (.slice dz nz' ez) y ((w10.alloc (.cells #[.bool by', .slice dy ny ey] 28)).alloc (.cells #[.bool by', .slice dz nz' ez] 31))) := Lib.hid (by
            have h := RX.made (t := 31) (HJ10.out.keep ((Below.refl w10.heap.size w10).alloc (Nat.le_refl _) (.cells #[.bool by', .slice dy ny ey] 28)))
            rw [World.size_alloc] at h
            exact h)
          have KP11 := Lib.hid (KP10.out.keep hal)
          have KQ11 := Lib.hid (KQ10.out.keep hal)
          clear hal
          obtain ⟨ga0, ga1⟩ := KB11.out.cells
          go_wp2_with fail
          (with_reducible refine (HR1.out _ _ KB11.out.iv).out.mono ?_)
          rintro e w12 ⟨vr, rfl, ⟨dr, nr, er, rfl, hrr⟩, hb12⟩
          have HI12 : Hid (IntV w12 (.agg #[.bool (decide (zr < 0)), .slice dr nr er]) zr) := Lib.hid ⟨_, _, _, rfl, hrr⟩
          have HD12 := Lib.hid (HD11.out.trans (hb12.mono HD11.out.size))
          have KP12 := Lib.hid (KP11.out.keep hb12)
          have KQ12 := Lib.hid (KQ11.out.keep hb12)
          have KV12 := Lib.hid (KV11.out.keep hb12)
          clear hrr hb12 ga0 ga1
          generalize decide (zr < 0) = br at *
          have hal := (Below.refl _ w12).alloc (Nat.le_refl _) (.cells #[.bool br, .slice dr nr er] 28)
          have HD13 := Lib.hid (HD12.out.trans (hal.mono HD12.out.size))
          have KR13 := Lib.hid (BX.made (t := 28) HI12.out)
          have KP13 := Lib.hid (KP12.out.keep hal)
          have KQ13 := Lib.hid (KQ12.out.keep hal)
          have KV13 := Lib.hid (KV12.out.keep hal)
          clear hal
          obtain ⟨ga0, ga1⟩ := KV13.out.cells
          go_wp2_with fail
          (with_reducible refine (HR2.out _ _ KV13.out.rv).out.mono ?_)
          rintro e w14 ⟨vs, rfl, ⟨ds, ns, es, rfl, hrs⟩, hb14⟩
          have HI14 : Hid (RefV w14 (.agg #[.bool (decide (zr < 0)), .slice ds ns es]) zr) := Lib.hid ⟨_, _, _, rfl, hrs⟩
          have HD14 := Lib.hid (HD13.out.trans (hb14.mono HD13.out.size))
          have KP14 := Lib.hid (KP13.out.keep hb14)
          have KQ14 := Lib.hid (KQ13.out.keep hb14)
          have KR14 := Lib.hid (KR13.out.keep hb14)
          clear hrs hb14 ga0 ga1
          generalize decide (zr < 0) = bs at *
          have hal := (Below.refl _ w14).alloc (Nat.le_refl _) (.cells #[.bool bs, .slice ds ns es] 31)
          have HD15 := Lib.hid (HD14.out.trans (hal.mono HD14.out.size))
          have KS15 := Lib.hid (RX.made (t := 31) HI14.out)
          have KP15 := Lib.hid (KP14.out.keep hal)
          have KQ15 := Lib.hid (KQ14.out.keep hal)
          have KR15 := Lib.hid (KR14.out.keep hal)
          clear hal
          have heq1 : (cp == cp) = true := by simp
          have heq2 : (cr == cr) = true := by simp
          obtain ⟨gp0, gp1⟩ := KP15.out.cells
          obtain ⟨gq0, gq1⟩ := KQ15.out.cells
          go_wp2_with fail
          (with_reducible refine (HIS.out _ _ _ KP15.out.iv KQ15.out.rv).out.mono ?_)
          rintro e w16 ⟨rfl, hb16⟩
          have HD16 := Lib.hid (HD15.out.trans (hb16.mono HD15.out.size))
          have KR16 := Lib.hid (KR15.out.keep hb16)
          have KS16 := Lib.hid (KS15.out.keep hb16)
          clear hb16 gp0 gp1 gq0 gq1
          obtain ⟨gp0, gp1⟩ := KR16.out.cells
          obtain ⟨gq0, gq1⟩ := KS16.out.cells
          go_wp2_with fail
          (with_reducible refine (HIR.out _ _ _ KR16.out.iv KS16.out.rv).out.mono ?_)
          rintro e w17 ⟨rfl, hb17⟩
          have HD17 := Lib.hid (HD16.out.trans (hb17.mono HD16.out.size))
          clear hb17 gp0 gp1 gq0 gq1
          go_wp2_with fail
          (with_reducible refine (HAW.out _).out.mono ?_)
          rintro e w18 ⟨rfl, hb18⟩
          have HD18 := Lib.hid (HD17.out.trans (hb18.mono HD17.out.size))
          clear hb18
          go_wp2
          go_ret
          exact ⟨rfl, HB2.out.trans (HD18.out.mono HB2.out.size)⟩
end

end Go.Proofs.Ytgepnkdnenjogaa
