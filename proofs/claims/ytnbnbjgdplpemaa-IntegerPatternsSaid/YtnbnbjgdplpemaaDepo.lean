/-  Deposit, of the program.  -/
import Derived.Test.YtnbnbjgdplpemaaFld
import Derived.Test.YtnbnbjgdplpemaaBitsL
import Derived.Deep.CutRange
namespace Go.Proofs.Ytnbnbjgdplpemaa
open Go.RowKit Digs

theorem zbB {W w' : World} {B : Nat} {t : TypeId} (h : Below B (W.alloc (.cells #[.bool false, .slice none 0 0] t)) w') (hB : W.heap.size < B) : BX W.heap.size (.bool false) (.slice none 0 0) 0 w' := by
  refine ⟨?_, ?_, ?_, ?_, IntV.zero _ false 0 rfl⟩
  · rw [h.cell (p := ⟨W.heap.size, 0, none⟩) hB, World.cell?_alloc_at _ _ _ _ rfl]; rfl
  · rw [h.cell (p := ⟨W.heap.size, 1, none⟩) hB, World.cell?_alloc_at _ _ _ _ rfl]; rfl
  · rw [h.frozen (p := ⟨W.heap.size, 0, none⟩) hB, World.frozen?_alloc_at _ _ _ _ rfl]
  · rw [h.frozen (p := ⟨W.heap.size, 1, none⟩) hB, World.frozen?_alloc_at _ _ _ _ rfl]
theorem zbD {W w' : World} {t : TypeId} (h : Below (W.alloc (.cells #[.bool false, .slice none 0 0] t)).drew.heap.size (W.alloc (.cells #[.bool false, .slice none 0 0] t)).drew w') : BX W.heap.size (.bool false) (.slice none 0 0) 0 w' :=
  zbB (B := (W.alloc (.cells #[.bool false, .slice none 0 0] t)).heap.size) ((Below.refl _ _).drew.trans h) (by simp)
theorem zbA {W w' : World} {t : TypeId} (h : Below (W.alloc (.cells #[.bool false, .slice none 0 0] t)).heap.size (W.alloc (.cells #[.bool false, .slice none 0 0] t)) w') : BX W.heap.size (.bool false) (.slice none 0 0) 0 w' :=
  zbB h (by simp)
theorem blockk {T : Nat} {o : Obj} {w w' : World} (h : w.heap[T]? = some o) (hb : Below w.heap.size w w') : w'.heap[T]? = some o := by
  rw [hb.block T (Array.getElem?_eq_some_iff.1 h).1]; exact h
theorem blocka {T : Nat} {o o' : Obj} {w w' : World} (h : w.heap[T]? = some o) (hb : Below (w.alloc o').heap.size (w.alloc o') w') : w'.heap[T]? = some o :=
  blockk h (((Below.refl _ _).alloc (Nat.le_refl _) o').trans (hb.mono (by simp)))
theorem belowA {B : Nat} {X w w' : World} {o : Obj} (h : Below B X w) (hb : Below (w.alloc o).heap.size (w.alloc o) w') (hB : B ≤ w.heap.size) : Below B X w' :=
  (h.alloc hB o).trans (hb.mono (by simp; omega))
theorem belowD {X w' : World} {o : Obj} (hb : Below (X.alloc o).drew.heap.size (X.alloc o).drew w') : Below X.heap.size X w' :=
  (((Below.refl X.heap.size X).alloc (Nat.le_refl _) o).drew).trans (hb.mono (by simp))

/-- What Deposit makes. -/
def fieldP (z : Int) (s : Nat) : Int := boolZ 8 z ((onesN s 0 : Nat) : Int)
def depositZ (x y : Int) (s p : Nat) : Int := boolZ 14 (boolZ 4 x ((onesN s p : Nat) : Int)) (((fieldP y s).natAbs * 2 ^ p : Nat) : Int)

theorem onesN_len (s p : Nat) (hs : s ≤ 65536) (hp : p ≤ 65536) : len ((onesN s p : Nat) : Int) ≤ 100000 := by
  unfold len onesN
  rw [Int.natAbs_natCast]
  refine Nat.le_trans (digs_length_le (by decide) _ ((s + p) / 32 + 1) ?_) (by omega)
  rw [pow32]
  have h1 : (1 * 2 ^ s - 1) * 2 ^ p ≤ 2 ^ s * 2 ^ p := Nat.mul_le_mul_right _ (by omega)
  rw [← Nat.pow_add] at h1
  exact Nat.lt_of_le_of_lt h1 (Nat.pow_lt_pow_right (by decide) (by omega))
theorem shl_len {m : Int} {k : Nat} (p : Nat) (hp : p ≤ 65536) (h : len m ≤ k) (hk : k ≤ 110000) : len ((m.natAbs * 2 ^ p : Nat) : Int) ≤ 300000 := by
  unfold len at *
  rw [Int.natAbs_natCast]
  refine Nat.le_trans (digs_length_le (by decide) _ (k + p / 32 + 1) ?_) (by omega)
  have h1 : m.natAbs < 2 ^ (32 * k) := by
    have h2 := digs_lt_pow (b := 4294967296) (by decide) m.natAbs
    rw [pow32] at h2
    exact Nat.lt_of_lt_of_le h2 (Nat.pow_le_pow_right (by decide) (by omega))
  rw [pow32]
  have h3 : m.natAbs * 2 ^ p < 2 ^ (32 * k) * 2 ^ p := Nat.mul_lt_mul_of_pos_right h1 (Nat.two_pow_pos _)
  rw [← Nat.pow_add] at h3
  exact Nat.lt_of_lt_of_le h3 (Nat.pow_le_pow_right (by decide) (by omega))
theorem len_bd' {z : Int} {k : Nat} (h : len z ≤ k) : Bd k z := by
  unfold Bd len at *
  exact Nat.lt_of_lt_of_le (digs_lt_pow (by decide) _) (Nat.pow_le_pow_right (by decide) h)
theorem boolZ_len (op : Nat) {x y : Int} {k : Nat} (hx : len x ≤ k) (hy : len y ≤ k) : len (boolZ op x y) ≤ k + 1 := by
  have h := boolZ_bd op (len_bd' hx) (len_bd' hy)
  exact digs_length_le (by decide) _ _ h
theorem fieldP_nonneg (y : Int) (s : Nat) : 0 ≤ fieldP y s := by
  have h : ∀ i, nn y + nn ((onesN s 0 : Nat) : Int) ≤ i → bitZ (fieldP y s) i = false := fun i hi => by
    unfold fieldP
    rw [boolZ_bit, bitZ_past y _ i Nat.lt_two_pow_self (by omega), bitZ_past ((onesN s 0 : Nat) : Int) _ i Nat.lt_two_pow_self (by omega), decide_eq_false (show ¬ ((onesN s 0 : Nat) : Int) < 0 by omega)]
    cases decide (y < 0) <;> rfl
  have h1 := sign_of_bits h
  have h2 := of_decide_eq_false h1.symm
  omega

set_option maxHeartbeats 1000000 in
set_option maxRecDepth 100000 in
theorem Deposit_bad (x y s p : Int) (vx vy : Value) (w : World) (hbad : s < 0 ∨ 65536 < s ∨ p < 0 ∨ 65536 < p) (ha : IntV w vx x) (hb : IntV w vy y) :
    Calls Try.prog 58 #[vx, vy, .int .i64 s, .int .i64 p] w (IntErr w 1) := by
  have HC := Lib.hid fun W => Lib.hid (check_bad s p W hbad)
  obtain ⟨adx, nx, cx, rfl, _⟩ := ha
  obtain ⟨ady, ny, cy, rfl, _⟩ := hb
  generalize decide (x < 0) = bx at *
  generalize decide (y < 0) = by' at *
  clear hbad
  go_enter Try.func58, Try.ntmps58
  go_wp2_with fail
  (with_reducible refine (HC.out _).out.mono ?_)
  rintro e w1 ⟨rfl, rfl⟩
  go_wp2_with fail
  refine bodyPost_ret (v := .tuple #[.agg #[.bool false, .slice none 0 0], .int .i64 1]) (by simp [results, Try.results58, go_sem]) rfl ⟨rfl, ?_⟩
  first | exact below3 w _ _ _ | exact Below.setCell (Below.setCell (below3 w _ _ _) (by simp <;> omega) _) (by simp <;> omega) _

set_option maxHeartbeats 8000000 in
set_option maxRecDepth 100000 in
theorem Deposit_any (x y : Int) (s p : Nat) (vx vy : Value) (w : World) (hs : s ≤ 65536) (hp : p ≤ 65536) (hx : len x ≤ 100000) (hy : len y ≤ 100000) (ha : IntV w vx x) (hb : IntV w vy y) :
    Calls Try.prog 58 #[vx, vy, .int .i64 (s : Int), .int .i64 (p : Int)] w (IntOK w (depositZ x y s p)) := by
  have hl0 : len ((onesN s 0 : Nat) : Int) ≤ 100000 := onesN_len s 0 hs (by decide)
  have hlp : len ((onesN s p : Nat) : Int) ≤ 100000 := onesN_len s p hs hp
  have hf0 := fieldP_nonneg y s
  have hfl : len (fieldP y s) ≤ 110000 := Nat.le_trans (boolZ_len 8 hy hl0) (by decide)
  have hx4 : len (boolZ 4 x ((onesN s p : Nat) : Int)) ≤ 110000 := Nat.le_trans (boolZ_len 4 hx hlp) (by decide)
  have hpl : len (((fieldP y s).natAbs * 2 ^ p : Nat) : Int) ≤ 300000 := shl_len p hp hfl (by decide)
  have HC := Lib.hid fun W => Lib.hid (check_ok s p W hs hp)
  have HO8 := Lib.hid fun W => Lib.hid (show Calls Try.prog 100 #[.int .i64 8] W (OpPost 8 W) from operation_at 8 W (by decide))
  have HO4 := Lib.hid fun W => Lib.hid (show Calls Try.prog 100 #[.int .i64 4] W (OpPost 4 W) from operation_at 4 W (by decide))
  have HO14 := Lib.hid fun W => Lib.hid (show Calls Try.prog 100 #[.int .i64 14] W (OpPost 14 W) from operation_at 14 W (by decide))
  have HN0 := Lib.hid fun W => Lib.hid (show Calls Try.prog 106 #[.int .i64 (s : Int), .int .i64 0] W (IntPost W ((onesN s 0 : Nat) : Int)) from ones_any s 0 W hs (by decide))
  have HNP := Lib.hid fun W => Lib.hid (ones_any s p W hs hp)
  have HC8 := Lib.hid fun u v T W ha hb hT => Lib.hid (show Calls _ _ _ _ (IntPost W (fieldP y s)) from combine_any 8 T y ((onesN s 0 : Nat) : Int) u v W (by omega) (by omega) ha hb hT)
  have HC4 := Lib.hid fun u v T W ha hb hT => Lib.hid (combine_any 4 T x ((onesN s p : Nat) : Int) u v W (by omega) (by omega) ha hb hT)
  have HC14 := Lib.hid fun u v T W ha hb hT => Lib.hid (show Calls _ _ _ _ (IntPost W (depositZ x y s p)) from combine_any 14 T (boolZ 4 x ((onesN s p : Nat) : Int)) (((fieldP y s).natAbs * 2 ^ p : Nat) : Int) u v W (by omega) (by omega) ha hb hT)
  have HSL := Lib.hid fun u W h => Lib.hid (shl_any (fieldP y s).natAbs p u W (by omega) (show (digs 4294967296 (fieldP y s).natAbs).length ≤ 1000000 from Nat.le_trans hfl (by decide)) h)
  have HOW := Lib.hid fun v W h => Lib.hid (own_any false v (digs 4294967296 ((fieldP y s).natAbs * 2 ^ p)) W h (digs_lt (by decide) _))
  rw [vl_digs (by decide), show sg false ((fieldP y s).natAbs * 2 ^ p) = (((fieldP y s).natAbs * 2 ^ p : Nat) : Int) from rfl] at HOW
  clear hl0 hlp hfl hx4 hpl hs hx hy
  generalize depositZ x y s p = Z at *
  generalize boolZ 4 x ((onesN s p : Nat) : Int) = Y4 at *
  generalize ((onesN s 0 : Nat) : Int) = O0 at *
  generalize ((onesN s p : Nat) : Int) = OP at *
  generalize fieldP y s = F at *
  generalize hPL : (((F.natAbs * 2 ^ p : Nat) : Int)) = PL at *
  clear hPL
  have HVX := Lib.hid ha
  have HVY := Lib.hid hb
  obtain ⟨adx, nx, cx, rfl, _⟩ := ha
  obtain ⟨ady, ny, cy, rfl, _⟩ := hb
  generalize decide (x < 0) = bx at *
  generalize decide (y < 0) = by' at *
  go_enter Try.func58, Try.ntmps58
  have HB0 := Lib.hid (below3 w (.cells #[.bool bx, .slice adx nx cx] 28) (.cells #[.bool by', .slice ady ny cy] 28) (.cells #[.bool false, .slice none 0 0] 28))
  have HKX : Hid (BX w.heap.size (.bool bx) (.slice adx nx cx) x (((w.alloc (.cells #[.bool bx, .slice adx nx cx] 28)).alloc (.cells #[.bool by', .slice ady ny cy] 28)).alloc (.cells #[.bool false, .slice none 0 0] 28))) :=
    Lib.hid ((BX.made HVX.out).keep (below2 _ _ _))
  have HKY : Hid (BX (w.heap.size + 1) (.bool by') (.slice ady ny cy) y (((w.alloc (.cells #[.bool bx, .slice adx nx cx] 28)).alloc (.cells #[.bool by', .slice ady ny cy] 28)).alloc (.cells #[.bool false, .slice none 0 0] 28))) :=
    Lib.hid (by
      have h := BX.made (t := 28) (HVY.out.keep ((Below.refl w.heap.size w).alloc (Nat.le_refl _) (.cells #[.bool bx, .slice adx nx cx] 28)))
      rw [World.size_alloc] at h
      exact h.keep ((Below.refl _ _).alloc (Nat.le_refl _) _))
  have HKR : Hid (BX (w.heap.size + 2) (.bool false) (.slice none 0 0) 0 (((w.alloc (.cells #[.bool bx, .slice adx nx cx] 28)).alloc (.cells #[.bool by', .slice ady ny cy] 28)).alloc (.cells #[.bool false, .slice none 0 0] 28))) :=
    Lib.hid (by
      have h := zbA (t := 28) (Below.refl _ (((w.alloc (.cells #[.bool bx, .slice adx nx cx] 28)).alloc (.cells #[.bool by', .slice ady ny cy] 28)).alloc (.cells #[.bool false, .slice none 0 0] 28)))
      simp only [World.size_alloc] at h
      exact h)
  go_wp2_with fail
  (with_reducible refine (HC.out _).out.mono ?_)
  rintro e w1 ⟨rfl, rfl⟩
  generalize hX : (((w.alloc (.cells #[.bool bx, .slice adx nx cx] 28)).alloc (.cells #[.bool by', .slice ady ny cy] 28)).alloc (.cells #[.bool false, .slice none 0 0] 28)) = X at *
  clear hX
  go_upto_region 4 with fail
  go_cut [11] from 21 to 25 (fun s11 wx => ∃ (q : Nat) (bq : Bool) (dq : Option Addr) (nq eq : Nat), s11 = .pointer (some ⟨q, 0, none⟩) ∧ BX q (.bool bq) (.slice dq nq eq) F wx ∧ X.heap.size ≤ q ∧ Below X.heap.size X wx)
  case first =>
    have HS0 : Hid (∀ w', Below X.heap.size X w' → (w'.cell? ⟨w.heap.size + 1, 0, none⟩ = some (.bool by') ∧ w'.cell? ⟨w.heap.size + 1, 1, none⟩ = some (.slice ady ny cy))) := Lib.hid fun w' hb => (HKY.out.keep hb).cells
    have hbl : w.heap.size + 1 < X.heap.size := HKY.out.lt
    go_region_held3 (fun w' => w'.cell? ⟨w.heap.size + 1, 0, none⟩ = some (.bool by') ∧ w'.cell? ⟨w.heap.size + 1, 1, none⟩ = some (.slice ady ny cy))
      (first | exact ⟨(cell_store2 (by omega)).trans (HS0.out _ hbC).1, (cell_store2 (by omega)).trans (HS0.out _ hbC).2⟩ | exact HS0.out _ (hbC.alloc hbC.size _) | exact HS0.out _ hbC | exact HS0.out _ (hbN.alloc hbN.size _) | exact HS0.out _ hbN | exact HS0.out _ (hbO.alloc hbO.size _) | exact HS0.out _ hbO | exact HS0.out _ ((Below.refl _ _).drew) | exact HS0.out _ (((Below.refl _ _).alloc (Nat.le_refl _) _).drew) | go_keep)
      (first
        | (go_at_call 100; (with_reducible refine (HO8.out _).out.mono ?_); rintro e wO ⟨T, rfl, hT, hbO'⟩; have hbO : Below X.heap.size X wO := (by first | exact below_dt hbO' | exact belowD hbO'); (first | (have zO := zbD hbO') | skip))
        | (go_at_call 106; (with_reducible refine (HN0.out _).out.mono ?_); rintro e wN ⟨vN, rfl, hiN, hbN'⟩; have hbN : Below X.heap.size X wN := (by first | exact hbO.trans (hbN'.mono hbO.size) | exact belowA hbO hbN' hbO.size); have hTN : wN.heap[T]? = _ := (by first | exact blockk hT hbN' | exact blocka hT hbN'); (first | (have zN := zO.keep hbN') | (have zN := zbA hbN') | skip))
        | (go_at_call 99; (first | (with_reducible refine (HC8.out _ _ _ _ (HKY.out.keep hbN).iv hiN hTN).out.mono ?_) | (with_reducible refine (HC8.out _ _ _ _ (HKY.out.keep (hbN.alloc hbN.size _)).iv (hiN.keep ((Below.refl _ _).alloc (Nat.le_refl _) _)) (blockk hTN ((Below.refl _ _).alloc (Nat.le_refl _) _))).out.mono ?_)); rintro e wC ⟨vC, rfl, ⟨dC, nC, eC, rfl, hrC⟩, hbC'⟩; have hbC : Below X.heap.size X wC := (by first | exact hbN.trans (hbC'.mono hbN.size) | exact belowA hbN hbC' hbN.size); (first | (have zC := zN.keep hbC') | (have zC := zbA hbC') | skip); (first | (have zc0 := zC.c0; have zc1 := zC.c1; have zf0 := zC.f0; have zf1 := zC.f1; have hOs := hbO.size; have hNs := hbN.size) | skip)))
    all_goals
      go_wp2_with fail
      go_meet
      first
        | exact ⟨_, _, _, _, _, rfl, BX.made ⟨_, _, _, rfl, hrC⟩, hbC.size, hbC.alloc hbC.size _⟩
        | exact ⟨_, _, _, _, _, rfl, zC.mine ⟨_, _, _, rfl, hrC⟩, (by omega), (hbC.setCell (by simp <;> omega) _).setCell (by simp <;> omega) _⟩
  case rest =>
    obtain ⟨q1, b1, d1, n1, e1, rfl, hbx1, hq1, hbw1⟩ := hcut
    have HKF := Lib.hid hbx1
    have HKX1 := Lib.hid (HKX.out.keep hbw1)
    have HKR1 := Lib.hid (HKR.out.keep hbw1)
    have HB1 := Lib.hid (HB0.out.trans (hbw1.mono HB0.out.size))
    have HRD : Hid (Rd .u32 _ (.slice d1 n1 e1) (digs 4294967296 F.natAbs)) := Lib.hid (by obtain ⟨_, _, _, e, h⟩ := hbx1.iv; cases e; exact h)
    have hw1 := hbw1.size
    clear hbx1 hbw1
    obtain ⟨gf0, gf1⟩ := HKF.out.cells
    go_wp2_with fail
    (with_reducible refine (HSL.out _ _ HRD.out).out.mono ?_)
    rintro e w2 ⟨v2, rfl, ho2, hb2⟩
    go_wp2_with fail
    (with_reducible refine (HOW.out _ _ ho2.rd).out.mono ?_)
    rintro e w3 ⟨v3, rfl, ⟨d3, n3, e3, rfl, hr3⟩, hb3⟩
    have hb23 := hb2.trans (hb3.mono hb2.size)
    have hal := (Below.refl w3.heap.size w3).alloc (Nat.le_refl _) (.cells #[.bool (decide (PL < 0)), .slice d3 n3 e3] 28)
    have hb24 := hb23.trans (hal.mono hb23.size)
    have HKX2 := Lib.hid (HKX1.out.keep hb24)
    have HKR2 := Lib.hid (HKR1.out.keep hb24)
    have HB2 := Lib.hid (HB1.out.trans (hb24.mono HB1.out.size))
    have HKP2 : Hid (BX w3.heap.size (.bool (decide (PL < 0))) (.slice d3 n3 e3) PL (w3.alloc (.cells #[.bool (decide (PL < 0)), .slice d3 n3 e3] 28))) := Lib.hid (BX.made ⟨_, _, _, rfl, hr3⟩)
    have HW3 : Hid (w.heap.size + 2 < w3.heap.size) := Lib.hid (by have h1 := HKR1.out.lt; have h2 := hb23.size; omega)
    clear hb2 hb3 hb23 hb24 hal hr3 ho2 gf0 gf1
    go_upto_region 6 with fail
    generalize hX2 : (w3.alloc (.cells #[.bool (decide (PL < 0)), .slice d3 n3 e3] 28)) = X2 at *
    clear hX2
    go_cut [13] from 31 to 36 (fun s13 wx => ∃ (q : Nat) (bq : Bool) (dq : Option Addr) (nq eq : Nat), s13 = .pointer (some ⟨q, 0, none⟩) ∧ BX q (.bool bq) (.slice dq nq eq) Y4 wx ∧ X2.heap.size ≤ q ∧ Below X2.heap.size X2 wx)
    case first =>
      have HS0 : Hid (∀ w', Below X2.heap.size X2 w' → (w'.cell? ⟨w.heap.size, 0, none⟩ = some (.bool bx) ∧ w'.cell? ⟨w.heap.size, 1, none⟩ = some (.slice adx nx cx))) := Lib.hid fun w' hb => (HKX2.out.keep hb).cells
      have hbl : w.heap.size < X2.heap.size := HKX2.out.lt
      go_region_held3 (fun w' => w'.cell? ⟨w.heap.size, 0, none⟩ = some (.bool bx) ∧ w'.cell? ⟨w.heap.size, 1, none⟩ = some (.slice adx nx cx))
        (first | exact ⟨(cell_store2 (by omega)).trans (HS0.out _ hbC).1, (cell_store2 (by omega)).trans (HS0.out _ hbC).2⟩ | exact HS0.out _ (hbC.alloc hbC.size _) | exact HS0.out _ hbC | exact HS0.out _ (hbN.alloc hbN.size _) | exact HS0.out _ hbN | exact HS0.out _ (hbO.alloc hbO.size _) | exact HS0.out _ hbO | exact HS0.out _ ((Below.refl _ _).drew) | exact HS0.out _ (((Below.refl _ _).alloc (Nat.le_refl _) _).drew) | go_keep)
        (first
          | (go_at_call 100; (with_reducible refine (HO4.out _).out.mono ?_); rintro e wO ⟨T, rfl, hT, hbO'⟩; have hbO : Below X2.heap.size X2 wO := (by first | exact below_dt hbO' | exact belowD hbO'); (first | (have zO := zbD hbO') | skip))
          | (go_at_call 106; (with_reducible refine (HNP.out _).out.mono ?_); rintro e wN ⟨vN, rfl, hiN, hbN'⟩; have hbN : Below X2.heap.size X2 wN := (by first | exact hbO.trans (hbN'.mono hbO.size) | exact belowA hbO hbN' hbO.size); have hTN : wN.heap[T]? = _ := (by first | exact blockk hT hbN' | exact blocka hT hbN'); (first | (have zN := zO.keep hbN') | (have zN := zbA hbN') | skip))
          | (go_at_call 99; (first | (with_reducible refine (HC4.out _ _ _ _ (HKX2.out.keep hbN).iv hiN hTN).out.mono ?_) | (with_reducible refine (HC4.out _ _ _ _ (HKX2.out.keep (hbN.alloc hbN.size _)).iv (hiN.keep ((Below.refl _ _).alloc (Nat.le_refl _) _)) (blockk hTN ((Below.refl _ _).alloc (Nat.le_refl _) _))).out.mono ?_)); rintro e wC ⟨vC, rfl, ⟨dC, nC, eC, rfl, hrC⟩, hbC'⟩; have hbC : Below X2.heap.size X2 wC := (by first | exact hbN.trans (hbC'.mono hbN.size) | exact belowA hbN hbC' hbN.size); (first | (have zC := zN.keep hbC') | (have zC := zbA hbC') | skip); (first | (have zc0 := zC.c0; have zc1 := zC.c1; have zf0 := zC.f0; have zf1 := zC.f1; have hOs := hbO.size; have hNs := hbN.size) | skip)))
      all_goals
        go_wp2_with fail
        go_meet
        first
          | exact ⟨_, _, _, _, _, rfl, BX.made ⟨_, _, _, rfl, hrC⟩, hbC.size, hbC.alloc hbC.size _⟩
          | exact ⟨_, _, _, _, _, rfl, zC.mine ⟨_, _, _, rfl, hrC⟩, (by omega), (hbC.setCell (by simp <;> omega) _).setCell (by simp <;> omega) _⟩
    case rest =>
      obtain ⟨q2, b2, d2, n2, e2, rfl, hbx2, hq2, hbw2⟩ := hcut
      have HKY4 := Lib.hid hbx2
      have HKP3 := Lib.hid (HKP2.out.keep hbw2)
      have HKR3 := Lib.hid (HKR2.out.keep hbw2)
      have HB3 := Lib.hid (HB2.out.trans (hbw2.mono HB2.out.size))
      have hq2' : w.heap.size + 2 < q2 := by have h9 := HKR2.out.lt; omega
      have hw3' := HW3.out
      clear hbx2 hbw2
      go_upto_region 7 with fail
      have HS0 : Hid (∀ w', Below wc.heap.size wc w' → ((w'.cell? ⟨q2, 0, none⟩ = some (.bool b2) ∧ w'.cell? ⟨q2, 1, none⟩ = some (.slice d2 n2 e2)) ∧ (w'.cell? ⟨w3.heap.size, 0, none⟩ = some (.bool (decide (PL < 0))) ∧ w'.cell? ⟨w3.heap.size, 1, none⟩ = some (.slice d3 n3 e3)))) := Lib.hid fun w' hb => ⟨(HKY4.out.keep hb).cells, (HKP3.out.keep hb).cells⟩
      go_region_held3 (fun w' => (w'.cell? ⟨q2, 0, none⟩ = some (.bool b2) ∧ w'.cell? ⟨q2, 1, none⟩ = some (.slice d2 n2 e2)) ∧ (w'.cell? ⟨w3.heap.size, 0, none⟩ = some (.bool (decide (PL < 0))) ∧ w'.cell? ⟨w3.heap.size, 1, none⟩ = some (.slice d3 n3 e3)))
        (first | exact ⟨⟨(cell_store2 (by omega)).trans (HS0.out _ hbC).1.1, (cell_store2 (by omega)).trans (HS0.out _ hbC).1.2⟩, (cell_store2 (by omega)).trans (HS0.out _ hbC).2.1, (cell_store2 (by omega)).trans (HS0.out _ hbC).2.2⟩ | exact HS0.out _ hbC | exact HS0.out _ hbO | exact HS0.out _ ((Below.refl _ _).drew) | go_keep)
        (go_loud (first
          | (go_at_call 100; (with_reducible refine (HO14.out _).out.mono ?_); rintro e wO ⟨T, rfl, hT, hbO'⟩; have hbO := below_dt hbO')
          | (go_at_call 99; (with_reducible refine (HC14.out _ _ _ _ (HKY4.out.keep hbO).iv (HKP3.out.keep hbO).iv hT).out.mono ?_); rintro e wC ⟨vC, rfl, ⟨dC, nC, eC, rfl, hrC⟩, hbC'⟩; have hbC := hbO.trans (hbC'.mono hbO.size); have hXC := HKR3.out.keep hbC; have zc0 := hXC.c0; have zc1 := hXC.c1; have zf0 := hXC.f0; have zf1 := hXC.f1; have hw3 := HW3.out)))
      have hIC : IntV wC (.agg #[.bool (decide (Z < 0)), .slice dC nC eC]) Z := ⟨_, _, _, rfl, hrC⟩
      have HXC := Lib.hid (hXC.mine hIC)
      have hcc := HXC.out.cells
      have HBC := Lib.hid (HB3.out.trans (hbC.mono HB3.out.size))
      clear hXC hIC hrC hbC hbC' hbO hbO' hT zc0 zc1 zf0 zf1
      go_wp2_with fail
      refine bodyPost_ret (v := .tuple #[.agg #[.bool (decide (Z < 0)), .slice dC nC eC], .int .i64 0]) (by simp [results, Try.results58, go_sem, hcc.1, hcc.2]) rfl ⟨_, rfl, HXC.out.iv, ?_⟩
      exact (HBC.out.setCell (by simp <;> omega) _).setCell (by simp <;> omega) _


end Go.Proofs.Ytnbnbjgdplpemaa
