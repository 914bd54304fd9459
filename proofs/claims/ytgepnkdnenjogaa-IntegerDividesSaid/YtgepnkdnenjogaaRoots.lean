/-  IntegerRoots' walk.  -/
import Derived.Test.YtgepnkdnenjogaaMore
import Derived.Test.YtgepnkdnenjogaaLarge
import Derived.Deep.RegionHeld3
import Derived.Deep.CutRange
namespace Go.Proofs.Ytgepnkdnenjogaa
open Go.RowKit Digs

theorem run_max_zero4 (w : World) (ts : Array TypeId) (t : TypeId) : (Builtin.max_ ts t #[.int .i64 0, .int .i64 0, .int .i64 0, .int .i64 0]).run Try.prog w = .ok (.int .i64 0) w := rfl
theorem below_dt {W w' : World} (h : Below W.drew.heap.size W.drew w') : Below W.heap.size W w' := (Below.refl W.heap.size W).drew.trans h
theorem zbox2 {W w' : World} {a b : Value} {t : TypeId} (h : Below (W.alloc (.cells #[a, b] t)).heap.size (W.alloc (.cells #[a, b] t)) w') :
    w'.cell? ⟨W.heap.size, 0, none⟩ = some a ∧ w'.cell? ⟨W.heap.size, 1, none⟩ = some b ∧ w'.frozen? ⟨W.heap.size, 0, none⟩ = false ∧ w'.frozen? ⟨W.heap.size, 1, none⟩ = false := by
  obtain ⟨h1, h2, h3, h4, _⟩ := box2 h
  exact ⟨h1, h2, h3, h4⟩
theorem zbox1 {W w' : World} {a b : Value} {t : TypeId} (h : Below (W.alloc (.cells #[a, b] t)).drew.heap.size (W.alloc (.cells #[a, b] t)).drew w') :
    w'.cell? ⟨W.heap.size, 0, none⟩ = some a ∧ w'.cell? ⟨W.heap.size, 1, none⟩ = some b ∧ w'.frozen? ⟨W.heap.size, 0, none⟩ = false ∧ w'.frozen? ⟨W.heap.size, 1, none⟩ = false := zbox2 (below_dt h)
theorem zbox3 {W w' w'' : World} {a b : Value} {t : TypeId} (h : Below (W.alloc (.cells #[a, b] t)).drew.heap.size (W.alloc (.cells #[a, b] t)).drew w') (h2 : Below w'.heap.size w' w'') :
    w''.cell? ⟨W.heap.size, 0, none⟩ = some a ∧ w''.cell? ⟨W.heap.size, 1, none⟩ = some b ∧ w''.frozen? ⟨W.heap.size, 0, none⟩ = false ∧ w''.frozen? ⟨W.heap.size, 1, none⟩ = false := zbox2 ((below_dt h).trans (h2.mono (below_dt h).size))
theorem allLe1 {a k : Nat} (h : allLe [a] k = true) : a ≤ k := by simpa [allLe] using h
theorem BX.cellA {p : Nat} {u v : Value} {z : Int} {w : World} (h : BX p u v z w) : ∀ o : Obj, (w.alloc o).cell? ⟨p, 0, none⟩ = some u ∧ (w.alloc o).cell? ⟨p, 1, none⟩ = some v := fun o =>
  (h.keep ((Below.refl _ _).alloc (Nat.le_refl _) o)).cells
theorem Bd.pow {k : Nat} {x : Int} (h : Bd k x) (n : Nat) : Bd (k * n + 1) (x ^ n) := by
  induction n with
  | zero => unfold Bd; rw [Int.pow_zero, Nat.mul_zero]; decide
  | succ n ih => rw [Int.pow_succ, Nat.mul_succ, Nat.add_right_comm]; exact Bd.mul ih h
theorem short16 (b1 : Bool) (a1 : Option Addr) (c1 : Nat) (l1 : List Nat) (w : World) (N : Nat) (hN : w.heap.size = N) (h1 : NArg w a1 c1 l1) :
    Calls Try.prog 14 #[.int .i64 6, .slice (some ⟨N, 0, none⟩) 1 1] (w.alloc (.cells #[.bool b1, .slice a1 l1.length c1] 24)) (BoolPost (w.alloc (.cells #[.bool b1, .slice a1 l1.length c1] 24)) (allLe [l1.length] 6)) :=
  short1a b1 a1 c1 l1 w N 6 hN h1
theorem lenZ_bd {k M : Nat} {z : Int} (h : Bd k z) (hk : 32 * k ≤ M) : lenZ z ≤ M := by
  unfold Bd at h
  rw [pow32] at h
  have h2 : (2 : Nat) ^ (32 * k) ≤ 2 ^ M := Nat.pow_le_pow_right (by decide) hk
  unfold lenZ
  split
  · exact bl_le_iff.2 (by omega)
  · exact bl_le_iff.2 (by omega)
theorem pow_ok {x : Int} {n : Nat} {v : Value} {w : World} (hx : Bd 8 x) (hn : n ≤ 14) (h : IntV w v x) : Calls Try.prog 46 #[v, .int .i64 n] w (IntOK w (x ^ n)) :=
  (Power_any x v n w (by omega) (len_le (by decide) hx) h).mono fun _ _ hp => hp.2 (lenZ_bd (hx.pow n) (by omega))

set_option maxHeartbeats 4000000 in
set_option maxRecDepth 100000 in
theorem roots_any (b1 : Bool) (a1 : Option Addr) (c1 : Nat) (l1 : List Nat) (m n : Int) (w : World) (h1 : NArg w a1 c1 l1) (hm0 : 0 ≤ m) (hm1 : m ≤ 255) (hn0 : 0 ≤ n) (hn1 : n ≤ 255) :
    Calls Try.prog 12 #[.agg #[.bool b1, .slice a1 l1.length c1], .int .u8 m, .int .u8 n] w (BoolPost w true) := by
  obtain ⟨i, hi⟩ : ∃ i : Nat, m % 8 = (i : Int) := ⟨(m % 8).toNat, by omega⟩
  obtain ⟨k, hk⟩ : ∃ k : Nat, n % 8 = (k : Int) := ⟨(n % 8).toNat, by omega⟩
  have hi7 : i ≤ 7 := by omega
  have hk7 : k ≤ 7 := by omega
  have HA := Lib.hid h1
  clear h1
  go_enter Try.func12, Try.ntmps12
  have HB0 := Lib.hid ((Below.refl w.heap.size w).alloc (Nat.le_refl _) (.cells #[.bool b1, .slice a1 l1.length c1] 24))
  have HSH := Lib.hid (short16 b1 a1 c1 l1 _ (w.heap.size + 1) (by simp) (HA.out.keep HB0.out))
  go_wp2_with fail
  (with_reducible refine HSH.out.mono ?_)
  rintro e w1 ⟨rfl, hb1⟩
  have hbx := ((Below.refl _ _).alloc (Nat.le_refl _) (row1 b1 a1 c1 l1)).trans (hb1.mono (by simp))
  have HB1 := Lib.hid (HB0.out.trans (hbx.mono HB0.out.size))
  obtain ⟨cA, cB, _, _, hsz⟩ := box2 hbx
  clear hb1 hbx
  cases hall : allLe [l1.length] 6 with
  | false =>
    clear hall
    go_wp2_with fail
    refine (awake_any w1).mono ?_
    rintro e w2 ⟨rfl, hb2⟩
    go_wp2
    go_ret
    exact ⟨rfl, HB1.out.trans (hb2.mono HB1.out.size)⟩
  | true =>
    have hle := allLe1 hall
    have HM := Lib.hid (made1 b1 a1 c1 l1 w1 _ rfl (HA.out.keep HB1.out) (by omega))
    have HXB : Hid (Bd 8 (nz (b1, l1))) := Lib.hid (nz_bd (by omega) HA.out.lt)
    clear hall hle
    go_wp2_with fail
    (with_reducible refine HM.out.mono ?_)
    rintro e w2 ⟨v, rfl, hrow, hb2⟩
    obtain ⟨g, cap, d1, n1, e1, rfl, hg, hgb, q1, q2, i1⟩ := irow1 hrow
    have HB2 := Lib.hid (HB1.out.trans (hb2.mono HB1.out.size))
    generalize nz (b1, l1) = x at *
    generalize hdx : decide (x < 0) = bx at *
    have HX := Lib.hid (BX.made (t := 28) i1)
    have HB3 := Lib.hid (HB2.out.alloc HB2.out.size (.cells #[.bool bx, .slice d1 n1 e1] 28))
    clear hdx hrow hb2 i1 hgb cA cB
    have HPi := fun v W h => Lib.hid (pow_ok (n := i) (v := v) (w := W) HXB.out (by omega) h)
    have HPk := fun v W h => Lib.hid (pow_ok (n := k) (v := v) (w := W) HXB.out (by omega) h)
    have HPs := fun v W h => Lib.hid (pow_ok (n := i + k) (v := v) (w := W) HXB.out (by omega) h)
    have HPi := Lib.hid HPi
    have HPk := Lib.hid HPk
    have HPs := Lib.hid HPs
    obtain ⟨s, hs⟩ : ∃ s : Nat, (i : Int) + (k : Int) = (s : Int) ∧ s = i + k := ⟨i + k, by omega, rfl⟩
    obtain ⟨hs1, hs2⟩ := hs
    rw [← hs2] at HPs
    have HS2 := Lib.hid hs2
    clear hs2
    have HPE := Lib.hid (show x ^ i * x ^ k = x ^ s by rw [HS2.out, Int.pow_add])
    have HBp := Lib.hid ((HXB.out.pow i).up (show 8 * i + 1 ≤ 200 by omega))
    have HBq := Lib.hid ((HXB.out.pow k).up (show 8 * k + 1 ≤ 200 by omega))
    have HBs := Lib.hid ((HXB.out.pow s).up (show 8 * s + 1 ≤ 200 by omega))
    generalize x ^ i = zp at *
    generalize x ^ k = zq at *
    generalize x ^ s = zs at *
    go_wp2_with fail
    (with_reducible refine (HPi.out _ _ HX.out.iv).out.mono ?_)
    rintro e w3 ⟨vp, rfl, ⟨dp, np, ep, rfl, hrp⟩, hbp⟩
    have HIp := Lib.hid (show IntV w3 (.agg #[.bool (decide (zp < 0)), .slice dp np ep]) zp from ⟨_, _, _, rfl, hrp⟩)
    have HWp := Lib.hid (HB3.out.trans (hbp.mono HB3.out.size))
    have Kx_p := Lib.hid (HX.out.keep hbp)
    clear hbp hrp
    generalize decide (zp < 0) = bp at *
    have HNp := Lib.hid (BX.made (t := 28) HIp.out)
    have HAp := Lib.hid (HWp.out.alloc HWp.out.size (.cells #[.bool bp, .slice dp np ep] 28))
    have halp := (Below.refl _ w3).alloc (Nat.le_refl _) (.cells #[.bool bp, .slice dp np ep] 28)
    have Lx_p := Lib.hid (Kx_p.out.keep halp)
    clear halp
    obtain ⟨gxa, gxb⟩ := Lx_p.out.cells
    go_wp2_with fail
    (with_reducible refine (HPk.out _ _ Lx_p.out.iv).out.mono ?_)
    rintro e w4 ⟨vq, rfl, ⟨dq, nq, eq, rfl, hrq⟩, hbq⟩
    have HIq := Lib.hid (show IntV w4 (.agg #[.bool (decide (zq < 0)), .slice dq nq eq]) zq from ⟨_, _, _, rfl, hrq⟩)
    have HWq := Lib.hid (HAp.out.trans (hbq.mono HAp.out.size))
    have Kx_q := Lib.hid (Lx_p.out.keep hbq)
    have Kp_q := Lib.hid (HNp.out.keep hbq)
    clear hbq hrq
    generalize decide (zq < 0) = bq at *
    have HNq := Lib.hid (BX.made (t := 28) HIq.out)
    have HAq := Lib.hid (HWq.out.alloc HWq.out.size (.cells #[.bool bq, .slice dq nq eq] 28))
    have halq := (Below.refl _ w4).alloc (Nat.le_refl _) (.cells #[.bool bq, .slice dq nq eq] 28)
    have Lx_q := Lib.hid (Kx_q.out.keep halq)
    have Lp_q := Lib.hid (Kp_q.out.keep halq)
    clear halq
    clear gxa gxb
    obtain ⟨gxa, gxb⟩ := Lx_q.out.cells
    go_wp2_with fail
    (with_reducible refine (HPs.out _ _ Lx_q.out.iv).out.mono ?_)
    rintro e w5 ⟨vs, rfl, ⟨ds, ns, es, rfl, hrs⟩, hbs⟩
    have HIs := Lib.hid (show IntV w5 (.agg #[.bool (decide (zs < 0)), .slice ds ns es]) zs from ⟨_, _, _, rfl, hrs⟩)
    have HWs := Lib.hid (HAq.out.trans (hbs.mono HAq.out.size))
    have Kx_s := Lib.hid (Lx_q.out.keep hbs)
    have Kp_s := Lib.hid (Lp_q.out.keep hbs)
    have Kq_s := Lib.hid (HNq.out.keep hbs)
    clear hbs hrs
    generalize decide (zs < 0) = bs at *
    have HNs := Lib.hid (BX.made (t := 28) HIs.out)
    have HAs := Lib.hid (HWs.out.alloc HWs.out.size (.cells #[.bool bs, .slice ds ns es] 28))
    have hals := (Below.refl _ w5).alloc (Nat.le_refl _) (.cells #[.bool bs, .slice ds ns es] 28)
    have Lx_s := Lib.hid (Kx_s.out.keep hals)
    have Lp_s := Lib.hid (Kp_s.out.keep hals)
    have Lq_s := Lib.hid (Kq_s.out.keep hals)
    clear hals
    clear gxa gxb
    obtain ⟨gxa, gxb⟩ := Lx_s.out.cells
    have HMX := Lib.hid (Mul_any x x _ _ _ (len_le (by decide) HXB.out) (len_le (by decide) HXB.out) Lx_s.out.iv Lx_s.out.iv)
    go_wp2_with fail
    (with_reducible refine HMX.out.mono ?_)
    rintro e w6 ⟨vm, rfl, him, hbm⟩
    have HRT := Lib.hid (Root_any (x * x) vm w6 (Nat.le_trans (digs_length_le (by decide) _ _ (HXB.out.mul HXB.out)) (by decide)) him (by rcases Int.le_total 0 x with h | h; exact Int.mul_nonneg h h; exact Int.mul_nonneg_of_nonpos_of_nonpos h h))
    go_wp2_with fail
    (with_reducible refine HRT.out.mono ?_)
    rintro e w7 ⟨r, hr1, hr2, vr0, rfl, ⟨dr, nr, er, rfl, hrr⟩, hbr⟩
    have hbmr := hbm.trans (hbr.mono hbm.size)
    have HIr := Lib.hid (show IntV w7 (.agg #[.bool (decide ((r : Int) < 0)), .slice dr nr er]) (r : Int) from ⟨_, _, _, rfl, hrr⟩)
    have hrx : (r : Int) = (x.natAbs : Int) := by
      rw [Int.natAbs_mul] at hr1 hr2
      have h1 := sqrt_unique hr1 (show x.natAbs * x.natAbs < (x.natAbs + 1) * (x.natAbs + 1) from Nat.mul_self_lt_mul_self (Nat.lt_succ_self _))
      have h2 := sqrt_unique (Nat.le_refl _) hr2
      omega
    have HWr := Lib.hid (HAs.out.trans (hbmr.mono HAs.out.size))
    have HRX := Lib.hid hrx
    have Kx_r := Lib.hid (Lx_s.out.keep hbmr)
    have Kp_r := Lib.hid (Lp_s.out.keep hbmr)
    have Kq_r := Lib.hid (Lq_s.out.keep hbmr)
    have Ks_r := Lib.hid (HNs.out.keep hbmr)
    clear hbmr hbm hbr hrr him hr1 hr2 hrx gxa gxb
    generalize decide ((r : Int) < 0) = br at *
    generalize (r : Int) = zr at *
    have HNr := Lib.hid (BX.made (t := 28) HIr.out)
    have HAr := Lib.hid (HWr.out.alloc HWr.out.size (.cells #[.bool br, .slice dr nr er] 28))
    have halr := (Below.refl _ w7).alloc (Nat.le_refl _) (.cells #[.bool br, .slice dr nr er] 28)
    have Lx_r := Lib.hid (Kx_r.out.keep halr)
    have Lp_r := Lib.hid (Kp_r.out.keep halr)
    have Lq_r := Lib.hid (Kq_r.out.keep halr)
    have Ls_r := Lib.hid (Ks_r.out.keep halr)
    clear halr
    have HK := Lib.hid (show ∀ w', Below (w7.alloc (.cells #[.bool br, .slice dr nr er] 28)).heap.size (w7.alloc (.cells #[.bool br, .slice dr nr er] 28)) w' → (w'.cell? ⟨w3.heap.size, 0, none⟩ = some (.bool bp) ∧ w'.cell? ⟨w3.heap.size, 1, none⟩ = some (.slice dp np ep) ∧ w'.cell? ⟨w4.heap.size, 0, none⟩ = some (.bool bq) ∧ w'.cell? ⟨w4.heap.size, 1, none⟩ = some (.slice dq nq eq) ∧ w'.cell? ⟨w5.heap.size, 0, none⟩ = some (.bool bs) ∧ w'.cell? ⟨w5.heap.size, 1, none⟩ = some (.slice ds ns es) ∧ w'.cell? ⟨w7.heap.size, 0, none⟩ = some (.bool br) ∧ w'.cell? ⟨w7.heap.size, 1, none⟩ = some (.slice dr nr er) ∧ w'.cell? ⟨w2.heap.size, 0, none⟩ = some (.bool bx) ∧ w'.cell? ⟨w2.heap.size, 1, none⟩ = some (.slice d1 n1 e1)) from fun w' hb => ⟨(Lp_r.out.keep hb).c0, (Lp_r.out.keep hb).c1, (Lq_r.out.keep hb).c0, (Lq_r.out.keep hb).c1, (Ls_r.out.keep hb).c0, (Ls_r.out.keep hb).c1, (HNr.out.keep hb).c0, (HNr.out.keep hb).c1, (Lx_r.out.keep hb).c0, (Lx_r.out.keep hb).c1⟩)
    have HMpq := Lib.hid (show ∀ W, Below (w7.alloc (.cells #[.bool br, .slice dr nr er] 28)).heap.size (w7.alloc (.cells #[.bool br, .slice dr nr er] 28)) W → Hid (Calls Try.prog 42 #[.agg #[.bool bp, .slice dp np ep], .agg #[.bool bq, .slice dq nq eq]] W (IntPost W (zp * zq))) from fun W hb => Lib.hid (Mul_any zp zq _ _ W (len_le (by decide) HBp.out) (len_le (by decide) HBq.out) (Lp_r.out.keep hb).iv (Lq_r.out.keep hb).iv))
    have HSa := Lib.hid (show ∀ W v, IntV W v (zp * zq) → Below (w7.alloc (.cells #[.bool br, .slice dr nr er] 28)).heap.size (w7.alloc (.cells #[.bool br, .slice dr nr er] 28)) W → Hid (Calls Try.prog 65 #[v, .agg #[.bool bs, .slice ds ns es]] W (BoolPost W true)) from fun W v hv hb => Lib.hid (same_eq _ _ HPE.out _ _ W hv (Ls_r.out.keep hb).iv))
    have HAb := Lib.hid (show ∀ W, Below (w7.alloc (.cells #[.bool br, .slice dr nr er] 28)).heap.size (w7.alloc (.cells #[.bool br, .slice dr nr er] 28)) W → Hid (Calls Try.prog 36 #[.agg #[.bool bx, .slice d1 n1 e1]] W (IntPost W (x.natAbs : Int))) from fun W hb => Lib.hid (Abs_any x _ W (len_le (by decide) HXB.out) (Lx_r.out.keep hb).iv))
    have HSb := Lib.hid (show ∀ W v, IntV W v (x.natAbs : Int) → Below (w7.alloc (.cells #[.bool br, .slice dr nr er] 28)).heap.size (w7.alloc (.cells #[.bool br, .slice dr nr er] 28)) W → Hid (Calls Try.prog 65 #[.agg #[.bool br, .slice dr nr er], v] W (BoolPost W true)) from fun W v hv hb => Lib.hid (same_eq _ _ HRX.out _ _ W (HNr.out.keep hb).iv hv))
    have hmax := run_max_zero4
    go_upto_region 9 with fail
    go_region_held3 (fun w' => w'.cell? ⟨w3.heap.size, 0, none⟩ = some (.bool bp) ∧ w'.cell? ⟨w3.heap.size, 1, none⟩ = some (.slice dp np ep) ∧ w'.cell? ⟨w4.heap.size, 0, none⟩ = some (.bool bq) ∧ w'.cell? ⟨w4.heap.size, 1, none⟩ = some (.slice dq nq eq) ∧ w'.cell? ⟨w5.heap.size, 0, none⟩ = some (.bool bs) ∧ w'.cell? ⟨w5.heap.size, 1, none⟩ = some (.slice ds ns es) ∧ w'.cell? ⟨w7.heap.size, 0, none⟩ = some (.bool br) ∧ w'.cell? ⟨w7.heap.size, 1, none⟩ = some (.slice dr nr er) ∧ w'.cell? ⟨w2.heap.size, 0, none⟩ = some (.bool bx) ∧ w'.cell? ⟨w2.heap.size, 1, none⟩ = some (.slice d1 n1 e1))
      (first | exact HK.out _ hbD | exact HK.out _ hbC | exact HK.out _ hbB | exact HK.out _ hbA | exact HK.out _ (Below.refl _ _).drew | go_keep)
      (first
        | (go_at_call 42; (with_reducible refine (HMpq.out _ (Below.refl _ _).drew).out.mono ?_); rintro e wA ⟨vA, rfl, hiA, hbA'⟩; have hbA := below_dt hbA')
        | (go_at_call 65; (with_reducible refine (HSa.out _ vA hiA hbA).out.mono ?_); rintro e wB ⟨rfl, hbB'⟩; have hbB := hbA.trans (hbB'.mono hbA.size))
        | (go_at_call 36; (with_reducible refine (HAb.out _ hbB).out.mono ?_); rintro e wC ⟨vC, rfl, hiC, hbC'⟩; have hbC := hbB.trans (hbC'.mono hbB.size))
        | (go_at_call 65; (with_reducible refine (HSb.out _ vC hiC hbC).out.mono ?_); rintro e wD ⟨rfl, hbD'⟩; have hbD := hbC.trans (hbD'.mono hbC.size)))
    have K9r := Lib.hid (HNr.out.keep hbD)
    have K9x := Lib.hid (Lx_r.out.keep hbD)
    have HW9 := Lib.hid (HAr.out.trans (hbD.mono HAr.out.size))
    have hne := Kx_r.out.lt
    have HNE := Lib.hid (show w2.heap.size ≠ w7.heap.size by omega)
    clear hne hbA hbA' hbB hbB' hbC hbC' hbD hbD' hiA hiC HK HMpq HSa HAb HSb HPi HPk HPs
    obtain ⟨cxa, cxb⟩ := K9x.out.cells
    obtain ⟨cra, crb⟩ := K9r.out.cells
    have fra := K9r.out.f0
    have frb := K9r.out.f1
    by_cases hneg : x < 0
    · have HRN := Lib.hid (Root_neg x _ wD K9x.out.iv hneg)
      have hsg : sgnZ x < 0 := by unfold sgnZ; rw [if_pos hneg]; decide
      clear hneg
      go_wp2_with fail
      (with_reducible refine HRN.out.mono ?_)
      rintro e wE ⟨rfl, hbE⟩
      have KEr := Lib.hid (K9r.out.keep hbE)
      have KEx := Lib.hid (K9x.out.keep hbE)
      have HWE := Lib.hid (HW9.out.trans (hbE.mono HW9.out.size))
      clear hbE cxa cxb cra crb fra frb
      obtain ⟨cra, crb⟩ := KEr.out.cells
      have fra := KEr.out.f0
      have frb := KEr.out.f1
      have KSx := Lib.hid (KEx.out.other cra crb HNE.out (.bool false) (.slice none 0 0))
      obtain ⟨cxa, cxb⟩ := KSx.out.cells
      have HSG := Lib.hid (sign_any x _ _ (len_le (by decide) HXB.out) KSx.out.iv)
      have HWS := Lib.hid (show Below w.heap.size w ((wE.setCell ⟨w7.heap.size, 0, none⟩ (.bool false)).setCell ⟨w7.heap.size, 1, none⟩ (.slice none 0 0)) from (HWE.out.setCell HWr.out.size _).setCell HWr.out.size _)
      generalize sgnZ x = sx at *
      go_wp2_with fail
      (with_reducible refine HSG.out.mono ?_)
      rintro e wF ⟨rfl, hbF⟩
      have HWF := Lib.hid (HWS.out.trans (hbF.mono HWS.out.size))
      clear hbF
      go_wp2_with fail
      refine (awake_any wF).mono ?_
      rintro e wG ⟨rfl, hbG⟩
      go_wp2
      go_ret
      exact ⟨rfl, HWF.out.trans (hbG.mono HWF.out.size)⟩
    · have HRN := Lib.hid (Root_any x _ wD (Nat.le_trans (digs_length_le (by decide) _ 8 HXB.out) (by decide)) K9x.out.iv (by omega))
      have hsg : ¬ sgnZ x < 0 := by unfold sgnZ; split <;> (try split) <;> omega
      have HX0 := Lib.hid (show 0 ≤ x by omega)
      clear hneg
      go_wp2_with fail
      (with_reducible refine HRN.out.mono ?_)
      rintro e wE ⟨r2, hs1, hs2, vr2, rfl, ⟨d2, n2, e2, rfl, hr2⟩, hbE⟩
      have HI2 := Lib.hid (show IntV wE (.agg #[.bool (decide ((r2 : Int) < 0)), .slice d2 n2 e2]) (r2 : Int) from ⟨_, _, _, rfl, hr2⟩)
      have HC1 : cmpZ ((r2 : Int) * (r2 : Int)) x ≤ 0 := by
        rw [cmpZ_le]
        have h0 := HX0.out
        have e1 : (r2 : Int) * (r2 : Int) = ((r2 * r2 : Nat) : Int) := (Int.natCast_mul _ _).symm
        rw [e1]
        omega
      have HC2 : cmpZ x (((r2 : Int) + 1) * ((r2 : Int) + 1)) < 0 := by
        have h0 := HX0.out
        have e1 : ((r2 : Int) + 1) * ((r2 : Int) + 1) = (((r2 + 1) * (r2 + 1) : Nat) : Int) := by rw [Int.natCast_mul, Int.natCast_add]; rfl
        rw [e1]
        unfold cmpZ
        rw [if_pos (by omega)]
        decide
      have HBr2 : Hid (Bd 8 (r2 : Int)) := by
        have h3 : r2 ≤ r2 * r2 := by rcases Nat.eq_zero_or_pos r2 with h | h; (subst h; decide); exact Nat.le_mul_of_pos_left _ h
        exact Lib.hid (show Int.natAbs (r2 : Int) < 4294967296 ^ 8 by rw [Int.natAbs_natCast]; exact Nat.lt_of_le_of_lt (Nat.le_trans h3 hs1) HXB.out)
      have HCC := Lib.hid (And.intro HC1 HC2)
      have KEr := Lib.hid (K9r.out.keep hbE)
      have KEx := Lib.hid (K9x.out.keep hbE)
      have HWE := Lib.hid (HW9.out.trans (hbE.mono HW9.out.size))
      clear hbE cxa cxb cra crb fra frb HC1 HC2 hr2 hs1 hs2
      generalize decide ((r2 : Int) < 0) = b2 at *
      generalize (r2 : Int) = z2 at *
      obtain ⟨cra, crb⟩ := KEr.out.cells
      have fra := KEr.out.f0
      have frb := KEr.out.f1
      have KSx := Lib.hid (KEx.out.other cra crb HNE.out (.bool b2) (.slice d2 n2 e2))
      have KSr := Lib.hid (KEr.out.mine HI2.out)
      obtain ⟨cxa, cxb⟩ := KSx.out.cells
      have HSG := Lib.hid (sign_any x _ _ (len_le (by decide) HXB.out) KSx.out.iv)
      have HWS := Lib.hid (show Below w.heap.size w ((wE.setCell ⟨w7.heap.size, 0, none⟩ (.bool b2)).setCell ⟨w7.heap.size, 1, none⟩ (.slice d2 n2 e2)) from (HWE.out.setCell HWr.out.size _).setCell HWr.out.size _)
      generalize sgnZ x = sx at *
      go_wp2_with fail
      (with_reducible refine HSG.out.mono ?_)
      rintro e wF ⟨rfl, hbF⟩
      have HWF := Lib.hid (HWS.out.trans (hbF.mono HWS.out.size))
      have KFr := Lib.hid (KSr.out.keep hbF)
      have KFx := Lib.hid (KSx.out.keep hbF)
      clear hbF cxa cxb cra crb fra frb
      obtain ⟨cra, crb⟩ := KFr.out.cells
      go_upto_region 14 with fail
      have HNEW := fun W => Lib.hid (new_any 1 W (by decide) (by decide))
      have HADD := fun W v hw h => Lib.hid (Add_any z2 1 _ v W (len_le (by decide) HBr2.out) (by rw [len_small 1 (by decide) (by decide)]; decide) (KFr.out.keep hw).iv h)
      have HADD := Lib.hid HADD
      have HNEW := Lib.hid HNEW
      have HKr := Lib.hid (show ∀ w', Below wF.heap.size wF w' → (w'.cell? ⟨w7.heap.size, 0, none⟩ = some (.bool b2) ∧ w'.cell? ⟨w7.heap.size, 1, none⟩ = some (.slice d2 n2 e2)) from fun w' hb => (KFr.out.keep hb).cells)
      go_cut [18] from 96 to 98 (fun s18 wx => ∃ (p : Nat) (bq' : Bool) (dq' : Option Addr) (nq' eq' : Nat), s18 = .pointer (some ⟨p, 0, none⟩) ∧ BX p (.bool bq') (.slice dq' nq' eq') (z2 + 1) wx ∧ Below wF.heap.size wF wx)
      case first =>
        go_region_held3 (fun w' => w'.cell? ⟨w7.heap.size, 0, none⟩ = some (.bool b2) ∧ w'.cell? ⟨w7.heap.size, 1, none⟩ = some (.slice d2 n2 e2))
          (first | exact ⟨(cell_store2 (by have h7 := KFr.out.lt; have h8 := hbN.size; have h9 := hbA.size; omega)).trans (HKr.out _ hbA).1, (cell_store2 (by have h7 := KFr.out.lt; have h8 := hbN.size; have h9 := hbA.size; omega)).trans (HKr.out _ hbA).2⟩ | exact HKr.out _ (hbA.alloc hbA.size _) | exact HKr.out _ hbA | exact HKr.out _ (hbN.alloc hbN.size _) | exact HKr.out _ hbN | exact HKr.out _ ((Below.refl _ _).drew) | exact HKr.out _ (((Below.refl _ _).alloc (Nat.le_refl _) _).drew) | go_keep)
          (first
            | (go_at_call 17; (with_reducible refine (HNEW.out _).out.mono ?_); rintro e wN ⟨vN, rfl, hiN, hbN'⟩; have hbN : Below wF.heap.size wF wN := (by first | exact below_dt hbN' | exact (((Below.refl wF.heap.size wF).alloc (Nat.le_refl _) _).drew).trans (hbN'.mono (by simp))); have HADDa := HADD.out wN vN hbN hiN; have HADDb := fun o => HADD.out (wN.alloc o) vN (hbN.alloc hbN.size o) (hiN.keep ((Below.refl _ _).alloc (Nat.le_refl _) o)); (first | (have zz := zbox1 hbN') | skip))
            | (go_at_call 38; (first | (with_reducible refine HADDa.out.mono ?_) | (with_reducible refine (HADDb _).out.mono ?_)); rintro e wA ⟨vA', rfl, ⟨dA, nA, eA, rfl, hrA⟩, hbA'⟩; have hbA : Below wF.heap.size wF wA := (by first | exact hbN.trans (hbA'.mono hbN.size) | exact (hbN.alloc hbN.size _).trans (hbA'.mono (by have := hbN.size; simp; omega))); (first | (have zz := zbox2 hbA') | (have zy := zbox3 hbN' hbA') | skip)))
        all_goals
          go_wp2_with fail
          go_meet
          first
            | exact ⟨_, _, _, _, _, rfl, BX.made ⟨_, _, _, rfl, hrA⟩, hbA.alloc hbA.size _⟩
            | exact ⟨_, _, _, _, _, rfl, BX.mine (z := sg false 0) ⟨zy.1, zy.2.1, zy.2.2.1, zy.2.2.2, IntV.zero _ false 0 rfl⟩ ⟨_, _, _, rfl, hrA⟩, (hbA.setCell (Nat.le_refl _) _).setCell (Nat.le_refl _) _⟩
            | exact ⟨_, _, _, _, _, rfl, BX.mine (z := sg false 0) ⟨zz.1, zz.2.1, zz.2.2.1, zz.2.2.2, IntV.zero _ false 0 rfl⟩ ⟨_, _, _, rfl, hrA⟩, (hbA.setCell hbN.size _).setCell hbN.size _⟩
      case rest =>
        obtain ⟨p, bn', dn', nn', en', rfl, hbxn, hbW⟩ := hcut
        have hCC := HCC.out
        have HM1 := fun W hw => Lib.hid (Mul_any z2 z2 _ _ W (len_le (by decide) HBr2.out) (len_le (by decide) HBr2.out) ((KFr.out.keep hbW).keep hw).iv ((KFr.out.keep hbW).keep hw).iv)
        have HM2 := fun W hw => Lib.hid (Mul_any (z2 + 1) (z2 + 1) _ _ W (len_le (by decide) (HBr2.out.add (show Bd 1 1 by unfold Bd; decide))) (len_le (by decide) (HBr2.out.add (show Bd 1 1 by unfold Bd; decide))) (hbxn.keep hw).iv (hbxn.keep hw).iv)
        have HCa := fun W v hw h => Lib.hid (Cmp_any (z2 * z2) x v _ W h ((KFx.out.keep hbW).keep hw).iv)
        have HCb := fun W v hw h => Lib.hid (Cmp_any x ((z2 + 1) * (z2 + 1)) _ v W ((KFx.out.keep hbW).keep hw).iv h)
        have HAW := fun W => Lib.hid (awake_any W)
        have HKK := Lib.hid (fun w' hb => And.intro ((KFr.out.keep hbW).keep (w' := w') hb).cells (And.intro ((KFx.out.keep hbW).keep hb).cells (hbxn.keep hb).cells))
        have HM1 := Lib.hid HM1
        have HM2 := Lib.hid HM2
        have HCa := Lib.hid HCa
        have HCb := Lib.hid HCb
        have HAW := Lib.hid HAW
        have HWx := Lib.hid (HWF.out.trans (hbW.mono HWF.out.size))
        generalize cmpZ (z2 * z2) x = k1 at *
        generalize cmpZ x ((z2 + 1) * (z2 + 1)) = k2 at *
        obtain ⟨hk1, hk2⟩ := hCC
        clear hbxn hbW cra crb
        go_upto_region 15 with fail
        go_region_held3 (fun w' => (w'.cell? ⟨w7.heap.size, 0, none⟩ = some (.bool b2) ∧ w'.cell? ⟨w7.heap.size, 1, none⟩ = some (.slice d2 n2 e2)) ∧ (w'.cell? ⟨w2.heap.size, 0, none⟩ = some (.bool bx) ∧ w'.cell? ⟨w2.heap.size, 1, none⟩ = some (.slice d1 n1 e1)) ∧ (w'.cell? ⟨p, 0, none⟩ = some (.bool bn') ∧ w'.cell? ⟨p, 1, none⟩ = some (.slice dn' nn' en')))
          (first | exact HKK.out _ hbE5 | exact HKK.out _ hbD4 | exact HKK.out _ hbC3 | exact HKK.out _ hbB2 | exact HKK.out _ hbA1 | exact HKK.out _ (Below.refl _ _).drew | go_keep)
          (first
            | (go_at_call 42; (with_reducible refine (HM1.out _ (Below.refl _ _).drew).out.mono ?_); rintro e wA ⟨vA, rfl, hiA, hbA'⟩; have hbA1 := below_dt hbA')
            | (go_at_call 32; (with_reducible refine (HCa.out _ vA hbA1 hiA).out.mono ?_); rintro e wB ⟨rfl, hbB'⟩; have hbB2 := hbA1.trans (hbB'.mono hbA1.size))
            | (go_at_call 42; (with_reducible refine (HM2.out _ hbB2).out.mono ?_); rintro e wC ⟨vC, rfl, hiC, hbC'⟩; have hbC3 := hbB2.trans (hbC'.mono hbB2.size))
            | (go_at_call 32; (with_reducible refine (HCb.out _ vC hbC3 hiC).out.mono ?_); rintro e wD4 ⟨rfl, hbD'⟩; have hbD4 := hbC3.trans (hbD'.mono hbC3.size))
            | (go_at_call 15; (with_reducible refine (HAW.out _).out.mono ?_); rintro e wE5 ⟨rfl, hbE'⟩; have hbE5 := hbD4.trans (hbE'.mono hbD4.size)))
        go_wp2
        go_ret
        exact ⟨rfl, HWx.out.trans (hbE5.mono HWx.out.size)⟩

end Go.Proofs.Ytgepnkdnenjogaa
