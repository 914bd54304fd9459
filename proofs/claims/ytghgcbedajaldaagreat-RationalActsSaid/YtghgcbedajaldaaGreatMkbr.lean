/-  S7  -/
import Derived.Test.YtghgcbedajaldaaGreatMkbp
import Derived.Test.YtghgcbedajaldaaGreatMkbq
import Derived.Test.YtghgcbedajaldaaGreatMkbh
/-  RationalActs' walk.  -/
namespace Go.Proofs.YtghgcbedajaldaaGreat
section
open Go.RowKit Digs
theorem step_ldA {ops : Array Oper} {Q : Exit → Act → World → Prop} {md : Region.Mode} {F : Nat → Value → World → Prop} {S : World → Prop} {a0 : Act} {i : Nat} {o : Oper} {x : Operand} {p : Nat} {a b c e : Value} (hop : o.op = .load 26 x) (hg : Gd ops md F o) (hx : Arg ops md F S a0 o x (fun y _ => y = .pointer (some ⟨p, 0, none⟩)))
  (hc : ∀ w, S w → w.cell? ⟨p, 0, none⟩ = some a ∧ w.cell? ⟨p, 1, none⟩ = some b ∧ w.cell? ⟨p, 2, none⟩ = some c ∧ w.cell? ⟨p, 3, none⟩ = some e) (hf : ∀ w, S w → F i (.agg #[a, b, c, e]) w) : StepOK Tryz.prog ops md F S a0 Q i o :=
 step_of hg fun a' w hs hsm hk => by
  have h1 := hx a' w hs hsm hk
  obtain ⟨c0, c1, c2, c3⟩ := hc w hs
  have h2 := hf w hs
  unfold Oper.wp execOp
  rw [hop]
  simp only [h1]
  go_simp
  exact ⟨_, rfl, h2, Below.refl _ _⟩
theorem C4.c4 {p : Nat} {a b c e : Value} {W : World} (h : C4 p a b c e W) : W.cell? ⟨p, 0, none⟩ = some a ∧ W.cell? ⟨p, 1, none⟩ = some b ∧ W.cell? ⟨p, 2, none⟩ = some c ∧ W.cell? ⟨p, 3, none⟩ = some e := ⟨h.c0, h.c1, h.c2, h.c3⟩
theorem C4.stq {p q : Nat} {a b c e : Value} {w w' : World} (h : C4 p a b c e w) (s : St q w w') (hne : p ≠ q) : C4 p a b c e w' :=
 ⟨(s.cell _ hne).trans h.c0, (s.cell _ hne).trans h.c1, (s.cell _ hne).trans h.c2, (s.cell _ hne).trans h.c3⟩
theorem ifq_low {x y : Int} : Low (if y = 0 then x else qn x y) (if y = 0 then (1 : Int) else qd x y) := by
 by_cases h : y = 0
 ·rw [if_pos h, if_pos h]
  exact ⟨by decide, by unfold cop; exact Int.gcd_one⟩
 ·rw [if_neg h, if_neg h]; exact (q_low x y h).1
theorem enterA2 {t : TypeId} (w : World) (x0 x1 x2 x3 x4 x5 x6 x7 : Value) : (C4 (w.heap.size) x0 x1 x2 x3 ((w.alloc (.cells #[x0, x1, x2, x3] t)).alloc (.cells #[x4, x5, x6, x7] t)) ∧ C4 (w.heap.size + 1) x4 x5 x6 x7 ((w.alloc (.cells #[x0, x1, x2, x3] t)).alloc (.cells #[x4, x5, x6, x7] t)) ∧ Below w.heap.size w ((w.alloc (.cells #[x0, x1, x2, x3] t)).alloc (.cells #[x4, x5, x6, x7] t))) := by
 have hal : ∀ (W : World) (o : Obj), Below W.heap.size W (W.alloc o) := fun W o => (Below.refl _ _).alloc (Nat.le_refl _) _
 have h0 := C4.made (w := w) (a := x0) (b := x1) (c := x2) (e := x3) (t := t)
 have h1 := C4.made (w := (w.alloc (.cells #[x0, x1, x2, x3] t))) (a := x4) (b := x5) (c := x6) (e := x7) (t := t)
 simp only [World.size_alloc] at h1
 exact ⟨(h0.keep (hal _ _)), h1, (Below.trans (hal w _) ((hal _ _).mono (by simp <;> omega)))⟩
theorem qshort2_4 (b0 b1 b2 b3 : Bool) (a0 a1 a2 a3 : Option Addr) (n0 n1 n2 n3 c0 c1 c2 c3 : Nat) (w : World) (N : Nat) (hN : w.heap.size = N) (m0 : n0 ≤ maxLen) (m1 : n1 ≤ maxLen) (m2 : n2 ≤ maxLen) (m3 : n3 ≤ maxLen) :
  Calls Tryz.prog 13 #[.int .i64 4, .slice (some ⟨N, 0, none⟩) 2 2] (w.alloc (.cells #[.bool b0, .slice a0 n0 c0, .bool b1, .slice a1 n1 c1, .bool b2, .slice a2 n2 c2, .bool b3, .slice a3 n3 c3] 26)) (BoolPost (w.alloc (.cells #[.bool b0, .slice a0 n0 c0, .bool b1, .slice a1 n1 c1, .bool b2, .slice a2 n2 c2, .bool b3, .slice a3 n3 c3] 26)) (qsLe [(n0, n1), (n2, n3)] 4)) := by
 subst hN
 refine qShort_any w.heap.size 4 2 [(n0, n1), (n2, n3)] _ (show 2 ≤ 1000 by decide) ⟨by simp, fun j hj => ?_⟩
 match j, hj with
 | 0, _ => exact ⟨b0, a0, c0, b1, a1, c1, by rw [World.cell?_alloc_at _ _ _ _ rfl]; rfl, by rw [World.cell?_alloc_at _ _ _ _ rfl]; rfl, by rw [World.cell?_alloc_at _ _ _ _ rfl]; rfl, by rw [World.cell?_alloc_at _ _ _ _ rfl]; rfl, m0, m1⟩
 | 1, _ => exact ⟨b2, a2, c2, b3, a3, c3, by rw [World.cell?_alloc_at _ _ _ _ rfl]; rfl, by rw [World.cell?_alloc_at _ _ _ _ rfl]; rfl, by rw [World.cell?_alloc_at _ _ _ _ rfl]; rfl, by rw [World.cell?_alloc_at _ _ _ _ rfl]; rfl, m2, m3⟩
theorem qsLe2 {n0 n1 n2 n3 k : Nat} (h : qsLe [(n0, n1), (n2, n3)] k = true) : n0 ≤ k ∧ n1 ≤ k ∧ n2 ≤ k ∧ n3 ≤ k := by
 have h' := of_decide_eq_true h
 have g0 := of_decide_eq_true (h' 0 (by simp))
 have g1 := of_decide_eq_true (h' 1 (by simp))
 exact ⟨g0 0 (by simp), g0 1 (by simp), g1 0 (by simp), g1 1 (by simp)⟩
theorem unit_pow {x : Int} (hx : x.natAbs ≤ 1) {k1 k2 : Nat} (h1 : 0 < k1) (h2 : 0 < k2) (hp : k1 % 2 = k2 % 2) : x ^ k1 = x ^ k2 := by
 have key : ∀ k : Nat, (-1 : Int) ^ k = (-1) ^ (k % 2) := fun k => by
  have h : k = 2 * (k / 2) + k % 2 := by omega
  have e : (-1 : Int) ^ (2 * (k / 2) + k % 2) = (-1) ^ (k % 2) := by
   rw [Int.pow_add, Int.pow_mul, show ((-1 : Int) ^ 2) = 1 by decide, Int.one_pow, Int.one_mul]
  rw [← h] at e
  exact e
 have hc : x = 0 ∨ x = 1 ∨ x = -1 := by omega
 rcases hc with rfl | rfl | rfl
 ·rw [Int.zero_pow (by omega), Int.zero_pow (by omega)]
 ·rw [Int.one_pow, Int.one_pow]
 ·rw [key k1, key k2, hp]
theorem pow_bdS {x : Int} {k : Nat} (hB : Bd 4 x) (hs : k ≤ 20 ∨ x.natAbs ≤ 1) : Bd 100 (x ^ k) := by
 rcases hs with h | h
 ·exact (hB.pow' k).up (by omega)
 ·unfold Bd
  rw [Int.natAbs_pow]
  have h1 := Nat.pow_le_pow_left h k
  rw [Nat.one_pow] at h1
  exact Nat.lt_of_le_of_lt h1 (Nat.one_lt_pow (by decide) (by decide))
theorem bl_unit {x : Int} (h : x.natAbs ≤ 1) : bl x.natAbs ≤ 1 := bl_le_iff.2 (by omega)
theorem hs_bl {x : Int} {k : Nat} (h : k ≤ 20 ∨ x.natAbs ≤ 1) : k ≤ 20 ∨ bl x.natAbs ≤ 1 := h.imp id bl_unit
theorem pow_len {x : Int} {k : Nat} (hB : Bd 4 x) (hs : k ≤ 20 ∨ x.natAbs ≤ 1) : lenZ (x ^ k) ≤ 65536 := lenZ_bda (pow_bdS hB hs) (by decide)
theorem qn_abs {a b : Int} : (qn a b).natAbs ≤ a.natAbs := by
 unfold qn
 rw [Int.natAbs_tdiv]
 refine Nat.le_trans (Nat.div_le_self _ _) ?_
 split <;> omega
theorem qd_abs {a b : Int} : (qd a b).natAbs ≤ b.natAbs := by
 unfold qd
 rw [Int.natAbs_tdiv]
 refine Nat.le_trans (Nat.div_le_self _ _) ?_
 split <;> omega
theorem power_both (N D e : Int) (hl : Low N D) (bN : Bd 4 N) (bD : Bd 4 D) (e1 : -9223372036854775808 ≤ e) (e2 : e < 9223372036854775808) (hE : e.natAbs ≤ 20 ∨ (N.natAbs ≤ 1 ∧ D.natAbs ≤ 1)) :
  ∃ PN PD PC : Int, 0 < PD ∧ Bd 100 PN ∧ Bd 100 PD ∧ (∀ W u, RatV W u N D → Calls Tryz.prog 32 #[u, .int .i64 e] W (RatRes W PN PD PC)) ∧
   (∀ W u, RQV W u N D → Calls Tryz.prog 33 #[u, .int .i64 e] W (RQRes W PN PD PC)) := by
 have u4 : 4 ≤ 100 := by decide
 by_cases h0 : 0 ≤ e
 ·obtain ⟨k, rfl⟩ : ∃ k : Nat, e = (k : Int) := ⟨e.toNat, by omega⟩
  have s1 : k ≤ 20 ∨ N.natAbs ≤ 1 := by omega
  have s2 : k ≤ 20 ∨ D.natAbs ≤ 1 := by omega
  exact ⟨N ^ k, D ^ k, 0, Int.pow_pos hl.1, pow_bdS bN s1, pow_bdS bD s2,
   fun W u h => ratPower_pos N D k (by omega) hl.1 (bN.up u4) (bD.up u4) (pow_len bN s1) (pow_len bD s2) u W h,
   fun W u h => rqPower_pos N D k (by omega) (hs_bl s1) (hs_bl s2) bN bD u W h⟩
 ·by_cases hn : N = 0
  ·exact ⟨0, 1, 6, by decide, Bd.up Bd.zero (by decide), Bd.up (show Bd 1 1 from by unfold Bd; decide) (by decide),
    fun W u h => ratPower_zero N D e (by omega) hn hl.1 (bD.up u4) u W h,
    fun W u h => rqPower_zero N D e (by omega) hn u W h⟩
  ·have hq := (q_low D N hn).1
   have a1 : Bd 4 (qn D N) := bd_qn bD
   have a2 : Bd 4 (qd D N) := bd_qd bN
   have c1 := qn_abs (a := D) (b := N)
   have c2 := qd_abs (a := D) (b := N)
   obtain ⟨k1, hk1⟩ : ∃ k : Nat, (k : Int) = if e = -9223372036854775808 then 9223372036854775806 else -e := ⟨(if e = -9223372036854775808 then 9223372036854775806 else -e : Int).toNat, by split <;> omega⟩
   have hk1' : 0 < k1 ∧ k1 < 9223372036854775808 ∧ (e.natAbs ≤ 20 → k1 ≤ 20) ∧ (-1099511627776 ≤ e → (k1 : Int) = -e) ∧ k1 % 2 = e.natAbs % 2 := by split at hk1 <;> omega
   have s1 : k1 ≤ 20 ∨ (qn D N).natAbs ≤ 1 := by omega
   have s2 : k1 ≤ 20 ∨ (qd D N).natAbs ≤ 1 := by omega
   refine ⟨qn D N ^ k1, qd D N ^ k1, 0, Int.pow_pos hq.1, pow_bdS a1 s1, pow_bdS a2 s2,
    fun W u h => ratPower_neg N D e k1 (by omega) e1 hk1 hn hl.1 (bN.up u4) (bD.up u4) (pow_len a1 s1) (pow_len a2 s2) u W h, fun W u h => ?_⟩
   by_cases hb : -1099511627776 ≤ e
   ·exact rqPower_neg N D e k1 (by omega) hb (hk1'.2.2.2.1 hb) (hs_bl s1) (hs_bl s2) hn bN bD u W h
   ·have t1 := Int.tmod_lt_of_pos e (show (0 : Int) < 2 by decide)
    have t2 := Int.lt_tmod_of_pos e (show (0 : Int) < 2 by decide)
    have t3 := Int.mul_tdiv_add_tmod e 2
    obtain ⟨k2, hk2⟩ : ∃ k : Nat, (k : Int) = -(-1099511627776 + e.tmod 2) := ⟨(-(-1099511627776 + e.tmod 2)).toNat, by omega⟩
    have v1 : (qn D N).natAbs ≤ 1 := by omega
    have v2 : (qd D N).natAbs ≤ 1 := by omega
    have p1 : k1 % 2 = k2 % 2 := by
     generalize e.tdiv 2 = q at *
     generalize e.tmod 2 = t at *
     omega
    have h3 := rqPower_big N D e k2 (by omega) e1 hk2 (bl_unit v1) (bl_unit v2) hn bN bD u W h
    rw [unit_pow v1 (k1 := k1) (k2 := k2) (by omega) (by omega) p1, unit_pow v2 (k1 := k1) (k2 := k2) (by omega) (by omega) p1]
    exact h3
theorem root_both (N D : Int) (hd : 0 < D) (bN : Bd 4 N) (bD : Bd 4 D) :
  ∃ PN PD PC : Int, 0 < PD ∧ Bd 100 PN ∧ Bd 100 PD ∧ (∀ W u, RatV W u N D → Calls Tryz.prog 34 #[u] W (RatRes W PN PD PC)) ∧
   (∀ W u, RQV W u N D → Calls Tryz.prog 35 #[u] W (RQRes W PN PD PC)) := by
 obtain ⟨rn, hr⟩ := root_ex N.natAbs
 obtain ⟨rd, hr2⟩ := root_ex D.natAbs
 have bN' : Bd 100 ((N.natAbs : Nat) : Int) := by have h := bN.up (show 4 ≤ 100 by decide); unfold Bd at *; omega
 have bD' : Bd 100 ((D.natAbs : Nat) : Int) := by have h := bD.up (show 4 ≤ 100 by decide); unfold Bd at *; omega
 have b1 : Bd 100 (rn : Int) := root_bdS bN' hr.1
 have b2 : Bd 100 (rd : Int) := root_bdS bD' hr2.1
 have z0 : Bd 100 (0 : Int) := Bd.up Bd.zero (by decide)
 have z1 : Bd 100 (1 : Int) := Bd.up (show Bd 1 1 from by unfold Bd; decide) (by decide)
 refine ⟨rtN N D rn rd, rtD N D rn rd, rtC N D rn rd, ?_, ?_, ?_, fun W u h => ratRoot_any N D rn rd u W hd hr hr2 (bN.up (by decide)) (bD.up (by decide)) h, fun W u h => rqRoot_any N D rn rd u W hd hr hr2 (bN.up (by decide)) (bD.up (by decide)) h⟩
 ·unfold rtD
  split
  ·decide
  ·split
   ·next h =>
    rcases Nat.eq_zero_or_pos rd with h0 | h0
    ·have := h.2; rw [h0] at this; omega
    ·omega
   ·decide
 ·unfold rtN
  split
  ·exact z0
  ·split
   ·exact b1
   ·exact z0
 ·unfold rtD
  split
  ·exact z1
  ·split
   ·exact b2
   ·exact z1
theorem len_gt1 {x : Int} (h : decide (((lenZ x : Nat) : Int) > 1) = false) (h0 : 0 ≤ x) : x.natAbs ≤ 1 := by
 have h1 := of_decide_eq_false h
 have h2 : lenZ x ≤ 1 := by omega
 unfold lenZ at h2
 have h3 : ¬ x < 0 := by omega
 simp only [h3, if_false] at h2
 have := bl_le_iff.1 h2
 omega
set_option maxHeartbeats 40000000 in
set_option maxRecDepth 100000 in
theorem racts_any (b0 b1 b2 b3 : Bool) (a0 a1 a2 a3 : Option Addr) (c0 c1 c2 c3 : Nat) (l0 l1 l2 l3 : List Nat) (n : Int) (hn : -9223372036854775808 ≤ n ∧ n < 9223372036854775808) (w : World) (h0 : NArg w a0 c0 l0) (h1 : NArg w a1 c1 l1) (h2 : NArg w a2 c2 l2) (h3 : NArg w a3 c3 l3) :
  Calls Tryz.prog 4 #[.agg #[.bool b0, .slice a0 l0.length c0, .bool b1, .slice a1 l1.length c1], .agg #[.bool b2, .slice a2 l2.length c2, .bool b3, .slice a3 l3.length c3], .int .i64 n] w (BoolPost w true) := by
 have HAW := Lib.hid fun W => Lib.hid (awake3_any W)
 have HA0 := Lib.hid h0
 have HA1 := Lib.hid h1
 have HA2 := Lib.hid h2
 have HA3 := Lib.hid h3
 clear h0 h1 h2 h3
 go_enter Tryz.func4, Tryz.ntmps4
 have HE0 := Lib.hid (enterA2 (t := 26) w (.bool b0) (.slice a0 l0.length c0) (.bool b1) (.slice a1 l1.length c1) (.bool b2) (.slice a2 l2.length c2) (.bool b3) (.slice a3 l3.length c3))
 have HS1 := Lib.hid (qshort2_4 b0 b1 b2 b3 a0 a1 a2 a3 l0.length l1.length l2.length l3.length c0 c1 c2 c3 ((w.alloc (.cells #[.bool b0, .slice a0 l0.length c0, .bool b1, .slice a1 l1.length c1] 26)).alloc (.cells #[.bool b2, .slice a2 l2.length c2, .bool b3, .slice a3 l3.length c3] 26)) (w.heap.size + 1 + 1) (by simp) HA0.out.mx HA1.out.mx HA2.out.mx HA3.out.mx)
 go_wp2_with fail
 (with_reducible refine HS1.out.mono ?_)
 rintro e w1 ⟨rfl, hb1⟩
 have hb1' := ((Below.refl _ _).alloc (Nat.le_refl _) (.cells #[.bool b0, .slice a0 l0.length c0, .bool b1, .slice a1 l1.length c1, .bool b2, .slice a2 l2.length c2, .bool b3, .slice a3 l3.length c3] 26)).trans (hb1.mono (by simp))
 have HE : Hid (C4 (w.heap.size) (.bool b0) (.slice a0 l0.length c0) (.bool b1) (.slice a1 l1.length c1) w1 ∧ C4 (w.heap.size + 1) (.bool b2) (.slice a2 l2.length c2) (.bool b3) (.slice a3 l3.length c3) w1 ∧ Below w.heap.size w w1) := Lib.hid ⟨HE0.out.1.keep hb1', HE0.out.2.1.keep hb1', HE0.out.2.2.trans (hb1'.mono HE0.out.2.2.size)⟩
 clear hb1 hb1' HE0 HS1
 cases hall : qsLe [(l0.length, l1.length), (l2.length, l3.length)] 4 with
 | false =>
  clear hall
  go_wp2_with fail
  (with_reducible refine (HAW.out _).out.mono ?_)
  rintro e w2 ⟨rfl, hb2⟩
  go_wp2
  go_ret
  exact ⟨rfl, HE.out.2.2.trans (hb2.mono HE.out.2.2.size)⟩
 | true =>
  obtain ⟨hle0, hle1, hle2, hle3⟩ := qsLe2 hall
  clear hall
  have HQ0 := Lib.hid fun W hw => Lib.hid (qOf_any b0 b1 a0 a1 c0 c1 l0 l1 W (by omega) (by omega) (HA0.out.keep (w' := W) hw) (HA1.out.keep (w' := W) hw))
  have HQ1 := Lib.hid fun W hw => Lib.hid (qOf_any b2 b3 a2 a3 c2 c3 l2 l3 W (by omega) (by omega) (HA2.out.keep (w' := W) hw) (HA3.out.keep (w' := W) hw))
  have k0 : Bd 4 (nz (b0, l0)) := nz_bdq hle0 HA0.out.lt
  have k1 : Bd 4 (nz (b1, l1)) := nz_bdq hle1 HA1.out.lt
  have k2 : Bd 4 (nz (b2, l2)) := nz_bdq hle2 HA2.out.lt
  have k3 : Bd 4 (nz (b3, l3)) := nz_bdq hle3 HA3.out.lt
  clear hle0 hle1 hle2 hle3 HA0 HA1 HA2 HA3
  generalize nz (b0, l0) = x0 at *
  generalize nz (b1, l1) = x1 at *
  generalize nz (b2, l2) = x2 at *
  generalize nz (b3, l3) = x3 at *
  generalize l0.length = o0 at *
  generalize l1.length = o1 at *
  generalize l2.length = o2 at *
  generalize l3.length = o3 at *
  have lw0 : Low (if x1 = 0 then x0 else qn x0 x1) (if x1 = 0 then (1 : Int) else qd x0 x1) := ifq_low
  have bn0 : Bd 4 (if x1 = 0 then x0 else qn x0 x1) := ifq_n k0 k0
  have bd0 : Bd 4 (if x1 = 0 then (1 : Int) else qd x0 x1) := ifq_d k1
  have lw1 : Low (if x3 = 0 then x2 else qn x2 x3) (if x3 = 0 then (1 : Int) else qd x2 x3) := ifq_low
  have bn1 : Bd 4 (if x3 = 0 then x2 else qn x2 x3) := ifq_n k2 k2
  have bd1 : Bd 4 (if x3 = 0 then (1 : Int) else qd x2 x3) := ifq_d k3
  generalize (if x1 = 0 then x0 else qn x0 x1) = N0 at *
  generalize (if x1 = 0 then (1 : Int) else qd x0 x1) = D0 at *
  generalize (if x3 = 0 then x2 else qn x2 x3) = N1 at *
  generalize (if x3 = 0 then (1 : Int) else qd x2 x3) = D1 at *
  clear k0 k1 k2 k3
  have N_3_4 := Lib.hid (show w.heap.size ≠ w.heap.size + 1 by omega)
  have G_3 := Lib.hid (show w.heap.size ≤ w.heap.size by omega)
  have G_4 := Lib.hid (show w.heap.size ≤ w.heap.size + 1 by omega)
  have E0 := Lib.hid (enters_of Tryz.func18 (by kernel_rfl))
  have E1 := Lib.hid (enters_of Tryz.func19 (by kernel_rfl))
  have E2 := Lib.hid (enters_of Tryz.func14 (by kernel_rfl))
  have E3 := Lib.hid (enters_of Tryz.func30 (by kernel_rfl))
  have E4 := Lib.hid (enters_of Tryz.func32 (by kernel_rfl))
  have E5 := Lib.hid (enters_of Tryz.func34 (by kernel_rfl))
  have E6 := Lib.hid (enters_of Tryz.func36 (by kernel_rfl))
  have E7 := Lib.hid (enters_of Tryz.func38 (by kernel_rfl))
  have E8 := Lib.hid (enters_of Tryz.func40 (by kernel_rfl))
  have E9 := Lib.hid (enters_of Tryz.func42 (by kernel_rfl))
  have E10 := Lib.hid (enters_of Tryz.func44 (by kernel_rfl))
  have E11 := Lib.hid (enters_of Tryz.func31 (by kernel_rfl))
  have E12 := Lib.hid (enters_of Tryz.func33 (by kernel_rfl))
  have E13 := Lib.hid (enters_of Tryz.func35 (by kernel_rfl))
  have E14 := Lib.hid (enters_of Tryz.func37 (by kernel_rfl))
  have E15 := Lib.hid (enters_of Tryz.func39 (by kernel_rfl))
  have E16 := Lib.hid (enters_of Tryz.func41 (by kernel_rfl))
  have E17 := Lib.hid (enters_of Tryz.func43 (by kernel_rfl))
  have E18 := Lib.hid (enters_of Tryz.func45 (by kernel_rfl))
  have E19 := Lib.hid (enters_of Tryz.func29 (by kernel_rfl))
  have E20 := Lib.hid (enters_of Tryz.func28 (by kernel_rfl))
  go_upto_region 3 with fail
  have L3 := Lib.hid (And.intro (HE.out.1.lt) (And.intro (HE.out.2.1.lt) (trivial)))
  refine wp_region_fl 7 ((Fct.v (.agg #[(.bool b0), (.slice a0 o0 c0), (.bool b1), (.slice a1 o1 c1)])) :: (Fct.t2 (Fct.p (N0) (D0)) (Fct.q (N0) (D0))) :: (Fct.t2 (Fct.p (N0) (D0)) (Fct.q (N0) (D0))) :: (Fct.p (N0) (D0)) :: (Fct.q (N0) (D0)) :: (Fct.pb w1.heap.size) :: (Fct.qb w1.heap.size) :: []) (fun W => C4 (w.heap.size) (.bool b0) (.slice a0 o0 c0) (.bool b1) (.slice a1 o1 c1)  W ∧ C4 (w.heap.size + 1) (.bool b2) (.slice a2 o2 c2) (.bool b3) (.slice a3 o3 c3)  W ∧ Below w1.heap.size w1 W) (false :: false :: true :: true :: true :: false :: false :: []) (some 30 :: some 31 :: some 29 :: some 32 :: some 33 :: some 7 :: some 8 :: []) (fun _ _ h hb => ⟨h.1.keep hb, h.2.1.keep hb, Below.trans h.2.2 (hb.mono h.2.2.size)⟩) ⟨HE.out.1, HE.out.2.1, Below.refl _ _⟩ ?_ ?_
  ·refine so (step_ldA (p := (w.heap.size)) rfl (.inl rfl) Arg.od (fun _ h => h.1.c4) (fun _ _ => rfl)) ?_
   refine so (step_call1 E0.out rfl (.inl rfl) (Arg.t 0 rfl) (fun u w hS h1 => (by obtain rfl := (show _ = _ from h1); exact (HQ0.out w (Below.trans HE.out.2.2 (hS.2.2.mono HE.out.2.2.size))).out |>.mono fun e w' ⟨x0, x1, he, h1, h2, hb⟩ => ⟨_, he, ⟨_, _, rfl, h1, h2⟩, hb⟩))) ?_
   refine sy (sty_move rfl (.inl rfl) (Arg.t 1 rfl)) ?_
   refine sy (sty_ex20 (f := Fct.p (N0) (D0)) (g := Fct.q (N0) (D0)) rfl (.inl rfl) (Arg.t 2 rfl)) ?_
   refine sy (sty_ex21 (f := Fct.p (N0) (D0)) (g := Fct.q (N0) (D0)) rfl (.inl rfl) (Arg.t 2 rfl)) ?_
   refine sa (step_alP (B := w1.heap.size) rfl (.inl rfl) (fun _ h => h.2.2.size) (fun _ _ h => h)) ?_
   refine sa (step_alQ (B := w1.heap.size) rfl (.inl rfl) (fun _ h => h.2.2.size) (fun _ _ h => h)) ?_
   trivial
  intro v3 W3 hk hdf hs
  simp only [putV, Act.put, List.setIfInBounds_toArray, List.set_cons_zero, List.set_cons_succ, Nat.reduceAdd]
  have a_7 : (Fct.pb w1.heap.size).R (v3 5) W3 := hk 5 _ (by decide) rfl
  refine Fct.pb_elim a_7 ?_
  intro q_7 e_7 g_7 k_7
  have a_8 : (Fct.qb w1.heap.size).R (v3 6) W3 := hk 6 _ (by decide) rfl
  refine Fct.qb_elim a_8 ?_
  intro q_8 e_8 g_8 k_8
  have N_7_8 := Lib.hid (show q_7 ≠ q_8 from fun h => hdf 5 6 _ _ (by decide) (by decide) (by decide) rfl rfl rfl rfl (by rw [e_7, e_8, h]))
  have f_30 : v3 0 = .agg #[(.bool b0), (.slice a0 o0 c0), (.bool b1), (.slice a1 o1 c1)] := hk 0 _ (by decide) rfl
  have k_32 : (Fct.p (N0) (D0)).R (v3 3) W3 := hk 3 _ (by decide) rfl
  have k_33 : (Fct.q (N0) (D0)).R (v3 4) W3 := hk 4 _ (by decide) rfl
  clear hk hdf
  simp only [e_7, e_8, f_30]
  have B3_0 := Below.trans HE.out.2.2 (hs.2.2.mono HE.out.2.2.size)
  have N_3_7 := Lib.hid (Nat.ne_of_lt (Nat.lt_of_lt_of_le L3.out.1 g_7))
  have N_4_7 := Lib.hid (Nat.ne_of_lt (Nat.lt_of_lt_of_le L3.out.2.1 g_7))
  have G_7 := Lib.hid (show w.heap.size ≤ q_7 from Nat.le_trans HE.out.2.2.size g_7)
  have N_3_8 := Lib.hid (Nat.ne_of_lt (Nat.lt_of_lt_of_le L3.out.1 g_8))
  have N_4_8 := Lib.hid (Nat.ne_of_lt (Nat.lt_of_lt_of_le L3.out.2.1 g_8))
  have G_8 := Lib.hid (show w.heap.size ≤ q_8 from Nat.le_trans HE.out.2.2.size g_8)
  refine tail_stP (q := q_7) rfl rfl rfl rfl k_7 k_32 ?_
  intro W3_1 x7ds x7dt x7du x7dv n_7_1 s_7_1
  have m_3_1 := (hs.1).stq s_7_1 N_3_7.out
  have m_4_1 := (hs.2.1).stq s_7_1 N_4_7.out
  have m_8_1 := (k_8).stq s_7_1 (N_7_8.out.symm)
  have k_33_1 : (Fct.q (N0) (D0)).R _ _ := RQV.stq k_33 s_7_1
  have B3_1 := s_7_1.below w.heap.size w G_7.out B3_0
  refine tail_stQ (q := q_8) rfl rfl rfl rfl m_8_1 k_33_1 ?_
  intro W3_2 x8ds x8dt x8du x8dv n_8_2 s_8_2
  have m_3_2 := (m_3_1).stq s_8_2 N_3_8.out
  have m_4_2 := (m_4_1).stq s_8_2 N_4_8.out
  have m_7_2 := (n_7_1).stq s_8_2 N_7_8.out
  have B3_2 := s_8_2.below w.heap.size w G_8.out B3_1
  refine tail_nil ?_
  have HS3 := Lib.hid (And.intro (m_3_2) (And.intro (m_4_2) (And.intro (m_7_2) (And.intro (n_8_2) (B3_2)))))
  clear hs L3 HE B3_0 B3_1 B3_2 f_30 k_32 k_33 n_7_1 s_7_1 m_3_1 m_4_1 m_8_1 k_33_1 n_8_2 s_8_2 m_3_2 m_4_2 m_7_2 e_7 g_7 k_7 e_8 g_8 k_8 a_7 a_8
  go_upto_region 4 with fail
  have L4 := Lib.hid (And.intro (HS3.out.1.lt) (And.intro (HS3.out.2.1.lt) (And.intro (HS3.out.2.2.1.lt) (And.intro (HS3.out.2.2.2.1.lt) (trivial)))))
  refine wp_region_fl 7 ((Fct.v (.agg #[(.bool b2), (.slice a2 o2 c2), (.bool b3), (.slice a3 o3 c3)])) :: (Fct.t2 (Fct.p (N1) (D1)) (Fct.q (N1) (D1))) :: (Fct.t2 (Fct.p (N1) (D1)) (Fct.q (N1) (D1))) :: (Fct.p (N1) (D1)) :: (Fct.q (N1) (D1)) :: (Fct.pb W3_2.heap.size) :: (Fct.qb W3_2.heap.size) :: []) (fun W => C4 (w.heap.size) (.bool b0) (.slice a0 o0 c0) (.bool b1) (.slice a1 o1 c1)  W ∧ C4 (w.heap.size + 1) (.bool b2) (.slice a2 o2 c2) (.bool b3) (.slice a3 o3 c3)  W ∧ PX q_7 x7ds x7dt x7du x7dv (N0) (D0) W ∧ QX q_8 x8ds x8dt x8du x8dv (N0) (D0) W ∧ Below W3_2.heap.size W3_2 W) (false :: false :: true :: true :: true :: false :: false :: []) (some 35 :: some 36 :: some 34 :: some 37 :: some 38 :: some 9 :: some 10 :: []) (fun _ _ h hb => ⟨h.1.keep hb, h.2.1.keep hb, h.2.2.1.keep hb, h.2.2.2.1.keep hb, Below.trans h.2.2.2.2 (hb.mono h.2.2.2.2.size)⟩) ⟨HS3.out.1, HS3.out.2.1, HS3.out.2.2.1, HS3.out.2.2.2.1, Below.refl _ _⟩ ?_ ?_
  ·refine so (step_ldA (p := (w.heap.size + 1)) rfl (.inl rfl) Arg.od (fun _ h => h.2.1.c4) (fun _ _ => rfl)) ?_
   refine so (step_call1 E0.out rfl (.inl rfl) (Arg.t 0 rfl) (fun u w hS h1 => (by obtain rfl := (show _ = _ from h1); exact (HQ1.out w (Below.trans HS3.out.2.2.2.2 (hS.2.2.2.2.mono HS3.out.2.2.2.2.size))).out |>.mono fun e w' ⟨x0, x1, he, h1, h2, hb⟩ => ⟨_, he, ⟨_, _, rfl, h1, h2⟩, hb⟩))) ?_
   refine sy (sty_move rfl (.inl rfl) (Arg.t 1 rfl)) ?_
   refine sy (sty_ex20 (f := Fct.p (N1) (D1)) (g := Fct.q (N1) (D1)) rfl (.inl rfl) (Arg.t 2 rfl)) ?_
   refine sy (sty_ex21 (f := Fct.p (N1) (D1)) (g := Fct.q (N1) (D1)) rfl (.inl rfl) (Arg.t 2 rfl)) ?_
   refine sa (step_alP (B := W3_2.heap.size) rfl (.inl rfl) (fun _ h => h.2.2.2.2.size) (fun _ _ h => h)) ?_
   refine sa (step_alQ (B := W3_2.heap.size) rfl (.inl rfl) (fun _ h => h.2.2.2.2.size) (fun _ _ h => h)) ?_
   trivial
  intro v4 W4 hk hdf hs
  simp only [putV, Act.put, List.setIfInBounds_toArray, List.set_cons_zero, List.set_cons_succ, Nat.reduceAdd]
  have a_9 : (Fct.pb W3_2.heap.size).R (v4 5) W4 := hk 5 _ (by decide) rfl
  refine Fct.pb_elim a_9 ?_
  intro q_9 e_9 g_9 k_9
  have a_10 : (Fct.qb W3_2.heap.size).R (v4 6) W4 := hk 6 _ (by decide) rfl
  refine Fct.qb_elim a_10 ?_
  intro q_10 e_10 g_10 k_10
  have N_9_10 := Lib.hid (show q_9 ≠ q_10 from fun h => hdf 5 6 _ _ (by decide) (by decide) (by decide) rfl rfl rfl rfl (by rw [e_9, e_10, h]))
  have f_35 : v4 0 = .agg #[(.bool b2), (.slice a2 o2 c2), (.bool b3), (.slice a3 o3 c3)] := hk 0 _ (by decide) rfl
  have k_37 : (Fct.p (N1) (D1)).R (v4 3) W4 := hk 3 _ (by decide) rfl
  have k_38 : (Fct.q (N1) (D1)).R (v4 4) W4 := hk 4 _ (by decide) rfl
  clear hk hdf
  simp only [e_9, e_10, f_35]
  have B4_0 := Below.trans HS3.out.2.2.2.2 (hs.2.2.2.2.mono HS3.out.2.2.2.2.size)
  have N_3_9 := Lib.hid (Nat.ne_of_lt (Nat.lt_of_lt_of_le L4.out.1 g_9))
  have N_4_9 := Lib.hid (Nat.ne_of_lt (Nat.lt_of_lt_of_le L4.out.2.1 g_9))
  have N_7_9 := Lib.hid (Nat.ne_of_lt (Nat.lt_of_lt_of_le L4.out.2.2.1 g_9))
  have N_8_9 := Lib.hid (Nat.ne_of_lt (Nat.lt_of_lt_of_le L4.out.2.2.2.1 g_9))
  have G_9 := Lib.hid (show w.heap.size ≤ q_9 from Nat.le_trans HS3.out.2.2.2.2.size g_9)
  have N_3_10 := Lib.hid (Nat.ne_of_lt (Nat.lt_of_lt_of_le L4.out.1 g_10))
  have N_4_10 := Lib.hid (Nat.ne_of_lt (Nat.lt_of_lt_of_le L4.out.2.1 g_10))
  have N_7_10 := Lib.hid (Nat.ne_of_lt (Nat.lt_of_lt_of_le L4.out.2.2.1 g_10))
  have N_8_10 := Lib.hid (Nat.ne_of_lt (Nat.lt_of_lt_of_le L4.out.2.2.2.1 g_10))
  have G_10 := Lib.hid (show w.heap.size ≤ q_10 from Nat.le_trans HS3.out.2.2.2.2.size g_10)
  refine tail_stP (q := q_9) rfl rfl rfl rfl k_9 k_37 ?_
  intro W4_1 x9es x9et x9eu x9ev n_9_1 s_9_1
  have m_3_1 := (hs.1).stq s_9_1 N_3_9.out
  have m_4_1 := (hs.2.1).stq s_9_1 N_4_9.out
  have m_7_1 := (hs.2.2.1).stq s_9_1 N_7_9.out
  have m_8_1 := (hs.2.2.2.1).stq s_9_1 N_8_9.out
  have m_10_1 := (k_10).stq s_9_1 (N_9_10.out.symm)
  have k_38_1 : (Fct.q (N1) (D1)).R _ _ := RQV.stq k_38 s_9_1
  have B4_1 := s_9_1.below w.heap.size w G_9.out B4_0
  refine tail_stQ (q := q_10) rfl rfl rfl rfl m_10_1 k_38_1 ?_
  intro W4_2 x10es x10et x10eu x10ev n_10_2 s_10_2
  have m_3_2 := (m_3_1).stq s_10_2 N_3_10.out
  have m_4_2 := (m_4_1).stq s_10_2 N_4_10.out
  have m_7_2 := (m_7_1).stq s_10_2 N_7_10.out
  have m_8_2 := (m_8_1).stq s_10_2 N_8_10.out
  have m_9_2 := (n_9_1).stq s_10_2 N_9_10.out
  have B4_2 := s_10_2.below w.heap.size w G_10.out B4_1
  refine tail_nil ?_
  have HS4 := Lib.hid (And.intro (m_7_2) (And.intro (m_8_2) (And.intro (m_9_2) (And.intro (n_10_2) (B4_2)))))
  clear hs L4 HS3 B4_0 B4_1 B4_2 f_35 k_37 k_38 n_9_1 s_9_1 m_3_1 m_4_1 m_7_1 m_8_1 m_10_1 k_38_1 n_10_2 s_10_2 m_3_2 m_4_2 m_7_2 m_8_2 m_9_2 e_9 g_9 k_9 e_10 g_10 k_10 a_9 a_10
  clear HQ0 HQ1
  have HAB := Lib.hid fun W u h => Lib.hid (rAbs_any N0 u W h)
  have HL1 := Lib.hid fun W u h => Lib.hid (rLength_any ((N0.natAbs : Nat) : Int) u W (rlen_bd (show Bd 4 ((N0.natAbs : Nat) : Int) from by unfold Bd at *; omega) (by decide)) h)
  have HL2 := Lib.hid fun W u h => Lib.hid (rLength_any D0 u W (rlen_bd bd0 (by decide)) h)
  have hE : ∃ c : Bool, ∃ e : Int, c = ((decide (n > 20) || decide (n < -20)) && (decide (((lenZ ((N0.natAbs : Nat) : Int) : Nat) : Int) > 1) || decide (((lenZ D0 : Nat) : Int) > 1))) ∧ e = (if c = true then n.tmod 20 else n) ∧ (-9223372036854775808 ≤ e ∧ e < 9223372036854775808) ∧ (e.natAbs ≤ 20 ∨ (N0.natAbs ≤ 1 ∧ D0.natAbs ≤ 1)) := by
   refine ⟨_, _, rfl, rfl, ?_, ?_⟩
   ·split
    ·have h1 := Int.tmod_lt_of_pos n (show (0 : Int) < 20 by decide)
     have h2 := Int.lt_tmod_of_pos n (show (0 : Int) < 20 by decide)
     omega
    ·exact hn
   ·split
    ·have h1 := Int.tmod_lt_of_pos n (show (0 : Int) < 20 by decide)
     have h2 := Int.lt_tmod_of_pos n (show (0 : Int) < 20 by decide)
     left; omega
    ·next h =>
     rw [Bool.and_eq_true, Bool.or_eq_true, Bool.or_eq_true, decide_eq_true_eq, decide_eq_true_eq] at h
     by_cases h1 : n > 20 ∨ n < -20
     ·right
      have h2 : ¬ (decide (((lenZ ((N0.natAbs : Nat) : Int) : Nat) : Int) > 1) = true ∨ decide (((lenZ D0 : Nat) : Int) > 1) = true) := fun h3 => h ⟨h1, h3⟩
      rw [not_or, Bool.not_eq_true, Bool.not_eq_true] at h2
      have h4 := len_gt1 h2.1 (by omega)
      have h5 := len_gt1 h2.2 (by have := lw0.1; omega)
      omega
     ·left; omega
  obtain ⟨c, e, hc, he, hE1, hE2⟩ := hE
  have HC := Lib.hid hc
  have HE2 := Lib.hid he
  clear hc he
  go_upto_region 5 with fail
  go_cut [57] from 39 to 57 (fun s57 wx => s57 = .bool c ∧ PX q_7 x7ds x7dt x7du x7dv (N0) (D0) wx ∧ QX q_8 x8ds x8dt x8du x8dv (N0) (D0) wx ∧ PX q_9 x9es x9et x9eu x9ev (N1) (D1) wx ∧ QX q_10 x10es x10et x10eu x10ev (N1) (D1) wx ∧ Below w.heap.size w wx)
  case first =>
   cases h1 : decide (n > 20)
   ·have h20 := Lib.hid (show false = decide (n > 20) from h1.symm)
    cases h2 : decide (n < -20)
    ·have hm20 := Lib.hid (show false = decide (n < -20) from h2.symm)
     obtain rfl : c = false := by rw [HC.out]; simp [← h20.out, ← hm20.out]
     go_upto_region 5 with fail
     refine wp_region_fl 19 ((Fct.v (.int .i64 n)) :: (Fct.v (.bool (false))) :: (Fct.v (.bool (false))) :: (Fct.v (.int .i64 n)) :: (Fct.v (.bool (false))) :: (Fct.v (.bool (false))) :: (Fct.v (.bool (false))) :: (Fct.v (undef)) :: (Fct.v (undef)) :: (Fct.v (undef)) :: (Fct.v (undef)) :: (Fct.v (undef)) :: (Fct.v (undef)) :: (Fct.v (undef)) :: (Fct.v (undef)) :: (Fct.v (undef)) :: (Fct.v (undef)) :: (Fct.v (undef)) :: (Fct.v (.bool (false))) :: []) (fun W => PX q_7 x7ds x7dt x7du x7dv (N0) (D0) W ∧ QX q_8 x8ds x8dt x8du x8dv (N0) (D0) W ∧ PX q_9 x9es x9et x9eu x9ev (N1) (D1) W ∧ QX q_10 x10es x10et x10eu x10ev (N1) (D1) W ∧ Below W4_2.heap.size W4_2 W) (true :: true :: true :: true :: true :: true :: true :: true :: true :: true :: true :: true :: true :: true :: true :: true :: true :: true :: true :: []) (some 39 :: some 40 :: some 41 :: some 42 :: some 43 :: some 44 :: some 45 :: some 46 :: some 47 :: some 48 :: some 49 :: some 50 :: some 51 :: some 52 :: some 53 :: some 54 :: some 55 :: some 56 :: some 57 :: []) (fun _ _ h hb => ⟨h.1.keep hb, h.2.1.keep hb, h.2.2.1.keep hb, h.2.2.2.1.keep hb, Below.trans h.2.2.2.2 (hb.mono h.2.2.2.2.size)⟩) ⟨HS4.out.1, HS4.out.2.1, HS4.out.2.2.1, HS4.out.2.2.2.1, Below.refl _ _⟩ ?_ ?_
     ·refine sy (sty_move rfl (.inl rfl) Arg.od) ?_
      refine sy (sty_gtr (b := (false)) (h20.out) rfl (.inl rfl) (Arg.t 0 rfl) (Arg.const _)) ?_
      refine sy (sty_move rfl (.inl rfl) (Arg.t 1 rfl)) ?_
      refine sy (sty_move rfl (.inr ⟨2, false, _, rfl, rfl, by kernel_rfl, fun _ _ h => h⟩) Arg.od) ?_
      refine sy (sty_lss (b := (false)) (hm20.out) rfl (.inr ⟨2, false, _, rfl, rfl, by kernel_rfl, fun _ _ h => h⟩) (Arg.t 3 rfl) (Arg.const _)) ?_
      refine sy (sty_pickF rfl (.inl rfl) (Arg.t 2 rfl) (Arg.t 4 rfl)) ?_
      refine sy (sty_move rfl (.inl rfl) (Arg.t 5 rfl)) ?_
      refine sy (sty_un (b := true) rfl rfl (by kernel_rfl) (fun _ _ h => h) (fun _ => rfl)) ?_
      refine sy (sty_un (b := true) rfl rfl (by kernel_rfl) (fun _ _ h => h) (fun _ => rfl)) ?_
      refine sy (sty_un (b := true) rfl rfl (by kernel_rfl) (fun _ _ h => h) (fun _ => rfl)) ?_
      refine sy (sty_un (b := true) rfl rfl (by kernel_rfl) (fun _ _ h => h) (fun _ => rfl)) ?_
      refine sy (sty_un (b := true) rfl rfl (by kernel_rfl) (fun _ _ h => h) (fun _ => rfl)) ?_
      refine sy (sty_un (b := true) rfl rfl (by kernel_rfl) (fun _ _ h => h) (fun _ => rfl)) ?_
      refine sy (sty_unU (b := false) rfl rfl (by kernel_rfl) (fun _ _ h => h) (fun _ => rfl)) ?_
      refine sy (sty_unU (b := false) rfl rfl (by kernel_rfl) (fun _ _ h => h) (fun _ => rfl)) ?_
      refine sy (sty_unU (b := false) rfl rfl (by kernel_rfl) (fun _ _ h => h) (fun _ => rfl)) ?_
      refine sy (sty_unU (b := false) rfl rfl (by kernel_rfl) (fun _ _ h => h) (fun _ => rfl)) ?_
      refine sy (sty_un (b := true) rfl rfl (by kernel_rfl) (fun _ _ h => h) (fun _ => rfl)) ?_
      refine sy (sty_pickF rfl (.inl rfl) (Arg.t 6 rfl) (Arg.const _)) ?_
      trivial
     intro v5 W5 hk hdf hs
     simp only [putV, Act.put, List.setIfInBounds_toArray, List.set_cons_zero, List.set_cons_succ, Nat.reduceAdd]
     have f_39 : v5 0 = .int .i64 n := hk 0 _ (by decide) rfl
     have f_40 : v5 1 = .bool (false) := hk 1 _ (by decide) rfl
     have f_41 : v5 2 = .bool (false) := hk 2 _ (by decide) rfl
     have f_42 : v5 3 = .int .i64 n := hk 3 _ (by decide) rfl
     have f_43 : v5 4 = .bool (false) := hk 4 _ (by decide) rfl
     have f_44 : v5 5 = .bool (false) := hk 5 _ (by decide) rfl
     have f_45 : v5 6 = .bool (false) := hk 6 _ (by decide) rfl
     have f_46 : v5 7 = undef := hk 7 _ (by decide) rfl
     have f_47 : v5 8 = undef := hk 8 _ (by decide) rfl
     have f_48 : v5 9 = undef := hk 9 _ (by decide) rfl
     have f_49 : v5 10 = undef := hk 10 _ (by decide) rfl
     have f_50 : v5 11 = undef := hk 11 _ (by decide) rfl
     have f_51 : v5 12 = undef := hk 12 _ (by decide) rfl
     have f_52 : v5 13 = undef := hk 13 _ (by decide) rfl
     have f_53 : v5 14 = undef := hk 14 _ (by decide) rfl
     have f_54 : v5 15 = undef := hk 15 _ (by decide) rfl
     have f_55 : v5 16 = undef := hk 16 _ (by decide) rfl
     have f_56 : v5 17 = undef := hk 17 _ (by decide) rfl
     have f_57 : v5 18 = .bool (false) := hk 18 _ (by decide) rfl
     clear hk hdf
     simp only [f_39, f_40, f_41, f_42, f_43, f_44, f_45, f_46, f_47, f_48, f_49, f_50, f_51, f_52, f_53, f_54, f_55, f_56, f_57]
     have B5_0 := Below.trans HS4.out.2.2.2.2 (hs.2.2.2.2.mono HS4.out.2.2.2.2.size)
     refine tail_nil ?_
     have HS5 := Lib.hid (And.intro (hs.1) (And.intro (hs.2.1) (And.intro (hs.2.2.1) (And.intro (hs.2.2.2.1) (B5_0)))))
     clear hs HS4 B5_0 f_39 f_40 f_41 f_42 f_43 f_44 f_45 f_46 f_47 f_48 f_49 f_50 f_51 f_52 f_53 f_54 f_55 f_56 f_57
     go_wp2_with fail
     go_meet
     exact ⟨rfl, HS5.out⟩
    ·have hm20 := Lib.hid (show true = decide (n < -20) from h2.symm)
     cases hN : decide (((lenZ ((N0.natAbs : Nat) : Int) : Nat) : Int) > 1)
     ·have hlN := Lib.hid (show false = decide (((lenZ ((N0.natAbs : Nat) : Int) : Nat) : Int) > 1) from hN.symm)
      cases hD : decide (((lenZ D0 : Nat) : Int) > 1)
      ·have hlD := Lib.hid (show false = decide (((lenZ D0 : Nat) : Int) > 1) from hD.symm)
       obtain rfl : c = false := by rw [HC.out]; simp [← h20.out, ← hm20.out, ← hlN.out, ← hlD.out]
       go_upto_region 5 with fail
       refine wp_region_fl 19 ((Fct.v (.int .i64 n)) :: (Fct.v (.bool (false))) :: (Fct.v (.bool (false))) :: (Fct.v (.int .i64 n)) :: (Fct.v (.bool (true))) :: (Fct.v (.bool (true))) :: (Fct.v (.bool (true))) :: (Fct.v (.pointer (some ⟨q_8, 0, none⟩))) :: (Fct.r (N0)) :: (Fct.r (((N0.natAbs : Nat) : Int))) :: (Fct.v (.int .i64 ((lenZ ((N0.natAbs : Nat) : Int) : Nat) : Int))) :: (Fct.v (.bool (false))) :: (Fct.v (.bool (false))) :: (Fct.v (.pointer (some ⟨q_8, 2, none⟩))) :: (Fct.r (D0)) :: (Fct.v (.int .i64 ((lenZ D0 : Nat) : Int))) :: (Fct.v (.bool (false))) :: (Fct.v (.bool (false))) :: (Fct.v (.bool (false))) :: []) (fun W => PX q_7 x7ds x7dt x7du x7dv (N0) (D0) W ∧ QX q_8 x8ds x8dt x8du x8dv (N0) (D0) W ∧ PX q_9 x9es x9et x9eu x9ev (N1) (D1) W ∧ QX q_10 x10es x10et x10eu x10ev (N1) (D1) W ∧ Below W4_2.heap.size W4_2 W) (true :: true :: true :: true :: true :: true :: true :: true :: false :: false :: false :: true :: true :: true :: false :: false :: true :: true :: true :: []) (some 39 :: some 40 :: some 41 :: some 42 :: some 43 :: some 44 :: some 45 :: some 46 :: some 47 :: some 48 :: some 49 :: some 50 :: some 51 :: some 52 :: some 53 :: some 54 :: some 55 :: some 56 :: some 57 :: []) (fun _ _ h hb => ⟨h.1.keep hb, h.2.1.keep hb, h.2.2.1.keep hb, h.2.2.2.1.keep hb, Below.trans h.2.2.2.2 (hb.mono h.2.2.2.2.size)⟩) ⟨HS4.out.1, HS4.out.2.1, HS4.out.2.2.1, HS4.out.2.2.2.1, Below.refl _ _⟩ ?_ ?_
       ·refine sy (sty_move rfl (.inl rfl) Arg.od) ?_
        refine sy (sty_gtr (b := (false)) (h20.out) rfl (.inl rfl) (Arg.t 0 rfl) (Arg.const _)) ?_
        refine sy (sty_move rfl (.inl rfl) (Arg.t 1 rfl)) ?_
        refine sy (sty_move rfl (.inr ⟨2, false, _, rfl, rfl, by kernel_rfl, fun _ _ h => h⟩) Arg.od) ?_
        refine sy (sty_lss (b := (true)) (hm20.out) rfl (.inr ⟨2, false, _, rfl, rfl, by kernel_rfl, fun _ _ h => h⟩) (Arg.t 3 rfl) (Arg.const _)) ?_
        refine sy (sty_pickF rfl (.inl rfl) (Arg.t 2 rfl) (Arg.t 4 rfl)) ?_
        refine sy (sty_move rfl (.inl rfl) (Arg.t 5 rfl)) ?_
        refine sy (sty_faQ0 (p := q_8) rfl (.inr ⟨6, true, _, rfl, rfl, by kernel_rfl, fun _ _ h => h⟩) Arg.od) ?_
        refine so (step_ldR0 (b := q_8) rfl (.inr ⟨6, true, _, rfl, rfl, by kernel_rfl, fun _ _ h => h⟩) (Arg.t 7 rfl) (fun _ h => ⟨h.2.1.c0, h.2.1.c1⟩) (fun _ h => h.2.1.n)) ?_
        refine so (step_call1 E19.out rfl (.inr ⟨6, true, _, rfl, rfl, by kernel_rfl, fun _ _ h => h⟩) (Arg.t 8 rfl) (fun u w _ h1 => (HAB.out _ _ h1).out)) ?_
        refine so (step_call1 E20.out rfl (.inr ⟨6, true, _, rfl, rfl, by kernel_rfl, fun _ _ h => h⟩) (Arg.t 9 rfl) (fun u w _ h1 => (HL1.out _ _ h1).out.mono fun e w' h => ⟨_, h.1, rfl, h.2⟩)) ?_
        refine sy (sty_gtr (b := (false)) (hlN.out) rfl (.inr ⟨6, true, _, rfl, rfl, by kernel_rfl, fun _ _ h => h⟩) (Arg.t 10 rfl) (Arg.const _)) ?_
        refine sy (sty_move rfl (.inr ⟨6, true, _, rfl, rfl, by kernel_rfl, fun _ _ h => h⟩) (Arg.t 11 rfl)) ?_
        refine sy (sty_faQ1 (p := q_8) rfl (.inr ⟨12, false, _, rfl, rfl, by kernel_rfl, fun _ _ h => h⟩) Arg.od) ?_
        refine so (step_ldR2 (b := q_8) rfl (.inr ⟨12, false, _, rfl, rfl, by kernel_rfl, fun _ _ h => h⟩) (Arg.t 13 rfl) (fun _ h => ⟨h.2.1.c2, h.2.1.c3⟩) (fun _ h => h.2.1.d)) ?_
        refine so (step_call1 E20.out rfl (.inr ⟨12, false, _, rfl, rfl, by kernel_rfl, fun _ _ h => h⟩) (Arg.t 14 rfl) (fun u w _ h1 => (HL2.out _ _ h1).out.mono fun e w' h => ⟨_, h.1, rfl, h.2⟩)) ?_
        refine sy (sty_gtr (b := (false)) (hlD.out) rfl (.inr ⟨12, false, _, rfl, rfl, by kernel_rfl, fun _ _ h => h⟩) (Arg.t 15 rfl) (Arg.const _)) ?_
        refine sy (sty_pickF rfl (.inr ⟨6, true, _, rfl, rfl, by kernel_rfl, fun _ _ h => h⟩) (Arg.t 12 rfl) (Arg.t 16 rfl)) ?_
        refine sy (sty_pickT rfl (.inl rfl) (Arg.t 6 rfl) (Arg.t 17 rfl)) ?_
        trivial
       intro v5 W5 hk hdf hs
       simp only [putV, Act.put, List.setIfInBounds_toArray, List.set_cons_zero, List.set_cons_succ, Nat.reduceAdd]
       have f_39 : v5 0 = .int .i64 n := hk 0 _ (by decide) rfl
       have f_40 : v5 1 = .bool (false) := hk 1 _ (by decide) rfl
       have f_41 : v5 2 = .bool (false) := hk 2 _ (by decide) rfl
       have f_42 : v5 3 = .int .i64 n := hk 3 _ (by decide) rfl
       have f_43 : v5 4 = .bool (true) := hk 4 _ (by decide) rfl
       have f_44 : v5 5 = .bool (true) := hk 5 _ (by decide) rfl
       have f_45 : v5 6 = .bool (true) := hk 6 _ (by decide) rfl
       have f_49 : v5 10 = .int .i64 ((lenZ ((N0.natAbs : Nat) : Int) : Nat) : Int) := hk 10 _ (by decide) rfl
       have f_50 : v5 11 = .bool (false) := hk 11 _ (by decide) rfl
       have f_51 : v5 12 = .bool (false) := hk 12 _ (by decide) rfl
       have f_54 : v5 15 = .int .i64 ((lenZ D0 : Nat) : Int) := hk 15 _ (by decide) rfl
       have f_55 : v5 16 = .bool (false) := hk 16 _ (by decide) rfl
       have f_56 : v5 17 = .bool (false) := hk 17 _ (by decide) rfl
       have f_57 : v5 18 = .bool (false) := hk 18 _ (by decide) rfl
       clear hk hdf
       simp only [f_39, f_40, f_41, f_42, f_43, f_44, f_45, f_49, f_50, f_51, f_54, f_55, f_56, f_57]
       have B5_0 := Below.trans HS4.out.2.2.2.2 (hs.2.2.2.2.mono HS4.out.2.2.2.2.size)
       refine tail_nil ?_
       have HS5 := Lib.hid (And.intro (hs.1) (And.intro (hs.2.1) (And.intro (hs.2.2.1) (And.intro (hs.2.2.2.1) (B5_0)))))
       clear hs HS4 B5_0 f_39 f_40 f_41 f_42 f_43 f_44 f_45 f_49 f_50 f_51 f_54 f_55 f_56 f_57
       go_wp2_with fail
       go_meet
       exact ⟨rfl, HS5.out⟩
      ·have hlD := Lib.hid (show true = decide (((lenZ D0 : Nat) : Int) > 1) from hD.symm)
       obtain rfl : c = true := by rw [HC.out]; simp [← h20.out, ← hm20.out, ← hlN.out, ← hlD.out]
       go_upto_region 5 with fail
       refine wp_region_fl 19 ((Fct.v (.int .i64 n)) :: (Fct.v (.bool (false))) :: (Fct.v (.bool (false))) :: (Fct.v (.int .i64 n)) :: (Fct.v (.bool (true))) :: (Fct.v (.bool (true))) :: (Fct.v (.bool (true))) :: (Fct.v (.pointer (some ⟨q_8, 0, none⟩))) :: (Fct.r (N0)) :: (Fct.r (((N0.natAbs : Nat) : Int))) :: (Fct.v (.int .i64 ((lenZ ((N0.natAbs : Nat) : Int) : Nat) : Int))) :: (Fct.v (.bool (false))) :: (Fct.v (.bool (false))) :: (Fct.v (.pointer (some ⟨q_8, 2, none⟩))) :: (Fct.r (D0)) :: (Fct.v (.int .i64 ((lenZ D0 : Nat) : Int))) :: (Fct.v (.bool (true))) :: (Fct.v (.bool (true))) :: (Fct.v (.bool (true))) :: []) (fun W => PX q_7 x7ds x7dt x7du x7dv (N0) (D0) W ∧ QX q_8 x8ds x8dt x8du x8dv (N0) (D0) W ∧ PX q_9 x9es x9et x9eu x9ev (N1) (D1) W ∧ QX q_10 x10es x10et x10eu x10ev (N1) (D1) W ∧ Below W4_2.heap.size W4_2 W) (true :: true :: true :: true :: true :: true :: true :: true :: false :: false :: false :: true :: true :: true :: false :: false :: true :: true :: true :: []) (some 39 :: some 40 :: some 41 :: some 42 :: some 43 :: some 44 :: some 45 :: some 46 :: some 47 :: some 48 :: some 49 :: some 50 :: some 51 :: some 52 :: some 53 :: some 54 :: some 55 :: some 56 :: some 57 :: []) (fun _ _ h hb => ⟨h.1.keep hb, h.2.1.keep hb, h.2.2.1.keep hb, h.2.2.2.1.keep hb, Below.trans h.2.2.2.2 (hb.mono h.2.2.2.2.size)⟩) ⟨HS4.out.1, HS4.out.2.1, HS4.out.2.2.1, HS4.out.2.2.2.1, Below.refl _ _⟩ ?_ ?_
       ·refine sy (sty_move rfl (.inl rfl) Arg.od) ?_
        refine sy (sty_gtr (b := (false)) (h20.out) rfl (.inl rfl) (Arg.t 0 rfl) (Arg.const _)) ?_
        refine sy (sty_move rfl (.inl rfl) (Arg.t 1 rfl)) ?_
        refine sy (sty_move rfl (.inr ⟨2, false, _, rfl, rfl, by kernel_rfl, fun _ _ h => h⟩) Arg.od) ?_
        refine sy (sty_lss (b := (true)) (hm20.out) rfl (.inr ⟨2, false, _, rfl, rfl, by kernel_rfl, fun _ _ h => h⟩) (Arg.t 3 rfl) (Arg.const _)) ?_
        refine sy (sty_pickF rfl (.inl rfl) (Arg.t 2 rfl) (Arg.t 4 rfl)) ?_
        refine sy (sty_move rfl (.inl rfl) (Arg.t 5 rfl)) ?_
        refine sy (sty_faQ0 (p := q_8) rfl (.inr ⟨6, true, _, rfl, rfl, by kernel_rfl, fun _ _ h => h⟩) Arg.od) ?_
        refine so (step_ldR0 (b := q_8) rfl (.inr ⟨6, true, _, rfl, rfl, by kernel_rfl, fun _ _ h => h⟩) (Arg.t 7 rfl) (fun _ h => ⟨h.2.1.c0, h.2.1.c1⟩) (fun _ h => h.2.1.n)) ?_
        refine so (step_call1 E19.out rfl (.inr ⟨6, true, _, rfl, rfl, by kernel_rfl, fun _ _ h => h⟩) (Arg.t 8 rfl) (fun u w _ h1 => (HAB.out _ _ h1).out)) ?_
        refine so (step_call1 E20.out rfl (.inr ⟨6, true, _, rfl, rfl, by kernel_rfl, fun _ _ h => h⟩) (Arg.t 9 rfl) (fun u w _ h1 => (HL1.out _ _ h1).out.mono fun e w' h => ⟨_, h.1, rfl, h.2⟩)) ?_
        refine sy (sty_gtr (b := (false)) (hlN.out) rfl (.inr ⟨6, true, _, rfl, rfl, by kernel_rfl, fun _ _ h => h⟩) (Arg.t 10 rfl) (Arg.const _)) ?_
        refine sy (sty_move rfl (.inr ⟨6, true, _, rfl, rfl, by kernel_rfl, fun _ _ h => h⟩) (Arg.t 11 rfl)) ?_
        refine sy (sty_faQ1 (p := q_8) rfl (.inr ⟨12, false, _, rfl, rfl, by kernel_rfl, fun _ _ h => h⟩) Arg.od) ?_
        refine so (step_ldR2 (b := q_8) rfl (.inr ⟨12, false, _, rfl, rfl, by kernel_rfl, fun _ _ h => h⟩) (Arg.t 13 rfl) (fun _ h => ⟨h.2.1.c2, h.2.1.c3⟩) (fun _ h => h.2.1.d)) ?_
        refine so (step_call1 E20.out rfl (.inr ⟨12, false, _, rfl, rfl, by kernel_rfl, fun _ _ h => h⟩) (Arg.t 14 rfl) (fun u w _ h1 => (HL2.out _ _ h1).out.mono fun e w' h => ⟨_, h.1, rfl, h.2⟩)) ?_
        refine sy (sty_gtr (b := (true)) (hlD.out) rfl (.inr ⟨12, false, _, rfl, rfl, by kernel_rfl, fun _ _ h => h⟩) (Arg.t 15 rfl) (Arg.const _)) ?_
        refine sy (sty_pickF rfl (.inr ⟨6, true, _, rfl, rfl, by kernel_rfl, fun _ _ h => h⟩) (Arg.t 12 rfl) (Arg.t 16 rfl)) ?_
        refine sy (sty_pickT rfl (.inl rfl) (Arg.t 6 rfl) (Arg.t 17 rfl)) ?_
        trivial
       intro v5 W5 hk hdf hs
       simp only [putV, Act.put, List.setIfInBounds_toArray, List.set_cons_zero, List.set_cons_succ, Nat.reduceAdd]
       have f_39 : v5 0 = .int .i64 n := hk 0 _ (by decide) rfl
       have f_40 : v5 1 = .bool (false) := hk 1 _ (by decide) rfl
       have f_41 : v5 2 = .bool (false) := hk 2 _ (by decide) rfl
       have f_42 : v5 3 = .int .i64 n := hk 3 _ (by decide) rfl
       have f_43 : v5 4 = .bool (true) := hk 4 _ (by decide) rfl
       have f_44 : v5 5 = .bool (true) := hk 5 _ (by decide) rfl
       have f_45 : v5 6 = .bool (true) := hk 6 _ (by decide) rfl
       have f_49 : v5 10 = .int .i64 ((lenZ ((N0.natAbs : Nat) : Int) : Nat) : Int) := hk 10 _ (by decide) rfl
       have f_50 : v5 11 = .bool (false) := hk 11 _ (by decide) rfl
       have f_51 : v5 12 = .bool (false) := hk 12 _ (by decide) rfl
       have f_54 : v5 15 = .int .i64 ((lenZ D0 : Nat) : Int) := hk 15 _ (by decide) rfl
       have f_55 : v5 16 = .bool (true) := hk 16 _ (by decide) rfl
       have f_56 : v5 17 = .bool (true) := hk 17 _ (by decide) rfl
       have f_57 : v5 18 = .bool (true) := hk 18 _ (by decide) rfl
       clear hk hdf
       simp only [f_39, f_40, f_41, f_42, f_43, f_44, f_45, f_49, f_50, f_51, f_54, f_55, f_56, f_57]
       have B5_0 := Below.trans HS4.out.2.2.2.2 (hs.2.2.2.2.mono HS4.out.2.2.2.2.size)
       refine tail_nil ?_
       have HS5 := Lib.hid (And.intro (hs.1) (And.intro (hs.2.1) (And.intro (hs.2.2.1) (And.intro (hs.2.2.2.1) (B5_0)))))
       clear hs HS4 B5_0 f_39 f_40 f_41 f_42 f_43 f_44 f_45 f_49 f_50 f_51 f_54 f_55 f_56 f_57
       go_wp2_with fail
       go_meet
       exact ⟨rfl, HS5.out⟩
     ·have hlN := Lib.hid (show true = decide (((lenZ ((N0.natAbs : Nat) : Int) : Nat) : Int) > 1) from hN.symm)
      obtain rfl : c = true := by rw [HC.out]; simp [← h20.out, ← hm20.out, ← hlN.out]
      go_upto_region 5 with fail
      refine wp_region_fl 19 ((Fct.v (.int .i64 n)) :: (Fct.v (.bool (false))) :: (Fct.v (.bool (false))) :: (Fct.v (.int .i64 n)) :: (Fct.v (.bool (true))) :: (Fct.v (.bool (true))) :: (Fct.v (.bool (true))) :: (Fct.v (.pointer (some ⟨q_8, 0, none⟩))) :: (Fct.r (N0)) :: (Fct.r (((N0.natAbs : Nat) : Int))) :: (Fct.v (.int .i64 ((lenZ ((N0.natAbs : Nat) : Int) : Nat) : Int))) :: (Fct.v (.bool (true))) :: (Fct.v (.bool (true))) :: (Fct.v (undef)) :: (Fct.v (undef)) :: (Fct.v (undef)) :: (Fct.v (undef)) :: (Fct.v (.bool (true))) :: (Fct.v (.bool (true))) :: []) (fun W => PX q_7 x7ds x7dt x7du x7dv (N0) (D0) W ∧ QX q_8 x8ds x8dt x8du x8dv (N0) (D0) W ∧ PX q_9 x9es x9et x9eu x9ev (N1) (D1) W ∧ QX q_10 x10es x10et x10eu x10ev (N1) (D1) W ∧ Below W4_2.heap.size W4_2 W) (true :: true :: true :: true :: true :: true :: true :: true :: false :: false :: false :: true :: true :: true :: true :: true :: true :: true :: true :: []) (some 39 :: some 40 :: some 41 :: some 42 :: some 43 :: some 44 :: some 45 :: some 46 :: some 47 :: some 48 :: some 49 :: some 50 :: some 51 :: some 52 :: some 53 :: some 54 :: some 55 :: some 56 :: some 57 :: []) (fun _ _ h hb => ⟨h.1.keep hb, h.2.1.keep hb, h.2.2.1.keep hb, h.2.2.2.1.keep hb, Below.trans h.2.2.2.2 (hb.mono h.2.2.2.2.size)⟩) ⟨HS4.out.1, HS4.out.2.1, HS4.out.2.2.1, HS4.out.2.2.2.1, Below.refl _ _⟩ ?_ ?_
      ·refine sy (sty_move rfl (.inl rfl) Arg.od) ?_
       refine sy (sty_gtr (b := (false)) (h20.out) rfl (.inl rfl) (Arg.t 0 rfl) (Arg.const _)) ?_
       refine sy (sty_move rfl (.inl rfl) (Arg.t 1 rfl)) ?_
       refine sy (sty_move rfl (.inr ⟨2, false, _, rfl, rfl, by kernel_rfl, fun _ _ h => h⟩) Arg.od) ?_
       refine sy (sty_lss (b := (true)) (hm20.out) rfl (.inr ⟨2, false, _, rfl, rfl, by kernel_rfl, fun _ _ h => h⟩) (Arg.t 3 rfl) (Arg.const _)) ?_
       refine sy (sty_pickF rfl (.inl rfl) (Arg.t 2 rfl) (Arg.t 4 rfl)) ?_
       refine sy (sty_move rfl (.inl rfl) (Arg.t 5 rfl)) ?_
       refine sy (sty_faQ0 (p := q_8) rfl (.inr ⟨6, true, _, rfl, rfl, by kernel_rfl, fun _ _ h => h⟩) Arg.od) ?_
       refine so (step_ldR0 (b := q_8) rfl (.inr ⟨6, true, _, rfl, rfl, by kernel_rfl, fun _ _ h => h⟩) (Arg.t 7 rfl) (fun _ h => ⟨h.2.1.c0, h.2.1.c1⟩) (fun _ h => h.2.1.n)) ?_
       refine so (step_call1 E19.out rfl (.inr ⟨6, true, _, rfl, rfl, by kernel_rfl, fun _ _ h => h⟩) (Arg.t 8 rfl) (fun u w _ h1 => (HAB.out _ _ h1).out)) ?_
       refine so (step_call1 E20.out rfl (.inr ⟨6, true, _, rfl, rfl, by kernel_rfl, fun _ _ h => h⟩) (Arg.t 9 rfl) (fun u w _ h1 => (HL1.out _ _ h1).out.mono fun e w' h => ⟨_, h.1, rfl, h.2⟩)) ?_
       refine sy (sty_gtr (b := (true)) (hlN.out) rfl (.inr ⟨6, true, _, rfl, rfl, by kernel_rfl, fun _ _ h => h⟩) (Arg.t 10 rfl) (Arg.const _)) ?_
       refine sy (sty_move rfl (.inr ⟨6, true, _, rfl, rfl, by kernel_rfl, fun _ _ h => h⟩) (Arg.t 11 rfl)) ?_
       refine sy (sty_un (b := false) rfl rfl (by kernel_rfl) (fun _ _ h => h) (fun _ => rfl)) ?_
       refine sy (sty_un (b := false) rfl rfl (by kernel_rfl) (fun _ _ h => h) (fun _ => rfl)) ?_
       refine sy (sty_un (b := false) rfl rfl (by kernel_rfl) (fun _ _ h => h) (fun _ => rfl)) ?_
       refine sy (sty_un (b := false) rfl rfl (by kernel_rfl) (fun _ _ h => h) (fun _ => rfl)) ?_
       refine sy (sty_pickT rfl (.inr ⟨6, true, _, rfl, rfl, by kernel_rfl, fun _ _ h => h⟩) (Arg.t 12 rfl) (Arg.const _)) ?_
       refine sy (sty_pickT rfl (.inl rfl) (Arg.t 6 rfl) (Arg.t 17 rfl)) ?_
       trivial
      intro v5 W5 hk hdf hs
      simp only [putV, Act.put, List.setIfInBounds_toArray, List.set_cons_zero, List.set_cons_succ, Nat.reduceAdd]
      have f_39 : v5 0 = .int .i64 n := hk 0 _ (by decide) rfl
      have f_40 : v5 1 = .bool (false) := hk 1 _ (by decide) rfl
      have f_41 : v5 2 = .bool (false) := hk 2 _ (by decide) rfl
      have f_42 : v5 3 = .int .i64 n := hk 3 _ (by decide) rfl
      have f_43 : v5 4 = .bool (true) := hk 4 _ (by decide) rfl
      have f_44 : v5 5 = .bool (true) := hk 5 _ (by decide) rfl
      have f_45 : v5 6 = .bool (true) := hk 6 _ (by decide) rfl
      have f_49 : v5 10 = .int .i64 ((lenZ ((N0.natAbs : Nat) : Int) : Nat) : Int) := hk 10 _ (by decide) rfl
      have f_50 : v5 11 = .bool (true) := hk 11 _ (by decide) rfl
      have f_51 : v5 12 = .bool (true) := hk 12 _ (by decide) rfl
      have f_52 : v5 13 = undef := hk 13 _ (by decide) rfl
      have f_53 : v5 14 = undef := hk 14 _ (by decide) rfl
      have f_54 : v5 15 = undef := hk 15 _ (by decide) rfl
      have f_55 : v5 16 = undef := hk 16 _ (by decide) rfl
      have f_56 : v5 17 = .bool (true) := hk 17 _ (by decide) rfl
      have f_57 : v5 18 = .bool (true) := hk 18 _ (by decide) rfl
      clear hk hdf
      simp only [f_39, f_40, f_41, f_42, f_43, f_44, f_45, f_49, f_50, f_51, f_52, f_53, f_54, f_55, f_56, f_57]
      have B5_0 := Below.trans HS4.out.2.2.2.2 (hs.2.2.2.2.mono HS4.out.2.2.2.2.size)
      refine tail_nil ?_
      have HS5 := Lib.hid (And.intro (hs.1) (And.intro (hs.2.1) (And.intro (hs.2.2.1) (And.intro (hs.2.2.2.1) (B5_0)))))
      clear hs HS4 B5_0 f_39 f_40 f_41 f_42 f_43 f_44 f_45 f_49 f_50 f_51 f_52 f_53 f_54 f_55 f_56 f_57
      go_wp2_with fail
      go_meet
      exact ⟨rfl, HS5.out⟩
   ·have h20 := Lib.hid (show true = decide (n > 20) from h1.symm)
    cases hN : decide (((lenZ ((N0.natAbs : Nat) : Int) : Nat) : Int) > 1)
    ·have hlN := Lib.hid (show false = decide (((lenZ ((N0.natAbs : Nat) : Int) : Nat) : Int) > 1) from hN.symm)
     cases hD : decide (((lenZ D0 : Nat) : Int) > 1)
     ·have hlD := Lib.hid (show false = decide (((lenZ D0 : Nat) : Int) > 1) from hD.symm)
      obtain rfl : c = false := by rw [HC.out]; simp [← h20.out, ← hlN.out, ← hlD.out]
      go_upto_region 5 with fail
      refine wp_region_fl 19 ((Fct.v (.int .i64 n)) :: (Fct.v (.bool (true))) :: (Fct.v (.bool (true))) :: (Fct.v (undef)) :: (Fct.v (undef)) :: (Fct.v (.bool (true))) :: (Fct.v (.bool (true))) :: (Fct.v (.pointer (some ⟨q_8, 0, none⟩))) :: (Fct.r (N0)) :: (Fct.r (((N0.natAbs : Nat) : Int))) :: (Fct.v (.int .i64 ((lenZ ((N0.natAbs : Nat) : Int) : Nat) : Int))) :: (Fct.v (.bool (false))) :: (Fct.v (.bool (false))) :: (Fct.v (.pointer (some ⟨q_8, 2, none⟩))) :: (Fct.r (D0)) :: (Fct.v (.int .i64 ((lenZ D0 : Nat) : Int))) :: (Fct.v (.bool (false))) :: (Fct.v (.bool (false))) :: (Fct.v (.bool (false))) :: []) (fun W => PX q_7 x7ds x7dt x7du x7dv (N0) (D0) W ∧ QX q_8 x8ds x8dt x8du x8dv (N0) (D0) W ∧ PX q_9 x9es x9et x9eu x9ev (N1) (D1) W ∧ QX q_10 x10es x10et x10eu x10ev (N1) (D1) W ∧ Below W4_2.heap.size W4_2 W) (true :: true :: true :: true :: true :: true :: true :: true :: false :: false :: false :: true :: true :: true :: false :: false :: true :: true :: true :: []) (some 39 :: some 40 :: some 41 :: some 42 :: some 43 :: some 44 :: some 45 :: some 46 :: some 47 :: some 48 :: some 49 :: some 50 :: some 51 :: some 52 :: some 53 :: some 54 :: some 55 :: some 56 :: some 57 :: []) (fun _ _ h hb => ⟨h.1.keep hb, h.2.1.keep hb, h.2.2.1.keep hb, h.2.2.2.1.keep hb, Below.trans h.2.2.2.2 (hb.mono h.2.2.2.2.size)⟩) ⟨HS4.out.1, HS4.out.2.1, HS4.out.2.2.1, HS4.out.2.2.2.1, Below.refl _ _⟩ ?_ ?_
      ·refine sy (sty_move rfl (.inl rfl) Arg.od) ?_
       refine sy (sty_gtr (b := (true)) (h20.out) rfl (.inl rfl) (Arg.t 0 rfl) (Arg.const _)) ?_
       refine sy (sty_move rfl (.inl rfl) (Arg.t 1 rfl)) ?_
       refine sy (sty_un (b := false) rfl rfl (by kernel_rfl) (fun _ _ h => h) (fun _ => rfl)) ?_
       refine sy (sty_un (b := false) rfl rfl (by kernel_rfl) (fun _ _ h => h) (fun _ => rfl)) ?_
       refine sy (sty_pickT rfl (.inl rfl) (Arg.t 2 rfl) (Arg.const _)) ?_
       refine sy (sty_move rfl (.inl rfl) (Arg.t 5 rfl)) ?_
       refine sy (sty_faQ0 (p := q_8) rfl (.inr ⟨6, true, _, rfl, rfl, by kernel_rfl, fun _ _ h => h⟩) Arg.od) ?_
       refine so (step_ldR0 (b := q_8) rfl (.inr ⟨6, true, _, rfl, rfl, by kernel_rfl, fun _ _ h => h⟩) (Arg.t 7 rfl) (fun _ h => ⟨h.2.1.c0, h.2.1.c1⟩) (fun _ h => h.2.1.n)) ?_
       refine so (step_call1 E19.out rfl (.inr ⟨6, true, _, rfl, rfl, by kernel_rfl, fun _ _ h => h⟩) (Arg.t 8 rfl) (fun u w _ h1 => (HAB.out _ _ h1).out)) ?_
       refine so (step_call1 E20.out rfl (.inr ⟨6, true, _, rfl, rfl, by kernel_rfl, fun _ _ h => h⟩) (Arg.t 9 rfl) (fun u w _ h1 => (HL1.out _ _ h1).out.mono fun e w' h => ⟨_, h.1, rfl, h.2⟩)) ?_
       refine sy (sty_gtr (b := (false)) (hlN.out) rfl (.inr ⟨6, true, _, rfl, rfl, by kernel_rfl, fun _ _ h => h⟩) (Arg.t 10 rfl) (Arg.const _)) ?_
       refine sy (sty_move rfl (.inr ⟨6, true, _, rfl, rfl, by kernel_rfl, fun _ _ h => h⟩) (Arg.t 11 rfl)) ?_
       refine sy (sty_faQ1 (p := q_8) rfl (.inr ⟨12, false, _, rfl, rfl, by kernel_rfl, fun _ _ h => h⟩) Arg.od) ?_
       refine so (step_ldR2 (b := q_8) rfl (.inr ⟨12, false, _, rfl, rfl, by kernel_rfl, fun _ _ h => h⟩) (Arg.t 13 rfl) (fun _ h => ⟨h.2.1.c2, h.2.1.c3⟩) (fun _ h => h.2.1.d)) ?_
       refine so (step_call1 E20.out rfl (.inr ⟨12, false, _, rfl, rfl, by kernel_rfl, fun _ _ h => h⟩) (Arg.t 14 rfl) (fun u w _ h1 => (HL2.out _ _ h1).out.mono fun e w' h => ⟨_, h.1, rfl, h.2⟩)) ?_
       refine sy (sty_gtr (b := (false)) (hlD.out) rfl (.inr ⟨12, false, _, rfl, rfl, by kernel_rfl, fun _ _ h => h⟩) (Arg.t 15 rfl) (Arg.const _)) ?_
       refine sy (sty_pickF rfl (.inr ⟨6, true, _, rfl, rfl, by kernel_rfl, fun _ _ h => h⟩) (Arg.t 12 rfl) (Arg.t 16 rfl)) ?_
       refine sy (sty_pickT rfl (.inl rfl) (Arg.t 6 rfl) (Arg.t 17 rfl)) ?_
       trivial
      intro v5 W5 hk hdf hs
      simp only [putV, Act.put, List.setIfInBounds_toArray, List.set_cons_zero, List.set_cons_succ, Nat.reduceAdd]
      have f_39 : v5 0 = .int .i64 n := hk 0 _ (by decide) rfl
      have f_40 : v5 1 = .bool (true) := hk 1 _ (by decide) rfl
      have f_41 : v5 2 = .bool (true) := hk 2 _ (by decide) rfl
      have f_42 : v5 3 = undef := hk 3 _ (by decide) rfl
      have f_43 : v5 4 = undef := hk 4 _ (by decide) rfl
      have f_44 : v5 5 = .bool (true) := hk 5 _ (by decide) rfl
      have f_45 : v5 6 = .bool (true) := hk 6 _ (by decide) rfl
      have f_49 : v5 10 = .int .i64 ((lenZ ((N0.natAbs : Nat) : Int) : Nat) : Int) := hk 10 _ (by decide) rfl
      have f_50 : v5 11 = .bool (false) := hk 11 _ (by decide) rfl
      have f_51 : v5 12 = .bool (false) := hk 12 _ (by decide) rfl
      have f_54 : v5 15 = .int .i64 ((lenZ D0 : Nat) : Int) := hk 15 _ (by decide) rfl
      have f_55 : v5 16 = .bool (false) := hk 16 _ (by decide) rfl
      have f_56 : v5 17 = .bool (false) := hk 17 _ (by decide) rfl
      have f_57 : v5 18 = .bool (false) := hk 18 _ (by decide) rfl
      clear hk hdf
      simp only [f_39, f_40, f_41, f_42, f_43, f_44, f_45, f_49, f_50, f_51, f_54, f_55, f_56, f_57]
      have B5_0 := Below.trans HS4.out.2.2.2.2 (hs.2.2.2.2.mono HS4.out.2.2.2.2.size)
      refine tail_nil ?_
      have HS5 := Lib.hid (And.intro (hs.1) (And.intro (hs.2.1) (And.intro (hs.2.2.1) (And.intro (hs.2.2.2.1) (B5_0)))))
      clear hs HS4 B5_0 f_39 f_40 f_41 f_42 f_43 f_44 f_45 f_49 f_50 f_51 f_54 f_55 f_56 f_57
      go_wp2_with fail
      go_meet
      exact ⟨rfl, HS5.out⟩
     ·have hlD := Lib.hid (show true = decide (((lenZ D0 : Nat) : Int) > 1) from hD.symm)
      obtain rfl : c = true := by rw [HC.out]; simp [← h20.out, ← hlN.out, ← hlD.out]
      go_upto_region 5 with fail
      refine wp_region_fl 19 ((Fct.v (.int .i64 n)) :: (Fct.v (.bool (true))) :: (Fct.v (.bool (true))) :: (Fct.v (undef)) :: (Fct.v (undef)) :: (Fct.v (.bool (true))) :: (Fct.v (.bool (true))) :: (Fct.v (.pointer (some ⟨q_8, 0, none⟩))) :: (Fct.r (N0)) :: (Fct.r (((N0.natAbs : Nat) : Int))) :: (Fct.v (.int .i64 ((lenZ ((N0.natAbs : Nat) : Int) : Nat) : Int))) :: (Fct.v (.bool (false))) :: (Fct.v (.bool (false))) :: (Fct.v (.pointer (some ⟨q_8, 2, none⟩))) :: (Fct.r (D0)) :: (Fct.v (.int .i64 ((lenZ D0 : Nat) : Int))) :: (Fct.v (.bool (true))) :: (Fct.v (.bool (true))) :: (Fct.v (.bool (true))) :: []) (fun W => PX q_7 x7ds x7dt x7du x7dv (N0) (D0) W ∧ QX q_8 x8ds x8dt x8du x8dv (N0) (D0) W ∧ PX q_9 x9es x9et x9eu x9ev (N1) (D1) W ∧ QX q_10 x10es x10et x10eu x10ev (N1) (D1) W ∧ Below W4_2.heap.size W4_2 W) (true :: true :: true :: true :: true :: true :: true :: true :: false :: false :: false :: true :: true :: true :: false :: false :: true :: true :: true :: []) (some 39 :: some 40 :: some 41 :: some 42 :: some 43 :: some 44 :: some 45 :: some 46 :: some 47 :: some 48 :: some 49 :: some 50 :: some 51 :: some 52 :: some 53 :: some 54 :: some 55 :: some 56 :: some 57 :: []) (fun _ _ h hb => ⟨h.1.keep hb, h.2.1.keep hb, h.2.2.1.keep hb, h.2.2.2.1.keep hb, Below.trans h.2.2.2.2 (hb.mono h.2.2.2.2.size)⟩) ⟨HS4.out.1, HS4.out.2.1, HS4.out.2.2.1, HS4.out.2.2.2.1, Below.refl _ _⟩ ?_ ?_
      ·refine sy (sty_move rfl (.inl rfl) Arg.od) ?_
       refine sy (sty_gtr (b := (true)) (h20.out) rfl (.inl rfl) (Arg.t 0 rfl) (Arg.const _)) ?_
       refine sy (sty_move rfl (.inl rfl) (Arg.t 1 rfl)) ?_
       refine sy (sty_un (b := false) rfl rfl (by kernel_rfl) (fun _ _ h => h) (fun _ => rfl)) ?_
       refine sy (sty_un (b := false) rfl rfl (by kernel_rfl) (fun _ _ h => h) (fun _ => rfl)) ?_
       refine sy (sty_pickT rfl (.inl rfl) (Arg.t 2 rfl) (Arg.const _)) ?_
       refine sy (sty_move rfl (.inl rfl) (Arg.t 5 rfl)) ?_
       refine sy (sty_faQ0 (p := q_8) rfl (.inr ⟨6, true, _, rfl, rfl, by kernel_rfl, fun _ _ h => h⟩) Arg.od) ?_
       refine so (step_ldR0 (b := q_8) rfl (.inr ⟨6, true, _, rfl, rfl, by kernel_rfl, fun _ _ h => h⟩) (Arg.t 7 rfl) (fun _ h => ⟨h.2.1.c0, h.2.1.c1⟩) (fun _ h => h.2.1.n)) ?_
       refine so (step_call1 E19.out rfl (.inr ⟨6, true, _, rfl, rfl, by kernel_rfl, fun _ _ h => h⟩) (Arg.t 8 rfl) (fun u w _ h1 => (HAB.out _ _ h1).out)) ?_
       refine so (step_call1 E20.out rfl (.inr ⟨6, true, _, rfl, rfl, by kernel_rfl, fun _ _ h => h⟩) (Arg.t 9 rfl) (fun u w _ h1 => (HL1.out _ _ h1).out.mono fun e w' h => ⟨_, h.1, rfl, h.2⟩)) ?_
       refine sy (sty_gtr (b := (false)) (hlN.out) rfl (.inr ⟨6, true, _, rfl, rfl, by kernel_rfl, fun _ _ h => h⟩) (Arg.t 10 rfl) (Arg.const _)) ?_
       refine sy (sty_move rfl (.inr ⟨6, true, _, rfl, rfl, by kernel_rfl, fun _ _ h => h⟩) (Arg.t 11 rfl)) ?_
       refine sy (sty_faQ1 (p := q_8) rfl (.inr ⟨12, false, _, rfl, rfl, by kernel_rfl, fun _ _ h => h⟩) Arg.od) ?_
       refine so (step_ldR2 (b := q_8) rfl (.inr ⟨12, false, _, rfl, rfl, by kernel_rfl, fun _ _ h => h⟩) (Arg.t 13 rfl) (fun _ h => ⟨h.2.1.c2, h.2.1.c3⟩) (fun _ h => h.2.1.d)) ?_
       refine so (step_call1 E20.out rfl (.inr ⟨12, false, _, rfl, rfl, by kernel_rfl, fun _ _ h => h⟩) (Arg.t 14 rfl) (fun u w _ h1 => (HL2.out _ _ h1).out.mono fun e w' h => ⟨_, h.1, rfl, h.2⟩)) ?_
       refine sy (sty_gtr (b := (true)) (hlD.out) rfl (.inr ⟨12, false, _, rfl, rfl, by kernel_rfl, fun _ _ h => h⟩) (Arg.t 15 rfl) (Arg.const _)) ?_
       refine sy (sty_pickF rfl (.inr ⟨6, true, _, rfl, rfl, by kernel_rfl, fun _ _ h => h⟩) (Arg.t 12 rfl) (Arg.t 16 rfl)) ?_
       refine sy (sty_pickT rfl (.inl rfl) (Arg.t 6 rfl) (Arg.t 17 rfl)) ?_
       trivial
      intro v5 W5 hk hdf hs
      simp only [putV, Act.put, List.setIfInBounds_toArray, List.set_cons_zero, List.set_cons_succ, Nat.reduceAdd]
      have f_39 : v5 0 = .int .i64 n := hk 0 _ (by decide) rfl
      have f_40 : v5 1 = .bool (true) := hk 1 _ (by decide) rfl
      have f_41 : v5 2 = .bool (true) := hk 2 _ (by decide) rfl
      have f_42 : v5 3 = undef := hk 3 _ (by decide) rfl
      have f_43 : v5 4 = undef := hk 4 _ (by decide) rfl
      have f_44 : v5 5 = .bool (true) := hk 5 _ (by decide) rfl
      have f_45 : v5 6 = .bool (true) := hk 6 _ (by decide) rfl
      have f_49 : v5 10 = .int .i64 ((lenZ ((N0.natAbs : Nat) : Int) : Nat) : Int) := hk 10 _ (by decide) rfl
      have f_50 : v5 11 = .bool (false) := hk 11 _ (by decide) rfl
      have f_51 : v5 12 = .bool (false) := hk 12 _ (by decide) rfl
      have f_54 : v5 15 = .int .i64 ((lenZ D0 : Nat) : Int) := hk 15 _ (by decide) rfl
      have f_55 : v5 16 = .bool (true) := hk 16 _ (by decide) rfl
      have f_56 : v5 17 = .bool (true) := hk 17 _ (by decide) rfl
      have f_57 : v5 18 = .bool (true) := hk 18 _ (by decide) rfl
      clear hk hdf
      simp only [f_39, f_40, f_41, f_42, f_43, f_44, f_45, f_49, f_50, f_51, f_54, f_55, f_56, f_57]
      have B5_0 := Below.trans HS4.out.2.2.2.2 (hs.2.2.2.2.mono HS4.out.2.2.2.2.size)
      refine tail_nil ?_
      have HS5 := Lib.hid (And.intro (hs.1) (And.intro (hs.2.1) (And.intro (hs.2.2.1) (And.intro (hs.2.2.2.1) (B5_0)))))
      clear hs HS4 B5_0 f_39 f_40 f_41 f_42 f_43 f_44 f_45 f_49 f_50 f_51 f_54 f_55 f_56 f_57
      go_wp2_with fail
      go_meet
      exact ⟨rfl, HS5.out⟩
    ·have hlN := Lib.hid (show true = decide (((lenZ ((N0.natAbs : Nat) : Int) : Nat) : Int) > 1) from hN.symm)
     obtain rfl : c = true := by rw [HC.out]; simp [← h20.out, ← hlN.out]
     go_upto_region 5 with fail
     refine wp_region_fl 19 ((Fct.v (.int .i64 n)) :: (Fct.v (.bool (true))) :: (Fct.v (.bool (true))) :: (Fct.v (undef)) :: (Fct.v (undef)) :: (Fct.v (.bool (true))) :: (Fct.v (.bool (true))) :: (Fct.v (.pointer (some ⟨q_8, 0, none⟩))) :: (Fct.r (N0)) :: (Fct.r (((N0.natAbs : Nat) : Int))) :: (Fct.v (.int .i64 ((lenZ ((N0.natAbs : Nat) : Int) : Nat) : Int))) :: (Fct.v (.bool (true))) :: (Fct.v (.bool (true))) :: (Fct.v (undef)) :: (Fct.v (undef)) :: (Fct.v (undef)) :: (Fct.v (undef)) :: (Fct.v (.bool (true))) :: (Fct.v (.bool (true))) :: []) (fun W => PX q_7 x7ds x7dt x7du x7dv (N0) (D0) W ∧ QX q_8 x8ds x8dt x8du x8dv (N0) (D0) W ∧ PX q_9 x9es x9et x9eu x9ev (N1) (D1) W ∧ QX q_10 x10es x10et x10eu x10ev (N1) (D1) W ∧ Below W4_2.heap.size W4_2 W) (true :: true :: true :: true :: true :: true :: true :: true :: false :: false :: false :: true :: true :: true :: true :: true :: true :: true :: true :: []) (some 39 :: some 40 :: some 41 :: some 42 :: some 43 :: some 44 :: some 45 :: some 46 :: some 47 :: some 48 :: some 49 :: some 50 :: some 51 :: some 52 :: some 53 :: some 54 :: some 55 :: some 56 :: some 57 :: []) (fun _ _ h hb => ⟨h.1.keep hb, h.2.1.keep hb, h.2.2.1.keep hb, h.2.2.2.1.keep hb, Below.trans h.2.2.2.2 (hb.mono h.2.2.2.2.size)⟩) ⟨HS4.out.1, HS4.out.2.1, HS4.out.2.2.1, HS4.out.2.2.2.1, Below.refl _ _⟩ ?_ ?_
     ·refine sy (sty_move rfl (.inl rfl) Arg.od) ?_
      refine sy (sty_gtr (b := (true)) (h20.out) rfl (.inl rfl) (Arg.t 0 rfl) (Arg.const _)) ?_
      refine sy (sty_move rfl (.inl rfl) (Arg.t 1 rfl)) ?_
      refine sy (sty_un (b := false) rfl rfl (by kernel_rfl) (fun _ _ h => h) (fun _ => rfl)) ?_
      refine sy (sty_un (b := false) rfl rfl (by kernel_rfl) (fun _ _ h => h) (fun _ => rfl)) ?_
      refine sy (sty_pickT rfl (.inl rfl) (Arg.t 2 rfl) (Arg.const _)) ?_
      refine sy (sty_move rfl (.inl rfl) (Arg.t 5 rfl)) ?_
      refine sy (sty_faQ0 (p := q_8) rfl (.inr ⟨6, true, _, rfl, rfl, by kernel_rfl, fun _ _ h => h⟩) Arg.od) ?_
      refine so (step_ldR0 (b := q_8) rfl (.inr ⟨6, true, _, rfl, rfl, by kernel_rfl, fun _ _ h => h⟩) (Arg.t 7 rfl) (fun _ h => ⟨h.2.1.c0, h.2.1.c1⟩) (fun _ h => h.2.1.n)) ?_
      refine so (step_call1 E19.out rfl (.inr ⟨6, true, _, rfl, rfl, by kernel_rfl, fun _ _ h => h⟩) (Arg.t 8 rfl) (fun u w _ h1 => (HAB.out _ _ h1).out)) ?_
      refine so (step_call1 E20.out rfl (.inr ⟨6, true, _, rfl, rfl, by kernel_rfl, fun _ _ h => h⟩) (Arg.t 9 rfl) (fun u w _ h1 => (HL1.out _ _ h1).out.mono fun e w' h => ⟨_, h.1, rfl, h.2⟩)) ?_
      refine sy (sty_gtr (b := (true)) (hlN.out) rfl (.inr ⟨6, true, _, rfl, rfl, by kernel_rfl, fun _ _ h => h⟩) (Arg.t 10 rfl) (Arg.const _)) ?_
      refine sy (sty_move rfl (.inr ⟨6, true, _, rfl, rfl, by kernel_rfl, fun _ _ h => h⟩) (Arg.t 11 rfl)) ?_
      refine sy (sty_un (b := false) rfl rfl (by kernel_rfl) (fun _ _ h => h) (fun _ => rfl)) ?_
      refine sy (sty_un (b := false) rfl rfl (by kernel_rfl) (fun _ _ h => h) (fun _ => rfl)) ?_
      refine sy (sty_un (b := false) rfl rfl (by kernel_rfl) (fun _ _ h => h) (fun _ => rfl)) ?_
      refine sy (sty_un (b := false) rfl rfl (by kernel_rfl) (fun _ _ h => h) (fun _ => rfl)) ?_
      refine sy (sty_pickT rfl (.inr ⟨6, true, _, rfl, rfl, by kernel_rfl, fun _ _ h => h⟩) (Arg.t 12 rfl) (Arg.const _)) ?_
      refine sy (sty_pickT rfl (.inl rfl) (Arg.t 6 rfl) (Arg.t 17 rfl)) ?_
      trivial
     intro v5 W5 hk hdf hs
     simp only [putV, Act.put, List.setIfInBounds_toArray, List.set_cons_zero, List.set_cons_succ, Nat.reduceAdd]
     have f_39 : v5 0 = .int .i64 n := hk 0 _ (by decide) rfl
     have f_40 : v5 1 = .bool (true) := hk 1 _ (by decide) rfl
     have f_41 : v5 2 = .bool (true) := hk 2 _ (by decide) rfl
     have f_42 : v5 3 = undef := hk 3 _ (by decide) rfl
     have f_43 : v5 4 = undef := hk 4 _ (by decide) rfl
     have f_44 : v5 5 = .bool (true) := hk 5 _ (by decide) rfl
     have f_45 : v5 6 = .bool (true) := hk 6 _ (by decide) rfl
     have f_49 : v5 10 = .int .i64 ((lenZ ((N0.natAbs : Nat) : Int) : Nat) : Int) := hk 10 _ (by decide) rfl
     have f_50 : v5 11 = .bool (true) := hk 11 _ (by decide) rfl
     have f_51 : v5 12 = .bool (true) := hk 12 _ (by decide) rfl
     have f_52 : v5 13 = undef := hk 13 _ (by decide) rfl
     have f_53 : v5 14 = undef := hk 14 _ (by decide) rfl
     have f_54 : v5 15 = undef := hk 15 _ (by decide) rfl
     have f_55 : v5 16 = undef := hk 16 _ (by decide) rfl
     have f_56 : v5 17 = .bool (true) := hk 17 _ (by decide) rfl
     have f_57 : v5 18 = .bool (true) := hk 18 _ (by decide) rfl
     clear hk hdf
     simp only [f_39, f_40, f_41, f_42, f_43, f_44, f_45, f_49, f_50, f_51, f_52, f_53, f_54, f_55, f_56, f_57]
     have B5_0 := Below.trans HS4.out.2.2.2.2 (hs.2.2.2.2.mono HS4.out.2.2.2.2.size)
     refine tail_nil ?_
     have HS5 := Lib.hid (And.intro (hs.1) (And.intro (hs.2.1) (And.intro (hs.2.2.1) (And.intro (hs.2.2.2.1) (B5_0)))))
     clear hs HS4 B5_0 f_39 f_40 f_41 f_42 f_43 f_44 f_45 f_49 f_50 f_51 f_52 f_53 f_54 f_55 f_56 f_57
     go_wp2_with fail
     go_meet
     exact ⟨rfl, HS5.out⟩
  case rest =>
   obtain ⟨rfl, hK⟩ := hcut
   have HS5 := Lib.hid hK
   clear hK HS4 HAB HL1 HL2
   generalize wc = W5 at *
   go_upto_if 57 with fail
   go_cut [2] from 58 to 59 (fun s2 wx => s2 = .int .i64 e ∧ PX q_7 x7ds x7dt x7du x7dv (N0) (D0) wx ∧ QX q_8 x8ds x8dt x8du x8dv (N0) (D0) wx ∧ PX q_9 x9es x9et x9eu x9ev (N1) (D1) wx ∧ QX q_10 x10es x10et x10eu x10ev (N1) (D1) wx ∧ Below w.heap.size w wx)
   case first =>
    cases c
    ·go_wp2_with fail
     go_meet
     exact ⟨by rw [HE2.out]; rfl, HS5.out⟩
    ·have hrm := Lib.hid (show n.tmod 20 = n.tmod 20 ∧ (20 : Int) ≠ 0 from ⟨rfl, by decide⟩)
     go_upto_region 6 with fail
     refine wp_region_fl 2 ((Fct.v (.int .i64 n)) :: (Fct.v (.int .i64 (n.tmod 20))) :: []) (fun W => PX q_7 x7ds x7dt x7du x7dv (N0) (D0) W ∧ QX q_8 x8ds x8dt x8du x8dv (N0) (D0) W ∧ PX q_9 x9es x9et x9eu x9ev (N1) (D1) W ∧ QX q_10 x10es x10et x10eu x10ev (N1) (D1) W ∧ Below W5.heap.size W5 W) (true :: true :: []) (some 58 :: some 59 :: []) (fun _ _ h hb => ⟨h.1.keep hb, h.2.1.keep hb, h.2.2.1.keep hb, h.2.2.2.1.keep hb, Below.trans h.2.2.2.2 (hb.mono h.2.2.2.2.size)⟩) ⟨HS5.out.1, HS5.out.2.1, HS5.out.2.2.1, HS5.out.2.2.2.1, Below.refl _ _⟩ ?_ ?_
     ·refine sy (sty_moveL rfl (.inl rfl) (by kernel_rfl) (fun _ => rfl)) ?_
      refine sy (sty_rem (hrm.out) rfl (.inl rfl) (Arg.t 0 rfl) (Arg.const _)) ?_
      trivial
     intro v6 W6 hk hdf hs
     simp only [putV, Act.put, List.setIfInBounds_toArray, List.set_cons_zero, List.set_cons_succ, Nat.reduceAdd]
     have f_58 : v6 0 = .int .i64 n := hk 0 _ (by decide) rfl
     have f_59 : v6 1 = .int .i64 (n.tmod 20) := hk 1 _ (by decide) rfl
     clear hk hdf
     simp only [f_58, f_59]
     have B6_0 := Below.trans HS5.out.2.2.2.2 (hs.2.2.2.2.mono HS5.out.2.2.2.2.size)
     refine tail_assign rfl rfl ?_
     simp only [Act.put, List.setIfInBounds_toArray, List.set_cons_zero, List.set_cons_succ]
     refine tail_nil ?_
     have HS6 := Lib.hid (And.intro (hs.1) (And.intro (hs.2.1) (And.intro (hs.2.2.1) (And.intro (hs.2.2.2.1) (B6_0)))))
     clear hs HS5 B6_0 f_58 f_59
     go_wp2_with fail
     go_meet
     exact ⟨by rw [HE2.out]; rfl, HS6.out⟩
   case rest =>
    obtain ⟨rfl, hK⟩ := hcut
    have HS6 := Lib.hid hK
    clear hK HS5
    generalize wc = W6 at *
    obtain ⟨PN, PD, PC, pp1, pp2, pp3, pp4, pp5⟩ := power_both N0 D0 e lw0 bn0 bd0 hE1.1 hE1.2 hE2
    obtain ⟨QN, QD, QC, qq1, qq2, qq3, qq4, qq5⟩ := root_both N1 D1 lw1.1 bn1 bd1
    have u4 : 4 ≤ 100 := by decide
    have HDV := Lib.hid fun W u v h h' => Lib.hid (ratDiv_any N0 D0 N1 D1 u v W lw0.1 lw1.1 (bn0.up u4) (bd0.up u4) (bn1.up u4) (bd1.up u4) h h')
    have HRV := Lib.hid fun W u v h h' => Lib.hid (rqDiv_any N0 D0 N1 D1 u v W (Int.ne_of_gt lw0.1) (bn0.up u4) (bd0.up u4) (bn1.up u4) (bd1.up u4) h h')
    have HP1 := Lib.hid fun W u h => Lib.hid (pp4 W u h)
    have HP2 := Lib.hid fun W u h => Lib.hid (pp5 W u h)
    have HT1 := Lib.hid fun W u h => Lib.hid (qq4 W u h)
    have HT2 := Lib.hid fun W u h => Lib.hid (qq5 W u h)
    have HN1 := Lib.hid fun W u h => Lib.hid (ratNeg_any N0 D0 u W (len_le (by decide) bn0) h)
    have HN2 := Lib.hid fun W u h => Lib.hid (rqNeg_any N0 D0 u W h)
    have HB1 := Lib.hid fun W u h => Lib.hid (ratAbs_any N0 D0 u W (len_le (by decide) bn0) h)
    have HB2 := Lib.hid fun W u h => Lib.hid (rqAbs_any N0 D0 u W h)
    have HAdd1 := Lib.hid fun W u v h h' => Lib.hid (ratAdd_any N0 D0 N1 D1 u v W lw0 lw1 (bn0.up u4) (bd0.up u4) (bn1.up u4) (bd1.up u4) h h')
    have HAdd2 := Lib.hid fun W u v h h' => Lib.hid (rqAdd_any N0 D0 N1 D1 u v W (Int.ne_of_gt lw0.1) (Int.ne_of_gt lw1.1) (bn0.up u4) (bd0.up u4) (bn1.up u4) (bd1.up u4) h h')
    have HSub1 := Lib.hid fun W u v h h' => Lib.hid (ratSub_any N0 D0 N1 D1 u v W lw0 lw1 (bn0.up u4) (bd0.up u4) (bn1.up u4) (bd1.up u4) h h')
    have HSub2 := Lib.hid fun W u v h h' => Lib.hid (rqSub_any N0 D0 N1 D1 u v W (Int.ne_of_gt lw0.1) (Int.ne_of_gt lw1.1) (bn0.up u4) (bd0.up u4) (bn1.up u4) (bd1.up u4) h h')
    have HMul1 := Lib.hid fun W u v h h' => Lib.hid (ratMul_any N0 D0 N1 D1 u v W lw0 lw1 (bn0.up u4) (bd0.up u4) (bn1.up u4) (bd1.up u4) h h')
    have HMul2 := Lib.hid fun W u v h h' => Lib.hid (rqMul_any N0 D0 N1 D1 u v W (Int.ne_of_gt lw0.1) (Int.ne_of_gt lw1.1) (bn0.up u4) (bd0.up u4) (bn1.up u4) (bd1.up u4) h h')
    have I1 := Lib.hid fun W u v h h' => Lib.hid (rqIs_any (-N0) D0 u v W lw0.1 (bd_neg (bn0.up u4)) (bd0.up u4) h h')
    have I2 := Lib.hid fun W u v h h' => Lib.hid (rqIs_any ((N0.natAbs : Nat) : Int) D0 u v W lw0.1 (show Bd 100 ((N0.natAbs : Nat) : Int) from by have h := bn0.up u4; unfold Bd at *; omega) (bd0.up u4) h h')
    have pz : D0 * D1 ≠ 0 := Int.mul_ne_zero (Int.ne_of_gt lw0.1) (Int.ne_of_gt lw1.1)
    have I3 := Lib.hid fun W u v h h' => Lib.hid (rqIs_any (qn (N0 * D1 + N1 * D0) (D0 * D1)) (qd (N0 * D1 + N1 * D0) (D0 * D1)) u v W (q_low _ _ pz).1.1 (bd_qn (Bd.up ((bn0.mul bd1).add (bn1.mul bd0)) (by decide))) (bd_qd (Bd.up (bd0.mul bd1) (by decide))) h h')
    have I4 := Lib.hid fun W u v h h' => Lib.hid (rqIs_any (qn (N0 * D1 - N1 * D0) (D0 * D1)) (qd (N0 * D1 - N1 * D0) (D0 * D1)) u v W (q_low _ _ pz).1.1 (bd_qn (Bd.up ((bn0.mul bd1).sub (bn1.mul bd0)) (by decide))) (bd_qd (Bd.up (bd0.mul bd1) (by decide))) h h')
    have I5 := Lib.hid fun W u v h h' => Lib.hid (rqIs_any (qn (N0 * N1) (D0 * D1)) (qd (N0 * N1) (D0 * D1)) u v W (q_low _ _ pz).1.1 (bd_qn (Bd.up (bn0.mul bn1) (by decide))) (bd_qd (Bd.up (bd0.mul bd1) (by decide))) h h')
    have dpos : 0 < (if N1 = 0 then (1 : Int) else qd (N0 * D1) (D0 * N1)) := by split; decide; next h => exact (q_low _ _ (Int.mul_ne_zero (Int.ne_of_gt lw0.1) h)).1.1
    have dbn : Bd 100 (if N1 = 0 then (0 : Int) else qn (N0 * D1) (D0 * N1)) := by split; exact Bd.up Bd.zero (by decide); exact bd_qn (Bd.up (bn0.mul bd1) (by decide))
    have dbd : Bd 100 (if N1 = 0 then (1 : Int) else qd (N0 * D1) (D0 * N1)) := by split; exact Bd.up (show Bd 1 1 from by unfold Bd; decide) (by decide); exact bd_qd (Bd.up (bd0.mul bn1) (by decide))
    have I6 := Lib.hid fun W u v h h' => Lib.hid (rqIs_any (if N1 = 0 then 0 else qn (N0 * D1) (D0 * N1)) (if N1 = 0 then 1 else qd (N0 * D1) (D0 * N1)) u v W dpos dbn dbd h h')
    have I7 := Lib.hid fun W u v h h' => Lib.hid (rqIs_any PN PD u v W pp1 pp2 pp3 h h')
    have I8 := Lib.hid fun W u v h h' => Lib.hid (rqIs_any QN QD u v W qq1 qq2 qq3 h h')
    clear pp1 pp2 pp3 pp4 pp5 qq1 qq2 qq3 qq4 qq5 u4 pz dpos dbn dbd lw0 lw1 bn0 bn1 bd0 bd1 hE1 hE2 hn HC HE2
    generalize (if N1 = 0 then (0 : Int) else qn (N0 * D1) (D0 * N1)) = RN at *
    generalize (if N1 = 0 then (1 : Int) else qd (N0 * D1) (D0 * N1)) = RD at *
    generalize (if N1 = 0 then (6 : Int) else 0) = RC at *
    generalize qn (N0 * D1 + N1 * D0) (D0 * D1) = AN at *
    generalize qd (N0 * D1 + N1 * D0) (D0 * D1) = AD at *
    generalize qn (N0 * D1 - N1 * D0) (D0 * D1) = SN at *
    generalize qd (N0 * D1 - N1 * D0) (D0 * D1) = SD at *
    generalize qn (N0 * N1) (D0 * D1) = MN at *
    generalize qd (N0 * N1) (D0 * D1) = MD at *
    generalize ((N0.natAbs : Nat) : Int) = BN at *
    generalize -N0 = GN at *
    go_upto_region 7 with fail
    have L7 := Lib.hid (And.intro (HS6.out.1.lt) (And.intro (HS6.out.2.1.lt) (And.intro (HS6.out.2.2.1.lt) (And.intro (HS6.out.2.2.2.1.lt) (trivial)))))
    refine wp_region_fl 7 ((Fct.p (N0) (D0)) :: (Fct.p (N1) (D1)) :: (Fct.t2 (Fct.p (RN) (RD)) (Fct.v (.int .i64 RC))) :: (Fct.t2 (Fct.p (RN) (RD)) (Fct.v (.int .i64 RC))) :: (Fct.p (RN) (RD)) :: (Fct.v (.int .i64 RC)) :: (Fct.pb W6.heap.size) :: []) (fun W => PX q_7 x7ds x7dt x7du x7dv (N0) (D0) W ∧ QX q_8 x8ds x8dt x8du x8dv (N0) (D0) W ∧ PX q_9 x9es x9et x9eu x9ev (N1) (D1) W ∧ QX q_10 x10es x10et x10eu x10ev (N1) (D1) W ∧ Below W6.heap.size W6 W) (false :: false :: false :: true :: true :: true :: false :: []) (some 61 :: some 62 :: some 63 :: some 60 :: some 64 :: some 65 :: some 11 :: []) (fun _ _ h hb => ⟨h.1.keep hb, h.2.1.keep hb, h.2.2.1.keep hb, h.2.2.2.1.keep hb, Below.trans h.2.2.2.2 (hb.mono h.2.2.2.2.size)⟩) ⟨HS6.out.1, HS6.out.2.1, HS6.out.2.2.1, HS6.out.2.2.2.1, Below.refl _ _⟩ ?_ ?_
    ·refine so (step_ldP (p := q_7) rfl (.inl rfl) Arg.od (fun _ h => h.1.c4) (fun _ h => h.1.rv)) ?_
     refine so (step_ldP (p := q_9) rfl (.inl rfl) Arg.od (fun _ h => h.2.2.1.c4) (fun _ h => h.2.2.1.rv)) ?_
     refine so (step_call2 E3.out rfl (.inl rfl) (Arg.t 0 rfl) (Arg.t 1 rfl) (fun u v w _ h1 h2 => (HDV.out _ _ _ h1 h2).out.mono fun e w' ⟨x0, he, hi, hb⟩ => ⟨_, he, ⟨_, _, rfl, hi, rfl⟩, hb⟩)) ?_
     refine sy (sty_move rfl (.inl rfl) (Arg.t 2 rfl)) ?_
     refine sy (sty_ex20 (f := Fct.p (RN) (RD)) (g := Fct.v (.int .i64 RC)) rfl (.inl rfl) (Arg.t 3 rfl)) ?_
     refine sy (sty_ex21 (f := Fct.p (RN) (RD)) (g := Fct.v (.int .i64 RC)) rfl (.inl rfl) (Arg.t 3 rfl)) ?_
     refine sa (step_alP (B := W6.heap.size) rfl (.inl rfl) (fun _ h => h.2.2.2.2.size) (fun _ _ h => h)) ?_
     trivial
    intro v7 W7 hk hdf hs
    simp only [putV, Act.put, List.setIfInBounds_toArray, List.set_cons_zero, List.set_cons_succ, Nat.reduceAdd]
    have a_11 : (Fct.pb W6.heap.size).R (v7 6) W7 := hk 6 _ (by decide) rfl
    refine Fct.pb_elim a_11 ?_
    intro q_11 e_11 g_11 k_11
    have k_64 : (Fct.p (RN) (RD)).R (v7 4) W7 := hk 4 _ (by decide) rfl
    have f_65 : v7 5 = .int .i64 RC := hk 5 _ (by decide) rfl
    clear hk hdf
    simp only [e_11, f_65]
    have B7_0 := Below.trans HS6.out.2.2.2.2 (hs.2.2.2.2.mono HS6.out.2.2.2.2.size)
    have N_7_11 := Lib.hid (Nat.ne_of_lt (Nat.lt_of_lt_of_le L7.out.1 g_11))
    have N_8_11 := Lib.hid (Nat.ne_of_lt (Nat.lt_of_lt_of_le L7.out.2.1 g_11))
    have N_9_11 := Lib.hid (Nat.ne_of_lt (Nat.lt_of_lt_of_le L7.out.2.2.1 g_11))
    have N_10_11 := Lib.hid (Nat.ne_of_lt (Nat.lt_of_lt_of_le L7.out.2.2.2.1 g_11))
    have G_11 := Lib.hid (show w.heap.size ≤ q_11 from Nat.le_trans HS6.out.2.2.2.2.size g_11)
    refine tail_stP (q := q_11) rfl rfl rfl rfl k_11 k_64 ?_
    intro W7_1 x11hs x11ht x11hu x11hv n_11_1 s_11_1
    have m_7_1 := (hs.1).stq s_11_1 N_7_11.out
    have m_8_1 := (hs.2.1).stq s_11_1 N_8_11.out
    have m_9_1 := (hs.2.2.1).stq s_11_1 N_9_11.out
    have m_10_1 := (hs.2.2.2.1).stq s_11_1 N_10_11.out
    have B7_1 := s_11_1.below w.heap.size w G_11.out B7_0
    refine tail_assign rfl rfl ?_
    simp only [Act.put, List.setIfInBounds_toArray, List.set_cons_zero, List.set_cons_succ]
    refine tail_nil ?_
    have HS7 := Lib.hid (And.intro (m_7_1) (And.intro (m_8_1) (And.intro (m_9_1) (And.intro (m_10_1) (And.intro (n_11_1) (B7_1))))))
    clear hs L7 HS6 B7_0 B7_1 k_64 f_65 n_11_1 s_11_1 m_7_1 m_8_1 m_9_1 m_10_1 e_11 g_11 k_11 a_11
    go_upto_region 8 with fail
    have L8 := Lib.hid (And.intro (HS7.out.1.lt) (And.intro (HS7.out.2.1.lt) (And.intro (HS7.out.2.2.1.lt) (And.intro (HS7.out.2.2.2.1.lt) (And.intro (HS7.out.2.2.2.2.1.lt) (trivial))))))
    refine wp_region_fl 7 ((Fct.q (N0) (D0)) :: (Fct.q (N1) (D1)) :: (Fct.t2 (Fct.q (RN) (RD)) (Fct.v (.int .i64 RC))) :: (Fct.t2 (Fct.q (RN) (RD)) (Fct.v (.int .i64 RC))) :: (Fct.q (RN) (RD)) :: (Fct.v (.int .i64 RC)) :: (Fct.qb W7_1.heap.size) :: []) (fun W => PX q_7 x7ds x7dt x7du x7dv (N0) (D0) W ∧ QX q_8 x8ds x8dt x8du x8dv (N0) (D0) W ∧ PX q_9 x9es x9et x9eu x9ev (N1) (D1) W ∧ QX q_10 x10es x10et x10eu x10ev (N1) (D1) W ∧ PX q_11 x11hs x11ht x11hu x11hv (RN) (RD) W ∧ Below W7_1.heap.size W7_1 W) (false :: false :: false :: true :: true :: true :: false :: []) (some 67 :: some 68 :: some 69 :: some 66 :: some 70 :: some 71 :: some 13 :: []) (fun _ _ h hb => ⟨h.1.keep hb, h.2.1.keep hb, h.2.2.1.keep hb, h.2.2.2.1.keep hb, h.2.2.2.2.1.keep hb, Below.trans h.2.2.2.2.2 (hb.mono h.2.2.2.2.2.size)⟩) ⟨HS7.out.1, HS7.out.2.1, HS7.out.2.2.1, HS7.out.2.2.2.1, HS7.out.2.2.2.2.1, Below.refl _ _⟩ ?_ ?_
    ·refine so (step_ldQ (p := q_8) rfl (.inl rfl) Arg.od (fun _ h => h.2.1.c4) (fun _ h => h.2.1.rq)) ?_
     refine so (step_ldQ (p := q_10) rfl (.inl rfl) Arg.od (fun _ h => h.2.2.2.1.c4) (fun _ h => h.2.2.2.1.rq)) ?_
     refine so (step_call2 E11.out rfl (.inl rfl) (Arg.t 0 rfl) (Arg.t 1 rfl) (fun u v w _ h1 h2 => (HRV.out _ _ _ h1 h2).out.mono fun e w' ⟨x0, he, hi, hb⟩ => ⟨_, he, ⟨_, _, rfl, hi, rfl⟩, hb⟩)) ?_
     refine sy (sty_move rfl (.inl rfl) (Arg.t 2 rfl)) ?_
     refine sy (sty_ex20 (f := Fct.q (RN) (RD)) (g := Fct.v (.int .i64 RC)) rfl (.inl rfl) (Arg.t 3 rfl)) ?_
     refine sy (sty_ex21 (f := Fct.q (RN) (RD)) (g := Fct.v (.int .i64 RC)) rfl (.inl rfl) (Arg.t 3 rfl)) ?_
     refine sa (step_alQ (B := W7_1.heap.size) rfl (.inl rfl) (fun _ h => h.2.2.2.2.2.size) (fun _ _ h => h)) ?_
     trivial
    intro v8 W8 hk hdf hs
    simp only [putV, Act.put, List.setIfInBounds_toArray, List.set_cons_zero, List.set_cons_succ, Nat.reduceAdd]
    have a_13 : (Fct.qb W7_1.heap.size).R (v8 6) W8 := hk 6 _ (by decide) rfl
    refine Fct.qb_elim a_13 ?_
    intro q_13 e_13 g_13 k_13
    have k_70 : (Fct.q (RN) (RD)).R (v8 4) W8 := hk 4 _ (by decide) rfl
    have f_71 : v8 5 = .int .i64 RC := hk 5 _ (by decide) rfl
    clear hk hdf
    simp only [e_13, f_71]
    have B8_0 := Below.trans HS7.out.2.2.2.2.2 (hs.2.2.2.2.2.mono HS7.out.2.2.2.2.2.size)
    have N_7_13 := Lib.hid (Nat.ne_of_lt (Nat.lt_of_lt_of_le L8.out.1 g_13))
    have N_8_13 := Lib.hid (Nat.ne_of_lt (Nat.lt_of_lt_of_le L8.out.2.1 g_13))
    have N_9_13 := Lib.hid (Nat.ne_of_lt (Nat.lt_of_lt_of_le L8.out.2.2.1 g_13))
    have N_10_13 := Lib.hid (Nat.ne_of_lt (Nat.lt_of_lt_of_le L8.out.2.2.2.1 g_13))
    have N_11_13 := Lib.hid (Nat.ne_of_lt (Nat.lt_of_lt_of_le L8.out.2.2.2.2.1 g_13))
    have G_13 := Lib.hid (show w.heap.size ≤ q_13 from Nat.le_trans HS7.out.2.2.2.2.2.size g_13)
    refine tail_stQ (q := q_13) rfl rfl rfl rfl k_13 k_70 ?_
    intro W8_1 x13is x13it x13iu x13iv n_13_1 s_13_1
    have m_7_1 := (hs.1).stq s_13_1 N_7_13.out
    have m_8_1 := (hs.2.1).stq s_13_1 N_8_13.out
    have m_9_1 := (hs.2.2.1).stq s_13_1 N_9_13.out
    have m_10_1 := (hs.2.2.2.1).stq s_13_1 N_10_13.out
    have m_11_1 := (hs.2.2.2.2.1).stq s_13_1 N_11_13.out
    have B8_1 := s_13_1.below w.heap.size w G_13.out B8_0
    refine tail_assign rfl rfl ?_
    simp only [Act.put, List.setIfInBounds_toArray, List.set_cons_zero, List.set_cons_succ]
    refine tail_nil ?_
    have HS8 := Lib.hid (And.intro (m_7_1) (And.intro (m_8_1) (And.intro (m_9_1) (And.intro (m_10_1) (And.intro (m_11_1) (And.intro (n_13_1) (B8_1)))))))
    clear hs L8 HS7 B8_0 B8_1 k_70 f_71 n_13_1 s_13_1 m_7_1 m_8_1 m_9_1 m_10_1 m_11_1 e_13 g_13 k_13 a_13
    go_upto_region 9 with fail
    have L9 := Lib.hid (And.intro (HS8.out.1.lt) (And.intro (HS8.out.2.1.lt) (And.intro (HS8.out.2.2.1.lt) (And.intro (HS8.out.2.2.2.1.lt) (And.intro (HS8.out.2.2.2.2.1.lt) (And.intro (HS8.out.2.2.2.2.2.1.lt) (trivial)))))))
    refine wp_region_fl 7 ((Fct.p (N0) (D0)) :: (Fct.v (.int .i64 e)) :: (Fct.t2 (Fct.p (PN) (PD)) (Fct.v (.int .i64 PC))) :: (Fct.t2 (Fct.p (PN) (PD)) (Fct.v (.int .i64 PC))) :: (Fct.p (PN) (PD)) :: (Fct.v (.int .i64 PC)) :: (Fct.pb W8_1.heap.size) :: []) (fun W => PX q_7 x7ds x7dt x7du x7dv (N0) (D0) W ∧ QX q_8 x8ds x8dt x8du x8dv (N0) (D0) W ∧ PX q_9 x9es x9et x9eu x9ev (N1) (D1) W ∧ QX q_10 x10es x10et x10eu x10ev (N1) (D1) W ∧ PX q_11 x11hs x11ht x11hu x11hv (RN) (RD) W ∧ QX q_13 x13is x13it x13iu x13iv (RN) (RD) W ∧ Below W8_1.heap.size W8_1 W) (false :: true :: false :: true :: true :: true :: false :: []) (some 73 :: some 74 :: some 75 :: some 72 :: some 76 :: some 77 :: some 15 :: []) (fun _ _ h hb => ⟨h.1.keep hb, h.2.1.keep hb, h.2.2.1.keep hb, h.2.2.2.1.keep hb, h.2.2.2.2.1.keep hb, h.2.2.2.2.2.1.keep hb, Below.trans h.2.2.2.2.2.2 (hb.mono h.2.2.2.2.2.2.size)⟩) ⟨HS8.out.1, HS8.out.2.1, HS8.out.2.2.1, HS8.out.2.2.2.1, HS8.out.2.2.2.2.1, HS8.out.2.2.2.2.2.1, Below.refl _ _⟩ ?_ ?_
    ·refine so (step_ldP (p := q_7) rfl (.inl rfl) Arg.od (fun _ h => h.1.c4) (fun _ h => h.1.rv)) ?_
     refine sy (sty_move rfl (.inl rfl) Arg.od) ?_
     refine so (step_call2 E4.out rfl (.inl rfl) (Arg.t 0 rfl) (Arg.t 1 rfl) (fun u v w _ h1 h2 => (by obtain rfl := (show _ = _ from h2); exact (HP1.out _ _ h1).out.mono fun e w' ⟨x0, he, hi, hb⟩ => ⟨_, he, ⟨_, _, rfl, hi, rfl⟩, hb⟩))) ?_
     refine sy (sty_move rfl (.inl rfl) (Arg.t 2 rfl)) ?_
     refine sy (sty_ex20 (f := Fct.p (PN) (PD)) (g := Fct.v (.int .i64 PC)) rfl (.inl rfl) (Arg.t 3 rfl)) ?_
     refine sy (sty_ex21 (f := Fct.p (PN) (PD)) (g := Fct.v (.int .i64 PC)) rfl (.inl rfl) (Arg.t 3 rfl)) ?_
     refine sa (step_alP (B := W8_1.heap.size) rfl (.inl rfl) (fun _ h => h.2.2.2.2.2.2.size) (fun _ _ h => h)) ?_
     trivial
    intro v9 W9 hk hdf hs
    simp only [putV, Act.put, List.setIfInBounds_toArray, List.set_cons_zero, List.set_cons_succ, Nat.reduceAdd]
    have a_15 : (Fct.pb W8_1.heap.size).R (v9 6) W9 := hk 6 _ (by decide) rfl
    refine Fct.pb_elim a_15 ?_
    intro q_15 e_15 g_15 k_15
    have f_74 : v9 1 = .int .i64 e := hk 1 _ (by decide) rfl
    have k_76 : (Fct.p (PN) (PD)).R (v9 4) W9 := hk 4 _ (by decide) rfl
    have f_77 : v9 5 = .int .i64 PC := hk 5 _ (by decide) rfl
    clear hk hdf
    simp only [e_15, f_74, f_77]
    have B9_0 := Below.trans HS8.out.2.2.2.2.2.2 (hs.2.2.2.2.2.2.mono HS8.out.2.2.2.2.2.2.size)
    have N_7_15 := Lib.hid (Nat.ne_of_lt (Nat.lt_of_lt_of_le L9.out.1 g_15))
    have N_8_15 := Lib.hid (Nat.ne_of_lt (Nat.lt_of_lt_of_le L9.out.2.1 g_15))
    have N_9_15 := Lib.hid (Nat.ne_of_lt (Nat.lt_of_lt_of_le L9.out.2.2.1 g_15))
    have N_10_15 := Lib.hid (Nat.ne_of_lt (Nat.lt_of_lt_of_le L9.out.2.2.2.1 g_15))
    have N_11_15 := Lib.hid (Nat.ne_of_lt (Nat.lt_of_lt_of_le L9.out.2.2.2.2.1 g_15))
    have N_13_15 := Lib.hid (Nat.ne_of_lt (Nat.lt_of_lt_of_le L9.out.2.2.2.2.2.1 g_15))
    have G_15 := Lib.hid (show w.heap.size ≤ q_15 from Nat.le_trans HS8.out.2.2.2.2.2.2.size g_15)
    refine tail_stP (q := q_15) rfl rfl rfl rfl k_15 k_76 ?_
    intro W9_1 x15js x15jt x15ju x15jv n_15_1 s_15_1
    have m_7_1 := (hs.1).stq s_15_1 N_7_15.out
    have m_8_1 := (hs.2.1).stq s_15_1 N_8_15.out
    have m_9_1 := (hs.2.2.1).stq s_15_1 N_9_15.out
    have m_10_1 := (hs.2.2.2.1).stq s_15_1 N_10_15.out
    have m_11_1 := (hs.2.2.2.2.1).stq s_15_1 N_11_15.out
    have m_13_1 := (hs.2.2.2.2.2.1).stq s_15_1 N_13_15.out
    have B9_1 := s_15_1.below w.heap.size w G_15.out B9_0
    refine tail_assign rfl rfl ?_
    simp only [Act.put, List.setIfInBounds_toArray, List.set_cons_zero, List.set_cons_succ]
    refine tail_nil ?_
    have HS9 := Lib.hid (And.intro (m_7_1) (And.intro (m_8_1) (And.intro (m_9_1) (And.intro (m_10_1) (And.intro (m_11_1) (And.intro (m_13_1) (And.intro (n_15_1) (B9_1))))))))
    clear hs L9 HS8 B9_0 B9_1 f_74 k_76 f_77 n_15_1 s_15_1 m_7_1 m_8_1 m_9_1 m_10_1 m_11_1 m_13_1 e_15 g_15 k_15 a_15
    go_upto_region 10 with fail
    have L10 := Lib.hid (And.intro (HS9.out.1.lt) (And.intro (HS9.out.2.1.lt) (And.intro (HS9.out.2.2.1.lt) (And.intro (HS9.out.2.2.2.1.lt) (And.intro (HS9.out.2.2.2.2.1.lt) (And.intro (HS9.out.2.2.2.2.2.1.lt) (And.intro (HS9.out.2.2.2.2.2.2.1.lt) (trivial))))))))
    refine wp_region_fl 7 ((Fct.q (N0) (D0)) :: (Fct.v (.int .i64 e)) :: (Fct.t2 (Fct.q (PN) (PD)) (Fct.v (.int .i64 PC))) :: (Fct.t2 (Fct.q (PN) (PD)) (Fct.v (.int .i64 PC))) :: (Fct.q (PN) (PD)) :: (Fct.v (.int .i64 PC)) :: (Fct.qb W9_1.heap.size) :: []) (fun W => PX q_7 x7ds x7dt x7du x7dv (N0) (D0) W ∧ QX q_8 x8ds x8dt x8du x8dv (N0) (D0) W ∧ PX q_9 x9es x9et x9eu x9ev (N1) (D1) W ∧ QX q_10 x10es x10et x10eu x10ev (N1) (D1) W ∧ PX q_11 x11hs x11ht x11hu x11hv (RN) (RD) W ∧ QX q_13 x13is x13it x13iu x13iv (RN) (RD) W ∧ PX q_15 x15js x15jt x15ju x15jv (PN) (PD) W ∧ Below W9_1.heap.size W9_1 W) (false :: true :: false :: true :: true :: true :: false :: []) (some 79 :: some 80 :: some 81 :: some 78 :: some 82 :: some 83 :: some 17 :: []) (fun _ _ h hb => ⟨h.1.keep hb, h.2.1.keep hb, h.2.2.1.keep hb, h.2.2.2.1.keep hb, h.2.2.2.2.1.keep hb, h.2.2.2.2.2.1.keep hb, h.2.2.2.2.2.2.1.keep hb, Below.trans h.2.2.2.2.2.2.2 (hb.mono h.2.2.2.2.2.2.2.size)⟩) ⟨HS9.out.1, HS9.out.2.1, HS9.out.2.2.1, HS9.out.2.2.2.1, HS9.out.2.2.2.2.1, HS9.out.2.2.2.2.2.1, HS9.out.2.2.2.2.2.2.1, Below.refl _ _⟩ ?_ ?_
    ·refine so (step_ldQ (p := q_8) rfl (.inl rfl) Arg.od (fun _ h => h.2.1.c4) (fun _ h => h.2.1.rq)) ?_
     refine sy (sty_move rfl (.inl rfl) Arg.od) ?_
     refine so (step_call2 E12.out rfl (.inl rfl) (Arg.t 0 rfl) (Arg.t 1 rfl) (fun u v w _ h1 h2 => (by obtain rfl := (show _ = _ from h2); exact (HP2.out _ _ h1).out.mono fun e w' ⟨x0, he, hi, hb⟩ => ⟨_, he, ⟨_, _, rfl, hi, rfl⟩, hb⟩))) ?_
     refine sy (sty_move rfl (.inl rfl) (Arg.t 2 rfl)) ?_
     refine sy (sty_ex20 (f := Fct.q (PN) (PD)) (g := Fct.v (.int .i64 PC)) rfl (.inl rfl) (Arg.t 3 rfl)) ?_
     refine sy (sty_ex21 (f := Fct.q (PN) (PD)) (g := Fct.v (.int .i64 PC)) rfl (.inl rfl) (Arg.t 3 rfl)) ?_
     refine sa (step_alQ (B := W9_1.heap.size) rfl (.inl rfl) (fun _ h => h.2.2.2.2.2.2.2.size) (fun _ _ h => h)) ?_
     trivial
    intro v10 W10 hk hdf hs
    simp only [putV, Act.put, List.setIfInBounds_toArray, List.set_cons_zero, List.set_cons_succ, Nat.reduceAdd]
    have a_17 : (Fct.qb W9_1.heap.size).R (v10 6) W10 := hk 6 _ (by decide) rfl
    refine Fct.qb_elim a_17 ?_
    intro q_17 e_17 g_17 k_17
    have f_80 : v10 1 = .int .i64 e := hk 1 _ (by decide) rfl
    have k_82 : (Fct.q (PN) (PD)).R (v10 4) W10 := hk 4 _ (by decide) rfl
    have f_83 : v10 5 = .int .i64 PC := hk 5 _ (by decide) rfl
    clear hk hdf
    simp only [e_17, f_80, f_83]
    have B10_0 := Below.trans HS9.out.2.2.2.2.2.2.2 (hs.2.2.2.2.2.2.2.mono HS9.out.2.2.2.2.2.2.2.size)
    have N_7_17 := Lib.hid (Nat.ne_of_lt (Nat.lt_of_lt_of_le L10.out.1 g_17))
    have N_8_17 := Lib.hid (Nat.ne_of_lt (Nat.lt_of_lt_of_le L10.out.2.1 g_17))
    have N_9_17 := Lib.hid (Nat.ne_of_lt (Nat.lt_of_lt_of_le L10.out.2.2.1 g_17))
    have N_10_17 := Lib.hid (Nat.ne_of_lt (Nat.lt_of_lt_of_le L10.out.2.2.2.1 g_17))
    have N_11_17 := Lib.hid (Nat.ne_of_lt (Nat.lt_of_lt_of_le L10.out.2.2.2.2.1 g_17))
    have N_13_17 := Lib.hid (Nat.ne_of_lt (Nat.lt_of_lt_of_le L10.out.2.2.2.2.2.1 g_17))
    have N_15_17 := Lib.hid (Nat.ne_of_lt (Nat.lt_of_lt_of_le L10.out.2.2.2.2.2.2.1 g_17))
    have G_17 := Lib.hid (show w.heap.size ≤ q_17 from Nat.le_trans HS9.out.2.2.2.2.2.2.2.size g_17)
    refine tail_stQ (q := q_17) rfl rfl rfl rfl k_17 k_82 ?_
    intro W10_1 x17ks x17kt x17ku x17kv n_17_1 s_17_1
    have m_7_1 := (hs.1).stq s_17_1 N_7_17.out
    have m_8_1 := (hs.2.1).stq s_17_1 N_8_17.out
    have m_9_1 := (hs.2.2.1).stq s_17_1 N_9_17.out
    have m_10_1 := (hs.2.2.2.1).stq s_17_1 N_10_17.out
    have m_11_1 := (hs.2.2.2.2.1).stq s_17_1 N_11_17.out
    have m_13_1 := (hs.2.2.2.2.2.1).stq s_17_1 N_13_17.out
    have m_15_1 := (hs.2.2.2.2.2.2.1).stq s_17_1 N_15_17.out
    have B10_1 := s_17_1.below w.heap.size w G_17.out B10_0
    refine tail_assign rfl rfl ?_
    simp only [Act.put, List.setIfInBounds_toArray, List.set_cons_zero, List.set_cons_succ]
    refine tail_nil ?_
    have HS10 := Lib.hid (And.intro (m_7_1) (And.intro (m_8_1) (And.intro (m_9_1) (And.intro (m_10_1) (And.intro (m_11_1) (And.intro (m_13_1) (And.intro (m_15_1) (And.intro (n_17_1) (B10_1)))))))))
    clear hs L10 HS9 B10_0 B10_1 f_80 k_82 f_83 n_17_1 s_17_1 m_7_1 m_8_1 m_9_1 m_10_1 m_11_1 m_13_1 m_15_1 e_17 g_17 k_17 a_17
    go_upto_region 11 with fail
    have L11 := Lib.hid (And.intro (HS10.out.1.lt) (And.intro (HS10.out.2.1.lt) (And.intro (HS10.out.2.2.1.lt) (And.intro (HS10.out.2.2.2.1.lt) (And.intro (HS10.out.2.2.2.2.1.lt) (And.intro (HS10.out.2.2.2.2.2.1.lt) (And.intro (HS10.out.2.2.2.2.2.2.1.lt) (And.intro (HS10.out.2.2.2.2.2.2.2.1.lt) (trivial)))))))))
    refine wp_region_fl 6 ((Fct.p (N1) (D1)) :: (Fct.t2 (Fct.p (QN) (QD)) (Fct.v (.int .i64 QC))) :: (Fct.t2 (Fct.p (QN) (QD)) (Fct.v (.int .i64 QC))) :: (Fct.p (QN) (QD)) :: (Fct.v (.int .i64 QC)) :: (Fct.pb W10_1.heap.size) :: []) (fun W => PX q_7 x7ds x7dt x7du x7dv (N0) (D0) W ∧ QX q_8 x8ds x8dt x8du x8dv (N0) (D0) W ∧ PX q_9 x9es x9et x9eu x9ev (N1) (D1) W ∧ QX q_10 x10es x10et x10eu x10ev (N1) (D1) W ∧ PX q_11 x11hs x11ht x11hu x11hv (RN) (RD) W ∧ QX q_13 x13is x13it x13iu x13iv (RN) (RD) W ∧ PX q_15 x15js x15jt x15ju x15jv (PN) (PD) W ∧ QX q_17 x17ks x17kt x17ku x17kv (PN) (PD) W ∧ Below W10_1.heap.size W10_1 W) (false :: false :: true :: true :: true :: false :: []) (some 85 :: some 86 :: some 84 :: some 87 :: some 88 :: some 19 :: []) (fun _ _ h hb => ⟨h.1.keep hb, h.2.1.keep hb, h.2.2.1.keep hb, h.2.2.2.1.keep hb, h.2.2.2.2.1.keep hb, h.2.2.2.2.2.1.keep hb, h.2.2.2.2.2.2.1.keep hb, h.2.2.2.2.2.2.2.1.keep hb, Below.trans h.2.2.2.2.2.2.2.2 (hb.mono h.2.2.2.2.2.2.2.2.size)⟩) ⟨HS10.out.1, HS10.out.2.1, HS10.out.2.2.1, HS10.out.2.2.2.1, HS10.out.2.2.2.2.1, HS10.out.2.2.2.2.2.1, HS10.out.2.2.2.2.2.2.1, HS10.out.2.2.2.2.2.2.2.1, Below.refl _ _⟩ ?_ ?_
    ·refine so (step_ldP (p := q_9) rfl (.inl rfl) Arg.od (fun _ h => h.2.2.1.c4) (fun _ h => h.2.2.1.rv)) ?_
     refine so (step_call1 E5.out rfl (.inl rfl) (Arg.t 0 rfl) (fun u w _ h1 => (HT1.out _ _ h1).out.mono fun e w' ⟨x0, he, hi, hb⟩ => ⟨_, he, ⟨_, _, rfl, hi, rfl⟩, hb⟩)) ?_
     refine sy (sty_move rfl (.inl rfl) (Arg.t 1 rfl)) ?_
     refine sy (sty_ex20 (f := Fct.p (QN) (QD)) (g := Fct.v (.int .i64 QC)) rfl (.inl rfl) (Arg.t 2 rfl)) ?_
     refine sy (sty_ex21 (f := Fct.p (QN) (QD)) (g := Fct.v (.int .i64 QC)) rfl (.inl rfl) (Arg.t 2 rfl)) ?_
     refine sa (step_alP (B := W10_1.heap.size) rfl (.inl rfl) (fun _ h => h.2.2.2.2.2.2.2.2.size) (fun _ _ h => h)) ?_
     trivial
    intro v11 W11 hk hdf hs
    simp only [putV, Act.put, List.setIfInBounds_toArray, List.set_cons_zero, List.set_cons_succ, Nat.reduceAdd]
    have a_19 : (Fct.pb W10_1.heap.size).R (v11 5) W11 := hk 5 _ (by decide) rfl
    refine Fct.pb_elim a_19 ?_
    intro q_19 e_19 g_19 k_19
    have k_87 : (Fct.p (QN) (QD)).R (v11 3) W11 := hk 3 _ (by decide) rfl
    have f_88 : v11 4 = .int .i64 QC := hk 4 _ (by decide) rfl
    clear hk hdf
    simp only [e_19, f_88]
    have B11_0 := Below.trans HS10.out.2.2.2.2.2.2.2.2 (hs.2.2.2.2.2.2.2.2.mono HS10.out.2.2.2.2.2.2.2.2.size)
    have N_7_19 := Lib.hid (Nat.ne_of_lt (Nat.lt_of_lt_of_le L11.out.1 g_19))
    have N_8_19 := Lib.hid (Nat.ne_of_lt (Nat.lt_of_lt_of_le L11.out.2.1 g_19))
    have N_9_19 := Lib.hid (Nat.ne_of_lt (Nat.lt_of_lt_of_le L11.out.2.2.1 g_19))
    have N_10_19 := Lib.hid (Nat.ne_of_lt (Nat.lt_of_lt_of_le L11.out.2.2.2.1 g_19))
    have N_11_19 := Lib.hid (Nat.ne_of_lt (Nat.lt_of_lt_of_le L11.out.2.2.2.2.1 g_19))
    have N_13_19 := Lib.hid (Nat.ne_of_lt (Nat.lt_of_lt_of_le L11.out.2.2.2.2.2.1 g_19))
    have N_15_19 := Lib.hid (Nat.ne_of_lt (Nat.lt_of_lt_of_le L11.out.2.2.2.2.2.2.1 g_19))
    have N_17_19 := Lib.hid (Nat.ne_of_lt (Nat.lt_of_lt_of_le L11.out.2.2.2.2.2.2.2.1 g_19))
    have G_19 := Lib.hid (show w.heap.size ≤ q_19 from Nat.le_trans HS10.out.2.2.2.2.2.2.2.2.size g_19)
    refine tail_stP (q := q_19) rfl rfl rfl rfl k_19 k_87 ?_
    intro W11_1 x19ls x19lt x19lu x19lv n_19_1 s_19_1
    have m_7_1 := (hs.1).stq s_19_1 N_7_19.out
    have m_8_1 := (hs.2.1).stq s_19_1 N_8_19.out
    have m_9_1 := (hs.2.2.1).stq s_19_1 N_9_19.out
    have m_10_1 := (hs.2.2.2.1).stq s_19_1 N_10_19.out
    have m_11_1 := (hs.2.2.2.2.1).stq s_19_1 N_11_19.out
    have m_13_1 := (hs.2.2.2.2.2.1).stq s_19_1 N_13_19.out
    have m_15_1 := (hs.2.2.2.2.2.2.1).stq s_19_1 N_15_19.out
    have m_17_1 := (hs.2.2.2.2.2.2.2.1).stq s_19_1 N_17_19.out
    have B11_1 := s_19_1.below w.heap.size w G_19.out B11_0
    refine tail_assign rfl rfl ?_
    simp only [Act.put, List.setIfInBounds_toArray, List.set_cons_zero, List.set_cons_succ]
    refine tail_nil ?_
    have HS11 := Lib.hid (And.intro (m_7_1) (And.intro (m_8_1) (And.intro (m_9_1) (And.intro (m_10_1) (And.intro (m_11_1) (And.intro (m_13_1) (And.intro (m_15_1) (And.intro (m_17_1) (And.intro (n_19_1) (B11_1))))))))))
    clear hs L11 HS10 B11_0 B11_1 k_87 f_88 n_19_1 s_19_1 m_7_1 m_8_1 m_9_1 m_10_1 m_11_1 m_13_1 m_15_1 m_17_1 e_19 g_19 k_19 a_19
    go_upto_region 12 with fail
    have L12 := Lib.hid (And.intro (HS11.out.1.lt) (And.intro (HS11.out.2.1.lt) (And.intro (HS11.out.2.2.1.lt) (And.intro (HS11.out.2.2.2.1.lt) (And.intro (HS11.out.2.2.2.2.1.lt) (And.intro (HS11.out.2.2.2.2.2.1.lt) (And.intro (HS11.out.2.2.2.2.2.2.1.lt) (And.intro (HS11.out.2.2.2.2.2.2.2.1.lt) (And.intro (HS11.out.2.2.2.2.2.2.2.2.1.lt) (trivial))))))))))
    refine wp_region_fl 6 ((Fct.q (N1) (D1)) :: (Fct.t2 (Fct.q (QN) (QD)) (Fct.v (.int .i64 QC))) :: (Fct.t2 (Fct.q (QN) (QD)) (Fct.v (.int .i64 QC))) :: (Fct.q (QN) (QD)) :: (Fct.v (.int .i64 QC)) :: (Fct.qb W11_1.heap.size) :: []) (fun W => PX q_7 x7ds x7dt x7du x7dv (N0) (D0) W ∧ QX q_8 x8ds x8dt x8du x8dv (N0) (D0) W ∧ PX q_9 x9es x9et x9eu x9ev (N1) (D1) W ∧ QX q_10 x10es x10et x10eu x10ev (N1) (D1) W ∧ PX q_11 x11hs x11ht x11hu x11hv (RN) (RD) W ∧ QX q_13 x13is x13it x13iu x13iv (RN) (RD) W ∧ PX q_15 x15js x15jt x15ju x15jv (PN) (PD) W ∧ QX q_17 x17ks x17kt x17ku x17kv (PN) (PD) W ∧ PX q_19 x19ls x19lt x19lu x19lv (QN) (QD) W ∧ Below W11_1.heap.size W11_1 W) (false :: false :: true :: true :: true :: false :: []) (some 90 :: some 91 :: some 89 :: some 92 :: some 93 :: some 21 :: []) (fun _ _ h hb => ⟨h.1.keep hb, h.2.1.keep hb, h.2.2.1.keep hb, h.2.2.2.1.keep hb, h.2.2.2.2.1.keep hb, h.2.2.2.2.2.1.keep hb, h.2.2.2.2.2.2.1.keep hb, h.2.2.2.2.2.2.2.1.keep hb, h.2.2.2.2.2.2.2.2.1.keep hb, Below.trans h.2.2.2.2.2.2.2.2.2 (hb.mono h.2.2.2.2.2.2.2.2.2.size)⟩) ⟨HS11.out.1, HS11.out.2.1, HS11.out.2.2.1, HS11.out.2.2.2.1, HS11.out.2.2.2.2.1, HS11.out.2.2.2.2.2.1, HS11.out.2.2.2.2.2.2.1, HS11.out.2.2.2.2.2.2.2.1, HS11.out.2.2.2.2.2.2.2.2.1, Below.refl _ _⟩ ?_ ?_
    ·refine so (step_ldQ (p := q_10) rfl (.inl rfl) Arg.od (fun _ h => h.2.2.2.1.c4) (fun _ h => h.2.2.2.1.rq)) ?_
     refine so (step_call1 E13.out rfl (.inl rfl) (Arg.t 0 rfl) (fun u w _ h1 => (HT2.out _ _ h1).out.mono fun e w' ⟨x0, he, hi, hb⟩ => ⟨_, he, ⟨_, _, rfl, hi, rfl⟩, hb⟩)) ?_
     refine sy (sty_move rfl (.inl rfl) (Arg.t 1 rfl)) ?_
     refine sy (sty_ex20 (f := Fct.q (QN) (QD)) (g := Fct.v (.int .i64 QC)) rfl (.inl rfl) (Arg.t 2 rfl)) ?_
     refine sy (sty_ex21 (f := Fct.q (QN) (QD)) (g := Fct.v (.int .i64 QC)) rfl (.inl rfl) (Arg.t 2 rfl)) ?_
     refine sa (step_alQ (B := W11_1.heap.size) rfl (.inl rfl) (fun _ h => h.2.2.2.2.2.2.2.2.2.size) (fun _ _ h => h)) ?_
     trivial
    intro v12 W12 hk hdf hs
    simp only [putV, Act.put, List.setIfInBounds_toArray, List.set_cons_zero, List.set_cons_succ, Nat.reduceAdd]
    have a_21 : (Fct.qb W11_1.heap.size).R (v12 5) W12 := hk 5 _ (by decide) rfl
    refine Fct.qb_elim a_21 ?_
    intro q_21 e_21 g_21 k_21
    have k_92 : (Fct.q (QN) (QD)).R (v12 3) W12 := hk 3 _ (by decide) rfl
    have f_93 : v12 4 = .int .i64 QC := hk 4 _ (by decide) rfl
    clear hk hdf
    simp only [e_21, f_93]
    have B12_0 := Below.trans HS11.out.2.2.2.2.2.2.2.2.2 (hs.2.2.2.2.2.2.2.2.2.mono HS11.out.2.2.2.2.2.2.2.2.2.size)
    have N_7_21 := Lib.hid (Nat.ne_of_lt (Nat.lt_of_lt_of_le L12.out.1 g_21))
    have N_8_21 := Lib.hid (Nat.ne_of_lt (Nat.lt_of_lt_of_le L12.out.2.1 g_21))
    have N_9_21 := Lib.hid (Nat.ne_of_lt (Nat.lt_of_lt_of_le L12.out.2.2.1 g_21))
    have N_10_21 := Lib.hid (Nat.ne_of_lt (Nat.lt_of_lt_of_le L12.out.2.2.2.1 g_21))
    have N_11_21 := Lib.hid (Nat.ne_of_lt (Nat.lt_of_lt_of_le L12.out.2.2.2.2.1 g_21))
    have N_13_21 := Lib.hid (Nat.ne_of_lt (Nat.lt_of_lt_of_le L12.out.2.2.2.2.2.1 g_21))
    have N_15_21 := Lib.hid (Nat.ne_of_lt (Nat.lt_of_lt_of_le L12.out.2.2.2.2.2.2.1 g_21))
    have N_17_21 := Lib.hid (Nat.ne_of_lt (Nat.lt_of_lt_of_le L12.out.2.2.2.2.2.2.2.1 g_21))
    have N_19_21 := Lib.hid (Nat.ne_of_lt (Nat.lt_of_lt_of_le L12.out.2.2.2.2.2.2.2.2.1 g_21))
    have G_21 := Lib.hid (show w.heap.size ≤ q_21 from Nat.le_trans HS11.out.2.2.2.2.2.2.2.2.2.size g_21)
    refine tail_stQ (q := q_21) rfl rfl rfl rfl k_21 k_92 ?_
    intro W12_1 x21ms x21mt x21mu x21mv n_21_1 s_21_1
    have m_7_1 := (hs.1).stq s_21_1 N_7_21.out
    have m_8_1 := (hs.2.1).stq s_21_1 N_8_21.out
    have m_9_1 := (hs.2.2.1).stq s_21_1 N_9_21.out
    have m_10_1 := (hs.2.2.2.1).stq s_21_1 N_10_21.out
    have m_11_1 := (hs.2.2.2.2.1).stq s_21_1 N_11_21.out
    have m_13_1 := (hs.2.2.2.2.2.1).stq s_21_1 N_13_21.out
    have m_15_1 := (hs.2.2.2.2.2.2.1).stq s_21_1 N_15_21.out
    have m_17_1 := (hs.2.2.2.2.2.2.2.1).stq s_21_1 N_17_21.out
    have m_19_1 := (hs.2.2.2.2.2.2.2.2.1).stq s_21_1 N_19_21.out
    have B12_1 := s_21_1.below w.heap.size w G_21.out B12_0
    refine tail_assign rfl rfl ?_
    simp only [Act.put, List.setIfInBounds_toArray, List.set_cons_zero, List.set_cons_succ]
    refine tail_nil ?_
    have HS12 := Lib.hid (And.intro (m_7_1) (And.intro (m_8_1) (And.intro (m_9_1) (And.intro (m_10_1) (And.intro (m_11_1) (And.intro (m_13_1) (And.intro (m_15_1) (And.intro (m_17_1) (And.intro (m_19_1) (And.intro (n_21_1) (B12_1)))))))))))
    clear hs L12 HS11 B12_0 B12_1 k_92 f_93 n_21_1 s_21_1 m_7_1 m_8_1 m_9_1 m_10_1 m_11_1 m_13_1 m_15_1 m_17_1 m_19_1 e_21 g_21 k_21 a_21
    go_upto_region 13 with fail
    refine wp_region_fl 73 ((Fct.p (N0) (D0)) :: (Fct.p (GN) (D0)) :: (Fct.q (N0) (D0)) :: (Fct.q (GN) (D0)) :: (Fct.v (.bool (true))) :: (Fct.v (.bool (true))) :: (Fct.p (N0) (D0)) :: (Fct.p (BN) (D0)) :: (Fct.q (N0) (D0)) :: (Fct.q (BN) (D0)) :: (Fct.v (.bool (true))) :: (Fct.v (.bool (true))) :: (Fct.v (.bool (true))) :: (Fct.p (N0) (D0)) :: (Fct.p (N1) (D1)) :: (Fct.p (AN) (AD)) :: (Fct.q (N0) (D0)) :: (Fct.q (N1) (D1)) :: (Fct.q (AN) (AD)) :: (Fct.v (.bool (true))) :: (Fct.v (.bool (true))) :: (Fct.v (.bool (true))) :: (Fct.p (N0) (D0)) :: (Fct.p (N1) (D1)) :: (Fct.p (SN) (SD)) :: (Fct.q (N0) (D0)) :: (Fct.q (N1) (D1)) :: (Fct.q (SN) (SD)) :: (Fct.v (.bool (true))) :: (Fct.v (.bool (true))) :: (Fct.v (.bool (true))) :: (Fct.p (N0) (D0)) :: (Fct.p (N1) (D1)) :: (Fct.p (MN) (MD)) :: (Fct.q (N0) (D0)) :: (Fct.q (N1) (D1)) :: (Fct.q (MN) (MD)) :: (Fct.v (.bool (true))) :: (Fct.v (.bool (true))) :: (Fct.v (.bool (true))) :: (Fct.v (.int .i64 RC)) :: (Fct.v (.int .i64 RC)) :: (Fct.v (.bool (true))) :: (Fct.v (.bool (true))) :: (Fct.v (.bool (true))) :: (Fct.p (RN) (RD)) :: (Fct.q (RN) (RD)) :: (Fct.v (.bool (true))) :: (Fct.v (.bool (true))) :: (Fct.v (.bool (true))) :: (Fct.v (.int .i64 PC)) :: (Fct.v (.int .i64 PC)) :: (Fct.v (.bool (true))) :: (Fct.v (.bool (true))) :: (Fct.v (.bool (true))) :: (Fct.p (PN) (PD)) :: (Fct.q (PN) (PD)) :: (Fct.v (.bool (true))) :: (Fct.v (.bool (true))) :: (Fct.v (.bool (true))) :: (Fct.v (.int .i64 QC)) :: (Fct.v (.int .i64 QC)) :: (Fct.v (.bool (true))) :: (Fct.v (.bool (true))) :: (Fct.v (.bool (true))) :: (Fct.p (QN) (QD)) :: (Fct.q (QN) (QD)) :: (Fct.v (.bool (true))) :: (Fct.v (.bool (true))) :: (Fct.v (.bool (true))) :: (Fct.v (.bool (true))) :: (Fct.v (.bool (true))) :: (Fct.v (.bool (true))) :: []) (fun W => PX q_7 x7ds x7dt x7du x7dv (N0) (D0) W ∧ QX q_8 x8ds x8dt x8du x8dv (N0) (D0) W ∧ PX q_9 x9es x9et x9eu x9ev (N1) (D1) W ∧ QX q_10 x10es x10et x10eu x10ev (N1) (D1) W ∧ PX q_11 x11hs x11ht x11hu x11hv (RN) (RD) W ∧ QX q_13 x13is x13it x13iu x13iv (RN) (RD) W ∧ PX q_15 x15js x15jt x15ju x15jv (PN) (PD) W ∧ QX q_17 x17ks x17kt x17ku x17kv (PN) (PD) W ∧ PX q_19 x19ls x19lt x19lu x19lv (QN) (QD) W ∧ QX q_21 x21ms x21mt x21mu x21mv (QN) (QD) W ∧ Below W12_1.heap.size W12_1 W) (false :: false :: false :: false :: false :: true :: false :: false :: false :: false :: false :: true :: true :: false :: false :: false :: false :: false :: false :: false :: true :: true :: false :: false :: false :: false :: false :: false :: false :: true :: true :: false :: false :: false :: false :: false :: false :: false :: true :: true :: true :: true :: true :: true :: true :: false :: false :: false :: true :: true :: true :: true :: true :: true :: true :: false :: false :: false :: true :: true :: true :: true :: true :: true :: true :: false :: false :: false :: true :: true :: false :: true :: true :: []) (some 94 :: some 95 :: some 96 :: some 97 :: some 98 :: some 99 :: some 100 :: some 101 :: some 102 :: some 103 :: some 104 :: some 105 :: some 106 :: some 107 :: some 108 :: some 109 :: some 110 :: some 111 :: some 112 :: some 113 :: some 114 :: some 115 :: some 116 :: some 117 :: some 118 :: some 119 :: some 120 :: some 121 :: some 122 :: some 123 :: some 124 :: some 125 :: some 126 :: some 127 :: some 128 :: some 129 :: some 130 :: some 131 :: some 132 :: some 133 :: some 134 :: some 135 :: some 136 :: some 137 :: some 138 :: some 139 :: some 140 :: some 141 :: some 142 :: some 143 :: some 144 :: some 145 :: some 146 :: some 147 :: some 148 :: some 149 :: some 150 :: some 151 :: some 152 :: some 153 :: some 154 :: some 155 :: some 156 :: some 157 :: some 158 :: some 159 :: some 160 :: some 161 :: some 162 :: some 163 :: some 164 :: some 165 :: some 6 :: []) (fun _ _ h hb => ⟨h.1.keep hb, h.2.1.keep hb, h.2.2.1.keep hb, h.2.2.2.1.keep hb, h.2.2.2.2.1.keep hb, h.2.2.2.2.2.1.keep hb, h.2.2.2.2.2.2.1.keep hb, h.2.2.2.2.2.2.2.1.keep hb, h.2.2.2.2.2.2.2.2.1.keep hb, h.2.2.2.2.2.2.2.2.2.1.keep hb, Below.trans h.2.2.2.2.2.2.2.2.2.2 (hb.mono h.2.2.2.2.2.2.2.2.2.2.size)⟩) ⟨HS12.out.1, HS12.out.2.1, HS12.out.2.2.1, HS12.out.2.2.2.1, HS12.out.2.2.2.2.1, HS12.out.2.2.2.2.2.1, HS12.out.2.2.2.2.2.2.1, HS12.out.2.2.2.2.2.2.2.1, HS12.out.2.2.2.2.2.2.2.2.1, HS12.out.2.2.2.2.2.2.2.2.2.1, Below.refl _ _⟩ ?_ ?_
    ·refine so (step_ldP (p := q_7) rfl (.inl rfl) Arg.od (fun _ h => h.1.c4) (fun _ h => h.1.rv)) ?_
     refine so (step_call1 E6.out rfl (.inl rfl) (Arg.t 0 rfl) (fun u w _ h1 => (HN1.out _ _ h1).out)) ?_
     refine so (step_ldQ (p := q_8) rfl (.inl rfl) Arg.od (fun _ h => h.2.1.c4) (fun _ h => h.2.1.rq)) ?_
     refine so (step_call1 E14.out rfl (.inl rfl) (Arg.t 2 rfl) (fun u w _ h1 => (HN2.out _ _ h1).out)) ?_
     refine so (step_call2 E1.out rfl (.inl rfl) (Arg.t 1 rfl) (Arg.t 3 rfl) (fun u v w _ h1 h2 => (I1.out _ _ _ h1 h2).out.mono fun e w' h => ⟨_, h.1, rfl, h.2⟩)) ?_
     refine sy (sty_move rfl (.inl rfl) (Arg.t 4 rfl)) ?_
     refine so (step_ldP (p := q_7) rfl (.inr ⟨5, true, _, rfl, rfl, by kernel_rfl, fun _ _ h => h⟩) Arg.od (fun _ h => h.1.c4) (fun _ h => h.1.rv)) ?_
     refine so (step_call1 E7.out rfl (.inr ⟨5, true, _, rfl, rfl, by kernel_rfl, fun _ _ h => h⟩) (Arg.t 6 rfl) (fun u w _ h1 => (HB1.out _ _ h1).out)) ?_
     refine so (step_ldQ (p := q_8) rfl (.inr ⟨5, true, _, rfl, rfl, by kernel_rfl, fun _ _ h => h⟩) Arg.od (fun _ h => h.2.1.c4) (fun _ h => h.2.1.rq)) ?_
     refine so (step_call1 E15.out rfl (.inr ⟨5, true, _, rfl, rfl, by kernel_rfl, fun _ _ h => h⟩) (Arg.t 8 rfl) (fun u w _ h1 => (HB2.out _ _ h1).out)) ?_
     refine so (step_call2 E1.out rfl (.inr ⟨5, true, _, rfl, rfl, by kernel_rfl, fun _ _ h => h⟩) (Arg.t 7 rfl) (Arg.t 9 rfl) (fun u v w _ h1 h2 => (I2.out _ _ _ h1 h2).out.mono fun e w' h => ⟨_, h.1, rfl, h.2⟩)) ?_
     refine sy (sty_pickT rfl (.inl rfl) (Arg.t 5 rfl) (Arg.t 10 rfl)) ?_
     refine sy (sty_move rfl (.inl rfl) (Arg.t 11 rfl)) ?_
     refine so (step_ldP (p := q_7) rfl (.inr ⟨12, true, _, rfl, rfl, by kernel_rfl, fun _ _ h => h⟩) Arg.od (fun _ h => h.1.c4) (fun _ h => h.1.rv)) ?_
     refine so (step_ldP (p := q_9) rfl (.inr ⟨12, true, _, rfl, rfl, by kernel_rfl, fun _ _ h => h⟩) Arg.od (fun _ h => h.2.2.1.c4) (fun _ h => h.2.2.1.rv)) ?_
     refine so (step_call2 E8.out rfl (.inr ⟨12, true, _, rfl, rfl, by kernel_rfl, fun _ _ h => h⟩) (Arg.t 13 rfl) (Arg.t 14 rfl) (fun u v w _ h1 h2 => (HAdd1.out _ _ _ h1 h2).out)) ?_
     refine so (step_ldQ (p := q_8) rfl (.inr ⟨12, true, _, rfl, rfl, by kernel_rfl, fun _ _ h => h⟩) Arg.od (fun _ h => h.2.1.c4) (fun _ h => h.2.1.rq)) ?_
     refine so (step_ldQ (p := q_10) rfl (.inr ⟨12, true, _, rfl, rfl, by kernel_rfl, fun _ _ h => h⟩) Arg.od (fun _ h => h.2.2.2.1.c4) (fun _ h => h.2.2.2.1.rq)) ?_
     refine so (step_call2 E16.out rfl (.inr ⟨12, true, _, rfl, rfl, by kernel_rfl, fun _ _ h => h⟩) (Arg.t 16 rfl) (Arg.t 17 rfl) (fun u v w _ h1 h2 => (HAdd2.out _ _ _ h1 h2).out)) ?_
     refine so (step_call2 E1.out rfl (.inr ⟨12, true, _, rfl, rfl, by kernel_rfl, fun _ _ h => h⟩) (Arg.t 15 rfl) (Arg.t 18 rfl) (fun u v w _ h1 h2 => (I3.out _ _ _ h1 h2).out.mono fun e w' h => ⟨_, h.1, rfl, h.2⟩)) ?_
     refine sy (sty_pickT rfl (.inl rfl) (Arg.t 12 rfl) (Arg.t 19 rfl)) ?_
     refine sy (sty_move rfl (.inl rfl) (Arg.t 20 rfl)) ?_
     refine so (step_ldP (p := q_7) rfl (.inr ⟨21, true, _, rfl, rfl, by kernel_rfl, fun _ _ h => h⟩) Arg.od (fun _ h => h.1.c4) (fun _ h => h.1.rv)) ?_
     refine so (step_ldP (p := q_9) rfl (.inr ⟨21, true, _, rfl, rfl, by kernel_rfl, fun _ _ h => h⟩) Arg.od (fun _ h => h.2.2.1.c4) (fun _ h => h.2.2.1.rv)) ?_
     refine so (step_call2 E9.out rfl (.inr ⟨21, true, _, rfl, rfl, by kernel_rfl, fun _ _ h => h⟩) (Arg.t 22 rfl) (Arg.t 23 rfl) (fun u v w _ h1 h2 => (HSub1.out _ _ _ h1 h2).out)) ?_
     refine so (step_ldQ (p := q_8) rfl (.inr ⟨21, true, _, rfl, rfl, by kernel_rfl, fun _ _ h => h⟩) Arg.od (fun _ h => h.2.1.c4) (fun _ h => h.2.1.rq)) ?_
     refine so (step_ldQ (p := q_10) rfl (.inr ⟨21, true, _, rfl, rfl, by kernel_rfl, fun _ _ h => h⟩) Arg.od (fun _ h => h.2.2.2.1.c4) (fun _ h => h.2.2.2.1.rq)) ?_
     refine so (step_call2 E17.out rfl (.inr ⟨21, true, _, rfl, rfl, by kernel_rfl, fun _ _ h => h⟩) (Arg.t 25 rfl) (Arg.t 26 rfl) (fun u v w _ h1 h2 => (HSub2.out _ _ _ h1 h2).out)) ?_
     refine so (step_call2 E1.out rfl (.inr ⟨21, true, _, rfl, rfl, by kernel_rfl, fun _ _ h => h⟩) (Arg.t 24 rfl) (Arg.t 27 rfl) (fun u v w _ h1 h2 => (I4.out _ _ _ h1 h2).out.mono fun e w' h => ⟨_, h.1, rfl, h.2⟩)) ?_
     refine sy (sty_pickT rfl (.inl rfl) (Arg.t 21 rfl) (Arg.t 28 rfl)) ?_
     refine sy (sty_move rfl (.inl rfl) (Arg.t 29 rfl)) ?_
     refine so (step_ldP (p := q_7) rfl (.inr ⟨30, true, _, rfl, rfl, by kernel_rfl, fun _ _ h => h⟩) Arg.od (fun _ h => h.1.c4) (fun _ h => h.1.rv)) ?_
     refine so (step_ldP (p := q_9) rfl (.inr ⟨30, true, _, rfl, rfl, by kernel_rfl, fun _ _ h => h⟩) Arg.od (fun _ h => h.2.2.1.c4) (fun _ h => h.2.2.1.rv)) ?_
     refine so (step_call2 E10.out rfl (.inr ⟨30, true, _, rfl, rfl, by kernel_rfl, fun _ _ h => h⟩) (Arg.t 31 rfl) (Arg.t 32 rfl) (fun u v w _ h1 h2 => (HMul1.out _ _ _ h1 h2).out)) ?_
     refine so (step_ldQ (p := q_8) rfl (.inr ⟨30, true, _, rfl, rfl, by kernel_rfl, fun _ _ h => h⟩) Arg.od (fun _ h => h.2.1.c4) (fun _ h => h.2.1.rq)) ?_
     refine so (step_ldQ (p := q_10) rfl (.inr ⟨30, true, _, rfl, rfl, by kernel_rfl, fun _ _ h => h⟩) Arg.od (fun _ h => h.2.2.2.1.c4) (fun _ h => h.2.2.2.1.rq)) ?_
     refine so (step_call2 E18.out rfl (.inr ⟨30, true, _, rfl, rfl, by kernel_rfl, fun _ _ h => h⟩) (Arg.t 34 rfl) (Arg.t 35 rfl) (fun u v w _ h1 h2 => (HMul2.out _ _ _ h1 h2).out)) ?_
     refine so (step_call2 E1.out rfl (.inr ⟨30, true, _, rfl, rfl, by kernel_rfl, fun _ _ h => h⟩) (Arg.t 33 rfl) (Arg.t 36 rfl) (fun u v w _ h1 h2 => (I5.out _ _ _ h1 h2).out.mono fun e w' h => ⟨_, h.1, rfl, h.2⟩)) ?_
     refine sy (sty_pickT rfl (.inl rfl) (Arg.t 30 rfl) (Arg.t 37 rfl)) ?_
     refine sy (sty_move rfl (.inl rfl) (Arg.t 38 rfl)) ?_
     refine sy (sty_move rfl (.inr ⟨39, true, _, rfl, rfl, by kernel_rfl, fun _ _ h => h⟩) Arg.od) ?_
     refine sy (sty_move rfl (.inr ⟨39, true, _, rfl, rfl, by kernel_rfl, fun _ _ h => h⟩) Arg.od) ?_
     refine sy (sty_eqlE (b := (true)) (show true = (RC == RC) by simp) rfl (.inr ⟨39, true, _, rfl, rfl, by kernel_rfl, fun _ _ h => h⟩) (Arg.t 40 rfl) (Arg.t 41 rfl)) ?_
     refine sy (sty_pickT rfl (.inl rfl) (Arg.t 39 rfl) (Arg.t 42 rfl)) ?_
     refine sy (sty_move rfl (.inl rfl) (Arg.t 43 rfl)) ?_
     refine so (step_ldP (p := q_11) rfl (.inr ⟨44, true, _, rfl, rfl, by kernel_rfl, fun _ _ h => h⟩) Arg.od (fun _ h => h.2.2.2.2.1.c4) (fun _ h => h.2.2.2.2.1.rv)) ?_
     refine so (step_ldQ (p := q_13) rfl (.inr ⟨44, true, _, rfl, rfl, by kernel_rfl, fun _ _ h => h⟩) Arg.od (fun _ h => h.2.2.2.2.2.1.c4) (fun _ h => h.2.2.2.2.2.1.rq)) ?_
     refine so (step_call2 E1.out rfl (.inr ⟨44, true, _, rfl, rfl, by kernel_rfl, fun _ _ h => h⟩) (Arg.t 45 rfl) (Arg.t 46 rfl) (fun u v w _ h1 h2 => (I6.out _ _ _ h1 h2).out.mono fun e w' h => ⟨_, h.1, rfl, h.2⟩)) ?_
     refine sy (sty_pickT rfl (.inl rfl) (Arg.t 44 rfl) (Arg.t 47 rfl)) ?_
     refine sy (sty_move rfl (.inl rfl) (Arg.t 48 rfl)) ?_
     refine sy (sty_move rfl (.inr ⟨49, true, _, rfl, rfl, by kernel_rfl, fun _ _ h => h⟩) Arg.od) ?_
     refine sy (sty_move rfl (.inr ⟨49, true, _, rfl, rfl, by kernel_rfl, fun _ _ h => h⟩) Arg.od) ?_
     refine sy (sty_eqlE (b := (true)) (show true = (PC == PC) by simp) rfl (.inr ⟨49, true, _, rfl, rfl, by kernel_rfl, fun _ _ h => h⟩) (Arg.t 50 rfl) (Arg.t 51 rfl)) ?_
     refine sy (sty_pickT rfl (.inl rfl) (Arg.t 49 rfl) (Arg.t 52 rfl)) ?_
     refine sy (sty_move rfl (.inl rfl) (Arg.t 53 rfl)) ?_
     refine so (step_ldP (p := q_15) rfl (.inr ⟨54, true, _, rfl, rfl, by kernel_rfl, fun _ _ h => h⟩) Arg.od (fun _ h => h.2.2.2.2.2.2.1.c4) (fun _ h => h.2.2.2.2.2.2.1.rv)) ?_
     refine so (step_ldQ (p := q_17) rfl (.inr ⟨54, true, _, rfl, rfl, by kernel_rfl, fun _ _ h => h⟩) Arg.od (fun _ h => h.2.2.2.2.2.2.2.1.c4) (fun _ h => h.2.2.2.2.2.2.2.1.rq)) ?_
     refine so (step_call2 E1.out rfl (.inr ⟨54, true, _, rfl, rfl, by kernel_rfl, fun _ _ h => h⟩) (Arg.t 55 rfl) (Arg.t 56 rfl) (fun u v w _ h1 h2 => (I7.out _ _ _ h1 h2).out.mono fun e w' h => ⟨_, h.1, rfl, h.2⟩)) ?_
     refine sy (sty_pickT rfl (.inl rfl) (Arg.t 54 rfl) (Arg.t 57 rfl)) ?_
     refine sy (sty_move rfl (.inl rfl) (Arg.t 58 rfl)) ?_
     refine sy (sty_move rfl (.inr ⟨59, true, _, rfl, rfl, by kernel_rfl, fun _ _ h => h⟩) Arg.od) ?_
     refine sy (sty_move rfl (.inr ⟨59, true, _, rfl, rfl, by kernel_rfl, fun _ _ h => h⟩) Arg.od) ?_
     refine sy (sty_eqlE (b := (true)) (show true = (QC == QC) by simp) rfl (.inr ⟨59, true, _, rfl, rfl, by kernel_rfl, fun _ _ h => h⟩) (Arg.t 60 rfl) (Arg.t 61 rfl)) ?_
     refine sy (sty_pickT rfl (.inl rfl) (Arg.t 59 rfl) (Arg.t 62 rfl)) ?_
     refine sy (sty_move rfl (.inl rfl) (Arg.t 63 rfl)) ?_
     refine so (step_ldP (p := q_19) rfl (.inr ⟨64, true, _, rfl, rfl, by kernel_rfl, fun _ _ h => h⟩) Arg.od (fun _ h => h.2.2.2.2.2.2.2.2.1.c4) (fun _ h => h.2.2.2.2.2.2.2.2.1.rv)) ?_
     refine so (step_ldQ (p := q_21) rfl (.inr ⟨64, true, _, rfl, rfl, by kernel_rfl, fun _ _ h => h⟩) Arg.od (fun _ h => h.2.2.2.2.2.2.2.2.2.1.c4) (fun _ h => h.2.2.2.2.2.2.2.2.2.1.rq)) ?_
     refine so (step_call2 E1.out rfl (.inr ⟨64, true, _, rfl, rfl, by kernel_rfl, fun _ _ h => h⟩) (Arg.t 65 rfl) (Arg.t 66 rfl) (fun u v w _ h1 h2 => (I8.out _ _ _ h1 h2).out.mono fun e w' h => ⟨_, h.1, rfl, h.2⟩)) ?_
     refine sy (sty_pickT rfl (.inl rfl) (Arg.t 64 rfl) (Arg.t 67 rfl)) ?_
     refine sy (sty_move rfl (.inl rfl) (Arg.t 68 rfl)) ?_
     refine so (stp_call0 E2.out rfl (.inr ⟨69, true, _, rfl, rfl, by kernel_rfl, fun _ _ h => h⟩) (fun w _ => (HAW.out _).out.mono fun e w' h => ⟨_, h.1, rfl, h.2⟩)) ?_
     refine sy (sty_pickT rfl (.inl rfl) (Arg.t 69 rfl) (Arg.t 70 rfl)) ?_
     refine sy (sty_assign rfl (.inl rfl) (Arg.t 71 rfl)) ?_
     trivial
    intro v13 W13 hk hdf hs
    simp only [putV, Act.put, List.setIfInBounds_toArray, List.set_cons_zero, List.set_cons_succ, Nat.reduceAdd]
    have f_98 : v13 4 = .bool (true) := hk 4 _ (by decide) rfl
    have f_99 : v13 5 = .bool (true) := hk 5 _ (by decide) rfl
    have f_104 : v13 10 = .bool (true) := hk 10 _ (by decide) rfl
    have f_105 : v13 11 = .bool (true) := hk 11 _ (by decide) rfl
    have f_106 : v13 12 = .bool (true) := hk 12 _ (by decide) rfl
    have f_113 : v13 19 = .bool (true) := hk 19 _ (by decide) rfl
    have f_114 : v13 20 = .bool (true) := hk 20 _ (by decide) rfl
    have f_115 : v13 21 = .bool (true) := hk 21 _ (by decide) rfl
    have f_122 : v13 28 = .bool (true) := hk 28 _ (by decide) rfl
    have f_123 : v13 29 = .bool (true) := hk 29 _ (by decide) rfl
    have f_124 : v13 30 = .bool (true) := hk 30 _ (by decide) rfl
    have f_131 : v13 37 = .bool (true) := hk 37 _ (by decide) rfl
    have f_132 : v13 38 = .bool (true) := hk 38 _ (by decide) rfl
    have f_133 : v13 39 = .bool (true) := hk 39 _ (by decide) rfl
    have f_134 : v13 40 = .int .i64 RC := hk 40 _ (by decide) rfl
    have f_135 : v13 41 = .int .i64 RC := hk 41 _ (by decide) rfl
    have f_136 : v13 42 = .bool (true) := hk 42 _ (by decide) rfl
    have f_137 : v13 43 = .bool (true) := hk 43 _ (by decide) rfl
    have f_138 : v13 44 = .bool (true) := hk 44 _ (by decide) rfl
    have f_141 : v13 47 = .bool (true) := hk 47 _ (by decide) rfl
    have f_142 : v13 48 = .bool (true) := hk 48 _ (by decide) rfl
    have f_143 : v13 49 = .bool (true) := hk 49 _ (by decide) rfl
    have f_144 : v13 50 = .int .i64 PC := hk 50 _ (by decide) rfl
    have f_145 : v13 51 = .int .i64 PC := hk 51 _ (by decide) rfl
    have f_146 : v13 52 = .bool (true) := hk 52 _ (by decide) rfl
    have f_147 : v13 53 = .bool (true) := hk 53 _ (by decide) rfl
    have f_148 : v13 54 = .bool (true) := hk 54 _ (by decide) rfl
    have f_151 : v13 57 = .bool (true) := hk 57 _ (by decide) rfl
    have f_152 : v13 58 = .bool (true) := hk 58 _ (by decide) rfl
    have f_153 : v13 59 = .bool (true) := hk 59 _ (by decide) rfl
    have f_154 : v13 60 = .int .i64 QC := hk 60 _ (by decide) rfl
    have f_155 : v13 61 = .int .i64 QC := hk 61 _ (by decide) rfl
    have f_156 : v13 62 = .bool (true) := hk 62 _ (by decide) rfl
    have f_157 : v13 63 = .bool (true) := hk 63 _ (by decide) rfl
    have f_158 : v13 64 = .bool (true) := hk 64 _ (by decide) rfl
    have f_161 : v13 67 = .bool (true) := hk 67 _ (by decide) rfl
    have f_162 : v13 68 = .bool (true) := hk 68 _ (by decide) rfl
    have f_163 : v13 69 = .bool (true) := hk 69 _ (by decide) rfl
    have f_164 : v13 70 = .bool (true) := hk 70 _ (by decide) rfl
    have f_165 : v13 71 = .bool (true) := hk 71 _ (by decide) rfl
    have f_6 : v13 72 = .bool (true) := hk 72 _ (by decide) rfl
    clear hk hdf
    simp only [f_98, f_99, f_104, f_105, f_106, f_113, f_114, f_115, f_122, f_123, f_124, f_131, f_132, f_133, f_134, f_135, f_136, f_137, f_138, f_141, f_142, f_143, f_144, f_145, f_146, f_147, f_148, f_151, f_152, f_153, f_154, f_155, f_156, f_157, f_158, f_161, f_162, f_163, f_164, f_165, f_6]
    have B13_0 := Below.trans HS12.out.2.2.2.2.2.2.2.2.2.2 (hs.2.2.2.2.2.2.2.2.2.2.mono HS12.out.2.2.2.2.2.2.2.2.2.2.size)
    refine tail_nil ?_
    have HS13 := Lib.hid (And.intro (hs.1) (And.intro (hs.2.1) (And.intro (hs.2.2.1) (And.intro (hs.2.2.2.1) (And.intro (hs.2.2.2.2.1) (And.intro (hs.2.2.2.2.2.1) (And.intro (hs.2.2.2.2.2.2.1) (And.intro (hs.2.2.2.2.2.2.2.1) (And.intro (hs.2.2.2.2.2.2.2.2.1) (And.intro (hs.2.2.2.2.2.2.2.2.2.1) (B13_0)))))))))))
    clear hs HS12 B13_0 f_98 f_99 f_104 f_105 f_106 f_113 f_114 f_115 f_122 f_123 f_124 f_131 f_132 f_133 f_134 f_135 f_136 f_137 f_138 f_141 f_142 f_143 f_144 f_145 f_146 f_147 f_148 f_151 f_152 f_153 f_154 f_155 f_156 f_157 f_158 f_161 f_162 f_163 f_164 f_165 f_6
    have hbl := HS13.out.2.2.2.2.2.2.2.2.2.2
    have HBL := Lib.hid hbl
    clear hbl HS13
    go_wp2_with fail
    go_ret
    exact ⟨rfl, HBL.out⟩
end
end Go.Proofs.YtghgcbedajaldaaGreat
