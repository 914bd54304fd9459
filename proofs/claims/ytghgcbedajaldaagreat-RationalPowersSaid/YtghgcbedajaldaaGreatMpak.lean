/-  Power3  -/
import Derived.RegionTactic
import Derived.Test.YtghgcbedajaldaaGreatMpai
import Derived.Test.YtghgcbedajaldaaGreatMpah
import Derived.Test.YtghgcbedajaldaaGreatMpae
import Derived.Test.YtghgcbedajaldaaGreatMpaf
/-  Power Power2 Power3  -/
namespace Go.Proofs.YtghgcbedajaldaaGreat
section
open Go.RowKit Digs
theorem box1b {w w1 : World} {a b : Value} {t : TypeId} (h : Below (w.alloc (.cells #[a, b] t)).heap.size (w.alloc (.cells #[a, b] t)) w1) : Below w.heap.size w w1 :=
  ((Below.refl _ _).alloc (Nat.le_refl _) _).trans (h.mono (by simp))

set_option maxHeartbeats 1000000 in
set_option maxRecDepth 100000 in
theorem Length_any (z : Int) (v : Value) (w : World) (hz : len z ≤ 1000000) (h : IntV w v z) :
  Calls Tryz.prog 131 #[v] w fun e w' => e = .returned (.int .i64 ((lenZ z : Nat) : Int)) ∧ Below w.heap.size w w' := by
 have h' := h
 obtain ⟨ad, n, c, rfl, hr⟩ := h
 have hlim := run_limbs
 unfold lenZ
 by_cases hneg : z < 0
 ·have hd : decide (z < 0) = true := by simpa using hneg
  rw [if_pos hneg]
  have HC := fun W hw => Lib.hid (complement_any z _ W hz (h'.keep (w' := W) hw))
  have HC := Lib.hid HC
  have HL := fun v W h => Lib.hid (bitLength_any (-1 - z).natAbs v W (Nat.le_trans (compl_len hneg) hz) h)
  have HL := Lib.hid HL
  rw [hd] at HC ⊢
  clear hr h' hz hneg hd
  go_enter Tryz.func131, Tryz.ntmps131
  go_wp2_with fail
  refine (HC.out _ ((Below.refl _ _).alloc (Nat.le_refl _) _)).out.mono ?_
  rintro e w1 ⟨v1, rfl, ⟨ad1, n1, c1, rfl, hr1⟩, hb1⟩
  go_wp2_with fail
  refine (HL.out _ _ hr1).out.mono ?_
  rintro e w2 ⟨rfl, rfl⟩
  clear hr1
  go_wp2
  go_ret
  exact ⟨rfl, box1b hb1⟩
 ·have hd : decide (z < 0) = false := by simpa using hneg
  rw [if_neg hneg]
  have HL := fun W h => Lib.hid (bitLength_any z.natAbs (.slice ad n c) W hz (hr.keep (w' := W) h))
  have HL := Lib.hid HL
  rw [hd]
  clear hr h' hz hneg hd
  go_enter Tryz.func131, Tryz.ntmps131
  go_wp2_with fail
  refine (HL.out _ ((Below.refl _ _).alloc (Nat.le_refl _) _)).out.mono ?_
  rintro e w2 ⟨rfl, rfl⟩
  go_wp2
  go_ret
  exact ⟨rfl, (Below.refl _ _).alloc (Nat.le_refl _) _⟩
theorem len4 {n : Nat} (h : n ≤ 1000000) : n * 4 ≤ 140737488355328 := by omega
set_option maxHeartbeats 1000000 in
set_option maxRecDepth 100000 in
theorem Neg_any (z : Int) (v : Value) (w : World) (hz : len z ≤ 1000000) (h : IntV w v z) :
  Calls Tryz.prog 62 #[v] w (IntPost w (-z)) := by
 obtain ⟨ad, n, c, rfl, hr⟩ := h
 have HM := fun W hw => Lib.hid (make_any (!decide (z < 0)) (.slice ad n c) _ W (len4 hz) (hr.keep (w' := W) hw) (digs_lt (by decide) _))
 have e : sg (!decide (z < 0)) (vl 4294967296 (digs 4294967296 z.natAbs)) = -z := by
  rw [vl_digs (by decide)]
  have h2 := sg_self z
  revert h2
  cases decide (z < 0) <;> simp [sg] <;> omega
 rw [e] at HM
 have HM := Lib.hid HM
 clear hr hz e
 generalize decide (z < 0) = b at *
 go_enter Tryz.func62, Tryz.ntmps62
 go_wp2_with fail
 refine (HM.out _ (below2 _ _ _)).out.mono ?_
 rintro e w1 ⟨v1, rfl, ⟨ad1, n1, c1, rfl, hr1⟩, hb1⟩
 obtain ⟨cE, cF, fE, fF, hsz⟩ := box2r hb1
 have HR := Lib.hid (hr1.store2 cE cF (by intro n h; cases h) (by intro n h; cases h))
 have HB := Lib.hid ((below2 w _ _).trans (hb1.mono (by simp <;> omega)))
 clear hr1 hb1
 go_wp2_with fail
 refine bodyPost_ret (v := .agg #[.bool (decide (-z < 0)), .slice ad1 n1 c1]) (by simp [results, Tryz.results62, go_sem, cE, cF]) rfl ⟨_, rfl, ⟨_, _, _, rfl, HR.out _ _⟩, ?_⟩
 exact (HB.out.setCell (by simp) _).setCell (by simp) _
end
section
open Go.RowKit Digs
theorem box2q {w w2 : World} {a b c d : Value} {t u : TypeId} (h : Below ((w.alloc (.cells #[a, b] t)).alloc (.cells #[c, d] u)).heap.size ((w.alloc (.cells #[a, b] t)).alloc (.cells #[c, d] u)) w2) :
  (w2.cell? ⟨w.heap.size, 0, none⟩ = some a ∧ w2.cell? ⟨w.heap.size, 1, none⟩ = some b) ∧ (w2.cell? ⟨w.heap.size + 1, 0, none⟩ = some c ∧ w2.cell? ⟨w.heap.size + 1, 1, none⟩ = some d ∧ w2.frozen? ⟨w.heap.size + 1, 0, none⟩ = false ∧ w2.frozen? ⟨w.heap.size + 1, 1, none⟩ = false) ∧ w.heap.size + 1 < w2.heap.size := by
 obtain ⟨h1, h2, _, _⟩ := box2two h
 obtain ⟨h3, h4, h5, h6, h7⟩ := box2r h
 exact ⟨⟨h1, h2⟩, ⟨h3, h4, h5, h6⟩, h7⟩
end
section
open Go.RowKit Digs
theorem i64_and_one (k : Nat) (hk : k < 9223372036854775808) : bits BinOp.and IntKind.i64 (k : Int) 1 = ((k % 2 : Nat) : Int) := by
 show IntKind.i64.wrap ((BitVec.ofInt 64 (k : Int) &&& BitVec.ofInt 64 1).toNat : Int) = _
 have h1 : (BitVec.ofInt 64 (k : Int)).toNat = k := ofInt_u64 k (by omega)
 have h2 : (BitVec.ofInt 64 (1 : Int)).toNat = 1 := by decide
 rw [BitVec.toNat_and, h1, h2, Nat.and_one_is_mod, IntKind.wrap_i64]
 omega
theorem neg_pow_par (a : Int) (n : Nat) : (-a) ^ n = if n % 2 = 1 then -(a ^ n) else a ^ n := by
 induction n with
 | zero => simp
 | succ n ih =>
  rw [Int.pow_succ, ih, Int.pow_succ]
  by_cases h : n % 2 = 1
  ·rw [if_pos h, if_neg (by omega), Int.neg_mul_neg]
  ·rw [if_neg h, if_pos (by omega), Int.mul_neg]
theorem sg_pow (z : Int) (n : Nat) : sg (decide (z < 0) && decide (n % 2 = 1)) (z.natAbs ^ n) = z ^ n := by
 by_cases hz : z < 0
 ·have h1 : z = -(z.natAbs : Int) := by omega
  have e : z ^ n = (-(z.natAbs : Int)) ^ n := by rw [← h1]
  rw [e, neg_pow_par]
  by_cases h : n % 2 = 1
  ·simp [sg, hz, h]
  ·simp [sg, hz, h]
 ·have h1 : z = (z.natAbs : Int) := by omega
  have e : z ^ n = ((z.natAbs : Int)) ^ n := by rw [← h1]
  rw [e]
  simp [sg, hz]
def PilPost (w : World) (b : Bool) (e : Ending) (w' : World) : Prop := e = .returned (.bool b) ∧ Below w.heap.size w w'
set_option maxHeartbeats 1000000 in
set_option maxRecDepth 100000 in
theorem pil_any (z : Int) (v : Value) (n : Nat) (w : World) (hz : len z ≤ 1000000) (h : IntV w v z) :
  Calls Tryz.prog 130 #[v, .int .i64 n] w (PilPost w (decide (0 < bl z.natAbs - 1 ∧ 65536 / (bl z.natAbs - 1) < n))) := by
 obtain ⟨ad, k, c, rfl, hr⟩ := h
 have HL := fun W hw => Lib.hid (bitLength_any z.natAbs (.slice ad k c) W hz (hr.keep (w' := W) hw))
 have HL := Lib.hid HL
 clear hr
 have hbb : bl z.natAbs ≤ 32000000 := by
  unfold len at hz
  have h1 := digs_lt_pow (b := 4294967296) (by decide) z.natAbs
  rw [pow32] at h1
  have h2 := bl_le_iff.2 h1
  omega
 clear hz
 generalize bl z.natAbs = m at *
 generalize decide (z < 0) = b at *
 by_cases h1 : 0 < m - 1
 ·obtain ⟨l, hl⟩ : ∃ l, m = l + 1 := ⟨m - 1, by omega⟩
  subst hl
  rw [Nat.add_sub_cancel] at h1 ⊢
  have hl1 : ((l + 1 : Nat) : Int) - 1 = (l : Int) := by omega
  have hl0 : ((l : Int) == 0) = false := by rw [beq_eq_false_iff_ne]; omega
  by_cases h2 : 65536 / l < n
  ·have h3 : (65536 : Int) / (l : Int) < (n : Int) := by
    have : ((65536 / l : Nat) : Int) < (n : Int) := Int.ofNat_lt.2 h2
    rwa [Int.natCast_ediv] at this
   have e : decide (0 < l ∧ 65536 / l < n) = true := decide_eq_true ⟨h1, h2⟩
   rw [e]
   clear e h2
   go_enter Tryz.func130, Tryz.ntmps130
   go_wp2_with fail
   refine (HL.out _ ((Below.refl _ _).alloc (Nat.le_refl _) _)).out.mono ?_
   rintro e w2 ⟨rfl, rfl⟩
   go_wp2
   go_ret
   exact ⟨rfl, (Below.refl _ _).alloc (Nat.le_refl _) _⟩
  ·have h3 : ¬ (65536 : Int) / (l : Int) < (n : Int) := by
    have : ¬ ((65536 / l : Nat) : Int) < (n : Int) := fun hh => h2 (Int.ofNat_lt.1 hh)
    rwa [Int.natCast_ediv] at this
   have h3 : decide ((65536 : Int) / (l : Int) < (n : Int)) = false := decide_eq_false h3
   have e : decide (0 < l ∧ 65536 / l < n) = false := decide_eq_false (fun hh => h2 hh.2)
   rw [e]
   clear e h2
   go_enter Tryz.func130, Tryz.ntmps130
   go_wp2_with fail
   refine (HL.out _ ((Below.refl _ _).alloc (Nat.le_refl _) _)).out.mono ?_
   rintro e w2 ⟨rfl, rfl⟩
   go_wp2
   go_ret
   exact ⟨rfl, (Below.refl _ _).alloc (Nat.le_refl _) _⟩
 ·have e : decide (0 < m - 1 ∧ 65536 / (m - 1) < n) = false := decide_eq_false (fun hh => h1 hh.1)
  rw [e]
  have h2 : m ≤ 1 := by omega
  clear e h1
  go_enter Tryz.func130, Tryz.ntmps130
  go_wp2_with fail
  refine (HL.out _ ((Below.refl _ _).alloc (Nat.le_refl _) _)).out.mono ?_
  rintro e w2 ⟨rfl, rfl⟩
  go_wp2
  go_ret
  exact ⟨rfl, (Below.refl _ _).alloc (Nat.le_refl _) _⟩
def PowPost (w : World) (x : Int) (e : Ending) (w' : World) : Prop := (65536 < lenZ x → IntErr w 14 e w') ∧ (lenZ x ≤ 65536 → IntOK w x e w')
theorem pow_lens {M n m : Nat} (hM : M ≤ 400000) (h : ¬ (0 < bl m - 1 ∧ M / (bl m - 1) < n)) : (∀ P S k, PowInv m n P S k → 0 < k → (digs 4294967296 P).length ≤ 1000000 ∧ (digs 4294967296 S).length ≤ 1000000) ∧ (digs 4294967296 (m ^ n)).length ≤ 1000000 := by
 have h1 := pow_small h
 have h2 : (2 : Nat) ^ (2 * M) ≤ 2 ^ (32 * (2 * M)) := Nat.pow_le_pow_right (by decide) (by omega)
 have hl : ∀ x, x ≤ 2 ^ (2 * M) → (digs 4294967296 x).length ≤ 1000000 := fun x hx => by
  have := len_two_pow (M := 2 * M) (Nat.le_trans hx h2)
  omega
 refine ⟨fun P S k hi hk => ?_, hl _ h1⟩
 obtain ⟨h3, h4⟩ := hi.le hk h1 (Nat.two_pow_pos _)
 exact ⟨hl _ h3, hl _ h4⟩
def PowRel (m n : Nat) (W : World) (p s l : Value) (wr : World) : Prop :=
 ∃ (P S k : Nat), Rd .u32 wr p (digs 4294967296 P) ∧ Rd .u32 wr s (digs 4294967296 S) ∧ l = .int .i64 k ∧ k ≤ n ∧ PowInv m n P S k ∧ Below W.heap.size W wr
theorem rd_one (w : World) (t : TypeId) : Rd .u32 (w.alloc (.cells #[.int .u32 1] t)) (.slice (some ⟨w.heap.size, 0, none⟩) 1 1) (digs 4294967296 1) := by
 rw [digs_small 1 (by decide) (by decide)]
 refine .inr ⟨w.heap.size, 0, 1, rfl, by simp, by simp, by unfold maxLen; omega, fun j hj => ?_⟩
 obtain rfl : j = 0 := by simp at hj; exact hj
 rw [World.cell?_alloc_at _ _ _ _ rfl]
 rfl
set_option maxHeartbeats 2000000 in
set_option maxRecDepth 100000 in
theorem Power_large (z : Int) (v : Value) (n : Nat) (w : World) (hz : len z ≤ 1000000) (h : IntV w v z) (hp : decide (0 < bl z.natAbs - 1 ∧ 65536 / (bl z.natAbs - 1) < n) = true) :
  Calls Tryz.prog 92 #[v, .int .i64 n] w (IntErr w 14) := by
 have h' := h
 obtain ⟨ad, k, c, rfl, hr⟩ := h
 have HP := fun W hw => Lib.hid (pil_any z _ n W hz (h'.keep (w' := W) hw))
 rw [hp] at HP
 have HP := Lib.hid HP
 clear hr h' hz hp
 generalize decide (z < 0) = b at *
 go_enter Tryz.func92, Tryz.ntmps92
 go_wp2_with fail
 refine (HP.out _ (below2 _ _ _)).out.mono ?_
 rintro e w1 ⟨rfl, hb1⟩
 obtain ⟨_, ⟨cE, cF, fE, fF⟩, hsz⟩ := box2q hb1
 have HB := Lib.hid ((below2 w _ _).trans (hb1.mono (by simp <;> omega)))
 clear hb1
 go_wp2_with fail
 refine bodyPost_ret (v := .tuple #[.agg #[.bool false, .slice none 0 0], .int .i64 14]) (by simp [results, Tryz.results92, go_sem, cE, cF]) rfl ⟨rfl, ?_⟩
 exact (HB.out.setCell (by simp) _).setCell (by simp) _
set_option maxHeartbeats 2000000 in
set_option maxRecDepth 100000 in
theorem Power_run (z : Int) (v : Value) (n : Nat) (w : World) (hn : n < 9223372036854775808) (hz : len z ≤ 1000000) (h : IntV w v z) (hp : decide (0 < bl z.natAbs - 1 ∧ 65536 / (bl z.natAbs - 1) < n) = false) :
  Calls Tryz.prog 92 #[v, .int .i64 n] w (PowPost w (z ^ n)) := by
 have h' := h
 obtain ⟨ad, k, c, rfl, hr⟩ := h
 have HPB := Lib.hid (pow_lens (M := 65536) (n := n) (m := z.natAbs) (by decide) (of_decide_eq_false hp))
 have HP := fun W hw => Lib.hid (pil_any z _ n W hz (h'.keep (w' := W) hw))
 rw [hp] at HP
 have HP := Lib.hid HP
 have HR := Lib.hid hr
 clear hr h' hz hp
 have HSG := Lib.hid (sg_pow z n)
 have HLX := Lib.hid (show len (z ^ n) ≤ 1000000 by unfold len; rw [natAbs_pow]; exact HPB.out.2)
 generalize hb : decide (z < 0) = b at *
 generalize hx : z ^ n = x at *
 generalize hm : z.natAbs = m at *
 clear hb hx hm
 go_enter Tryz.func92, Tryz.ntmps92
 go_wp2_with fail
 refine (HP.out _ (below2 _ _ _)).out.mono ?_
 rintro e w1 ⟨rfl, hb1⟩
 obtain ⟨⟨cA, cB⟩, ⟨cE, cF, fE, fF⟩, hsz⟩ := box2q hb1
 have HB := Lib.hid ((below2 w _ _).trans (hb1.mono (by simp <;> omega)))
 have HW := Lib.hid hb1
 clear hb1
 go_wp2_with fail
 have gB : ∀ o : Obj, (w1.alloc o).cell? ⟨w.heap.size, 1, none⟩ = some (.slice ad k c) := fun o => by rw [World.cell?_alloc_past _ _ _ (by show w.heap.size < w1.heap.size; omega)]; exact cB
 go_region
 have HB2 := Lib.hid ((HB.out.alloc HB.out.size (.cells #[.int .u32 1] 137)).drew)
 have HB1 := Lib.hid (((Below.refl w1.heap.size w1).alloc (Nat.le_refl _) (.cells #[.int .u32 1] 137)).drew)
 have hR1 := (rd_one w1 137).keep (Below.refl _ _).drew
 have hR2 := (HR.out.keep HB2.out)
 go_wp2
 go_loopw [6, 7, 8] (PowRel m n (w1.alloc (.cells #[.int .u32 1] 137)).drew) (fun _ _ l _ => (intOf l).toNat)
 case atStart => exact ⟨1, m, n, hR1, hR2, rfl, Nat.le_refl _, PowInv.start m n, Below.refl _ _⟩
 case round =>
  obtain ⟨P, S, k, hP, hS, rfl, hk, hI, hb⟩ := hrel
  have HPP := Lib.hid hP
  have HSS := Lib.hid hS
  have HI := Lib.hid hI
  have HBR := Lib.hid hb
  clear hP hS hI hb
  by_cases hk0 : 0 < k
  ·obtain ⟨l1, l2⟩ := HPB.out.1 P S k HI.out hk0
   have HM1 := fun W h1 h2 => Lib.hid (mul_any P S u6 u7 W l1 l2 h1 h2)
   have HM2 := fun W h2 => Lib.hid (mul_any S S u7 u7 W l2 l2 h2 h2)
   have HM1 := Lib.hid HM1
   have HM2 := Lib.hid HM2
   clear l1 l2
   have hpar := i64_and_one k (by omega)
   by_cases hodd : k % 2 = 1
   ·rw [hodd] at hpar
    have hHO := Lib.hid hodd
    clear hodd
    by_cases hk1 : 1 < k
    ·go_wp2_with fail
     refine (HM1.out _ HPP.out HSS.out).out.mono ?_
     rintro e w2 ⟨v2, rfl, ho2, hb2⟩
     go_wp2_with fail
     refine (HM2.out _ (HSS.out.keep hb2)).out.mono ?_
     rintro e w3 ⟨v3, rfl, ho3, hb3⟩
     have hb4 := hb2.trans (hb3.mono hb2.size)
     have HO2 := Lib.hid (ho2.keep hb3)
     have HO3 := Lib.hid ho3
     have HB4 := Lib.hid (HBR.out.trans (hb4.mono HBR.out.size))
     clear ho2 ho3 hb2 hb3 hb4 hpar
     go_wp2
     go_roundw
     case rel =>
      refine ⟨P * S, S * S, (k - 1) / 2, HO2.out.rd, HO3.out.rd, ?_, by omega, (HI.out.odd hHO.out).half (by have := hHO.out; omega) (by have := hHO.out; omega), HB4.out⟩
      exact congrArg (Value.int .i64) (by have := hHO.out; omega)
     case measure => simp [intOf]; omega
    ·obtain rfl : k = 1 := by omega
     go_wp2_with fail
     refine (HM1.out _ HPP.out HSS.out).out.mono ?_
     rintro e w2 ⟨v2, rfl, ho2, hb2⟩
     have HO2 := Lib.hid ho2
     have HS2 := Lib.hid (HSS.out.keep hb2)
     have HB4 := Lib.hid (HBR.out.trans (hb2.mono HBR.out.size))
     clear ho2 hb2 hpar
     go_wp2
     go_roundw
     case rel =>
      refine ⟨P * S, S, 0, HO2.out.rd, HS2.out, rfl, by omega, HI.out.odd rfl, HB4.out⟩
     case measure => simp [intOf]
   ·have h0 : k % 2 = 0 := by omega
    rw [h0] at hpar
    have hHO := Lib.hid h0
    have hk1 : 1 < k := by omega
    clear hodd h0
    go_wp2_with fail
    refine (HM2.out _ HSS.out).out.mono ?_
    rintro e w2 ⟨v2, rfl, ho2, hb2⟩
    have HO2 := Lib.hid ho2
    have HP2 := Lib.hid (HPP.out.keep hb2)
    have HB4 := Lib.hid (HBR.out.trans (hb2.mono HBR.out.size))
    clear ho2 hb2 hpar
    go_wp2
    go_roundw
    case rel =>
     refine ⟨P, S * S, k / 2, HP2.out, HO2.out.rd, ?_, by omega, HI.out.half (by omega) hHO.out, HB4.out⟩
     exact congrArg (Value.int .i64) (by omega)
    case measure => simp [intOf]; omega
  ·obtain rfl : k = 0 := by omega
   obtain rfl := HI.out.done
   have hbX := HB1.out.trans (HBR.out.mono HB1.out.size)
   have HX := Lib.hid (HW.out.trans (hbX.mono HW.out.size))
   have HWR := Lib.hid (HB.out.trans (hbX.mono (by omega)))
   have hszr : w.heap.size + 1 < wr.heap.size := Nat.lt_of_lt_of_le hsz hbX.size
   clear cA cB cE cF fE fF hbX hsz gB
   obtain ⟨⟨cA, cB⟩, ⟨cE, cF, fE, fF⟩, _⟩ := box2q HX.out
   have HOWN := fun neg v1 w1 h1 => own_any neg v1 (digs 4294967296 (m ^ n)) w1 h1 (digs_lt (by decide) _)
   rw [vl_digs (by decide)] at HOWN
   have hparn := i64_and_one n hn
   have hcase : b = false ∨ (b = true ∧ n % 2 = 1) ∨ (b = true ∧ n % 2 = 0) := by
    rcases Nat.mod_two_eq_zero_or_one n with h | h <;> cases b <;> simp [h]
   have hsg := HSG.out
   rcases hcase with rfl | ⟨rfl, hp⟩ | ⟨rfl, hp⟩
   ·have HOW := fun v1 w1 h1 => Lib.hid (HOWN false v1 w1 h1)
    rw [Bool.false_and] at hsg
    rw [hsg] at HOW
    have HOW := Lib.hid HOW
    clear HOWN hsg hparn HSG
    go_wp2_with fail
    refine (HOW.out _ _ HPP.out).out.mono ?_
    rintro e w2 ⟨v2, rfl, ⟨ad2, n2, c2, rfl, hr2⟩, hb2⟩
    have hr2' := hr2
    have HX2 := Lib.hid (HX.out.trans (hb2.mono HX.out.size))
    have HI2 := Lib.hid (show IntV w2 (.agg #[.bool (decide (x < 0)), .slice ad2 n2 c2]) x from ⟨_, _, _, rfl, hr2⟩)
    have HB5 := Lib.hid (HWR.out.trans (hb2.mono (by omega)))
    clear hb2 hr2 hr2' cA cB cE cF fE fF
    have hx0 : IntV w2 (.agg #[.bool (decide (x < 0)), .slice ad2 n2 c2]) x := HI2.out
    generalize decide (x < 0) = bx at *
    have HLEN := fun W h => Lib.hid (Length_any x (.agg #[.bool bx, .slice ad2 n2 c2]) W HLX.out h)
    have HLEN := Lib.hid HLEN
    clear hx0
    obtain ⟨lz, hlz⟩ : ∃ lz, lz = lenZ x := ⟨_, rfl⟩
    rw [← hlz] at HLEN
    have HLZ := Lib.hid hlz
    clear hlz
    go_wp2_with fail
    refine (HLEN.out _ (HI2.out.keep ((Below.refl _ _).alloc (Nat.le_refl _) _))).out.mono ?_
    rintro e w3 ⟨rfl, hb3⟩
    obtain ⟨cG, cH, _, _, hsz3⟩ := box2 hb3
    have hb4 := box1b hb3
    have HI3 := Lib.hid (HI2.out.keep hb4)
    have HX3 := Lib.hid (HX2.out.trans (hb4.mono HX2.out.size))
    have HB6 := Lib.hid (HB5.out.trans (hb4.mono HB5.out.size))
    clear hb3 hb4
    obtain ⟨_, ⟨cE, cF, fE, fF⟩, _⟩ := box2q HX3.out
    by_cases hlarge : 65536 < lz
    ·go_wp2_with fail
     refine bodyPost_ret (v := .tuple #[.agg #[.bool false, .slice none 0 0], .int .i64 14]) (by simp [results, Tryz.results92, go_sem, cE, cF]) rfl ⟨fun _ => ⟨rfl, ?_⟩, fun h => absurd h (by rw [← HLZ.out]; omega)⟩
     exact (HB6.out.setCell (by simp) _).setCell (by simp) _
    ·have hsmall : lz ≤ 65536 := by omega
     clear hlarge
     go_wp2_with fail
     have hix : ∀ x1 x2, IntV ((w3.setCell ⟨w.heap.size + 1, 0, none⟩ x1).setCell ⟨w.heap.size + 1, 1, none⟩ x2) (.agg #[.bool bx, .slice ad2 n2 c2]) x := by
      intro x1 x2
      obtain ⟨ad', n', c', h1, h2⟩ := HI3.out
      exact ⟨ad', n', c', h1, h2.store2 cE cF (by intro n h; cases h) (by intro n h; cases h) _ _⟩
     refine bodyPost_ret (v := .tuple #[.agg #[.bool bx, .slice ad2 n2 c2], .int .i64 0]) (by simp [results, Tryz.results92, go_sem, cE, cF]) rfl ⟨fun h => absurd h (by rw [← HLZ.out]; omega), fun _ => ⟨_, rfl, hix _ _, ?_⟩⟩
     exact (HB6.out.setCell (by simp) _).setCell (by simp) _
   ·have HOW := fun v1 w1 h1 => Lib.hid (HOWN true v1 w1 h1)
    rw [hp] at hsg hparn
    simp only [decide_true, Bool.true_and] at hsg
    rw [hsg] at HOW
    have HOW := Lib.hid HOW
    clear HOWN hsg HSG hp
    go_wp2_with fail
    refine (HOW.out _ _ HPP.out).out.mono ?_
    rintro e w2 ⟨v2, rfl, ⟨ad2, n2, c2, rfl, hr2⟩, hb2⟩
    have hr2' := hr2
    have HX2 := Lib.hid (HX.out.trans (hb2.mono HX.out.size))
    have HI2 := Lib.hid (show IntV w2 (.agg #[.bool (decide (x < 0)), .slice ad2 n2 c2]) x from ⟨_, _, _, rfl, hr2⟩)
    have HB5 := Lib.hid (HWR.out.trans (hb2.mono (by omega)))
    clear hb2 hr2 hr2' cA cB cE cF fE fF
    have hx0 : IntV w2 (.agg #[.bool (decide (x < 0)), .slice ad2 n2 c2]) x := HI2.out
    generalize decide (x < 0) = bx at *
    have HLEN := fun W h => Lib.hid (Length_any x (.agg #[.bool bx, .slice ad2 n2 c2]) W HLX.out h)
    have HLEN := Lib.hid HLEN
    clear hx0
    obtain ⟨lz, hlz⟩ : ∃ lz, lz = lenZ x := ⟨_, rfl⟩
    rw [← hlz] at HLEN
    have HLZ := Lib.hid hlz
    clear hlz
    go_wp2_with fail
    refine (HLEN.out _ (HI2.out.keep ((Below.refl _ _).alloc (Nat.le_refl _) _))).out.mono ?_
    rintro e w3 ⟨rfl, hb3⟩
    obtain ⟨cG, cH, _, _, hsz3⟩ := box2 hb3
    have hb4 := box1b hb3
    have HI3 := Lib.hid (HI2.out.keep hb4)
    have HX3 := Lib.hid (HX2.out.trans (hb4.mono HX2.out.size))
    have HB6 := Lib.hid (HB5.out.trans (hb4.mono HB5.out.size))
    clear hb3 hb4
    obtain ⟨_, ⟨cE, cF, fE, fF⟩, _⟩ := box2q HX3.out
    by_cases hlarge : 65536 < lz
    ·go_wp2_with fail
     refine bodyPost_ret (v := .tuple #[.agg #[.bool false, .slice none 0 0], .int .i64 14]) (by simp [results, Tryz.results92, go_sem, cE, cF]) rfl ⟨fun _ => ⟨rfl, ?_⟩, fun h => absurd h (by rw [← HLZ.out]; omega)⟩
     exact (HB6.out.setCell (by simp) _).setCell (by simp) _
    ·have hsmall : lz ≤ 65536 := by omega
     clear hlarge
     go_wp2_with fail
     have hix : ∀ x1 x2, IntV ((w3.setCell ⟨w.heap.size + 1, 0, none⟩ x1).setCell ⟨w.heap.size + 1, 1, none⟩ x2) (.agg #[.bool bx, .slice ad2 n2 c2]) x := by
      intro x1 x2
      obtain ⟨ad', n', c', h1, h2⟩ := HI3.out
      exact ⟨ad', n', c', h1, h2.store2 cE cF (by intro n h; cases h) (by intro n h; cases h) _ _⟩
     refine bodyPost_ret (v := .tuple #[.agg #[.bool bx, .slice ad2 n2 c2], .int .i64 0]) (by simp [results, Tryz.results92, go_sem, cE, cF]) rfl ⟨fun h => absurd h (by rw [← HLZ.out]; omega), fun _ => ⟨_, rfl, hix _ _, ?_⟩⟩
     exact (HB6.out.setCell (by simp) _).setCell (by simp) _
   ·have HOW := fun v1 w1 h1 => Lib.hid (HOWN false v1 w1 h1)
    rw [hp] at hsg hparn
    simp only [Nat.zero_ne_one, decide_false, Bool.and_false] at hsg
    rw [hsg] at HOW
    have HOW := Lib.hid HOW
    clear HOWN hsg HSG hp
    go_wp2_with fail
    refine (HOW.out _ _ HPP.out).out.mono ?_
    rintro e w2 ⟨v2, rfl, ⟨ad2, n2, c2, rfl, hr2⟩, hb2⟩
    have hr2' := hr2
    have HX2 := Lib.hid (HX.out.trans (hb2.mono HX.out.size))
    have HI2 := Lib.hid (show IntV w2 (.agg #[.bool (decide (x < 0)), .slice ad2 n2 c2]) x from ⟨_, _, _, rfl, hr2⟩)
    have HB5 := Lib.hid (HWR.out.trans (hb2.mono (by omega)))
    clear hb2 hr2 hr2' cA cB cE cF fE fF
    have hx0 : IntV w2 (.agg #[.bool (decide (x < 0)), .slice ad2 n2 c2]) x := HI2.out
    generalize decide (x < 0) = bx at *
    have HLEN := fun W h => Lib.hid (Length_any x (.agg #[.bool bx, .slice ad2 n2 c2]) W HLX.out h)
    have HLEN := Lib.hid HLEN
    clear hx0
    obtain ⟨lz, hlz⟩ : ∃ lz, lz = lenZ x := ⟨_, rfl⟩
    rw [← hlz] at HLEN
    have HLZ := Lib.hid hlz
    clear hlz
    go_wp2_with fail
    refine (HLEN.out _ (HI2.out.keep ((Below.refl _ _).alloc (Nat.le_refl _) _))).out.mono ?_
    rintro e w3 ⟨rfl, hb3⟩
    obtain ⟨cG, cH, _, _, hsz3⟩ := box2 hb3
    have hb4 := box1b hb3
    have HI3 := Lib.hid (HI2.out.keep hb4)
    have HX3 := Lib.hid (HX2.out.trans (hb4.mono HX2.out.size))
    have HB6 := Lib.hid (HB5.out.trans (hb4.mono HB5.out.size))
    clear hb3 hb4
    obtain ⟨_, ⟨cE, cF, fE, fF⟩, _⟩ := box2q HX3.out
    by_cases hlarge : 65536 < lz
    ·go_wp2_with fail
     refine bodyPost_ret (v := .tuple #[.agg #[.bool false, .slice none 0 0], .int .i64 14]) (by simp [results, Tryz.results92, go_sem, cE, cF]) rfl ⟨fun _ => ⟨rfl, ?_⟩, fun h => absurd h (by rw [← HLZ.out]; omega)⟩
     exact (HB6.out.setCell (by simp) _).setCell (by simp) _
    ·have hsmall : lz ≤ 65536 := by omega
     clear hlarge
     go_wp2_with fail
     have hix : ∀ x1 x2, IntV ((w3.setCell ⟨w.heap.size + 1, 0, none⟩ x1).setCell ⟨w.heap.size + 1, 1, none⟩ x2) (.agg #[.bool bx, .slice ad2 n2 c2]) x := by
      intro x1 x2
      obtain ⟨ad', n', c', h1, h2⟩ := HI3.out
      exact ⟨ad', n', c', h1, h2.store2 cE cF (by intro n h; cases h) (by intro n h; cases h) _ _⟩
     refine bodyPost_ret (v := .tuple #[.agg #[.bool bx, .slice ad2 n2 c2], .int .i64 0]) (by simp [results, Tryz.results92, go_sem, cE, cF]) rfl ⟨fun h => absurd h (by rw [← HLZ.out]; omega), fun _ => ⟨_, rfl, hix _ _, ?_⟩⟩
     exact (HB6.out.setCell (by simp) _).setCell (by simp) _
theorem Power_any (z : Int) (v : Value) (n : Nat) (w : World) (hn : n < 9223372036854775808) (hz : len z ≤ 1000000) (h : IntV w v z) :
  Calls Tryz.prog 92 #[v, .int .i64 n] w (PowPost w (z ^ n)) := by
 cases hp : decide (0 < bl z.natAbs - 1 ∧ 65536 / (bl z.natAbs - 1) < n) with
 | false => exact Power_run z v n w hn hz h hp
 | true =>
  have h1 := of_decide_eq_true hp
  have h2 := pow_large (x := z) h1.1 h1.2
  exact (Power_large z v n w hz h hp).mono fun _ _ he => ⟨fun _ => he, fun hle => absurd h2 (by omega)⟩
end
end Go.Proofs.YtghgcbedajaldaaGreat
