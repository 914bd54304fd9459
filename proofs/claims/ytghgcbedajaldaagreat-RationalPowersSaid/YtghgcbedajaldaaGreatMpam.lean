/-  More  -/
import Derived.Test.YtghgcbedajaldaaGreatMpaj
import Derived.Test.YtghgcbedajaldaaGreatMpak
import Derived.Test.YtghgcbedajaldaaGreatMpah
import Derived.Test.YtghgcbedajaldaaGreatMpal
/-  Root More  -/
namespace Go.Proofs.YtghgcbedajaldaaGreat
section
open Go.RowKit Digs
theorem Rd.unique {k : IntKind} {w : World} {v : Value} {l m : List Nat} (h1 : Rd k w v l) (h2 : Rd k w v m) : l = m := by
 rcases h1 with ⟨rfl, rfl⟩ | ⟨b, off, cap, rfl, _, _, _, hc⟩
 ·rcases h2 with ⟨_, rfl⟩ | ⟨b, off, cap, h, _⟩
  ·rfl
  ·cases h
 ·rcases h2 with ⟨h, _⟩ | ⟨b', off', cap', h, _, _, _, hc'⟩
  ·cases h
  ·simp only [Value.slice.injEq, Option.some.injEq, Addr.mk.injEq, and_true] at h
   obtain ⟨⟨rfl, rfl⟩, hl, _⟩ := h
   apply List.ext_getElem hl
   intro j h1 h2
   have e1 := hc j h1
   rw [hc' j h2] at e1
   rw [List.getElem?_eq_getElem h1, List.getElem?_eq_getElem h2] at e1
   simp only [Option.getD_some, Option.some.injEq, Value.int.injEq, true_and] at e1
   omega
noncomputable def rdNat (w : World) (v : Value) : Nat := @Classical.epsilon Nat ⟨0⟩ (fun n => Rd .u32 w v (digs 4294967296 n))
theorem rdNat_eq {w : World} {v : Value} {n : Nat} (h : Rd .u32 w v (digs 4294967296 n)) : rdNat w v = n := by
 have h1 : Rd .u32 w v (digs 4294967296 (rdNat w v)) := Classical.epsilon_spec (p := fun n => Rd .u32 w v (digs 4294967296 n)) ⟨n, h⟩
 exact digs_inj (by decide) (h1.unique h)
theorem rd_one' (w : World) (t : TypeId) (g : Nat) (hg : g = w.heap.size) : Rd .u32 (w.alloc (.cells #[.int .u32 1] t)) (.slice (some ⟨g, 0, none⟩) 1 1) (digs 4294967296 1) := by
 subst hg; exact rd_one w t
theorem shr1_any (m : Nat) (v : Value) (w : World) (hm : (digs 4294967296 m).length ≤ 1000000) (h : Rd .u32 w v (digs 4294967296 m)) :
  Calls Tryz.prog 167 #[v, .int .i64 1] w (OwPost w (digs 4294967296 (m / 2))) := by
 have := shr_any m 1 v w (by decide) hm h
 rw [Nat.pow_one] at this
 exact this
theorem len_pow2 (e M : Nat) (h : e ≤ 32 * M) : (digs 4294967296 (2 ^ e)).length ≤ M + 1 :=
 len_two_pow (Nat.pow_le_pow_right (by decide) h)
theorem len_add (x y k : Nat) (hx : (digs 4294967296 x).length ≤ k) (hy : (digs 4294967296 y).length ≤ k) : (digs 4294967296 (x + y)).length ≤ k + 1 := by
 have h1 := digs_lt_pow (b := 4294967296) (by decide) x
 have h2 := digs_lt_pow (b := 4294967296) (by decide) y
 have h3 : (4294967296 : Nat) ^ (digs 4294967296 x).length ≤ 4294967296 ^ k := Nat.pow_le_pow_right (by decide) hx
 have h4 : (4294967296 : Nat) ^ (digs 4294967296 y).length ≤ 4294967296 ^ k := Nat.pow_le_pow_right (by decide) hy
 refine digs_length_le (by decide) _ _ ?_
 rw [Nat.pow_succ]
 omega
def RootRel (m M : Nat) (W : World) (v : Value) (wr : World) : Prop :=
 ∃ r : Nat, Rd .u32 wr v (digs 4294967296 r) ∧ 0 < r ∧ m < (r + 1) * (r + 1) ∧ r ≤ M ∧ Below W.heap.size W wr
def RootPost (w : World) (m : Nat) (e : Ending) (w' : World) : Prop := ∃ r : Nat, r * r ≤ m ∧ m < (r + 1) * (r + 1) ∧ IntOK w (r : Int) e w'
set_option maxHeartbeats 2000000 in
set_option maxRecDepth 100000 in
theorem Root_zero (v : Value) (w : World) (h : IntV w v 0) :
  Calls Tryz.prog 132 #[v] w (RootPost w 0) := by
 obtain ⟨ad, k, c, rfl, hr⟩ := h
 rw [Int.natAbs_zero, digs_zero] at hr
 obtain ⟨ad', c', hv⟩ := hr.shape'
 cases hv
 clear hr
 have hd : decide ((0 : Int) < 0) = false := by decide
 rw [hd]
 clear hd
 go_enter Tryz.func132, Tryz.ntmps132
 go_wp2_with fail
 refine bodyPost_ret (v := .tuple #[.agg #[.bool false, .slice none 0 0], .int .i64 0]) (by simp [results, Tryz.results132, go_sem]) rfl ⟨0, by decide, by decide, _, rfl, ⟨_, _, _, rfl, .inl ⟨rfl, ?_⟩⟩, ?_⟩
 ·show digs 4294967296 (Int.natAbs 0) = []
  rw [Int.natAbs_zero, digs_zero]
 ·exact below2 w _ _
set_option maxHeartbeats 4000000 in
set_option maxRecDepth 100000 in
theorem Root_pos (z : Int) (v : Value) (w : World) (hz : len z ≤ 60000) (h : IntV w v z) (h0 : 0 < z) :
  Calls Tryz.prog 132 #[v] w (RootPost w z.natAbs) := by
 obtain ⟨ad, k, c, rfl, hr⟩ := h
 have hd : decide (z < 0) = false := by simpa using Int.le_of_lt h0
 rw [hd]
 have hm0 : 0 < z.natAbs := by omega
 unfold len at hz
 generalize z.natAbs = m at *
 have hl0 : (digs 4294967296 m).length ≠ 0 := by rw [Ne, digs_length_zero (by decide)]; omega
 obtain ⟨ad', c', hv⟩ := hr.shape'
 cases hv
 have hlb : bl m ≤ 1920000 := by
  have h1 := digs_lt_pow (b := 4294967296) (by decide) m
  rw [pow32] at h1
  have h2 := bl_le_iff.2 h1
  omega
 have HBL := fun W hw => Lib.hid (bitLength_any m (.slice ad (digs 4294967296 m).length c) W (by omega) (hr.keep (w' := W) hw))
 have HBL := Lib.hid HBL
 obtain ⟨e, he⟩ : ∃ e, e = (bl m + 1) / 2 := ⟨_, rfl⟩
 have HSH := fun W v h => Lib.hid (shl_any 1 e v W (by omega) (by rw [digs_small 1 (by decide) (by decide)]; decide) h)
 rw [Nat.one_mul] at HSH
 have HSH := Lib.hid HSH
 have HM := Lib.hid hm0
 have HST : m < (2 ^ e + 1) * (2 ^ e + 1) := by
  have h1 := bl_lt m
  have h2 : (2 : Nat) ^ bl m ≤ 2 ^ (e + e) := Nat.pow_le_pow_right (by decide) (by omega)
  rw [Nat.pow_add] at h2
  have h3 : 2 ^ e * 2 ^ e ≤ (2 ^ e + 1) * (2 ^ e + 1) := Nat.mul_le_mul (Nat.le_succ _) (Nat.le_succ _)
  omega
 have HST := Lib.hid HST
 have HE : Hid ((digs 4294967296 (2 ^ e)).length ≤ 500000) := by
  have := len_pow2 e 31250 (by omega)
  show _ ≤ _
  omega
 have HR := Lib.hid hr
 have hei : ((bl m : Int) + 1) / 2 = (e : Int) := by omega
 have HLZ := Lib.hid hz
 clear hr hz h0 hd he hm0
 generalize hbm : bl m = bm at *
 generalize hlm : (digs 4294967296 m).length = lm at *
 clear hbm
 have hlm0 : ((lm : Int) == 0) = false := by rw [beq_eq_false_iff_ne]; omega
 have HLM := Lib.hid hlm
 clear hlm hl0
 go_enter Tryz.func132, Tryz.ntmps132
 go_wp2_with fail
 refine (HBL.out _ ((below2 w _ _).alloc (by simp; omega) _)).out.mono ?_
 rintro e1 w1 ⟨rfl, rfl⟩
 go_wp2_with fail
 (with_reducible refine (HSH.out _ _ (rd_one' _ 137 (w.heap.size + 1 + 1) (by simp))).out.mono ?_)
 rintro e2 w2 ⟨v2, rfl, ho2, hb2⟩
 have hW0 := ((Below.refl _ _).alloc (Nat.le_refl _) (.cells #[.int .u32 1] 137)).trans (hb2.mono (by simp))
 have HW := Lib.hid hW0
 have HB2 := Lib.hid ((below2 w _ _).trans (hW0.mono (by simp; omega)))
 have HO2 := Lib.hid ho2
 clear hb2 hW0 ho2
 go_wp2
 go_loopw [4] (RootRel m (2 ^ e) w2) (fun v wr => rdNat wr v)
 case atStart => exact ⟨2 ^ e, HO2.out.rd, Nat.two_pow_pos _, HST.out, Nat.le_refl _, Below.refl _ _⟩
 case round =>
  obtain ⟨r, hr, hr0, hrm, hrM, hbr⟩ := hrel
  have HX := Lib.hid (HW.out.trans (hbr.mono HW.out.size))
  have HBR := Lib.hid (HB2.out.trans (hbr.mono HB2.out.size))
  have HBr := Lib.hid hbr
  have hrl := Nat.le_trans (digs_length_mono (b := 4294967296) (by decide) hrM) HE.out
  have hql : (digs 4294967296 (m / r)).length ≤ 60000 := by
   have := digs_length_mono (b := 4294967296) (by decide) (Nat.div_le_self m r)
   rw [HLM.out] at this
   have h2 := HLZ.out
   omega
  have HDV := Lib.hid (divide_any m r (.slice ad lm c) u4 wr (by rw [HLM.out]; have h2 := HLZ.out; omega) (by omega) (HR.out.keep HBR.out) hr)
  have HAD := fun W vq hw hq => Lib.hid (add_any r (m / r) u4 vq W (by omega) (by omega) (hr.keep (w' := W) hw) hq)
  have HAD := Lib.hid HAD
  have hsl := Nat.le_trans (len_add r (m / r) 500000 hrl (Nat.le_trans hql (by decide))) (show 500000 + 1 ≤ 1000000 by decide)
  have HSR := fun W v h => Lib.hid (shr1_any (r + m / r) v W hsl h)
  have HSR := Lib.hid HSR
  have HCM := fun W v7 h7 hw => Lib.hid (compare_any ((r + m / r) / 2) r v7 u4 W h7 (hr.keep (w' := W) hw))
  have HCM := Lib.hid HCM
  have HOW := fun W hw => own_any false u4 (digs 4294967296 r) W (hr.keep (w' := W) hw) (digs_lt (by decide) _)
  rw [vl_digs (by decide)] at HOW
  have HOW := Lib.hid HOW
  have HRR := Lib.hid (And.intro hr0 (And.intro hrm hrM))
  have HRd := Lib.hid hr
  clear hr hr0 hrm hrM hbr hrl hql hsl
  obtain ⟨⟨cA, cB⟩, ⟨cE, cF, fE, fF⟩, hsz⟩ := box2q HX.out
  go_wp2_with fail
  (with_reducible refine HDV.out.mono ?_)
  rintro e3 w3 ⟨vq, vr, rfl, hq3, _, hb3⟩
  have HB3 := Lib.hid hb3
  have HQ3 := Lib.hid hq3
  clear hb3 hq3
  go_wp2_with fail
  (with_reducible refine (HAD.out _ _ HB3.out HQ3.out).out.mono ?_)
  rintro e4 w4 ⟨v4, rfl, ho4, hb4⟩
  have HB4 := Lib.hid (HB3.out.trans (hb4.mono HB3.out.size))
  have HO4 := Lib.hid ho4.rd
  clear hb4 ho4
  go_wp2_with fail
  (with_reducible refine (HSR.out _ _ HO4.out).out.mono ?_)
  rintro e5 w5 ⟨v5, rfl, ho5, hb5⟩
  have HB5 := Lib.hid (HB4.out.trans (hb5.mono HB4.out.size))
  have HO5 := Lib.hid ho5.rd
  clear hb5 ho5
  go_wp2_with fail
  (with_reducible refine (HCM.out _ _ HO5.out HB5.out).out.mono ?_)
  rintro e6 w6 ⟨rfl, d, rfl⟩
  have HB6 := Lib.hid (below_drewN' HB5.out d)
  have HX6 := Lib.hid (HX.out.trans (HB6.out.mono HX.out.size))
  have HO6 := Lib.hid (HO5.out.keep (below_drewN' (Below.refl w5.heap.size w5) d))
  have HRd6 := Lib.hid (HRd.out.keep HB6.out)
  have HBR6 := Lib.hid (HBR.out.trans (HB6.out.mono HBR.out.size))
  clear cA cB cE cF fE fF hsz
  obtain ⟨_, ⟨cE, cF, fE, fF⟩, hsz⟩ := box2q HX6.out
  by_cases hge : r ≤ (r + m / r) / 2
  ·have hcm : (0 : Int) ≤ cmpN ((r + m / r) / 2) r := by unfold cmpN; split <;> (try split) <;> omega
   have HGE := Lib.hid (newton_done m r hge)
   clear hge
   generalize cmpN ((r + m / r) / 2) r = cm at *
   go_wp2_with fail
   (with_reducible refine (HOW.out _ HB6.out).mono ?_)
   rintro e7 w7 ⟨v7, rfl, ⟨ad7, n7, c7, rfl, hr7⟩, hb7⟩
   have HB7 := Lib.hid (HBR6.out.trans (hb7.mono HBR6.out.size))
   have HX7 := Lib.hid (HX6.out.trans (hb7.mono HX6.out.size))
   clear cE cF fE fF hsz hb7
   obtain ⟨_, ⟨cE, cF, fE, fF⟩, hsz⟩ := box2q HX7.out
   have HR7 := Lib.hid (hr7.store2 cE cF (by intro n h; cases h) (by intro n h; cases h))
   clear hr7
   have hsg : sg false r = (r : Int) := rfl
   rw [hsg] at *
   go_wp2_with fail
   refine bodyPost_ret (v := .tuple #[.agg #[.bool (decide ((r : Int) < 0)), .slice ad7 n7 c7], .int .i64 0]) (by simp [results, Tryz.results132, go_sem, cE, cF]) rfl ⟨r, HGE.out, HRR.out.2.1, _, rfl, ⟨_, _, _, rfl, HR7.out _ _⟩, ?_⟩
   exact (HB7.out.setCell (by simp) _).setCell (by simp) _
  ·have hcm : cmpN ((r + m / r) / 2) r < 0 := by unfold cmpN; rw [if_pos (by omega)]; omega
   have HLT := Lib.hid (show (r + m / r) / 2 < r by omega)
   clear hge
   generalize cmpN ((r + m / r) / 2) r = cm at *
   go_wp2
   go_roundw
   case rel =>
    refine ⟨(r + m / r) / 2, HO6.out, newton_pos m r HRR.out.1 HM.out, newton_ge m r HRR.out.1, ?_, HBr.out.trans (HB6.out.mono HBr.out.size)⟩
    have h1 := HLT.out
    have h2 := HRR.out.2.2
    omega
   case measure =>
    rw [rdNat_eq HO6.out, rdNat_eq HRd.out]
    exact HLT.out
end
section
open Go.RowKit Digs
theorem Root_any (z : Int) (v : Value) (w : World) (hz : len z ≤ 60000) (h : IntV w v z) (h0 : 0 ≤ z) :
  Calls Tryz.prog 132 #[v] w (RootPost w z.natAbs) := by
 by_cases h1 : z = 0
 ·subst h1; exact Root_zero v w h
 ·exact Root_pos z v w hz h (by omega)
set_option maxHeartbeats 1000000 in
set_option maxRecDepth 100000 in
theorem Abs_any (z : Int) (v : Value) (w : World) (hz : len z ≤ 1000000) (h : IntV w v z) :
  Calls Tryz.prog 69 #[v] w (IntPost w (z.natAbs : Int)) := by
 obtain ⟨ad, n, c, rfl, hr⟩ := h
 have HM := fun W hw => Lib.hid (make_any false (.slice ad n c) _ W (len4 hz) (hr.keep (w' := W) hw) (digs_lt (by decide) _))
 rw [vl_digs (by decide), show sg false z.natAbs = (z.natAbs : Int) from rfl] at HM
 have HM := Lib.hid HM
 clear hr hz
 generalize decide (z < 0) = b at *
 generalize (z.natAbs : Int) = y at *
 go_enter Tryz.func69, Tryz.ntmps69
 go_wp2_with fail
 refine (HM.out _ (below2 _ _ _)).out.mono ?_
 rintro e w1 ⟨v1, rfl, ⟨ad1, n1, c1, rfl, hr1⟩, hb1⟩
 obtain ⟨cE, cF, fE, fF, hsz⟩ := box2r hb1
 have HR := Lib.hid (hr1.store2 cE cF (by intro n h; cases h) (by intro n h; cases h))
 have HB := Lib.hid ((below2 w _ _).trans (hb1.mono (by simp <;> omega)))
 clear hr1 hb1
 go_wp2_with fail
 refine bodyPost_ret (v := .agg #[.bool (decide (y < 0)), .slice ad1 n1 c1]) (by simp [results, Tryz.results69, go_sem, cE, cF]) rfl ⟨_, rfl, ⟨_, _, _, rfl, HR.out _ _⟩, ?_⟩
 exact (HB.out.setCell (by simp) _).setCell (by simp) _
theorem Divide_any (x y : Int) (vx vy : Value) (w : World) (hx : len x ≤ 1000000) (hy : len y ≤ 1000000) (hy0 : y ≠ 0) (ha : IntV w vx x) (hb : IntV w vy y) :
  Calls Tryz.prog 139 #[vx, vy] w (DivideOK w x y) := by
 have hb' := hb
 obtain ⟨adx, nx, cx, rfl, ra⟩ := ha
 obtain ⟨ady, ny, cy, rfl, rb⟩ := hb
 have h := divide_core (decide (x < 0)) (decide (y < 0)) adx ady nx cx ny cy (x.natAbs / y.natAbs) (x.natAbs % y.natAbs) y hy0 hy w hb' (fun W hw => divide_any _ _ _ _ W hx (by omega) (ra.keep hw) (rb.keep hw))
 rw [sg_div, sg_mod (decide (x < 0)) (decide (y < 0)), sg_self, sg_self] at h
 exact h
structure BX (p : Nat) (u v : Value) (z : Int) (w : World) : Prop where
 c0 : w.cell? ⟨p, 0, none⟩ = some u
 c1 : w.cell? ⟨p, 1, none⟩ = some v
 f0 : w.frozen? ⟨p, 0, none⟩ = false
 f1 : w.frozen? ⟨p, 1, none⟩ = false
 iv : IntV w (.agg #[u, v]) z
theorem BX.lt {p : Nat} {u v : Value} {z : Int} {w : World} (h : BX p u v z w) : p < w.heap.size := World.block_lt_of_cell? w _ h.c0
theorem BX.keep {p : Nat} {u v : Value} {z : Int} {w w' : World} (h : BX p u v z w) (hb : Below w.heap.size w w') : BX p u v z w' :=
 ⟨(hb.cell (p := ⟨p, 0, none⟩) h.lt).trans h.c0, (hb.cell (p := ⟨p, 1, none⟩) h.lt).trans h.c1, (hb.frozen (p := ⟨p, 0, none⟩) h.lt).trans h.f0, (hb.frozen (p := ⟨p, 1, none⟩) h.lt).trans h.f1, h.iv.keep hb⟩
theorem BX.made {u v : Value} {z : Int} {w : World} {t : TypeId} (h : IntV w (.agg #[u, v]) z) : BX w.heap.size u v z (w.alloc (.cells #[u, v] t)) :=
 ⟨by rw [World.cell?_alloc_at _ _ _ _ rfl]; rfl, by rw [World.cell?_alloc_at _ _ _ _ rfl]; rfl, World.frozen?_alloc_at _ _ _ _ rfl, World.frozen?_alloc_at _ _ _ _ rfl, h.keep ((Below.refl _ _).alloc (Nat.le_refl _) _)⟩
theorem BX.cells {p : Nat} {u v : Value} {z : Int} {w : World} (h : BX p u v z w) : w.cell? ⟨p, 0, none⟩ = some u ∧ w.cell? ⟨p, 1, none⟩ = some v := ⟨h.c0, h.c1⟩
theorem BX.other {X R : Nat} {u v : Value} {z : Int} {w : World} (h : BX X u v z w) {a : Bool} {ad : Option Addr} {n c : Nat} (h0 : w.cell? ⟨R, 0, none⟩ = some (.bool a)) (h1 : w.cell? ⟨R, 1, none⟩ = some (.slice ad n c)) (hne : X ≠ R) (y1 y2 : Value) :
  BX X u v z ((w.setCell ⟨R, 0, none⟩ y1).setCell ⟨R, 1, none⟩ y2) := by
 refine ⟨(cell_store2 hne).trans h.c0, (cell_store2 hne).trans h.c1, by simpa using h.f0, by simpa using h.f1, ?_⟩
 obtain ⟨ad', n', c', e, hr⟩ := h.iv
 exact ⟨ad', n', c', e, hr.store2 h0 h1 (by intro n h; cases h) (by intro n h; cases h) _ _⟩
theorem IntV.store {R : Nat} {vz : Value} {z : Int} {w : World} (h : IntV w vz z) {a : Bool} {ad : Option Addr} {n c : Nat} (h0 : w.cell? ⟨R, 0, none⟩ = some (.bool a)) (h1 : w.cell? ⟨R, 1, none⟩ = some (.slice ad n c)) (y1 y2 : Value) :
  IntV ((w.setCell ⟨R, 0, none⟩ y1).setCell ⟨R, 1, none⟩ y2) vz z := by
 obtain ⟨ad', n', c', e, hr⟩ := h
 exact ⟨ad', n', c', e, hr.store2 h0 h1 (by intro n h; cases h) (by intro n h; cases h) _ _⟩
theorem BX.mine {R : Nat} {a a' : Bool} {ad ad' : Option Addr} {n c n' c' : Nat} {z z' : Int} {w : World} (h : BX R (.bool a) (.slice ad n c) z w) (hi : IntV w (.agg #[.bool a', .slice ad' n' c']) z') :
  BX R (.bool a') (.slice ad' n' c') z' ((w.setCell ⟨R, 0, none⟩ (.bool a')).setCell ⟨R, 1, none⟩ (.slice ad' n' c')) := by
 refine ⟨?_, ?_, by simpa using h.f0, by simpa using h.f1, hi.store h.c0 h.c1 _ _⟩
 ·rw [World.cell?_setCell_other _ _ _ _ (by simp)]
  exact World.cell?_setCell_same _ _ _ h.c0
 ·exact World.cell?_setCell_same _ _ _ (by rw [World.cell?_setCell_other _ _ _ _ (by simp)]; exact h.c1)
end
end Go.Proofs.YtghgcbedajaldaaGreat
