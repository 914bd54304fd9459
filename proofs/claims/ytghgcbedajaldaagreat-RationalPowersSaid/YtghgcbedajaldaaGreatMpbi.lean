/-  S3 S4  -/
import Derived.Test.YtghgcbedajaldaaGreatMpbh
import Derived.Test.YtghgcbedajaldaaGreatMpam
/-  The program's Sub, wholeRoot and Root of fractions.  -/
namespace Go.Proofs.YtghgcbedajaldaaGreat
section
open Go.RowKit Digs
theorem Bd.negS {k : Nat} {z : Int} (h : Bd k z) : Bd k (-z) := by unfold Bd at *; rw [Int.natAbs_neg]; exact h
def WRPost (w : World) (m : Nat) (e : Ending) (w' : World) : Prop := ∃ (r : Nat) (v : Value), r * r ≤ m ∧ m < (r + 1) * (r + 1) ∧ e = .returned (.tuple #[v, .bool (decide (r * r = m))]) ∧ IntV w' v (r : Int) ∧ Below w.heap.size w w'
theorem cmpZ_eq0 (x y : Int) : (cmpZ x y == 0) = decide (x = y) := by
 unfold cmpZ
 split
 ·next h => rw [decide_eq_false (by omega)]; rfl
 ·split
  ·next h => rw [decide_eq_false (by omega)]; rfl
  ·rw [decide_eq_true (by omega)]; rfl
theorem root_bdS {k m r : Nat} (h : Bd k (m : Int)) (hr : r * r ≤ m) : Bd k (r : Int) := by
 unfold Bd at *
 rw [Int.natAbs_natCast] at *
 refine Nat.lt_of_le_of_lt ?_ h
 rcases Nat.eq_zero_or_pos r with h0 | h0
 ·omega
 ·exact Nat.le_trans (Nat.le_mul_of_pos_left r h0) hr
theorem enter2z {w : World} {a b : Value} {z : Int} {t : TypeId} (h1 : IntV w (.agg #[a, b]) z) :
  (BX w.heap.size a b z ((w.alloc (.cells #[a, b] t)).alloc (.cells #[.bool false, .slice none 0 0] t)) ∧ BX (w.heap.size + 1) (.bool false) (.slice none 0 0) 0 ((w.alloc (.cells #[a, b] t)).alloc (.cells #[.bool false, .slice none 0 0] t)) ∧
  Below w.heap.size w ((w.alloc (.cells #[a, b] t)).alloc (.cells #[.bool false, .slice none 0 0] t))) := by
 have hal : ∀ (W : World) (o : Obj), Below W.heap.size W (W.alloc o) := fun W o => (Below.refl _ _).alloc (Nat.le_refl _) _
 have hx := (BX.made (t := t) h1).keep (hal _ (.cells #[.bool false, .slice none 0 0] t))
 have hz := BX.made (w := w.alloc (.cells #[a, b] t)) (t := t) (IntV.nil0 _)
 simp only [World.size_alloc] at hz
 exact ⟨hx, hz, below2 _ _ _⟩
set_option maxHeartbeats 16000000 in
set_option maxRecDepth 100000 in
theorem wholeRoot_any (m : Nat) (v1 : Value) (w : World) (l1 : Bd 100 (m : Int)) (h1 : IntV w v1 (m : Int)) :
  Calls Tryz.prog 95 #[v1] w (WRPost w m) := by
 have HR0 := Lib.hid fun W u h => Lib.hid (show Calls Tryz.prog 132 #[u] W (RootPost W m) from Root_any (m : Int) u W (Nat.le_trans (digs_length_le (by decide) _ 100 l1) (by decide)) h (by omega))
 obtain ⟨p1, ad1, k1, c1, rfl⟩ := intv_shape h1
 have HE := Lib.hid (enter2z (t := 31) h1)
 have HM0 := Lib.hid fun (r : Nat) W u v h h' (hr : r * r ≤ m) => Lib.hid (Mul_any (r : Int) (r : Int) u v W (len_le (by decide) (root_bdS l1 hr)) (len_le (by decide) (root_bdS l1 hr)) h h')
 have HC0 := Lib.hid fun (r : Nat) W u v h h' => Lib.hid (Cmp_any ((r : Int) * (r : Int)) (m : Int) u v W h h')
 clear h1 l1
 have E0 := Lib.hid (enters_of Tryz.func84 (by kernel_rfl))
 have E1 := Lib.hid (enters_of Tryz.func63 (by kernel_rfl))
 go_enter Tryz.func95, Tryz.ntmps95
 go_upto_region 1 with fail
 generalize ((w.alloc (.cells #[.bool p1, .slice ad1 k1 c1] 31)).alloc (.cells #[.bool false, .slice none 0 0] 31)) = W0 at *
 have gx := HE.out.1.c0
 have gy := HE.out.1.c1
 go_wp2_with fail
 (with_reducible refine (HR0.out _ _ HE.out.1.iv).out.mono ?_)
 rintro e w1 ⟨r, hr1, hr2, vr, rfl, hi, hb1⟩
 obtain ⟨p2, ad2, k2, c2, rfl⟩ := intv_shape hi
 have HM := Lib.hid fun W u v h h' => HM0.out r W u v h h' hr1
 have HC := Lib.hid fun W u v h h' => Lib.hid (show Calls Tryz.prog 63 #[u, v] W _ from (HC0.out r W u v h h').out)
 have hq : (cmpZ ((r : Int) * (r : Int)) (m : Int) == 0) = decide (r * r = m) := by
  rw [cmpZ_eq0]
  by_cases h : r * r = m
  ·rw [decide_eq_true h, decide_eq_true (by rw [← h]; exact (Int.natCast_mul r r).symm)]
  ·rw [decide_eq_false h, decide_eq_false (by intro h2; apply h; have := Int.natCast_mul r r; omega)]
 clear HM0 HC0 HR0 gx gy
 have hal := (Below.refl w1.heap.size w1).alloc (Nat.le_refl _) (.cells #[.bool p2, .slice ad2 k2 c2] 31)
 have hb01 := hb1.trans (hal.mono hb1.size)
 have HE1 : Hid (BX w.heap.size (.bool p1) (.slice ad1 k1 c1) (m : Int) (w1.alloc (.cells #[.bool p2, .slice ad2 k2 c2] 31)) ∧ BX (w.heap.size + 1) (.bool false) (.slice none 0 0) 0 (w1.alloc (.cells #[.bool p2, .slice ad2 k2 c2] 31)) ∧ BX w1.heap.size (.bool p2) (.slice ad2 k2 c2) (r : Int) (w1.alloc (.cells #[.bool p2, .slice ad2 k2 c2] 31)) ∧ Below w.heap.size w (w1.alloc (.cells #[.bool p2, .slice ad2 k2 c2] 31))) :=
  Lib.hid ⟨HE.out.1.keep hb01, HE.out.2.1.keep hb01, BX.made hi, HE.out.2.2.trans (hb01.mono HE.out.2.2.size)⟩
 have HLT := Lib.hid (show w.heap.size < w1.heap.size ∧ w.heap.size + 1 < w1.heap.size from ⟨(HE.out.1.keep hb1).lt, (HE.out.2.1.keep hb1).lt⟩)
 have N_1_4 := Lib.hid (Nat.ne_of_lt HLT.out.1)
 have N_2_4 := Lib.hid (Nat.ne_of_lt HLT.out.2)
 have N_1_2 := Lib.hid (show w.heap.size ≠ w.heap.size + 1 by omega)
 have G_2 := Lib.hid (show w.heap.size ≤ w.heap.size + 1 by omega)
 clear hi hb1 hal hb01 HE HLT
 generalize ((r : Int) * (r : Int)) = rr at *
 go_upto_region 2 with fail
 generalize (w1.alloc (.cells #[.bool p2, .slice ad2 k2 c2] 31)) = W1 at *
 obtain ⟨y1s, y1t, y2s, y2t, y4s, y4t, HE1⟩ : ∃ y1s y1t y2s y2t y4s y4t : Value, Hid (BX w.heap.size y1s y1t (m) W1 ∧ BX (w.heap.size + 1) y2s y2t (0) W1 ∧ BX w1.heap.size y4s y4t (r) W1 ∧ Below w.heap.size w W1) := ⟨_, _, _, _, _, _, HE1⟩
 go_upto_region 2 with fail
 refine wp_region_fl 7 ((Fct.z (r)) :: (Fct.z (r)) :: (Fct.z (r)) :: (Fct.z (rr)) :: (Fct.z (m)) :: (Fct.v (.int .i64 (cmpZ rr m))) :: (Fct.v (.bool (decide (r * r = m)))) :: []) (fun W => BX w.heap.size y1s y1t (m) W ∧ BX (w.heap.size + 1) y2s y2t (0) W ∧ BX w1.heap.size y4s y4t (r) W ∧ Below W1.heap.size W1 W) (false :: false :: false :: false :: false :: false :: true :: []) (some 11 :: some 12 :: some 13 :: some 14 :: some 15 :: some 16 :: some 17 :: []) (fun _ _ h hb => ⟨h.1.keep hb, h.2.1.keep hb, h.2.2.1.keep hb, Below.trans h.2.2.2 (hb.mono h.2.2.2.size)⟩) ⟨HE1.out.1, HE1.out.2.1, HE1.out.2.2.1, Below.refl _ _⟩ ?_ ?_
 ·refine so (step_ldZ0 (b := w1.heap.size) rfl (.inl rfl) Arg.od (fun _ h => ⟨h.2.2.1.c0, h.2.2.1.c1⟩) (fun _ h => h.2.2.1.iv)) ?_
  refine so (step_ldZ0 (b := w1.heap.size) rfl (.inl rfl) Arg.od (fun _ h => ⟨h.2.2.1.c0, h.2.2.1.c1⟩) (fun _ h => h.2.2.1.iv)) ?_
  refine so (step_ldZ0 (b := w1.heap.size) rfl (.inl rfl) Arg.od (fun _ h => ⟨h.2.2.1.c0, h.2.2.1.c1⟩) (fun _ h => h.2.2.1.iv)) ?_
  refine so (step_call2 E0.out rfl (.inl rfl) (Arg.t 1 rfl) (Arg.t 2 rfl) (fun u v w _ h1 h2 => (HM.out _ _ _ h1 h2).out)) ?_
  refine so (step_ldZ0 (b := w.heap.size) rfl (.inl rfl) Arg.od (fun _ h => ⟨h.1.c0, h.1.c1⟩) (fun _ h => h.1.iv)) ?_
  refine so (step_call2 E1.out rfl (.inl rfl) (Arg.t 3 rfl) (Arg.t 4 rfl) (fun u v w _ h1 h2 => (HC.out _ _ _ h1 h2).out.mono fun e w' h => ⟨_, h.1, rfl, h.2⟩)) ?_
  refine sy (sty_eql (b := (decide (r * r = m))) (hq.symm) rfl (.inl rfl) (Arg.t 5 rfl) (Arg.const _)) ?_
  trivial
 intro v2 W2 hk hdf hs
 simp only [putV, Act.put, List.setIfInBounds_toArray, List.set_cons_zero, List.set_cons_succ, Nat.reduceAdd]
 have k_11 : (Fct.z (r)).R (v2 0) W2 := hk 0 _ (by decide) rfl
 have f_16 : v2 5 = .int .i64 (cmpZ rr m) := hk 5 _ (by decide) rfl
 have f_17 : v2 6 = .bool (decide (r * r = m)) := hk 6 _ (by decide) rfl
 clear hk hdf
 simp only [f_16, f_17]
 have B2_0 := Below.trans HE1.out.2.2.2 (hs.2.2.2.mono HE1.out.2.2.2.size)
 refine tail_stZ (q := (w.heap.size + 1)) rfl rfl rfl rfl hs.2.1 k_11 ?_
 intro W2_1 x2cs x2ct n_2_1 s_2_1
 have m_1_1 := (hs.1).stq s_2_1 N_1_2.out
 have m_4_1 := (hs.2.2.1).stq s_2_1 (N_2_4.out.symm)
 have B2_1 := s_2_1.below w.heap.size w G_2.out B2_0
 refine tail_assign rfl rfl ?_
 simp only [Act.put, List.setIfInBounds_toArray, List.set_cons_zero, List.set_cons_succ]
 refine tail_nil ?_
 have HS2 := Lib.hid (And.intro (m_1_1) (And.intro (n_2_1) (And.intro (m_4_1) (B2_1))))
 clear hs HE1 B2_0 B2_1 k_11 f_16 f_17 n_2_1 s_2_1 m_1_1 m_4_1
 have hr := HS2.out.2.1
 have hbl := HS2.out.2.2.2
 have r0 := hr.c0
 have r1 := hr.c1
 have HR := Lib.hid hr.iv
 have HBL := Lib.hid hbl
 have HQ := Lib.hid (And.intro hr1 hr2)
 clear hr hbl hq hr1 hr2 HS2
 go_wp2_with fail
 refine bodyPost_ret (v := .tuple #[.agg #[x2cs, x2ct], .bool (decide (r * r = m))]) (by simp [results, Tryz.results95, go_sem, r0, r1]) rfl ⟨r, _, HQ.out.1, HQ.out.2, rfl, HR.out, HBL.out⟩
end
end Go.Proofs.YtghgcbedajaldaaGreat
/-  The program's Root of fractions.  -/
namespace Go.Proofs.YtghgcbedajaldaaGreat
section
open Go.RowKit Digs
theorem root_uniq {m r s : Nat} (h1 : r * r ≤ m) (h2 : m < (r + 1) * (r + 1)) (h3 : s * s ≤ m) (h4 : m < (s + 1) * (s + 1)) : r = s := by
 rcases Nat.lt_trichotomy r s with h | h | h
 ·have := Nat.mul_le_mul (show r + 1 ≤ s by omega) (show r + 1 ≤ s by omega); omega
 ·exact h
 ·have := Nat.mul_le_mul (show s + 1 ≤ r by omega) (show s + 1 ≤ r by omega); omega
def IsRt (m r : Nat) : Prop := r * r ≤ m ∧ m < (r + 1) * (r + 1)
theorem wholeRoot_of (m r : Nat) (v1 : Value) (w : World) (hr : IsRt m r) (l1 : Bd 100 (m : Int)) (h1 : IntV w v1 (m : Int)) (b : Bool) (hb : b = decide (r * r = m)) :
  Calls Tryz.prog 95 #[v1] w fun e w' => ∃ v, e = .returned (.tuple #[v, .bool b]) ∧ IntV w' v (r : Int) ∧ Below w.heap.size w w' := by
 subst hb
 refine (wholeRoot_any m v1 w l1 h1).mono ?_
 rintro e w' ⟨s, v, a, b, c, d, f⟩
 obtain rfl := root_uniq hr.1 hr.2 a b
 exact ⟨v, c, d, f⟩
theorem enter2p {w : World} {a b c e : Value} {n d : Int} {t : TypeId} (h1 : RatV w (.agg #[a, b, c, e]) n d) :
  (PX w.heap.size a b c e n d ((w.alloc (.cells #[a, b, c, e] t)).alloc (.cells #[.bool false, .slice none 0 0, .bool false, .slice none 0 0] t)) ∧ PX (w.heap.size + 1) (.bool false) (.slice none 0 0) (.bool false) (.slice none 0 0) 0 1 ((w.alloc (.cells #[a, b, c, e] t)).alloc (.cells #[.bool false, .slice none 0 0, .bool false, .slice none 0 0] t)) ∧
  Below w.heap.size w ((w.alloc (.cells #[a, b, c, e] t)).alloc (.cells #[.bool false, .slice none 0 0, .bool false, .slice none 0 0] t))) := by
 have hal : ∀ (W : World) (o : Obj), Below W.heap.size W (W.alloc o) := fun W o => (Below.refl _ _).alloc (Nat.le_refl _) _
 have hx := (PX.made (t := t) h1).keep (hal _ (.cells #[.bool false, .slice none 0 0, .bool false, .slice none 0 0] t))
 have hz := PX.made (w := w.alloc (.cells #[a, b, c, e] t)) (n := 0) (d := 1) (t := t) ⟨_, _, _, _, rfl, IntV.nil0 _, IntV.nil0 _⟩
 simp only [World.size_alloc] at hz
 exact ⟨hx, hz, below2 _ _ _⟩
def rtN (n d : Int) (rn rd : Nat) : Int := if n < 0 then 0 else if rn * rn = n.natAbs ∧ rd * rd = d.natAbs then rn else 0
def rtD (n d : Int) (rn rd : Nat) : Int := if n < 0 then 1 else if rn * rn = n.natAbs ∧ rd * rd = d.natAbs then rd else 1
def rtC (n d : Int) (rn rd : Nat) : Int := if n < 0 then 1 else if rn * rn = n.natAbs ∧ rd * rd = d.natAbs then 0 else 5
theorem sgn_lt0 {n : Int} : decide (sgnZ n < 0) = decide (n < 0) := by
 unfold sgnZ
 split
 ·next h => rw [decide_eq_true h]; rfl
 ·split
  ·next h => rw [decide_eq_false (show ¬ n < 0 by omega)]; rfl
  ·rw [decide_eq_false (show ¬ n < 0 by omega)]; rfl
set_option maxHeartbeats 16000000 in
set_option maxRecDepth 100000 in
theorem ratRoot_A (n d : Int) (v1 : Value) (w : World) (hn : n < 0) (l1 : Bd 100 n) (h1 : RatV w v1 n d) : Calls Tryz.prog 34 #[v1] w (RatRes w 0 1 1) := by
 have HS := Lib.hid fun W u h => Lib.hid (ratSign_any n d u W (len_le (by decide) l1) h)
 have hsg := Lib.hid (show true = decide (sgnZ n < 0) by rw [sgn_lt0]; exact (decide_eq_true hn).symm)
 obtain ⟨p1, ad1, k1, c1, p2, ad2, k2, c2, rfl⟩ := ratv_shape h1
 have HE := Lib.hid (enter2p (t := 38) h1)
 clear h1 l1 hn
 have E0 := Lib.hid (enters_of Tryz.func24 (by kernel_rfl))
 go_enter Tryz.func34, Tryz.ntmps34
 go_upto_region 1 with fail
 generalize ((w.alloc (.cells #[.bool p1, .slice ad1 k1 c1, .bool p2, .slice ad2 k2 c2] 38)).alloc (.cells #[.bool false, .slice none 0 0, .bool false, .slice none 0 0] 38)) = W0 at *
 obtain ⟨y1s, y1t, y1u, y1v, y2s, y2t, y2u, y2v, HE⟩ : ∃ y1s y1t y1u y1v y2s y2t y2u y2v : Value, Hid (PX w.heap.size y1s y1t y1u y1v (n) (d) W0 ∧ PX (w.heap.size + 1) y2s y2t y2u y2v (0) (1) W0 ∧ Below w.heap.size w W0) := ⟨_, _, _, _, _, _, _, _, HE⟩
 have N_1_2 := Lib.hid (show w.heap.size ≠ w.heap.size + 1 by omega)
 have G_1 := Lib.hid (show w.heap.size ≤ w.heap.size by omega)
 have G_2 := Lib.hid (show w.heap.size ≤ w.heap.size + 1 by omega)
 go_upto_region 1 with fail
 refine wp_region_fl 3 ((Fct.p (n) (d)) :: (Fct.v (.int .i64 (sgnZ n))) :: (Fct.v (.bool (true))) :: []) (fun W => PX w.heap.size y1s y1t y1u y1v (n) (d) W ∧ PX (w.heap.size + 1) y2s y2t y2u y2v (0) (1) W ∧ Below W0.heap.size W0 W) (false :: false :: true :: []) (some 7 :: some 8 :: some 9 :: []) (fun _ _ h hb => ⟨h.1.keep hb, h.2.1.keep hb, Below.trans h.2.2 (hb.mono h.2.2.size)⟩) ⟨HE.out.1, HE.out.2.1, Below.refl _ _⟩ ?_ ?_
 ·refine so (step_ldP (p := w.heap.size) rfl (.inl rfl) Arg.od (fun _ h => h.1.c4) (fun _ h => h.1.rv)) ?_
  refine so (step_call1 E0.out rfl (.inl rfl) (Arg.t 0 rfl) (fun u w _ h1 => (HS.out _ _ h1).out.mono fun e w' h => ⟨_, h.1, rfl, h.2⟩)) ?_
  refine sy (sty_lss (b := (true)) (hsg.out) rfl (.inl rfl) (Arg.t 1 rfl) (Arg.const _)) ?_
  trivial
 intro v1 W1 hk hdf hs
 simp only [putV, Act.put, List.setIfInBounds_toArray, List.set_cons_zero, List.set_cons_succ, Nat.reduceAdd]
 have f_8 : v1 1 = .int .i64 (sgnZ n) := hk 1 _ (by decide) rfl
 have f_9 : v1 2 = .bool (true) := hk 2 _ (by decide) rfl
 clear hk hdf
 simp only [f_8, f_9]
 have B1_0 := Below.trans HE.out.2.2 (hs.2.2.mono HE.out.2.2.size)
 refine tail_nil ?_
 have HS1 := Lib.hid (And.intro (hs.1) (And.intro (hs.2.1) (B1_0)))
 clear hs HE B1_0 f_8 f_9
 go_upto_region 2 with fail
 refine wp_region_fl 1 ((Fct.p (0) (1)) :: []) (fun W => PX w.heap.size y1s y1t y1u y1v (n) (d) W ∧ PX (w.heap.size + 1) y2s y2t y2u y2v (0) (1) W ∧ Below W1.heap.size W1 W) (false :: []) (some 10 :: []) (fun _ _ h hb => ⟨h.1.keep hb, h.2.1.keep hb, Below.trans h.2.2 (hb.mono h.2.2.size)⟩) ⟨HS1.out.1, HS1.out.2.1, Below.refl _ _⟩ ?_ ?_
 ·refine so (step_zero4 rfl (.inl rfl) (fun _ => ⟨_, _, _, _, rfl, IntV.nil0 _, IntV.nil0 _⟩)) ?_
  trivial
 intro v2 W2 hk hdf hs
 simp only [putV, Act.put, List.setIfInBounds_toArray, List.set_cons_zero, List.set_cons_succ]
 have k_10 : (Fct.p (0) (1)).R (v2 0) W2 := hk 0 _ (by decide) rfl
 clear hk hdf
 have B2_0 := Below.trans HS1.out.2.2 (hs.2.2.mono HS1.out.2.2.size)
 refine tail_stP (q := (w.heap.size + 1)) rfl rfl rfl rfl hs.2.1 k_10 ?_
 intro W2_1 x2cs x2ct x2cu x2cv n_2_1 s_2_1
 have m_1_1 := (hs.1).stq s_2_1 N_1_2.out
 have B2_1 := s_2_1.below w.heap.size w G_2.out B2_0
 refine tail_assign rfl rfl ?_
 simp only [Act.put, List.setIfInBounds_toArray, List.set_cons_zero, List.set_cons_succ]
 refine tail_nil ?_
 have HS2 := Lib.hid (And.intro (m_1_1) (And.intro (n_2_1) (B2_1)))
 clear hs HS1 B2_0 B2_1 k_10 n_2_1 s_2_1 m_1_1
 have hr := HS2.out.2.1
 have hbl := HS2.out.2.2
 have r0 := hr.c0
 have r1 := hr.c1
 have r2 := hr.c2
 have r3 := hr.c3
 have HR := Lib.hid hr.rv
 have HBL := Lib.hid hbl
 clear hr hbl HS2
 go_wp2_with fail
 refine bodyPost_ret (v := .tuple #[.agg #[x2cs, x2ct, x2cu, x2cv], .int .i64 1]) (by simp [results, Tryz.results34, go_sem, r0, r1, r2, r3]) rfl ⟨_, rfl, HR.out, HBL.out⟩
set_option maxHeartbeats 16000000 in
set_option maxRecDepth 100000 in
theorem ratRoot_B (n d : Int) (v1 : Value) (w : World) (m : Nat) (hm : n = (m : Int)) (rn : Nat) (hr : IsRt m rn) (hq : rn * rn ≠ m) (l1 : Bd 100 n) (h1 : RatV w v1 n d) : Calls Tryz.prog 34 #[v1] w (RatRes w 0 1 5) := by
 have HS := Lib.hid fun W u h => Lib.hid (ratSign_any n d u W (len_le (by decide) l1) h)
 have hsg := Lib.hid (show false = decide (sgnZ n < 0) by rw [sgn_lt0]; exact (decide_eq_false (by omega)).symm)
 subst hm
 have HW1 := Lib.hid fun W u h => Lib.hid (wholeRoot_of m rn u W hr l1 h false (decide_eq_false hq).symm)
 obtain ⟨p1, ad1, k1, c1, p2, ad2, k2, c2, rfl⟩ := ratv_shape h1
 have HE := Lib.hid (enter2p (t := 38) h1)
 clear h1 l1 hr hq
 have E0 := Lib.hid (enters_of Tryz.func24 (by kernel_rfl))
 have E1 := Lib.hid (enters_of Tryz.func95 (by kernel_rfl))
 go_enter Tryz.func34, Tryz.ntmps34
 go_upto_region 1 with fail
 generalize ((w.alloc (.cells #[.bool p1, .slice ad1 k1 c1, .bool p2, .slice ad2 k2 c2] 38)).alloc (.cells #[.bool false, .slice none 0 0, .bool false, .slice none 0 0] 38)) = W0 at *
 obtain ⟨y1s, y1t, y1u, y1v, y2s, y2t, y2u, y2v, HE⟩ : ∃ y1s y1t y1u y1v y2s y2t y2u y2v : Value, Hid (PX w.heap.size y1s y1t y1u y1v ((m : Int)) (d) W0 ∧ PX (w.heap.size + 1) y2s y2t y2u y2v (0) (1) W0 ∧ Below w.heap.size w W0) := ⟨_, _, _, _, _, _, _, _, HE⟩
 have N_1_2 := Lib.hid (show w.heap.size ≠ w.heap.size + 1 by omega)
 have G_1 := Lib.hid (show w.heap.size ≤ w.heap.size by omega)
 have G_2 := Lib.hid (show w.heap.size ≤ w.heap.size + 1 by omega)
 go_upto_region 1 with fail
 refine wp_region_fl 3 ((Fct.p ((m : Int)) (d)) :: (Fct.v (.int .i64 (sgnZ (m : Int)))) :: (Fct.v (.bool (false))) :: []) (fun W => PX w.heap.size y1s y1t y1u y1v ((m : Int)) (d) W ∧ PX (w.heap.size + 1) y2s y2t y2u y2v (0) (1) W ∧ Below W0.heap.size W0 W) (false :: false :: true :: []) (some 7 :: some 8 :: some 9 :: []) (fun _ _ h hb => ⟨h.1.keep hb, h.2.1.keep hb, Below.trans h.2.2 (hb.mono h.2.2.size)⟩) ⟨HE.out.1, HE.out.2.1, Below.refl _ _⟩ ?_ ?_
 ·refine so (step_ldP (p := w.heap.size) rfl (.inl rfl) Arg.od (fun _ h => h.1.c4) (fun _ h => h.1.rv)) ?_
  refine so (step_call1 E0.out rfl (.inl rfl) (Arg.t 0 rfl) (fun u w _ h1 => (HS.out _ _ h1).out.mono fun e w' h => ⟨_, h.1, rfl, h.2⟩)) ?_
  refine sy (sty_lss (b := (false)) (hsg.out) rfl (.inl rfl) (Arg.t 1 rfl) (Arg.const _)) ?_
  trivial
 intro v1 W1 hk hdf hs
 simp only [putV, Act.put, List.setIfInBounds_toArray, List.set_cons_zero, List.set_cons_succ, Nat.reduceAdd]
 have f_8 : v1 1 = .int .i64 (sgnZ (m : Int)) := hk 1 _ (by decide) rfl
 have f_9 : v1 2 = .bool (false) := hk 2 _ (by decide) rfl
 clear hk hdf
 simp only [f_8, f_9]
 have B1_0 := Below.trans HE.out.2.2 (hs.2.2.mono HE.out.2.2.size)
 refine tail_nil ?_
 have HS1 := Lib.hid (And.intro (hs.1) (And.intro (hs.2.1) (B1_0)))
 clear hs HE B1_0 f_8 f_9
 go_upto_region 3 with fail
 have L3 := Lib.hid (And.intro (HS1.out.1.lt) (And.intro (HS1.out.2.1.lt) (trivial)))
 refine wp_region_fl 7 ((Fct.v (.pointer (some ⟨w.heap.size, 0, none⟩))) :: (Fct.z ((m : Int))) :: (Fct.t2 (Fct.z ((rn : Int))) (Fct.v (.bool (false)))) :: (Fct.t2 (Fct.z ((rn : Int))) (Fct.v (.bool (false)))) :: (Fct.z ((rn : Int))) :: (Fct.v (.bool (false))) :: (Fct.zb W1.heap.size) :: []) (fun W => PX w.heap.size y1s y1t y1u y1v ((m : Int)) (d) W ∧ PX (w.heap.size + 1) y2s y2t y2u y2v (0) (1) W ∧ Below W1.heap.size W1 W) (true :: false :: false :: true :: true :: true :: false :: []) (some 12 :: some 13 :: some 14 :: some 11 :: some 15 :: some 16 :: some 4 :: []) (fun _ _ h hb => ⟨h.1.keep hb, h.2.1.keep hb, Below.trans h.2.2 (hb.mono h.2.2.size)⟩) ⟨HS1.out.1, HS1.out.2.1, Below.refl _ _⟩ ?_ ?_
 ·refine sy (sty_faP0 (p := w.heap.size) rfl (.inl rfl) Arg.od) ?_
  refine so (step_ldZ0 (b := w.heap.size) rfl (.inl rfl) (Arg.t 0 rfl) (fun _ h => ⟨h.1.c0, h.1.c1⟩) (fun _ h => h.1.rv.ints.1)) ?_
  refine so (step_call1 E1.out rfl (.inl rfl) (Arg.t 1 rfl) (fun u w _ h1 => (HW1.out _ _ h1).out |>.mono fun e w' ⟨v, he, hi, hb⟩ => ⟨_, he, ⟨_, _, rfl, hi, rfl⟩, hb⟩)) ?_
  refine sy (sty_move rfl (.inl rfl) (Arg.t 2 rfl)) ?_
  refine sy (sty_ex20 (f := Fct.z ((rn : Int))) (g := Fct.v (.bool (false))) rfl (.inl rfl) (Arg.t 3 rfl)) ?_
  refine sy (sty_ex21 (f := Fct.z ((rn : Int))) (g := Fct.v (.bool (false))) rfl (.inl rfl) (Arg.t 3 rfl)) ?_
  refine sa (step_alZ (B := W1.heap.size) rfl (.inl rfl) (fun _ h => h.2.2.size) (fun _ _ h => h)) ?_
  trivial
 intro v3 W3 hk hdf hs
 simp only [putV, Act.put, List.setIfInBounds_toArray, List.set_cons_zero, List.set_cons_succ, Nat.reduceAdd]
 have a_4 : (Fct.zb W1.heap.size).R (v3 6) W3 := hk 6 _ (by decide) rfl
 refine Fct.zb_elim a_4 ?_
 intro q_4 e_4 g_4 k_4
 have k_15 : (Fct.z ((rn : Int))).R (v3 4) W3 := hk 4 _ (by decide) rfl
 have f_16 : v3 5 = .bool (false) := hk 5 _ (by decide) rfl
 clear hk hdf
 simp only [e_4, f_16]
 have B3_0 := Below.trans HS1.out.2.2 (hs.2.2.mono HS1.out.2.2.size)
 have N_1_4 := Lib.hid (Nat.ne_of_lt (Nat.lt_of_lt_of_le L3.out.1 g_4))
 have N_2_4 := Lib.hid (Nat.ne_of_lt (Nat.lt_of_lt_of_le L3.out.2.1 g_4))
 have G_4 := Lib.hid (show w.heap.size ≤ q_4 from Nat.le_trans HS1.out.2.2.size g_4)
 refine tail_stZ (q := q_4) rfl rfl rfl rfl k_4 k_15 ?_
 intro W3_1 x4ds x4dt n_4_1 s_4_1
 have m_1_1 := (hs.1).stq s_4_1 N_1_4.out
 have m_2_1 := (hs.2.1).stq s_4_1 N_2_4.out
 have B3_1 := s_4_1.below w.heap.size w G_4.out B3_0
 refine tail_assign rfl rfl ?_
 simp only [Act.put, List.setIfInBounds_toArray, List.set_cons_zero, List.set_cons_succ]
 refine tail_nil ?_
 have HS3 := Lib.hid (And.intro (m_1_1) (And.intro (m_2_1) (And.intro (n_4_1) (B3_1))))
 clear hs L3 HS1 B3_0 B3_1 k_15 f_16 n_4_1 s_4_1 m_1_1 m_2_1 e_4 g_4 k_4 a_4
 go_upto_region 4 with fail
 refine wp_region_fl 2 ((Fct.v (.bool (false))) :: (Fct.v (.bool (true))) :: []) (fun W => PX w.heap.size y1s y1t y1u y1v ((m : Int)) (d) W ∧ PX (w.heap.size + 1) y2s y2t y2u y2v (0) (1) W ∧ BX q_4 x4ds x4dt ((rn : Int)) W ∧ Below W3_1.heap.size W3_1 W) (true :: true :: []) (some 17 :: some 18 :: []) (fun _ _ h hb => ⟨h.1.keep hb, h.2.1.keep hb, h.2.2.1.keep hb, Below.trans h.2.2.2 (hb.mono h.2.2.2.size)⟩) ⟨HS3.out.1, HS3.out.2.1, HS3.out.2.2.1, Below.refl _ _⟩ ?_ ?_
 ·refine sy (sty_move rfl (.inl rfl) Arg.od) ?_
  refine sy (sty_not (b := false) rfl (.inl rfl) (Arg.t 0 rfl)) ?_
  trivial
 intro v4 W4 hk hdf hs
 simp only [putV, Act.put, List.setIfInBounds_toArray, List.set_cons_zero, List.set_cons_succ, Nat.reduceAdd]
 have f_17 : v4 0 = .bool (false) := hk 0 _ (by decide) rfl
 have f_18 : v4 1 = .bool (true) := hk 1 _ (by decide) rfl
 clear hk hdf
 simp only [f_17, f_18]
 have B4_0 := Below.trans HS3.out.2.2.2 (hs.2.2.2.mono HS3.out.2.2.2.size)
 refine tail_nil ?_
 have HS4 := Lib.hid (And.intro (hs.1) (And.intro (hs.2.1) (And.intro (hs.2.2.1) (B4_0))))
 clear hs HS3 B4_0 f_17 f_18
 go_upto_region 5 with fail
 refine wp_region_fl 1 ((Fct.p (0) (1)) :: []) (fun W => PX w.heap.size y1s y1t y1u y1v ((m : Int)) (d) W ∧ PX (w.heap.size + 1) y2s y2t y2u y2v (0) (1) W ∧ BX q_4 x4ds x4dt ((rn : Int)) W ∧ Below W4.heap.size W4 W) (false :: []) (some 19 :: []) (fun _ _ h hb => ⟨h.1.keep hb, h.2.1.keep hb, h.2.2.1.keep hb, Below.trans h.2.2.2 (hb.mono h.2.2.2.size)⟩) ⟨HS4.out.1, HS4.out.2.1, HS4.out.2.2.1, Below.refl _ _⟩ ?_ ?_
 ·refine so (step_zero4 rfl (.inl rfl) (fun _ => ⟨_, _, _, _, rfl, IntV.nil0 _, IntV.nil0 _⟩)) ?_
  trivial
 intro v5 W5 hk hdf hs
 simp only [putV, Act.put, List.setIfInBounds_toArray, List.set_cons_zero, List.set_cons_succ]
 have k_19 : (Fct.p (0) (1)).R (v5 0) W5 := hk 0 _ (by decide) rfl
 clear hk hdf
 have B5_0 := Below.trans HS4.out.2.2.2 (hs.2.2.2.mono HS4.out.2.2.2.size)
 refine tail_stP (q := (w.heap.size + 1)) rfl rfl rfl rfl hs.2.1 k_19 ?_
 intro W5_1 x2fs x2ft x2fu x2fv n_2_1 s_2_1
 have m_1_1 := (hs.1).stq s_2_1 N_1_2.out
 have m_4_1 := (hs.2.2.1).stq s_2_1 (N_2_4.out.symm)
 have B5_1 := s_2_1.below w.heap.size w G_2.out B5_0
 refine tail_assign rfl rfl ?_
 simp only [Act.put, List.setIfInBounds_toArray, List.set_cons_zero, List.set_cons_succ]
 refine tail_nil ?_
 have HS5 := Lib.hid (And.intro (m_1_1) (And.intro (n_2_1) (And.intro (m_4_1) (B5_1))))
 clear hs HS4 B5_0 B5_1 k_19 n_2_1 s_2_1 m_1_1 m_4_1
 have hr := HS5.out.2.1
 have hbl := HS5.out.2.2.2
 have r0 := hr.c0
 have r1 := hr.c1
 have r2 := hr.c2
 have r3 := hr.c3
 have HR := Lib.hid hr.rv
 have HBL := Lib.hid hbl
 clear hr hbl HS5
 go_wp2_with fail
 refine bodyPost_ret (v := .tuple #[.agg #[x2fs, x2ft, x2fu, x2fv], .int .i64 5]) (by simp [results, Tryz.results34, go_sem, r0, r1, r2, r3]) rfl ⟨_, rfl, HR.out, HBL.out⟩
set_option maxHeartbeats 16000000 in
set_option maxRecDepth 100000 in
theorem ratRoot_C (n d : Int) (v1 : Value) (w : World) (m : Nat) (hm : n = (m : Int)) (rn : Nat) (hr : IsRt m rn) (hq : rn * rn = m) (k : Nat) (hk : d = (k : Int)) (rd : Nat) (hr2 : IsRt k rd) (hq2 : rd * rd ≠ k) (hd0 : 0 < d) (l1 : Bd 100 n) (l2 : Bd 100 d) (h1 : RatV w v1 n d) : Calls Tryz.prog 34 #[v1] w (RatRes w 0 1 5) := by
 have HS := Lib.hid fun W u h => Lib.hid (ratSign_any n d u W (len_le (by decide) l1) h)
 have hsg := Lib.hid (show false = decide (sgnZ n < 0) by rw [sgn_lt0]; exact (decide_eq_false (by omega)).symm)
 subst hm
 have HW1 := Lib.hid fun W u h => Lib.hid (wholeRoot_of m rn u W hr l1 h true (decide_eq_true hq).symm)
 subst hk
 have HD := Lib.hid fun W u h => Lib.hid (den_any (m : Int) (k : Int) u W hd0 (len_le (by decide) l2) h)
 have HW2 := Lib.hid fun W u h => Lib.hid (wholeRoot_of k rd u W hr2 l2 h false (decide_eq_false hq2).symm)
 obtain ⟨p1, ad1, k1, c1, p2, ad2, k2, c2, rfl⟩ := ratv_shape h1
 have HE := Lib.hid (enter2p (t := 38) h1)
 clear h1 l1 hr hq hr2 hq2 hd0 l2
 have E0 := Lib.hid (enters_of Tryz.func24 (by kernel_rfl))
 have E1 := Lib.hid (enters_of Tryz.func95 (by kernel_rfl))
 have E2 := Lib.hid (enters_of Tryz.func67 (by kernel_rfl))
 go_enter Tryz.func34, Tryz.ntmps34
 go_upto_region 1 with fail
 generalize ((w.alloc (.cells #[.bool p1, .slice ad1 k1 c1, .bool p2, .slice ad2 k2 c2] 38)).alloc (.cells #[.bool false, .slice none 0 0, .bool false, .slice none 0 0] 38)) = W0 at *
 obtain ⟨y1s, y1t, y1u, y1v, y2s, y2t, y2u, y2v, HE⟩ : ∃ y1s y1t y1u y1v y2s y2t y2u y2v : Value, Hid (PX w.heap.size y1s y1t y1u y1v ((m : Int)) ((k : Int)) W0 ∧ PX (w.heap.size + 1) y2s y2t y2u y2v (0) (1) W0 ∧ Below w.heap.size w W0) := ⟨_, _, _, _, _, _, _, _, HE⟩
 have N_1_2 := Lib.hid (show w.heap.size ≠ w.heap.size + 1 by omega)
 have G_1 := Lib.hid (show w.heap.size ≤ w.heap.size by omega)
 have G_2 := Lib.hid (show w.heap.size ≤ w.heap.size + 1 by omega)
 go_upto_region 1 with fail
 refine wp_region_fl 3 ((Fct.p ((m : Int)) ((k : Int))) :: (Fct.v (.int .i64 (sgnZ (m : Int)))) :: (Fct.v (.bool (false))) :: []) (fun W => PX w.heap.size y1s y1t y1u y1v ((m : Int)) ((k : Int)) W ∧ PX (w.heap.size + 1) y2s y2t y2u y2v (0) (1) W ∧ Below W0.heap.size W0 W) (false :: false :: true :: []) (some 7 :: some 8 :: some 9 :: []) (fun _ _ h hb => ⟨h.1.keep hb, h.2.1.keep hb, Below.trans h.2.2 (hb.mono h.2.2.size)⟩) ⟨HE.out.1, HE.out.2.1, Below.refl _ _⟩ ?_ ?_
 ·refine so (step_ldP (p := w.heap.size) rfl (.inl rfl) Arg.od (fun _ h => h.1.c4) (fun _ h => h.1.rv)) ?_
  refine so (step_call1 E0.out rfl (.inl rfl) (Arg.t 0 rfl) (fun u w _ h1 => (HS.out _ _ h1).out.mono fun e w' h => ⟨_, h.1, rfl, h.2⟩)) ?_
  refine sy (sty_lss (b := (false)) (hsg.out) rfl (.inl rfl) (Arg.t 1 rfl) (Arg.const _)) ?_
  trivial
 intro v1 W1 hk hdf hs
 simp only [putV, Act.put, List.setIfInBounds_toArray, List.set_cons_zero, List.set_cons_succ, Nat.reduceAdd]
 have f_8 : v1 1 = .int .i64 (sgnZ (m : Int)) := hk 1 _ (by decide) rfl
 have f_9 : v1 2 = .bool (false) := hk 2 _ (by decide) rfl
 clear hk hdf
 simp only [f_8, f_9]
 have B1_0 := Below.trans HE.out.2.2 (hs.2.2.mono HE.out.2.2.size)
 refine tail_nil ?_
 have HS1 := Lib.hid (And.intro (hs.1) (And.intro (hs.2.1) (B1_0)))
 clear hs HE B1_0 f_8 f_9
 go_upto_region 3 with fail
 have L3 := Lib.hid (And.intro (HS1.out.1.lt) (And.intro (HS1.out.2.1.lt) (trivial)))
 refine wp_region_fl 7 ((Fct.v (.pointer (some ⟨w.heap.size, 0, none⟩))) :: (Fct.z ((m : Int))) :: (Fct.t2 (Fct.z ((rn : Int))) (Fct.v (.bool (true)))) :: (Fct.t2 (Fct.z ((rn : Int))) (Fct.v (.bool (true)))) :: (Fct.z ((rn : Int))) :: (Fct.v (.bool (true))) :: (Fct.zb W1.heap.size) :: []) (fun W => PX w.heap.size y1s y1t y1u y1v ((m : Int)) ((k : Int)) W ∧ PX (w.heap.size + 1) y2s y2t y2u y2v (0) (1) W ∧ Below W1.heap.size W1 W) (true :: false :: false :: true :: true :: true :: false :: []) (some 12 :: some 13 :: some 14 :: some 11 :: some 15 :: some 16 :: some 4 :: []) (fun _ _ h hb => ⟨h.1.keep hb, h.2.1.keep hb, Below.trans h.2.2 (hb.mono h.2.2.size)⟩) ⟨HS1.out.1, HS1.out.2.1, Below.refl _ _⟩ ?_ ?_
 ·refine sy (sty_faP0 (p := w.heap.size) rfl (.inl rfl) Arg.od) ?_
  refine so (step_ldZ0 (b := w.heap.size) rfl (.inl rfl) (Arg.t 0 rfl) (fun _ h => ⟨h.1.c0, h.1.c1⟩) (fun _ h => h.1.rv.ints.1)) ?_
  refine so (step_call1 E1.out rfl (.inl rfl) (Arg.t 1 rfl) (fun u w _ h1 => (HW1.out _ _ h1).out |>.mono fun e w' ⟨v, he, hi, hb⟩ => ⟨_, he, ⟨_, _, rfl, hi, rfl⟩, hb⟩)) ?_
  refine sy (sty_move rfl (.inl rfl) (Arg.t 2 rfl)) ?_
  refine sy (sty_ex20 (f := Fct.z ((rn : Int))) (g := Fct.v (.bool (true))) rfl (.inl rfl) (Arg.t 3 rfl)) ?_
  refine sy (sty_ex21 (f := Fct.z ((rn : Int))) (g := Fct.v (.bool (true))) rfl (.inl rfl) (Arg.t 3 rfl)) ?_
  refine sa (step_alZ (B := W1.heap.size) rfl (.inl rfl) (fun _ h => h.2.2.size) (fun _ _ h => h)) ?_
  trivial
 intro v3 W3 hk hdf hs
 simp only [putV, Act.put, List.setIfInBounds_toArray, List.set_cons_zero, List.set_cons_succ, Nat.reduceAdd]
 have a_4 : (Fct.zb W1.heap.size).R (v3 6) W3 := hk 6 _ (by decide) rfl
 refine Fct.zb_elim a_4 ?_
 intro q_4 e_4 g_4 k_4
 have k_15 : (Fct.z ((rn : Int))).R (v3 4) W3 := hk 4 _ (by decide) rfl
 have f_16 : v3 5 = .bool (true) := hk 5 _ (by decide) rfl
 clear hk hdf
 simp only [e_4, f_16]
 have B3_0 := Below.trans HS1.out.2.2 (hs.2.2.mono HS1.out.2.2.size)
 have N_1_4 := Lib.hid (Nat.ne_of_lt (Nat.lt_of_lt_of_le L3.out.1 g_4))
 have N_2_4 := Lib.hid (Nat.ne_of_lt (Nat.lt_of_lt_of_le L3.out.2.1 g_4))
 have G_4 := Lib.hid (show w.heap.size ≤ q_4 from Nat.le_trans HS1.out.2.2.size g_4)
 refine tail_stZ (q := q_4) rfl rfl rfl rfl k_4 k_15 ?_
 intro W3_1 x4ds x4dt n_4_1 s_4_1
 have m_1_1 := (hs.1).stq s_4_1 N_1_4.out
 have m_2_1 := (hs.2.1).stq s_4_1 N_2_4.out
 have B3_1 := s_4_1.below w.heap.size w G_4.out B3_0
 refine tail_assign rfl rfl ?_
 simp only [Act.put, List.setIfInBounds_toArray, List.set_cons_zero, List.set_cons_succ]
 refine tail_nil ?_
 have HS3 := Lib.hid (And.intro (m_1_1) (And.intro (m_2_1) (And.intro (n_4_1) (B3_1))))
 clear hs L3 HS1 B3_0 B3_1 k_15 f_16 n_4_1 s_4_1 m_1_1 m_2_1 e_4 g_4 k_4 a_4
 go_upto_region 4 with fail
 refine wp_region_fl 2 ((Fct.v (.bool (true))) :: (Fct.v (.bool (false))) :: []) (fun W => PX w.heap.size y1s y1t y1u y1v ((m : Int)) ((k : Int)) W ∧ PX (w.heap.size + 1) y2s y2t y2u y2v (0) (1) W ∧ BX q_4 x4ds x4dt ((rn : Int)) W ∧ Below W3_1.heap.size W3_1 W) (true :: true :: []) (some 17 :: some 18 :: []) (fun _ _ h hb => ⟨h.1.keep hb, h.2.1.keep hb, h.2.2.1.keep hb, Below.trans h.2.2.2 (hb.mono h.2.2.2.size)⟩) ⟨HS3.out.1, HS3.out.2.1, HS3.out.2.2.1, Below.refl _ _⟩ ?_ ?_
 ·refine sy (sty_move rfl (.inl rfl) Arg.od) ?_
  refine sy (sty_not (b := true) rfl (.inl rfl) (Arg.t 0 rfl)) ?_
  trivial
 intro v4 W4 hk hdf hs
 simp only [putV, Act.put, List.setIfInBounds_toArray, List.set_cons_zero, List.set_cons_succ, Nat.reduceAdd]
 have f_17 : v4 0 = .bool (true) := hk 0 _ (by decide) rfl
 have f_18 : v4 1 = .bool (false) := hk 1 _ (by decide) rfl
 clear hk hdf
 simp only [f_17, f_18]
 have B4_0 := Below.trans HS3.out.2.2.2 (hs.2.2.2.mono HS3.out.2.2.2.size)
 refine tail_nil ?_
 have HS4 := Lib.hid (And.intro (hs.1) (And.intro (hs.2.1) (And.intro (hs.2.2.1) (B4_0))))
 clear hs HS3 B4_0 f_17 f_18
 go_upto_region 6 with fail
 have L6 := Lib.hid (And.intro (HS4.out.1.lt) (And.intro (HS4.out.2.1.lt) (And.intro (HS4.out.2.2.1.lt) (trivial))))
 refine wp_region_fl 7 ((Fct.p ((m : Int)) ((k : Int))) :: (Fct.z ((k : Int))) :: (Fct.t2 (Fct.z ((rd : Int))) (Fct.v (.bool (false)))) :: (Fct.t2 (Fct.z ((rd : Int))) (Fct.v (.bool (false)))) :: (Fct.z ((rd : Int))) :: (Fct.v (.bool (false))) :: (Fct.zb W4.heap.size) :: []) (fun W => PX w.heap.size y1s y1t y1u y1v ((m : Int)) ((k : Int)) W ∧ PX (w.heap.size + 1) y2s y2t y2u y2v (0) (1) W ∧ BX q_4 x4ds x4dt ((rn : Int)) W ∧ Below W4.heap.size W4 W) (false :: false :: false :: true :: true :: true :: false :: []) (some 21 :: some 22 :: some 23 :: some 20 :: some 24 :: some 25 :: some 6 :: []) (fun _ _ h hb => ⟨h.1.keep hb, h.2.1.keep hb, h.2.2.1.keep hb, Below.trans h.2.2.2 (hb.mono h.2.2.2.size)⟩) ⟨HS4.out.1, HS4.out.2.1, HS4.out.2.2.1, Below.refl _ _⟩ ?_ ?_
 ·refine so (step_ldP (p := w.heap.size) rfl (.inl rfl) Arg.od (fun _ h => h.1.c4) (fun _ h => h.1.rv)) ?_
  refine so (step_call1 E2.out rfl (.inl rfl) (Arg.t 0 rfl) (fun u w _ h1 => (HD.out _ _ h1).out)) ?_
  refine so (step_call1 E1.out rfl (.inl rfl) (Arg.t 1 rfl) (fun u w _ h1 => (HW2.out _ _ h1).out |>.mono fun e w' ⟨v, he, hi, hb⟩ => ⟨_, he, ⟨_, _, rfl, hi, rfl⟩, hb⟩)) ?_
  refine sy (sty_move rfl (.inl rfl) (Arg.t 2 rfl)) ?_
  refine sy (sty_ex20 (f := Fct.z ((rd : Int))) (g := Fct.v (.bool (false))) rfl (.inl rfl) (Arg.t 3 rfl)) ?_
  refine sy (sty_ex21 (f := Fct.z ((rd : Int))) (g := Fct.v (.bool (false))) rfl (.inl rfl) (Arg.t 3 rfl)) ?_
  refine sa (step_alZ (B := W4.heap.size) rfl (.inl rfl) (fun _ h => h.2.2.2.size) (fun _ _ h => h)) ?_
  trivial
 intro v6 W6 hk hdf hs
 simp only [putV, Act.put, List.setIfInBounds_toArray, List.set_cons_zero, List.set_cons_succ, Nat.reduceAdd]
 have a_6 : (Fct.zb W4.heap.size).R (v6 6) W6 := hk 6 _ (by decide) rfl
 refine Fct.zb_elim a_6 ?_
 intro q_6 e_6 g_6 k_6
 have k_24 : (Fct.z ((rd : Int))).R (v6 4) W6 := hk 4 _ (by decide) rfl
 have f_25 : v6 5 = .bool (false) := hk 5 _ (by decide) rfl
 clear hk hdf
 simp only [e_6, f_25]
 have B6_0 := Below.trans HS4.out.2.2.2 (hs.2.2.2.mono HS4.out.2.2.2.size)
 have N_1_6 := Lib.hid (Nat.ne_of_lt (Nat.lt_of_lt_of_le L6.out.1 g_6))
 have N_2_6 := Lib.hid (Nat.ne_of_lt (Nat.lt_of_lt_of_le L6.out.2.1 g_6))
 have N_4_6 := Lib.hid (Nat.ne_of_lt (Nat.lt_of_lt_of_le L6.out.2.2.1 g_6))
 have G_6 := Lib.hid (show w.heap.size ≤ q_6 from Nat.le_trans HS4.out.2.2.2.size g_6)
 refine tail_stZ (q := q_6) rfl rfl rfl rfl k_6 k_24 ?_
 intro W6_1 x6gs x6gt n_6_1 s_6_1
 have m_1_1 := (hs.1).stq s_6_1 N_1_6.out
 have m_2_1 := (hs.2.1).stq s_6_1 N_2_6.out
 have m_4_1 := (hs.2.2.1).stq s_6_1 N_4_6.out
 have B6_1 := s_6_1.below w.heap.size w G_6.out B6_0
 refine tail_assign rfl rfl ?_
 simp only [Act.put, List.setIfInBounds_toArray, List.set_cons_zero, List.set_cons_succ]
 refine tail_nil ?_
 have HS6 := Lib.hid (And.intro (m_1_1) (And.intro (m_2_1) (And.intro (m_4_1) (And.intro (n_6_1) (B6_1)))))
 clear hs L6 HS4 B6_0 B6_1 k_24 f_25 n_6_1 s_6_1 m_1_1 m_2_1 m_4_1 e_6 g_6 k_6 a_6
 go_upto_region 7 with fail
 refine wp_region_fl 2 ((Fct.v (.bool (false))) :: (Fct.v (.bool (true))) :: []) (fun W => PX w.heap.size y1s y1t y1u y1v ((m : Int)) ((k : Int)) W ∧ PX (w.heap.size + 1) y2s y2t y2u y2v (0) (1) W ∧ BX q_4 x4ds x4dt ((rn : Int)) W ∧ BX q_6 x6gs x6gt ((rd : Int)) W ∧ Below W6_1.heap.size W6_1 W) (true :: true :: []) (some 26 :: some 27 :: []) (fun _ _ h hb => ⟨h.1.keep hb, h.2.1.keep hb, h.2.2.1.keep hb, h.2.2.2.1.keep hb, Below.trans h.2.2.2.2 (hb.mono h.2.2.2.2.size)⟩) ⟨HS6.out.1, HS6.out.2.1, HS6.out.2.2.1, HS6.out.2.2.2.1, Below.refl _ _⟩ ?_ ?_
 ·refine sy (sty_move rfl (.inl rfl) Arg.od) ?_
  refine sy (sty_not (b := false) rfl (.inl rfl) (Arg.t 0 rfl)) ?_
  trivial
 intro v7 W7 hk hdf hs
 simp only [putV, Act.put, List.setIfInBounds_toArray, List.set_cons_zero, List.set_cons_succ, Nat.reduceAdd]
 have f_26 : v7 0 = .bool (false) := hk 0 _ (by decide) rfl
 have f_27 : v7 1 = .bool (true) := hk 1 _ (by decide) rfl
 clear hk hdf
 simp only [f_26, f_27]
 have B7_0 := Below.trans HS6.out.2.2.2.2 (hs.2.2.2.2.mono HS6.out.2.2.2.2.size)
 refine tail_nil ?_
 have HS7 := Lib.hid (And.intro (hs.1) (And.intro (hs.2.1) (And.intro (hs.2.2.1) (And.intro (hs.2.2.2.1) (B7_0)))))
 clear hs HS6 B7_0 f_26 f_27
 go_upto_region 8 with fail
 refine wp_region_fl 1 ((Fct.p (0) (1)) :: []) (fun W => PX w.heap.size y1s y1t y1u y1v ((m : Int)) ((k : Int)) W ∧ PX (w.heap.size + 1) y2s y2t y2u y2v (0) (1) W ∧ BX q_4 x4ds x4dt ((rn : Int)) W ∧ BX q_6 x6gs x6gt ((rd : Int)) W ∧ Below W7.heap.size W7 W) (false :: []) (some 28 :: []) (fun _ _ h hb => ⟨h.1.keep hb, h.2.1.keep hb, h.2.2.1.keep hb, h.2.2.2.1.keep hb, Below.trans h.2.2.2.2 (hb.mono h.2.2.2.2.size)⟩) ⟨HS7.out.1, HS7.out.2.1, HS7.out.2.2.1, HS7.out.2.2.2.1, Below.refl _ _⟩ ?_ ?_
 ·refine so (step_zero4 rfl (.inl rfl) (fun _ => ⟨_, _, _, _, rfl, IntV.nil0 _, IntV.nil0 _⟩)) ?_
  trivial
 intro v8 W8 hk hdf hs
 simp only [putV, Act.put, List.setIfInBounds_toArray, List.set_cons_zero, List.set_cons_succ]
 have k_28 : (Fct.p (0) (1)).R (v8 0) W8 := hk 0 _ (by decide) rfl
 clear hk hdf
 have B8_0 := Below.trans HS7.out.2.2.2.2 (hs.2.2.2.2.mono HS7.out.2.2.2.2.size)
 refine tail_stP (q := (w.heap.size + 1)) rfl rfl rfl rfl hs.2.1 k_28 ?_
 intro W8_1 x2is x2it x2iu x2iv n_2_1 s_2_1
 have m_1_1 := (hs.1).stq s_2_1 N_1_2.out
 have m_4_1 := (hs.2.2.1).stq s_2_1 (N_2_4.out.symm)
 have m_6_1 := (hs.2.2.2.1).stq s_2_1 (N_2_6.out.symm)
 have B8_1 := s_2_1.below w.heap.size w G_2.out B8_0
 refine tail_assign rfl rfl ?_
 simp only [Act.put, List.setIfInBounds_toArray, List.set_cons_zero, List.set_cons_succ]
 refine tail_nil ?_
 have HS8 := Lib.hid (And.intro (m_1_1) (And.intro (n_2_1) (And.intro (m_4_1) (And.intro (m_6_1) (B8_1)))))
 clear hs HS7 B8_0 B8_1 k_28 n_2_1 s_2_1 m_1_1 m_4_1 m_6_1
 have hr := HS8.out.2.1
 have hbl := HS8.out.2.2.2.2
 have r0 := hr.c0
 have r1 := hr.c1
 have r2 := hr.c2
 have r3 := hr.c3
 have HR := Lib.hid hr.rv
 have HBL := Lib.hid hbl
 clear hr hbl HS8
 go_wp2_with fail
 refine bodyPost_ret (v := .tuple #[.agg #[x2is, x2it, x2iu, x2iv], .int .i64 5]) (by simp [results, Tryz.results34, go_sem, r0, r1, r2, r3]) rfl ⟨_, rfl, HR.out, HBL.out⟩
set_option maxHeartbeats 16000000 in
set_option maxRecDepth 100000 in
theorem ratRoot_D (n d : Int) (v1 : Value) (w : World) (m : Nat) (hm : n = (m : Int)) (rn : Nat) (hr : IsRt m rn) (hq : rn * rn = m) (k : Nat) (hk : d = (k : Int)) (rd : Nat) (hr2 : IsRt k rd) (hq2 : rd * rd = k) (hd0 : 0 < d) (l1 : Bd 100 n) (l2 : Bd 100 d) (h1 : RatV w v1 n d) : Calls Tryz.prog 34 #[v1] w (RatRes w (rn : Int) (rd : Int) 0) := by
 have HS := Lib.hid fun W u h => Lib.hid (ratSign_any n d u W (len_le (by decide) l1) h)
 have hsg := Lib.hid (show false = decide (sgnZ n < 0) by rw [sgn_lt0]; exact (decide_eq_false (by omega)).symm)
 subst hm
 have HW1 := Lib.hid fun W u h => Lib.hid (wholeRoot_of m rn u W hr l1 h true (decide_eq_true hq).symm)
 subst hk
 have HD := Lib.hid fun W u h => Lib.hid (den_any (m : Int) (k : Int) u W hd0 (len_le (by decide) l2) h)
 have HW2 := Lib.hid fun W u h => Lib.hid (wholeRoot_of k rd u W hr2 l2 h true (decide_eq_true hq2).symm)
 have HL := Lib.hid fun W u v h h' => Lib.hid (lowest_any (rn : Int) (rd : Int) u v W h h')
 obtain ⟨p1, ad1, k1, c1, p2, ad2, k2, c2, rfl⟩ := ratv_shape h1
 have HE := Lib.hid (enter2p (t := 38) h1)
 clear h1 l1 hr hq hr2 hq2 hd0 l2
 have E0 := Lib.hid (enters_of Tryz.func24 (by kernel_rfl))
 have E1 := Lib.hid (enters_of Tryz.func95 (by kernel_rfl))
 have E2 := Lib.hid (enters_of Tryz.func67 (by kernel_rfl))
 have E3 := Lib.hid (enters_of Tryz.func93 (by kernel_rfl))
 go_enter Tryz.func34, Tryz.ntmps34
 go_upto_region 1 with fail
 generalize ((w.alloc (.cells #[.bool p1, .slice ad1 k1 c1, .bool p2, .slice ad2 k2 c2] 38)).alloc (.cells #[.bool false, .slice none 0 0, .bool false, .slice none 0 0] 38)) = W0 at *
 obtain ⟨y1s, y1t, y1u, y1v, y2s, y2t, y2u, y2v, HE⟩ : ∃ y1s y1t y1u y1v y2s y2t y2u y2v : Value, Hid (PX w.heap.size y1s y1t y1u y1v ((m : Int)) ((k : Int)) W0 ∧ PX (w.heap.size + 1) y2s y2t y2u y2v (0) (1) W0 ∧ Below w.heap.size w W0) := ⟨_, _, _, _, _, _, _, _, HE⟩
 have N_1_2 := Lib.hid (show w.heap.size ≠ w.heap.size + 1 by omega)
 have G_1 := Lib.hid (show w.heap.size ≤ w.heap.size by omega)
 have G_2 := Lib.hid (show w.heap.size ≤ w.heap.size + 1 by omega)
 go_upto_region 1 with fail
 refine wp_region_fl 3 ((Fct.p ((m : Int)) ((k : Int))) :: (Fct.v (.int .i64 (sgnZ (m : Int)))) :: (Fct.v (.bool (false))) :: []) (fun W => PX w.heap.size y1s y1t y1u y1v ((m : Int)) ((k : Int)) W ∧ PX (w.heap.size + 1) y2s y2t y2u y2v (0) (1) W ∧ Below W0.heap.size W0 W) (false :: false :: true :: []) (some 7 :: some 8 :: some 9 :: []) (fun _ _ h hb => ⟨h.1.keep hb, h.2.1.keep hb, Below.trans h.2.2 (hb.mono h.2.2.size)⟩) ⟨HE.out.1, HE.out.2.1, Below.refl _ _⟩ ?_ ?_
 ·refine so (step_ldP (p := w.heap.size) rfl (.inl rfl) Arg.od (fun _ h => h.1.c4) (fun _ h => h.1.rv)) ?_
  refine so (step_call1 E0.out rfl (.inl rfl) (Arg.t 0 rfl) (fun u w _ h1 => (HS.out _ _ h1).out.mono fun e w' h => ⟨_, h.1, rfl, h.2⟩)) ?_
  refine sy (sty_lss (b := (false)) (hsg.out) rfl (.inl rfl) (Arg.t 1 rfl) (Arg.const _)) ?_
  trivial
 intro v1 W1 hk hdf hs
 simp only [putV, Act.put, List.setIfInBounds_toArray, List.set_cons_zero, List.set_cons_succ, Nat.reduceAdd]
 have f_8 : v1 1 = .int .i64 (sgnZ (m : Int)) := hk 1 _ (by decide) rfl
 have f_9 : v1 2 = .bool (false) := hk 2 _ (by decide) rfl
 clear hk hdf
 simp only [f_8, f_9]
 have B1_0 := Below.trans HE.out.2.2 (hs.2.2.mono HE.out.2.2.size)
 refine tail_nil ?_
 have HS1 := Lib.hid (And.intro (hs.1) (And.intro (hs.2.1) (B1_0)))
 clear hs HE B1_0 f_8 f_9
 go_upto_region 3 with fail
 have L3 := Lib.hid (And.intro (HS1.out.1.lt) (And.intro (HS1.out.2.1.lt) (trivial)))
 refine wp_region_fl 7 ((Fct.v (.pointer (some ⟨w.heap.size, 0, none⟩))) :: (Fct.z ((m : Int))) :: (Fct.t2 (Fct.z ((rn : Int))) (Fct.v (.bool (true)))) :: (Fct.t2 (Fct.z ((rn : Int))) (Fct.v (.bool (true)))) :: (Fct.z ((rn : Int))) :: (Fct.v (.bool (true))) :: (Fct.zb W1.heap.size) :: []) (fun W => PX w.heap.size y1s y1t y1u y1v ((m : Int)) ((k : Int)) W ∧ PX (w.heap.size + 1) y2s y2t y2u y2v (0) (1) W ∧ Below W1.heap.size W1 W) (true :: false :: false :: true :: true :: true :: false :: []) (some 12 :: some 13 :: some 14 :: some 11 :: some 15 :: some 16 :: some 4 :: []) (fun _ _ h hb => ⟨h.1.keep hb, h.2.1.keep hb, Below.trans h.2.2 (hb.mono h.2.2.size)⟩) ⟨HS1.out.1, HS1.out.2.1, Below.refl _ _⟩ ?_ ?_
 ·refine sy (sty_faP0 (p := w.heap.size) rfl (.inl rfl) Arg.od) ?_
  refine so (step_ldZ0 (b := w.heap.size) rfl (.inl rfl) (Arg.t 0 rfl) (fun _ h => ⟨h.1.c0, h.1.c1⟩) (fun _ h => h.1.rv.ints.1)) ?_
  refine so (step_call1 E1.out rfl (.inl rfl) (Arg.t 1 rfl) (fun u w _ h1 => (HW1.out _ _ h1).out |>.mono fun e w' ⟨v, he, hi, hb⟩ => ⟨_, he, ⟨_, _, rfl, hi, rfl⟩, hb⟩)) ?_
  refine sy (sty_move rfl (.inl rfl) (Arg.t 2 rfl)) ?_
  refine sy (sty_ex20 (f := Fct.z ((rn : Int))) (g := Fct.v (.bool (true))) rfl (.inl rfl) (Arg.t 3 rfl)) ?_
  refine sy (sty_ex21 (f := Fct.z ((rn : Int))) (g := Fct.v (.bool (true))) rfl (.inl rfl) (Arg.t 3 rfl)) ?_
  refine sa (step_alZ (B := W1.heap.size) rfl (.inl rfl) (fun _ h => h.2.2.size) (fun _ _ h => h)) ?_
  trivial
 intro v3 W3 hk hdf hs
 simp only [putV, Act.put, List.setIfInBounds_toArray, List.set_cons_zero, List.set_cons_succ, Nat.reduceAdd]
 have a_4 : (Fct.zb W1.heap.size).R (v3 6) W3 := hk 6 _ (by decide) rfl
 refine Fct.zb_elim a_4 ?_
 intro q_4 e_4 g_4 k_4
 have k_15 : (Fct.z ((rn : Int))).R (v3 4) W3 := hk 4 _ (by decide) rfl
 have f_16 : v3 5 = .bool (true) := hk 5 _ (by decide) rfl
 clear hk hdf
 simp only [e_4, f_16]
 have B3_0 := Below.trans HS1.out.2.2 (hs.2.2.mono HS1.out.2.2.size)
 have N_1_4 := Lib.hid (Nat.ne_of_lt (Nat.lt_of_lt_of_le L3.out.1 g_4))
 have N_2_4 := Lib.hid (Nat.ne_of_lt (Nat.lt_of_lt_of_le L3.out.2.1 g_4))
 have G_4 := Lib.hid (show w.heap.size ≤ q_4 from Nat.le_trans HS1.out.2.2.size g_4)
 refine tail_stZ (q := q_4) rfl rfl rfl rfl k_4 k_15 ?_
 intro W3_1 x4ds x4dt n_4_1 s_4_1
 have m_1_1 := (hs.1).stq s_4_1 N_1_4.out
 have m_2_1 := (hs.2.1).stq s_4_1 N_2_4.out
 have B3_1 := s_4_1.below w.heap.size w G_4.out B3_0
 refine tail_assign rfl rfl ?_
 simp only [Act.put, List.setIfInBounds_toArray, List.set_cons_zero, List.set_cons_succ]
 refine tail_nil ?_
 have HS3 := Lib.hid (And.intro (m_1_1) (And.intro (m_2_1) (And.intro (n_4_1) (B3_1))))
 clear hs L3 HS1 B3_0 B3_1 k_15 f_16 n_4_1 s_4_1 m_1_1 m_2_1 e_4 g_4 k_4 a_4
 go_upto_region 4 with fail
 refine wp_region_fl 2 ((Fct.v (.bool (true))) :: (Fct.v (.bool (false))) :: []) (fun W => PX w.heap.size y1s y1t y1u y1v ((m : Int)) ((k : Int)) W ∧ PX (w.heap.size + 1) y2s y2t y2u y2v (0) (1) W ∧ BX q_4 x4ds x4dt ((rn : Int)) W ∧ Below W3_1.heap.size W3_1 W) (true :: true :: []) (some 17 :: some 18 :: []) (fun _ _ h hb => ⟨h.1.keep hb, h.2.1.keep hb, h.2.2.1.keep hb, Below.trans h.2.2.2 (hb.mono h.2.2.2.size)⟩) ⟨HS3.out.1, HS3.out.2.1, HS3.out.2.2.1, Below.refl _ _⟩ ?_ ?_
 ·refine sy (sty_move rfl (.inl rfl) Arg.od) ?_
  refine sy (sty_not (b := true) rfl (.inl rfl) (Arg.t 0 rfl)) ?_
  trivial
 intro v4 W4 hk hdf hs
 simp only [putV, Act.put, List.setIfInBounds_toArray, List.set_cons_zero, List.set_cons_succ, Nat.reduceAdd]
 have f_17 : v4 0 = .bool (true) := hk 0 _ (by decide) rfl
 have f_18 : v4 1 = .bool (false) := hk 1 _ (by decide) rfl
 clear hk hdf
 simp only [f_17, f_18]
 have B4_0 := Below.trans HS3.out.2.2.2 (hs.2.2.2.mono HS3.out.2.2.2.size)
 refine tail_nil ?_
 have HS4 := Lib.hid (And.intro (hs.1) (And.intro (hs.2.1) (And.intro (hs.2.2.1) (B4_0))))
 clear hs HS3 B4_0 f_17 f_18
 go_upto_region 6 with fail
 have L6 := Lib.hid (And.intro (HS4.out.1.lt) (And.intro (HS4.out.2.1.lt) (And.intro (HS4.out.2.2.1.lt) (trivial))))
 refine wp_region_fl 7 ((Fct.p ((m : Int)) ((k : Int))) :: (Fct.z ((k : Int))) :: (Fct.t2 (Fct.z ((rd : Int))) (Fct.v (.bool (true)))) :: (Fct.t2 (Fct.z ((rd : Int))) (Fct.v (.bool (true)))) :: (Fct.z ((rd : Int))) :: (Fct.v (.bool (true))) :: (Fct.zb W4.heap.size) :: []) (fun W => PX w.heap.size y1s y1t y1u y1v ((m : Int)) ((k : Int)) W ∧ PX (w.heap.size + 1) y2s y2t y2u y2v (0) (1) W ∧ BX q_4 x4ds x4dt ((rn : Int)) W ∧ Below W4.heap.size W4 W) (false :: false :: false :: true :: true :: true :: false :: []) (some 21 :: some 22 :: some 23 :: some 20 :: some 24 :: some 25 :: some 6 :: []) (fun _ _ h hb => ⟨h.1.keep hb, h.2.1.keep hb, h.2.2.1.keep hb, Below.trans h.2.2.2 (hb.mono h.2.2.2.size)⟩) ⟨HS4.out.1, HS4.out.2.1, HS4.out.2.2.1, Below.refl _ _⟩ ?_ ?_
 ·refine so (step_ldP (p := w.heap.size) rfl (.inl rfl) Arg.od (fun _ h => h.1.c4) (fun _ h => h.1.rv)) ?_
  refine so (step_call1 E2.out rfl (.inl rfl) (Arg.t 0 rfl) (fun u w _ h1 => (HD.out _ _ h1).out)) ?_
  refine so (step_call1 E1.out rfl (.inl rfl) (Arg.t 1 rfl) (fun u w _ h1 => (HW2.out _ _ h1).out |>.mono fun e w' ⟨v, he, hi, hb⟩ => ⟨_, he, ⟨_, _, rfl, hi, rfl⟩, hb⟩)) ?_
  refine sy (sty_move rfl (.inl rfl) (Arg.t 2 rfl)) ?_
  refine sy (sty_ex20 (f := Fct.z ((rd : Int))) (g := Fct.v (.bool (true))) rfl (.inl rfl) (Arg.t 3 rfl)) ?_
  refine sy (sty_ex21 (f := Fct.z ((rd : Int))) (g := Fct.v (.bool (true))) rfl (.inl rfl) (Arg.t 3 rfl)) ?_
  refine sa (step_alZ (B := W4.heap.size) rfl (.inl rfl) (fun _ h => h.2.2.2.size) (fun _ _ h => h)) ?_
  trivial
 intro v6 W6 hk hdf hs
 simp only [putV, Act.put, List.setIfInBounds_toArray, List.set_cons_zero, List.set_cons_succ, Nat.reduceAdd]
 have a_6 : (Fct.zb W4.heap.size).R (v6 6) W6 := hk 6 _ (by decide) rfl
 refine Fct.zb_elim a_6 ?_
 intro q_6 e_6 g_6 k_6
 have k_24 : (Fct.z ((rd : Int))).R (v6 4) W6 := hk 4 _ (by decide) rfl
 have f_25 : v6 5 = .bool (true) := hk 5 _ (by decide) rfl
 clear hk hdf
 simp only [e_6, f_25]
 have B6_0 := Below.trans HS4.out.2.2.2 (hs.2.2.2.mono HS4.out.2.2.2.size)
 have N_1_6 := Lib.hid (Nat.ne_of_lt (Nat.lt_of_lt_of_le L6.out.1 g_6))
 have N_2_6 := Lib.hid (Nat.ne_of_lt (Nat.lt_of_lt_of_le L6.out.2.1 g_6))
 have N_4_6 := Lib.hid (Nat.ne_of_lt (Nat.lt_of_lt_of_le L6.out.2.2.1 g_6))
 have G_6 := Lib.hid (show w.heap.size ≤ q_6 from Nat.le_trans HS4.out.2.2.2.size g_6)
 refine tail_stZ (q := q_6) rfl rfl rfl rfl k_6 k_24 ?_
 intro W6_1 x6gs x6gt n_6_1 s_6_1
 have m_1_1 := (hs.1).stq s_6_1 N_1_6.out
 have m_2_1 := (hs.2.1).stq s_6_1 N_2_6.out
 have m_4_1 := (hs.2.2.1).stq s_6_1 N_4_6.out
 have B6_1 := s_6_1.below w.heap.size w G_6.out B6_0
 refine tail_assign rfl rfl ?_
 simp only [Act.put, List.setIfInBounds_toArray, List.set_cons_zero, List.set_cons_succ]
 refine tail_nil ?_
 have HS6 := Lib.hid (And.intro (m_1_1) (And.intro (m_2_1) (And.intro (m_4_1) (And.intro (n_6_1) (B6_1)))))
 clear hs L6 HS4 B6_0 B6_1 k_24 f_25 n_6_1 s_6_1 m_1_1 m_2_1 m_4_1 e_6 g_6 k_6 a_6
 go_upto_region 7 with fail
 refine wp_region_fl 2 ((Fct.v (.bool (true))) :: (Fct.v (.bool (false))) :: []) (fun W => PX w.heap.size y1s y1t y1u y1v ((m : Int)) ((k : Int)) W ∧ PX (w.heap.size + 1) y2s y2t y2u y2v (0) (1) W ∧ BX q_4 x4ds x4dt ((rn : Int)) W ∧ BX q_6 x6gs x6gt ((rd : Int)) W ∧ Below W6_1.heap.size W6_1 W) (true :: true :: []) (some 26 :: some 27 :: []) (fun _ _ h hb => ⟨h.1.keep hb, h.2.1.keep hb, h.2.2.1.keep hb, h.2.2.2.1.keep hb, Below.trans h.2.2.2.2 (hb.mono h.2.2.2.2.size)⟩) ⟨HS6.out.1, HS6.out.2.1, HS6.out.2.2.1, HS6.out.2.2.2.1, Below.refl _ _⟩ ?_ ?_
 ·refine sy (sty_move rfl (.inl rfl) Arg.od) ?_
  refine sy (sty_not (b := true) rfl (.inl rfl) (Arg.t 0 rfl)) ?_
  trivial
 intro v7 W7 hk hdf hs
 simp only [putV, Act.put, List.setIfInBounds_toArray, List.set_cons_zero, List.set_cons_succ, Nat.reduceAdd]
 have f_26 : v7 0 = .bool (true) := hk 0 _ (by decide) rfl
 have f_27 : v7 1 = .bool (false) := hk 1 _ (by decide) rfl
 clear hk hdf
 simp only [f_26, f_27]
 have B7_0 := Below.trans HS6.out.2.2.2.2 (hs.2.2.2.2.mono HS6.out.2.2.2.2.size)
 refine tail_nil ?_
 have HS7 := Lib.hid (And.intro (hs.1) (And.intro (hs.2.1) (And.intro (hs.2.2.1) (And.intro (hs.2.2.2.1) (B7_0)))))
 clear hs HS6 B7_0 f_26 f_27
 go_upto_region 9 with fail
 refine wp_region_fl 3 ((Fct.z ((rn : Int))) :: (Fct.z ((rd : Int))) :: (Fct.p ((rn : Int)) ((rd : Int))) :: []) (fun W => PX w.heap.size y1s y1t y1u y1v ((m : Int)) ((k : Int)) W ∧ PX (w.heap.size + 1) y2s y2t y2u y2v (0) (1) W ∧ BX q_4 x4ds x4dt ((rn : Int)) W ∧ BX q_6 x6gs x6gt ((rd : Int)) W ∧ Below W7.heap.size W7 W) (false :: false :: false :: []) (some 29 :: some 30 :: some 31 :: []) (fun _ _ h hb => ⟨h.1.keep hb, h.2.1.keep hb, h.2.2.1.keep hb, h.2.2.2.1.keep hb, Below.trans h.2.2.2.2 (hb.mono h.2.2.2.2.size)⟩) ⟨HS7.out.1, HS7.out.2.1, HS7.out.2.2.1, HS7.out.2.2.2.1, Below.refl _ _⟩ ?_ ?_
 ·refine so (step_ldZ0 (b := q_4) rfl (.inl rfl) Arg.od (fun _ h => ⟨h.2.2.1.c0, h.2.2.1.c1⟩) (fun _ h => h.2.2.1.iv)) ?_
  refine so (step_ldZ0 (b := q_6) rfl (.inl rfl) Arg.od (fun _ h => ⟨h.2.2.2.1.c0, h.2.2.2.1.c1⟩) (fun _ h => h.2.2.2.1.iv)) ?_
  refine so (step_call2 E3.out rfl (.inl rfl) (Arg.t 0 rfl) (Arg.t 1 rfl) (fun u v w _ h1 h2 => (HL.out _ _ _ h1 h2).out)) ?_
  trivial
 intro v9 W9 hk hdf hs
 simp only [putV, Act.put, List.setIfInBounds_toArray, List.set_cons_zero, List.set_cons_succ, Nat.reduceAdd]
 have k_31 : (Fct.p ((rn : Int)) ((rd : Int))).R (v9 2) W9 := hk 2 _ (by decide) rfl
 clear hk hdf
 have B9_0 := Below.trans HS7.out.2.2.2.2 (hs.2.2.2.2.mono HS7.out.2.2.2.2.size)
 refine tail_stP (q := (w.heap.size + 1)) rfl rfl rfl rfl hs.2.1 k_31 ?_
 intro W9_1 x2js x2jt x2ju x2jv n_2_1 s_2_1
 have m_1_1 := (hs.1).stq s_2_1 N_1_2.out
 have m_4_1 := (hs.2.2.1).stq s_2_1 (N_2_4.out.symm)
 have m_6_1 := (hs.2.2.2.1).stq s_2_1 (N_2_6.out.symm)
 have B9_1 := s_2_1.below w.heap.size w G_2.out B9_0
 refine tail_assign rfl rfl ?_
 simp only [Act.put, List.setIfInBounds_toArray, List.set_cons_zero, List.set_cons_succ]
 refine tail_nil ?_
 have HS9 := Lib.hid (And.intro (m_1_1) (And.intro (n_2_1) (And.intro (m_4_1) (And.intro (m_6_1) (B9_1)))))
 clear hs HS7 B9_0 B9_1 k_31 n_2_1 s_2_1 m_1_1 m_4_1 m_6_1
 have hr := HS9.out.2.1
 have hbl := HS9.out.2.2.2.2
 have r0 := hr.c0
 have r1 := hr.c1
 have r2 := hr.c2
 have r3 := hr.c3
 have HR := Lib.hid hr.rv
 have HBL := Lib.hid hbl
 clear hr hbl HS9
 go_wp2_with fail
 refine bodyPost_ret (v := .tuple #[.agg #[x2js, x2jt, x2ju, x2jv], .int .i64 0]) (by simp [results, Tryz.results34, go_sem, r0, r1, r2, r3]) rfl ⟨_, rfl, HR.out, HBL.out⟩
theorem ratRoot_any (n d : Int) (rn rd : Nat) (v1 : Value) (w : World) (hd0 : 0 < d) (hr : IsRt n.natAbs rn) (hr2 : IsRt d.natAbs rd) (l1 : Bd 100 n) (l2 : Bd 100 d) (h1 : RatV w v1 n d) :
  Calls Tryz.prog 34 #[v1] w (RatRes w (rtN n d rn rd) (rtD n d rn rd) (rtC n d rn rd)) := by
 unfold rtN rtD rtC
 by_cases hn : n < 0
 ·rw [if_pos hn, if_pos hn, if_pos hn]
  exact ratRoot_A n d v1 w hn l1 h1
 ·rw [if_neg hn, if_neg hn, if_neg hn]
  have hm : n = ((n.natAbs : Nat) : Int) := by omega
  have hk : d = ((d.natAbs : Nat) : Int) := by omega
  by_cases hq : rn * rn = n.natAbs
  ·by_cases hq2 : rd * rd = d.natAbs
   ·rw [if_pos ⟨hq, hq2⟩, if_pos ⟨hq, hq2⟩, if_pos ⟨hq, hq2⟩]
    exact ratRoot_D n d v1 w n.natAbs hm rn hr hq d.natAbs hk rd hr2 hq2 hd0 l1 l2 h1
   ·rw [if_neg (fun h => hq2 h.2), if_neg (fun h => hq2 h.2), if_neg (fun h => hq2 h.2)]
    exact ratRoot_C n d v1 w n.natAbs hm rn hr hq d.natAbs hk rd hr2 hq2 hd0 l1 l2 h1
  ·rw [if_neg (fun h => hq h.1), if_neg (fun h => hq h.1), if_neg (fun h => hq h.1)]
   exact ratRoot_B n d v1 w n.natAbs hm rn hr hq l1 h1
end
end Go.Proofs.YtghgcbedajaldaaGreat
