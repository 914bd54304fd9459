/-  S5  -/
import Derived.Test.YtghgcbedajaldaaGreatMpbf
import Derived.Test.YtghgcbedajaldaaGreatMpbi
/-  The program's Power of fractions.  -/
namespace Go.Proofs.YtghgcbedajaldaaGreat
section
open Go.RowKit Digs
theorem IntPowOK {z : Int} {k : Nat} {v : Value} {w : World} (hk : k < 9223372036854775808) (hz : len z ≤ 1000000) (hl : lenZ (z ^ k) ≤ 65536) (h : IntV w v z) :
  Calls Tryz.prog 92 #[v, .int .i64 (k : Int)] w (IntOK w (z ^ k)) :=
 (Power_any z v k w hk hz h).mono fun _ _ h => h.2 hl
theorem qn_bdS {k : Nat} {a b : Int} (h : Bd k a) : Bd k (qn a b) := by
 unfold qn
 split
 ·exact tdiv_bd h.negS
 ·exact tdiv_bd h
theorem qd_bdS {k : Nat} {a b : Int} (h : Bd k b) : Bd k (qd a b) := by
 unfold qd
 split
 ·exact tdiv_bd h.negS
 ·exact tdiv_bd h
theorem opposite_any (e : Int) (k : Nat) (w : World) (h0 : e < 0) (h1 : -9223372036854775808 ≤ e) (hk : (k : Int) = if e = -9223372036854775808 then 9223372036854775806 else -e) :
  Calls Tryz.prog 91 #[.int .i64 e] w fun r w' => r = .returned (.int .i64 (k : Int)) ∧ Below w.heap.size w w' := by
 by_cases h : e = -9223372036854775808
 ·rw [if_pos h] at hk
  rw [hk]
  subst h
  go_enter Tryz.func91, Tryz.ntmps91
  go_wp2
  go_ret
  exact ⟨rfl, Below.refl _ _⟩
 ·rw [if_neg h] at hk
  rw [hk]
  have he : (e == -9223372036854775808) = false := by simp [h]
  have hw : IntKind.i64.wrap (-e) = -e := by rw [IntKind.wrap_i64]; omega
  go_enter Tryz.func91, Tryz.ntmps91
  go_wp2
  go_ret
  exact ⟨rfl, Below.refl _ _⟩
set_option maxHeartbeats 16000000 in
set_option maxRecDepth 100000 in
theorem ratPower_pos (n d : Int) (k : Nat) (hk : k < 9223372036854775808) (hd0 : 0 < d) (l1 : Bd 100 n) (l2 : Bd 100 d) (pw1 : lenZ (n ^ k) ≤ 65536) (pw2 : lenZ (d ^ k) ≤ 65536) (v1 : Value) (w : World) (h1 : RatV w v1 n d) : Calls Tryz.prog 32 #[v1, .int .i64 (k : Int)] w (RatRes w (n ^ k) (d ^ k) 0) := by
 have hsg := Lib.hid (show false = decide ((k : Int) < 0) from (decide_eq_false (by omega)).symm)
 have HP1 := Lib.hid fun W u h => Lib.hid (IntPowOK (z := n) (k := k) (v := u) (w := W) hk (len_le (by decide) l1) pw1 h)
 have HD := Lib.hid fun W u h => Lib.hid (den_any n d u W hd0 (len_le (by decide) l2) h)
 have HP2 := Lib.hid fun W u h => Lib.hid (IntPowOK (z := d) (k := k) (v := u) (w := W) hk (len_le (by decide) l2) pw2 h)
 have HL := Lib.hid fun W u v h h' => Lib.hid (lowest_any (n ^ k) (d ^ k) u v W h h')
 obtain ⟨p1, ad1, k1, c1, p2, ad2, k2, c2, rfl⟩ := ratv_shape h1
 have HE := Lib.hid (enter2p (t := 38) h1)
 clear h1 l1 l2 pw1 pw2 hd0 hk
 generalize n ^ k = Nk at *
 generalize d ^ k = Dk at *
 generalize (k : Int) = e at *
 have E0 := Lib.hid (enters_of Tryz.func92 (by kernel_rfl))
 have E1 := Lib.hid (enters_of Tryz.func67 (by kernel_rfl))
 have E2 := Lib.hid (enters_of Tryz.func93 (by kernel_rfl))
 go_enter Tryz.func32, Tryz.ntmps32
 go_upto_region 1 with fail
 generalize ((w.alloc (.cells #[.bool p1, .slice ad1 k1 c1, .bool p2, .slice ad2 k2 c2] 38)).alloc (.cells #[.bool false, .slice none 0 0, .bool false, .slice none 0 0] 38)) = W0 at *
 obtain ⟨y2s, y2t, y2u, y2v, y4s, y4t, y4u, y4v, HE⟩ : ∃ y2s y2t y2u y2v y4s y4t y4u y4v : Value, Hid (PX w.heap.size y2s y2t y2u y2v (n) (d) W0 ∧ PX (w.heap.size + 1) y4s y4t y4u y4v (0) (1) W0 ∧ Below w.heap.size w W0) := ⟨_, _, _, _, _, _, _, _, HE⟩
 have N_2_4 := Lib.hid (show w.heap.size ≠ w.heap.size + 1 by omega)
 have G_2 := Lib.hid (show w.heap.size ≤ w.heap.size by omega)
 have G_4 := Lib.hid (show w.heap.size ≤ w.heap.size + 1 by omega)
 go_upto_region 1 with fail
 refine wp_region_fl 2 ((Fct.v (.int .i64 e)) :: (Fct.v (.bool (false))) :: []) (fun W => PX w.heap.size y2s y2t y2u y2v (n) (d) W ∧ PX (w.heap.size + 1) y4s y4t y4u y4v (0) (1) W ∧ Below W0.heap.size W0 W) (true :: true :: []) (some 11 :: some 12 :: []) (fun _ _ h hb => ⟨h.1.keep hb, h.2.1.keep hb, Below.trans h.2.2 (hb.mono h.2.2.size)⟩) ⟨HE.out.1, HE.out.2.1, Below.refl _ _⟩ ?_ ?_
 ·refine sy (sty_move rfl (.inl rfl) Arg.od) ?_
  refine sy (sty_lss (b := (false)) (hsg.out) rfl (.inl rfl) (Arg.t 0 rfl) (Arg.const _)) ?_
  trivial
 intro v1 W1 hk hdf hs
 simp only [putV, Act.put, List.setIfInBounds_toArray, List.set_cons_zero, List.set_cons_succ, Nat.reduceAdd]
 have f_11 : v1 0 = .int .i64 e := hk 0 _ (by decide) rfl
 have f_12 : v1 1 = .bool (false) := hk 1 _ (by decide) rfl
 clear hk hdf
 simp only [f_11, f_12]
 have B1_0 := Below.trans HE.out.2.2 (hs.2.2.mono HE.out.2.2.size)
 refine tail_nil ?_
 have HS1 := Lib.hid (And.intro (hs.1) (And.intro (hs.2.1) (B1_0)))
 clear hs HE B1_0 f_11 f_12
 go_upto_region 6 with fail
 have L6 := Lib.hid (And.intro (HS1.out.1.lt) (And.intro (HS1.out.2.1.lt) (trivial)))
 refine wp_region_fl 8 ((Fct.v (.pointer (some ⟨w.heap.size, 0, none⟩))) :: (Fct.z (n)) :: (Fct.v (.int .i64 e)) :: (Fct.t2 (Fct.z (Nk)) (Fct.v (.int .i64 0))) :: (Fct.t2 (Fct.z (Nk)) (Fct.v (.int .i64 0))) :: (Fct.z (Nk)) :: (Fct.v (.int .i64 0)) :: (Fct.zb W1.heap.size) :: []) (fun W => PX w.heap.size y2s y2t y2u y2v (n) (d) W ∧ PX (w.heap.size + 1) y4s y4t y4u y4v (0) (1) W ∧ Below W1.heap.size W1 W) (true :: false :: true :: false :: true :: true :: true :: false :: []) (some 28 :: some 29 :: some 30 :: some 31 :: some 27 :: some 32 :: some 33 :: some 8 :: []) (fun _ _ h hb => ⟨h.1.keep hb, h.2.1.keep hb, Below.trans h.2.2 (hb.mono h.2.2.size)⟩) ⟨HS1.out.1, HS1.out.2.1, Below.refl _ _⟩ ?_ ?_
 ·refine sy (sty_faP0 (p := w.heap.size) rfl (.inl rfl) Arg.od) ?_
  refine so (step_ldZ0 (b := w.heap.size) rfl (.inl rfl) (Arg.t 0 rfl) (fun _ h => ⟨h.1.c0, h.1.c1⟩) (fun _ h => h.1.rv.ints.1)) ?_
  refine sy (sty_move rfl (.inl rfl) Arg.od) ?_
  refine so (step_call2 E0.out rfl (.inl rfl) (Arg.t 1 rfl) (Arg.t 2 rfl) (fun u v w _ h1 h2 => (by obtain rfl := (show _ = _ from h2); exact (HP1.out _ _ h1).out.mono fun e w' ⟨x0, he, hi, hb⟩ => ⟨_, he, ⟨_, _, rfl, hi, rfl⟩, hb⟩))) ?_
  refine sy (sty_move rfl (.inl rfl) (Arg.t 3 rfl)) ?_
  refine sy (sty_ex20 (f := Fct.z (Nk)) (g := Fct.v (.int .i64 0)) rfl (.inl rfl) (Arg.t 4 rfl)) ?_
  refine sy (sty_ex21 (f := Fct.z (Nk)) (g := Fct.v (.int .i64 0)) rfl (.inl rfl) (Arg.t 4 rfl)) ?_
  refine sa (step_alZ (B := W1.heap.size) rfl (.inl rfl) (fun _ h => h.2.2.size) (fun _ _ h => h)) ?_
  trivial
 intro v6 W6 hk hdf hs
 simp only [putV, Act.put, List.setIfInBounds_toArray, List.set_cons_zero, List.set_cons_succ, Nat.reduceAdd]
 have a_8 : (Fct.zb W1.heap.size).R (v6 7) W6 := hk 7 _ (by decide) rfl
 refine Fct.zb_elim a_8 ?_
 intro q_8 e_8 g_8 k_8
 have f_30 : v6 2 = .int .i64 e := hk 2 _ (by decide) rfl
 have k_32 : (Fct.z (Nk)).R (v6 5) W6 := hk 5 _ (by decide) rfl
 have f_33 : v6 6 = .int .i64 0 := hk 6 _ (by decide) rfl
 clear hk hdf
 simp only [e_8, f_30, f_33]
 have B6_0 := Below.trans HS1.out.2.2 (hs.2.2.mono HS1.out.2.2.size)
 have N_2_8 := Lib.hid (Nat.ne_of_lt (Nat.lt_of_lt_of_le L6.out.1 g_8))
 have N_4_8 := Lib.hid (Nat.ne_of_lt (Nat.lt_of_lt_of_le L6.out.2.1 g_8))
 have G_8 := Lib.hid (show w.heap.size ≤ q_8 from Nat.le_trans HS1.out.2.2.size g_8)
 refine tail_stZ (q := q_8) rfl rfl rfl rfl k_8 k_32 ?_
 intro W6_1 x8gs x8gt n_8_1 s_8_1
 have m_2_1 := (hs.1).stq s_8_1 N_2_8.out
 have m_4_1 := (hs.2.1).stq s_8_1 N_4_8.out
 have B6_1 := s_8_1.below w.heap.size w G_8.out B6_0
 refine tail_assign rfl rfl ?_
 simp only [Act.put, List.setIfInBounds_toArray, List.set_cons_zero, List.set_cons_succ]
 refine tail_nil ?_
 have HS6 := Lib.hid (And.intro (m_2_1) (And.intro (m_4_1) (And.intro (n_8_1) (B6_1))))
 clear hs L6 HS1 B6_0 B6_1 f_30 k_32 f_33 n_8_1 s_8_1 m_2_1 m_4_1 e_8 g_8 k_8 a_8
 go_upto_region 7 with fail
 refine wp_region_fl 2 ((Fct.v (.int .i64 0)) :: (Fct.v (.bool (false))) :: []) (fun W => PX w.heap.size y2s y2t y2u y2v (n) (d) W ∧ PX (w.heap.size + 1) y4s y4t y4u y4v (0) (1) W ∧ BX q_8 x8gs x8gt (Nk) W ∧ Below W6_1.heap.size W6_1 W) (true :: true :: []) (some 34 :: some 35 :: []) (fun _ _ h hb => ⟨h.1.keep hb, h.2.1.keep hb, h.2.2.1.keep hb, Below.trans h.2.2.2 (hb.mono h.2.2.2.size)⟩) ⟨HS6.out.1, HS6.out.2.1, HS6.out.2.2.1, Below.refl _ _⟩ ?_ ?_
 ·refine sy (sty_move rfl (.inl rfl) Arg.od) ?_
  refine sy (sty_neqE (b := (false)) (rfl) rfl (.inl rfl) (Arg.t 0 rfl) (Arg.const _)) ?_
  trivial
 intro v7 W7 hk hdf hs
 simp only [putV, Act.put, List.setIfInBounds_toArray, List.set_cons_zero, List.set_cons_succ, Nat.reduceAdd]
 have f_34 : v7 0 = .int .i64 0 := hk 0 _ (by decide) rfl
 have f_35 : v7 1 = .bool (false) := hk 1 _ (by decide) rfl
 clear hk hdf
 simp only [f_34, f_35]
 have B7_0 := Below.trans HS6.out.2.2.2 (hs.2.2.2.mono HS6.out.2.2.2.size)
 refine tail_nil ?_
 have HS7 := Lib.hid (And.intro (hs.1) (And.intro (hs.2.1) (And.intro (hs.2.2.1) (B7_0))))
 clear hs HS6 B7_0 f_34 f_35
 go_upto_region 9 with fail
 have L9 := Lib.hid (And.intro (HS7.out.1.lt) (And.intro (HS7.out.2.1.lt) (And.intro (HS7.out.2.2.1.lt) (trivial))))
 refine wp_region_fl 8 ((Fct.p (n) (d)) :: (Fct.z (d)) :: (Fct.v (.int .i64 e)) :: (Fct.t2 (Fct.z (Dk)) (Fct.v (.int .i64 0))) :: (Fct.t2 (Fct.z (Dk)) (Fct.v (.int .i64 0))) :: (Fct.z (Dk)) :: (Fct.v (.int .i64 0)) :: (Fct.zb W7.heap.size) :: []) (fun W => PX w.heap.size y2s y2t y2u y2v (n) (d) W ∧ PX (w.heap.size + 1) y4s y4t y4u y4v (0) (1) W ∧ BX q_8 x8gs x8gt (Nk) W ∧ Below W7.heap.size W7 W) (false :: false :: true :: false :: true :: true :: true :: false :: []) (some 39 :: some 40 :: some 41 :: some 42 :: some 38 :: some 43 :: some 44 :: some 10 :: []) (fun _ _ h hb => ⟨h.1.keep hb, h.2.1.keep hb, h.2.2.1.keep hb, Below.trans h.2.2.2 (hb.mono h.2.2.2.size)⟩) ⟨HS7.out.1, HS7.out.2.1, HS7.out.2.2.1, Below.refl _ _⟩ ?_ ?_
 ·refine so (step_ldP (p := w.heap.size) rfl (.inl rfl) Arg.od (fun _ h => h.1.c4) (fun _ h => h.1.rv)) ?_
  refine so (step_call1 E1.out rfl (.inl rfl) (Arg.t 0 rfl) (fun u w _ h1 => (HD.out _ _ h1).out)) ?_
  refine sy (sty_move rfl (.inl rfl) Arg.od) ?_
  refine so (step_call2 E0.out rfl (.inl rfl) (Arg.t 1 rfl) (Arg.t 2 rfl) (fun u v w _ h1 h2 => (by obtain rfl := (show _ = _ from h2); exact (HP2.out _ _ h1).out.mono fun e w' ⟨x0, he, hi, hb⟩ => ⟨_, he, ⟨_, _, rfl, hi, rfl⟩, hb⟩))) ?_
  refine sy (sty_move rfl (.inl rfl) (Arg.t 3 rfl)) ?_
  refine sy (sty_ex20 (f := Fct.z (Dk)) (g := Fct.v (.int .i64 0)) rfl (.inl rfl) (Arg.t 4 rfl)) ?_
  refine sy (sty_ex21 (f := Fct.z (Dk)) (g := Fct.v (.int .i64 0)) rfl (.inl rfl) (Arg.t 4 rfl)) ?_
  refine sa (step_alZ (B := W7.heap.size) rfl (.inl rfl) (fun _ h => h.2.2.2.size) (fun _ _ h => h)) ?_
  trivial
 intro v9 W9 hk hdf hs
 simp only [putV, Act.put, List.setIfInBounds_toArray, List.set_cons_zero, List.set_cons_succ, Nat.reduceAdd]
 have a_10 : (Fct.zb W7.heap.size).R (v9 7) W9 := hk 7 _ (by decide) rfl
 refine Fct.zb_elim a_10 ?_
 intro q_10 e_10 g_10 k_10
 have f_41 : v9 2 = .int .i64 e := hk 2 _ (by decide) rfl
 have k_43 : (Fct.z (Dk)).R (v9 5) W9 := hk 5 _ (by decide) rfl
 have f_44 : v9 6 = .int .i64 0 := hk 6 _ (by decide) rfl
 clear hk hdf
 simp only [e_10, f_41, f_44]
 have B9_0 := Below.trans HS7.out.2.2.2 (hs.2.2.2.mono HS7.out.2.2.2.size)
 have N_2_10 := Lib.hid (Nat.ne_of_lt (Nat.lt_of_lt_of_le L9.out.1 g_10))
 have N_4_10 := Lib.hid (Nat.ne_of_lt (Nat.lt_of_lt_of_le L9.out.2.1 g_10))
 have N_8_10 := Lib.hid (Nat.ne_of_lt (Nat.lt_of_lt_of_le L9.out.2.2.1 g_10))
 have G_10 := Lib.hid (show w.heap.size ≤ q_10 from Nat.le_trans HS7.out.2.2.2.size g_10)
 refine tail_stZ (q := q_10) rfl rfl rfl rfl k_10 k_43 ?_
 intro W9_1 x10js x10jt n_10_1 s_10_1
 have m_2_1 := (hs.1).stq s_10_1 N_2_10.out
 have m_4_1 := (hs.2.1).stq s_10_1 N_4_10.out
 have m_8_1 := (hs.2.2.1).stq s_10_1 N_8_10.out
 have B9_1 := s_10_1.below w.heap.size w G_10.out B9_0
 refine tail_assign rfl rfl ?_
 simp only [Act.put, List.setIfInBounds_toArray, List.set_cons_zero, List.set_cons_succ]
 refine tail_nil ?_
 have HS9 := Lib.hid (And.intro (m_2_1) (And.intro (m_4_1) (And.intro (m_8_1) (And.intro (n_10_1) (B9_1)))))
 clear hs L9 HS7 B9_0 B9_1 f_41 k_43 f_44 n_10_1 s_10_1 m_2_1 m_4_1 m_8_1 e_10 g_10 k_10 a_10
 go_upto_region 10 with fail
 refine wp_region_fl 2 ((Fct.v (.int .i64 0)) :: (Fct.v (.bool (false))) :: []) (fun W => PX w.heap.size y2s y2t y2u y2v (n) (d) W ∧ PX (w.heap.size + 1) y4s y4t y4u y4v (0) (1) W ∧ BX q_8 x8gs x8gt (Nk) W ∧ BX q_10 x10js x10jt (Dk) W ∧ Below W9_1.heap.size W9_1 W) (true :: true :: []) (some 45 :: some 46 :: []) (fun _ _ h hb => ⟨h.1.keep hb, h.2.1.keep hb, h.2.2.1.keep hb, h.2.2.2.1.keep hb, Below.trans h.2.2.2.2 (hb.mono h.2.2.2.2.size)⟩) ⟨HS9.out.1, HS9.out.2.1, HS9.out.2.2.1, HS9.out.2.2.2.1, Below.refl _ _⟩ ?_ ?_
 ·refine sy (sty_move rfl (.inl rfl) Arg.od) ?_
  refine sy (sty_neqE (b := (false)) (rfl) rfl (.inl rfl) (Arg.t 0 rfl) (Arg.const _)) ?_
  trivial
 intro v10 W10 hk hdf hs
 simp only [putV, Act.put, List.setIfInBounds_toArray, List.set_cons_zero, List.set_cons_succ, Nat.reduceAdd]
 have f_45 : v10 0 = .int .i64 0 := hk 0 _ (by decide) rfl
 have f_46 : v10 1 = .bool (false) := hk 1 _ (by decide) rfl
 clear hk hdf
 simp only [f_45, f_46]
 have B10_0 := Below.trans HS9.out.2.2.2.2 (hs.2.2.2.2.mono HS9.out.2.2.2.2.size)
 refine tail_nil ?_
 have HS10 := Lib.hid (And.intro (hs.1) (And.intro (hs.2.1) (And.intro (hs.2.2.1) (And.intro (hs.2.2.2.1) (B10_0)))))
 clear hs HS9 B10_0 f_45 f_46
 go_upto_region 12 with fail
 refine wp_region_fl 3 ((Fct.z (Nk)) :: (Fct.z (Dk)) :: (Fct.p (Nk) (Dk)) :: []) (fun W => PX w.heap.size y2s y2t y2u y2v (n) (d) W ∧ PX (w.heap.size + 1) y4s y4t y4u y4v (0) (1) W ∧ BX q_8 x8gs x8gt (Nk) W ∧ BX q_10 x10js x10jt (Dk) W ∧ Below W10.heap.size W10 W) (false :: false :: false :: []) (some 49 :: some 50 :: some 51 :: []) (fun _ _ h hb => ⟨h.1.keep hb, h.2.1.keep hb, h.2.2.1.keep hb, h.2.2.2.1.keep hb, Below.trans h.2.2.2.2 (hb.mono h.2.2.2.2.size)⟩) ⟨HS10.out.1, HS10.out.2.1, HS10.out.2.2.1, HS10.out.2.2.2.1, Below.refl _ _⟩ ?_ ?_
 ·refine so (step_ldZ0 (b := q_8) rfl (.inl rfl) Arg.od (fun _ h => ⟨h.2.2.1.c0, h.2.2.1.c1⟩) (fun _ h => h.2.2.1.iv)) ?_
  refine so (step_ldZ0 (b := q_10) rfl (.inl rfl) Arg.od (fun _ h => ⟨h.2.2.2.1.c0, h.2.2.2.1.c1⟩) (fun _ h => h.2.2.2.1.iv)) ?_
  refine so (step_call2 E2.out rfl (.inl rfl) (Arg.t 0 rfl) (Arg.t 1 rfl) (fun u v w _ h1 h2 => (HL.out _ _ _ h1 h2).out)) ?_
  trivial
 intro v12 W12 hk hdf hs
 simp only [putV, Act.put, List.setIfInBounds_toArray, List.set_cons_zero, List.set_cons_succ, Nat.reduceAdd]
 have k_51 : (Fct.p (Nk) (Dk)).R (v12 2) W12 := hk 2 _ (by decide) rfl
 clear hk hdf
 have B12_0 := Below.trans HS10.out.2.2.2.2 (hs.2.2.2.2.mono HS10.out.2.2.2.2.size)
 refine tail_stP (q := (w.heap.size + 1)) rfl rfl rfl rfl hs.2.1 k_51 ?_
 intro W12_1 x4ms x4mt x4mu x4mv n_4_1 s_4_1
 have m_2_1 := (hs.1).stq s_4_1 N_2_4.out
 have m_8_1 := (hs.2.2.1).stq s_4_1 (N_4_8.out.symm)
 have m_10_1 := (hs.2.2.2.1).stq s_4_1 (N_4_10.out.symm)
 have B12_1 := s_4_1.below w.heap.size w G_4.out B12_0
 refine tail_assign rfl rfl ?_
 simp only [Act.put, List.setIfInBounds_toArray, List.set_cons_zero, List.set_cons_succ]
 refine tail_nil ?_
 have HS12 := Lib.hid (And.intro (m_2_1) (And.intro (n_4_1) (And.intro (m_8_1) (And.intro (m_10_1) (B12_1)))))
 clear hs HS10 B12_0 B12_1 k_51 n_4_1 s_4_1 m_2_1 m_8_1 m_10_1
 have hr := HS12.out.2.1
 have hbl := HS12.out.2.2.2.2
 have r0 := hr.c0
 have r1 := hr.c1
 have r2 := hr.c2
 have r3 := hr.c3
 have HR := Lib.hid hr.rv
 have HBL := Lib.hid hbl
 clear hr hbl HS12
 go_wp2_with fail
 refine bodyPost_ret (v := .tuple #[.agg #[x4ms, x4mt, x4mu, x4mv], .int .i64 0]) (by simp [results, Tryz.results32, go_sem, r0, r1, r2, r3]) rfl ⟨_, rfl, HR.out, HBL.out⟩
set_option maxHeartbeats 16000000 in
set_option maxRecDepth 100000 in
theorem ratPower_neg (n d : Int) (e : Int) (k : Nat) (he : e < 0) (he2 : -9223372036854775808 ≤ e) (hk : (k : Int) = if e = -9223372036854775808 then 9223372036854775806 else -e) (hn0 : n ≠ 0) (hd0 : 0 < d) (l1 : Bd 100 n) (l2 : Bd 100 d) (pw1 : lenZ (qn d n ^ k) ≤ 65536) (pw2 : lenZ (qd d n ^ k) ≤ 65536) (v1 : Value) (w : World) (h1 : RatV w v1 n d) : Calls Tryz.prog 32 #[v1, .int .i64 e] w (RatRes w (qn d n ^ k) (qd d n ^ k) 0) := by
 have hsg := Lib.hid (show true = decide (e < 0) from (decide_eq_true he).symm)
 have HON := Lib.hid fun W  => Lib.hid (one_any W)
 have HOF := Lib.hid fun W u h => Lib.hid (ratOf_any 1 u W h)
 have hlow := (q_low d n hn0).1
 have b1 : Bd 100 (qn d n) := qn_bdS l2
 have b2 : Bd 100 (qd d n) := qd_bdS l1
 have hk' : k < 9223372036854775808 := by split at hk <;> omega
 have HDV := Lib.hid fun W u v h h' => Lib.hid (show Calls Tryz.prog 30 #[u, v] W (RatRes W (qn d n) (qd d n) 0) from by
  have h := ratDiv_any 1 1 n d u v W (by decide) hd0 (by unfold Bd; decide) (by unfold Bd; decide) l1 l2 h h'
  rwa [if_neg hn0, if_neg hn0, if_neg hn0, Int.one_mul, Int.one_mul] at h)
 have HOP := Lib.hid fun W => Lib.hid (opposite_any e k W he he2 hk)
 have HP1 := Lib.hid fun W u h => Lib.hid (IntPowOK (z := (qn d n)) (k := k) (v := u) (w := W) hk' (len_le (by decide) b1) pw1 h)
 have HD := Lib.hid fun W u h => Lib.hid (den_any (qn d n) (qd d n) u W hlow.1 (len_le (by decide) b2) h)
 have HP2 := Lib.hid fun W u h => Lib.hid (IntPowOK (z := (qd d n)) (k := k) (v := u) (w := W) hk' (len_le (by decide) b2) pw2 h)
 have HL := Lib.hid fun W u v h h' => Lib.hid (lowest_any ((qn d n) ^ k) ((qd d n) ^ k) u v W h h')
 obtain ⟨p1, ad1, k1, c1, p2, ad2, k2, c2, rfl⟩ := ratv_shape h1
 have HE := Lib.hid (enter2p (t := 38) h1)
 clear h1 he he2 hk hn0 hd0 l1 l2 pw1 pw2 hlow b1 b2 hk'
 generalize qn d n = N at *
 generalize qd d n = D at *
 generalize N ^ k = Nk at *
 generalize D ^ k = Dk at *
 generalize (k : Int) = ek at *
 have E0 := Lib.hid (enters_of Tryz.func90 (by kernel_rfl))
 have E1 := Lib.hid (enters_of Tryz.func20 (by kernel_rfl))
 have E2 := Lib.hid (enters_of Tryz.func30 (by kernel_rfl))
 have E3 := Lib.hid (enters_of Tryz.func91 (by kernel_rfl))
 have E4 := Lib.hid (enters_of Tryz.func92 (by kernel_rfl))
 have E5 := Lib.hid (enters_of Tryz.func67 (by kernel_rfl))
 have E6 := Lib.hid (enters_of Tryz.func93 (by kernel_rfl))
 go_enter Tryz.func32, Tryz.ntmps32
 go_upto_region 1 with fail
 generalize ((w.alloc (.cells #[.bool p1, .slice ad1 k1 c1, .bool p2, .slice ad2 k2 c2] 38)).alloc (.cells #[.bool false, .slice none 0 0, .bool false, .slice none 0 0] 38)) = W0 at *
 obtain ⟨y2s, y2t, y2u, y2v, y4s, y4t, y4u, y4v, HE⟩ : ∃ y2s y2t y2u y2v y4s y4t y4u y4v : Value, Hid (PX w.heap.size y2s y2t y2u y2v (n) (d) W0 ∧ PX (w.heap.size + 1) y4s y4t y4u y4v (0) (1) W0 ∧ Below w.heap.size w W0) := ⟨_, _, _, _, _, _, _, _, HE⟩
 have N_2_4 := Lib.hid (show w.heap.size ≠ w.heap.size + 1 by omega)
 have G_2 := Lib.hid (show w.heap.size ≤ w.heap.size by omega)
 have G_4 := Lib.hid (show w.heap.size ≤ w.heap.size + 1 by omega)
 go_upto_region 1 with fail
 refine wp_region_fl 2 ((Fct.v (.int .i64 e)) :: (Fct.v (.bool (true))) :: []) (fun W => PX w.heap.size y2s y2t y2u y2v (n) (d) W ∧ PX (w.heap.size + 1) y4s y4t y4u y4v (0) (1) W ∧ Below W0.heap.size W0 W) (true :: true :: []) (some 11 :: some 12 :: []) (fun _ _ h hb => ⟨h.1.keep hb, h.2.1.keep hb, Below.trans h.2.2 (hb.mono h.2.2.size)⟩) ⟨HE.out.1, HE.out.2.1, Below.refl _ _⟩ ?_ ?_
 ·refine sy (sty_move rfl (.inl rfl) Arg.od) ?_
  refine sy (sty_lss (b := (true)) (hsg.out) rfl (.inl rfl) (Arg.t 0 rfl) (Arg.const _)) ?_
  trivial
 intro v1 W1 hk hdf hs
 simp only [putV, Act.put, List.setIfInBounds_toArray, List.set_cons_zero, List.set_cons_succ, Nat.reduceAdd]
 have f_11 : v1 0 = .int .i64 e := hk 0 _ (by decide) rfl
 have f_12 : v1 1 = .bool (true) := hk 1 _ (by decide) rfl
 clear hk hdf
 simp only [f_11, f_12]
 have B1_0 := Below.trans HE.out.2.2 (hs.2.2.mono HE.out.2.2.size)
 refine tail_nil ?_
 have HS1 := Lib.hid (And.intro (hs.1) (And.intro (hs.2.1) (B1_0)))
 clear hs HE B1_0 f_11 f_12
 go_upto_region 2 with fail
 have L2 := Lib.hid (And.intro (HS1.out.1.lt) (And.intro (HS1.out.2.1.lt) (trivial)))
 refine wp_region_fl 8 ((Fct.z (1)) :: (Fct.p (1) (1)) :: (Fct.p (n) (d)) :: (Fct.t2 (Fct.p (N) (D)) (Fct.v (.int .i64 0))) :: (Fct.t2 (Fct.p (N) (D)) (Fct.v (.int .i64 0))) :: (Fct.p (N) (D)) :: (Fct.v (.int .i64 0)) :: (Fct.pb W1.heap.size) :: []) (fun W => PX w.heap.size y2s y2t y2u y2v (n) (d) W ∧ PX (w.heap.size + 1) y4s y4t y4u y4v (0) (1) W ∧ Below W1.heap.size W1 W) (false :: false :: false :: false :: true :: true :: true :: false :: []) (some 14 :: some 15 :: some 16 :: some 17 :: some 13 :: some 18 :: some 19 :: some 6 :: []) (fun _ _ h hb => ⟨h.1.keep hb, h.2.1.keep hb, Below.trans h.2.2 (hb.mono h.2.2.size)⟩) ⟨HS1.out.1, HS1.out.2.1, Below.refl _ _⟩ ?_ ?_
 ·refine so (stp_call0 E0.out rfl (.inl rfl) (fun w _ => (HON.out _).out)) ?_
  refine so (step_call1 E1.out rfl (.inl rfl) (Arg.t 0 rfl) (fun u w _ h1 => (HOF.out _ _ h1).out)) ?_
  refine so (step_ldP (p := w.heap.size) rfl (.inl rfl) Arg.od (fun _ h => h.1.c4) (fun _ h => h.1.rv)) ?_
  refine so (step_call2 E2.out rfl (.inl rfl) (Arg.t 1 rfl) (Arg.t 2 rfl) (fun u v w _ h1 h2 => (HDV.out _ _ _ h1 h2).out.mono fun e w' ⟨x0, he, hi, hb⟩ => ⟨_, he, ⟨_, _, rfl, hi, rfl⟩, hb⟩)) ?_
  refine sy (sty_move rfl (.inl rfl) (Arg.t 3 rfl)) ?_
  refine sy (sty_ex20 (f := Fct.p (N) (D)) (g := Fct.v (.int .i64 0)) rfl (.inl rfl) (Arg.t 4 rfl)) ?_
  refine sy (sty_ex21 (f := Fct.p (N) (D)) (g := Fct.v (.int .i64 0)) rfl (.inl rfl) (Arg.t 4 rfl)) ?_
  refine sa (step_alP (B := W1.heap.size) rfl (.inl rfl) (fun _ h => h.2.2.size) (fun _ _ h => h)) ?_
  trivial
 intro v2 W2 hk hdf hs
 simp only [putV, Act.put, List.setIfInBounds_toArray, List.set_cons_zero, List.set_cons_succ, Nat.reduceAdd]
 have a_6 : (Fct.pb W1.heap.size).R (v2 7) W2 := hk 7 _ (by decide) rfl
 refine Fct.pb_elim a_6 ?_
 intro q_6 e_6 g_6 k_6
 have k_18 : (Fct.p (N) (D)).R (v2 5) W2 := hk 5 _ (by decide) rfl
 have f_19 : v2 6 = .int .i64 0 := hk 6 _ (by decide) rfl
 clear hk hdf
 simp only [e_6, f_19]
 have B2_0 := Below.trans HS1.out.2.2 (hs.2.2.mono HS1.out.2.2.size)
 have N_2_6 := Lib.hid (Nat.ne_of_lt (Nat.lt_of_lt_of_le L2.out.1 g_6))
 have N_4_6 := Lib.hid (Nat.ne_of_lt (Nat.lt_of_lt_of_le L2.out.2.1 g_6))
 have G_6 := Lib.hid (show w.heap.size ≤ q_6 from Nat.le_trans HS1.out.2.2.size g_6)
 refine tail_stP (q := q_6) rfl rfl rfl rfl k_6 k_18 ?_
 intro W2_1 x6cs x6ct x6cu x6cv n_6_1 s_6_1
 have m_2_1 := (hs.1).stq s_6_1 N_2_6.out
 have m_4_1 := (hs.2.1).stq s_6_1 N_4_6.out
 have B2_1 := s_6_1.below w.heap.size w G_6.out B2_0
 refine tail_assign rfl rfl ?_
 simp only [Act.put, List.setIfInBounds_toArray, List.set_cons_zero, List.set_cons_succ]
 refine tail_nil ?_
 have HS2 := Lib.hid (And.intro (m_2_1) (And.intro (m_4_1) (And.intro (n_6_1) (B2_1))))
 clear hs L2 HS1 B2_0 B2_1 k_18 f_19 n_6_1 s_6_1 m_2_1 m_4_1 e_6 g_6 k_6 a_6
 go_upto_region 3 with fail
 refine wp_region_fl 2 ((Fct.v (.int .i64 0)) :: (Fct.v (.bool (false))) :: []) (fun W => PX w.heap.size y2s y2t y2u y2v (n) (d) W ∧ PX (w.heap.size + 1) y4s y4t y4u y4v (0) (1) W ∧ PX q_6 x6cs x6ct x6cu x6cv (N) (D) W ∧ Below W2_1.heap.size W2_1 W) (true :: true :: []) (some 20 :: some 21 :: []) (fun _ _ h hb => ⟨h.1.keep hb, h.2.1.keep hb, h.2.2.1.keep hb, Below.trans h.2.2.2 (hb.mono h.2.2.2.size)⟩) ⟨HS2.out.1, HS2.out.2.1, HS2.out.2.2.1, Below.refl _ _⟩ ?_ ?_
 ·refine sy (sty_move rfl (.inl rfl) Arg.od) ?_
  refine sy (sty_neqE (b := (false)) (rfl) rfl (.inl rfl) (Arg.t 0 rfl) (Arg.const _)) ?_
  trivial
 intro v3 W3 hk hdf hs
 simp only [putV, Act.put, List.setIfInBounds_toArray, List.set_cons_zero, List.set_cons_succ, Nat.reduceAdd]
 have f_20 : v3 0 = .int .i64 0 := hk 0 _ (by decide) rfl
 have f_21 : v3 1 = .bool (false) := hk 1 _ (by decide) rfl
 clear hk hdf
 simp only [f_20, f_21]
 have B3_0 := Below.trans HS2.out.2.2.2 (hs.2.2.2.mono HS2.out.2.2.2.size)
 refine tail_nil ?_
 have HS3 := Lib.hid (And.intro (hs.1) (And.intro (hs.2.1) (And.intro (hs.2.2.1) (B3_0))))
 clear hs HS2 B3_0 f_20 f_21
 go_upto_region 5 with fail
 refine wp_region_fl 3 ((Fct.p (N) (D)) :: (Fct.v (.int .i64 e)) :: (Fct.v (.int .i64 ek)) :: []) (fun W => PX w.heap.size y2s y2t y2u y2v (n) (d) W ∧ PX (w.heap.size + 1) y4s y4t y4u y4v (0) (1) W ∧ PX q_6 x6cs x6ct x6cu x6cv (N) (D) W ∧ Below W3.heap.size W3 W) (false :: true :: false :: []) (some 24 :: some 25 :: some 26 :: []) (fun _ _ h hb => ⟨h.1.keep hb, h.2.1.keep hb, h.2.2.1.keep hb, Below.trans h.2.2.2 (hb.mono h.2.2.2.size)⟩) ⟨HS3.out.1, HS3.out.2.1, HS3.out.2.2.1, Below.refl _ _⟩ ?_ ?_
 ·refine so (step_ldP (p := q_6) rfl (.inl rfl) Arg.od (fun _ h => h.2.2.1.c4) (fun _ h => h.2.2.1.rv)) ?_
  refine sy (sty_moveL rfl (.inl rfl) (by kernel_rfl) (fun _ => rfl)) ?_
  refine so (step_call1 E3.out rfl (.inl rfl) (Arg.t 1 rfl) (fun u w _ h1 => (by obtain rfl := (show _ = _ from h1); exact (HOP.out _).out.mono fun e w' h => ⟨_, h.1, rfl, h.2⟩))) ?_
  trivial
 intro v5 W5 hk hdf hs
 simp only [putV, Act.put, List.setIfInBounds_toArray, List.set_cons_zero, List.set_cons_succ, Nat.reduceAdd]
 have k_24 : (Fct.p (N) (D)).R (v5 0) W5 := hk 0 _ (by decide) rfl
 have f_25 : v5 1 = .int .i64 e := hk 1 _ (by decide) rfl
 have f_26 : v5 2 = .int .i64 ek := hk 2 _ (by decide) rfl
 clear hk hdf
 simp only [f_25, f_26]
 have B5_0 := Below.trans HS3.out.2.2.2 (hs.2.2.2.mono HS3.out.2.2.2.size)
 refine tail_stP (q := w.heap.size) rfl rfl rfl rfl hs.1 k_24 ?_
 intro W5_1 x2fs x2ft x2fu x2fv n_2_1 s_2_1
 have m_4_1 := (hs.2.1).stq s_2_1 (N_2_4.out.symm)
 have m_6_1 := (hs.2.2.1).stq s_2_1 (N_2_6.out.symm)
 have B5_1 := s_2_1.below w.heap.size w G_2.out B5_0
 refine tail_assign rfl rfl ?_
 simp only [Act.put, List.setIfInBounds_toArray, List.set_cons_zero, List.set_cons_succ]
 refine tail_nil ?_
 have HS5 := Lib.hid (And.intro (n_2_1) (And.intro (m_4_1) (And.intro (m_6_1) (B5_1))))
 clear hs HS3 B5_0 B5_1 k_24 f_25 f_26 n_2_1 s_2_1 m_4_1 m_6_1
 go_upto_region 6 with fail
 have L6 := Lib.hid (And.intro (HS5.out.1.lt) (And.intro (HS5.out.2.1.lt) (And.intro (HS5.out.2.2.1.lt) (trivial))))
 refine wp_region_fl 8 ((Fct.v (.pointer (some ⟨w.heap.size, 0, none⟩))) :: (Fct.z (N)) :: (Fct.v (.int .i64 ek)) :: (Fct.t2 (Fct.z (Nk)) (Fct.v (.int .i64 0))) :: (Fct.t2 (Fct.z (Nk)) (Fct.v (.int .i64 0))) :: (Fct.z (Nk)) :: (Fct.v (.int .i64 0)) :: (Fct.zb W5_1.heap.size) :: []) (fun W => PX w.heap.size x2fs x2ft x2fu x2fv (N) (D) W ∧ PX (w.heap.size + 1) y4s y4t y4u y4v (0) (1) W ∧ PX q_6 x6cs x6ct x6cu x6cv (N) (D) W ∧ Below W5_1.heap.size W5_1 W) (true :: false :: true :: false :: true :: true :: true :: false :: []) (some 28 :: some 29 :: some 30 :: some 31 :: some 27 :: some 32 :: some 33 :: some 8 :: []) (fun _ _ h hb => ⟨h.1.keep hb, h.2.1.keep hb, h.2.2.1.keep hb, Below.trans h.2.2.2 (hb.mono h.2.2.2.size)⟩) ⟨HS5.out.1, HS5.out.2.1, HS5.out.2.2.1, Below.refl _ _⟩ ?_ ?_
 ·refine sy (sty_faP0 (p := w.heap.size) rfl (.inl rfl) Arg.od) ?_
  refine so (step_ldZ0 (b := w.heap.size) rfl (.inl rfl) (Arg.t 0 rfl) (fun _ h => ⟨h.1.c0, h.1.c1⟩) (fun _ h => h.1.rv.ints.1)) ?_
  refine sy (sty_move rfl (.inl rfl) Arg.od) ?_
  refine so (step_call2 E4.out rfl (.inl rfl) (Arg.t 1 rfl) (Arg.t 2 rfl) (fun u v w _ h1 h2 => (by obtain rfl := (show _ = _ from h2); exact (HP1.out _ _ h1).out.mono fun e w' ⟨x0, he, hi, hb⟩ => ⟨_, he, ⟨_, _, rfl, hi, rfl⟩, hb⟩))) ?_
  refine sy (sty_move rfl (.inl rfl) (Arg.t 3 rfl)) ?_
  refine sy (sty_ex20 (f := Fct.z (Nk)) (g := Fct.v (.int .i64 0)) rfl (.inl rfl) (Arg.t 4 rfl)) ?_
  refine sy (sty_ex21 (f := Fct.z (Nk)) (g := Fct.v (.int .i64 0)) rfl (.inl rfl) (Arg.t 4 rfl)) ?_
  refine sa (step_alZ (B := W5_1.heap.size) rfl (.inl rfl) (fun _ h => h.2.2.2.size) (fun _ _ h => h)) ?_
  trivial
 intro v6 W6 hk hdf hs
 simp only [putV, Act.put, List.setIfInBounds_toArray, List.set_cons_zero, List.set_cons_succ, Nat.reduceAdd]
 have a_8 : (Fct.zb W5_1.heap.size).R (v6 7) W6 := hk 7 _ (by decide) rfl
 refine Fct.zb_elim a_8 ?_
 intro q_8 e_8 g_8 k_8
 have f_30 : v6 2 = .int .i64 ek := hk 2 _ (by decide) rfl
 have k_32 : (Fct.z (Nk)).R (v6 5) W6 := hk 5 _ (by decide) rfl
 have f_33 : v6 6 = .int .i64 0 := hk 6 _ (by decide) rfl
 clear hk hdf
 simp only [e_8, f_30, f_33]
 have B6_0 := Below.trans HS5.out.2.2.2 (hs.2.2.2.mono HS5.out.2.2.2.size)
 have N_2_8 := Lib.hid (Nat.ne_of_lt (Nat.lt_of_lt_of_le L6.out.1 g_8))
 have N_4_8 := Lib.hid (Nat.ne_of_lt (Nat.lt_of_lt_of_le L6.out.2.1 g_8))
 have N_6_8 := Lib.hid (Nat.ne_of_lt (Nat.lt_of_lt_of_le L6.out.2.2.1 g_8))
 have G_8 := Lib.hid (show w.heap.size ≤ q_8 from Nat.le_trans HS5.out.2.2.2.size g_8)
 refine tail_stZ (q := q_8) rfl rfl rfl rfl k_8 k_32 ?_
 intro W6_1 x8gs x8gt n_8_1 s_8_1
 have m_2_1 := (hs.1).stq s_8_1 N_2_8.out
 have m_4_1 := (hs.2.1).stq s_8_1 N_4_8.out
 have m_6_1 := (hs.2.2.1).stq s_8_1 N_6_8.out
 have B6_1 := s_8_1.below w.heap.size w G_8.out B6_0
 refine tail_assign rfl rfl ?_
 simp only [Act.put, List.setIfInBounds_toArray, List.set_cons_zero, List.set_cons_succ]
 refine tail_nil ?_
 have HS6 := Lib.hid (And.intro (m_2_1) (And.intro (m_4_1) (And.intro (m_6_1) (And.intro (n_8_1) (B6_1)))))
 clear hs L6 HS5 B6_0 B6_1 f_30 k_32 f_33 n_8_1 s_8_1 m_2_1 m_4_1 m_6_1 e_8 g_8 k_8 a_8
 go_upto_region 7 with fail
 refine wp_region_fl 2 ((Fct.v (.int .i64 0)) :: (Fct.v (.bool (false))) :: []) (fun W => PX w.heap.size x2fs x2ft x2fu x2fv (N) (D) W ∧ PX (w.heap.size + 1) y4s y4t y4u y4v (0) (1) W ∧ PX q_6 x6cs x6ct x6cu x6cv (N) (D) W ∧ BX q_8 x8gs x8gt (Nk) W ∧ Below W6_1.heap.size W6_1 W) (true :: true :: []) (some 34 :: some 35 :: []) (fun _ _ h hb => ⟨h.1.keep hb, h.2.1.keep hb, h.2.2.1.keep hb, h.2.2.2.1.keep hb, Below.trans h.2.2.2.2 (hb.mono h.2.2.2.2.size)⟩) ⟨HS6.out.1, HS6.out.2.1, HS6.out.2.2.1, HS6.out.2.2.2.1, Below.refl _ _⟩ ?_ ?_
 ·refine sy (sty_move rfl (.inl rfl) Arg.od) ?_
  refine sy (sty_neqE (b := (false)) (rfl) rfl (.inl rfl) (Arg.t 0 rfl) (Arg.const _)) ?_
  trivial
 intro v7 W7 hk hdf hs
 simp only [putV, Act.put, List.setIfInBounds_toArray, List.set_cons_zero, List.set_cons_succ, Nat.reduceAdd]
 have f_34 : v7 0 = .int .i64 0 := hk 0 _ (by decide) rfl
 have f_35 : v7 1 = .bool (false) := hk 1 _ (by decide) rfl
 clear hk hdf
 simp only [f_34, f_35]
 have B7_0 := Below.trans HS6.out.2.2.2.2 (hs.2.2.2.2.mono HS6.out.2.2.2.2.size)
 refine tail_nil ?_
 have HS7 := Lib.hid (And.intro (hs.1) (And.intro (hs.2.1) (And.intro (hs.2.2.1) (And.intro (hs.2.2.2.1) (B7_0)))))
 clear hs HS6 B7_0 f_34 f_35
 go_upto_region 9 with fail
 have L9 := Lib.hid (And.intro (HS7.out.1.lt) (And.intro (HS7.out.2.1.lt) (And.intro (HS7.out.2.2.1.lt) (And.intro (HS7.out.2.2.2.1.lt) (trivial)))))
 refine wp_region_fl 8 ((Fct.p (N) (D)) :: (Fct.z (D)) :: (Fct.v (.int .i64 ek)) :: (Fct.t2 (Fct.z (Dk)) (Fct.v (.int .i64 0))) :: (Fct.t2 (Fct.z (Dk)) (Fct.v (.int .i64 0))) :: (Fct.z (Dk)) :: (Fct.v (.int .i64 0)) :: (Fct.zb W7.heap.size) :: []) (fun W => PX w.heap.size x2fs x2ft x2fu x2fv (N) (D) W ∧ PX (w.heap.size + 1) y4s y4t y4u y4v (0) (1) W ∧ PX q_6 x6cs x6ct x6cu x6cv (N) (D) W ∧ BX q_8 x8gs x8gt (Nk) W ∧ Below W7.heap.size W7 W) (false :: false :: true :: false :: true :: true :: true :: false :: []) (some 39 :: some 40 :: some 41 :: some 42 :: some 38 :: some 43 :: some 44 :: some 10 :: []) (fun _ _ h hb => ⟨h.1.keep hb, h.2.1.keep hb, h.2.2.1.keep hb, h.2.2.2.1.keep hb, Below.trans h.2.2.2.2 (hb.mono h.2.2.2.2.size)⟩) ⟨HS7.out.1, HS7.out.2.1, HS7.out.2.2.1, HS7.out.2.2.2.1, Below.refl _ _⟩ ?_ ?_
 ·refine so (step_ldP (p := w.heap.size) rfl (.inl rfl) Arg.od (fun _ h => h.1.c4) (fun _ h => h.1.rv)) ?_
  refine so (step_call1 E5.out rfl (.inl rfl) (Arg.t 0 rfl) (fun u w _ h1 => (HD.out _ _ h1).out)) ?_
  refine sy (sty_move rfl (.inl rfl) Arg.od) ?_
  refine so (step_call2 E4.out rfl (.inl rfl) (Arg.t 1 rfl) (Arg.t 2 rfl) (fun u v w _ h1 h2 => (by obtain rfl := (show _ = _ from h2); exact (HP2.out _ _ h1).out.mono fun e w' ⟨x0, he, hi, hb⟩ => ⟨_, he, ⟨_, _, rfl, hi, rfl⟩, hb⟩))) ?_
  refine sy (sty_move rfl (.inl rfl) (Arg.t 3 rfl)) ?_
  refine sy (sty_ex20 (f := Fct.z (Dk)) (g := Fct.v (.int .i64 0)) rfl (.inl rfl) (Arg.t 4 rfl)) ?_
  refine sy (sty_ex21 (f := Fct.z (Dk)) (g := Fct.v (.int .i64 0)) rfl (.inl rfl) (Arg.t 4 rfl)) ?_
  refine sa (step_alZ (B := W7.heap.size) rfl (.inl rfl) (fun _ h => h.2.2.2.2.size) (fun _ _ h => h)) ?_
  trivial
 intro v9 W9 hk hdf hs
 simp only [putV, Act.put, List.setIfInBounds_toArray, List.set_cons_zero, List.set_cons_succ, Nat.reduceAdd]
 have a_10 : (Fct.zb W7.heap.size).R (v9 7) W9 := hk 7 _ (by decide) rfl
 refine Fct.zb_elim a_10 ?_
 intro q_10 e_10 g_10 k_10
 have f_41 : v9 2 = .int .i64 ek := hk 2 _ (by decide) rfl
 have k_43 : (Fct.z (Dk)).R (v9 5) W9 := hk 5 _ (by decide) rfl
 have f_44 : v9 6 = .int .i64 0 := hk 6 _ (by decide) rfl
 clear hk hdf
 simp only [e_10, f_41, f_44]
 have B9_0 := Below.trans HS7.out.2.2.2.2 (hs.2.2.2.2.mono HS7.out.2.2.2.2.size)
 have N_2_10 := Lib.hid (Nat.ne_of_lt (Nat.lt_of_lt_of_le L9.out.1 g_10))
 have N_4_10 := Lib.hid (Nat.ne_of_lt (Nat.lt_of_lt_of_le L9.out.2.1 g_10))
 have N_6_10 := Lib.hid (Nat.ne_of_lt (Nat.lt_of_lt_of_le L9.out.2.2.1 g_10))
 have N_8_10 := Lib.hid (Nat.ne_of_lt (Nat.lt_of_lt_of_le L9.out.2.2.2.1 g_10))
 have G_10 := Lib.hid (show w.heap.size ≤ q_10 from Nat.le_trans HS7.out.2.2.2.2.size g_10)
 refine tail_stZ (q := q_10) rfl rfl rfl rfl k_10 k_43 ?_
 intro W9_1 x10js x10jt n_10_1 s_10_1
 have m_2_1 := (hs.1).stq s_10_1 N_2_10.out
 have m_4_1 := (hs.2.1).stq s_10_1 N_4_10.out
 have m_6_1 := (hs.2.2.1).stq s_10_1 N_6_10.out
 have m_8_1 := (hs.2.2.2.1).stq s_10_1 N_8_10.out
 have B9_1 := s_10_1.below w.heap.size w G_10.out B9_0
 refine tail_assign rfl rfl ?_
 simp only [Act.put, List.setIfInBounds_toArray, List.set_cons_zero, List.set_cons_succ]
 refine tail_nil ?_
 have HS9 := Lib.hid (And.intro (m_2_1) (And.intro (m_4_1) (And.intro (m_6_1) (And.intro (m_8_1) (And.intro (n_10_1) (B9_1))))))
 clear hs L9 HS7 B9_0 B9_1 f_41 k_43 f_44 n_10_1 s_10_1 m_2_1 m_4_1 m_6_1 m_8_1 e_10 g_10 k_10 a_10
 go_upto_region 10 with fail
 refine wp_region_fl 2 ((Fct.v (.int .i64 0)) :: (Fct.v (.bool (false))) :: []) (fun W => PX w.heap.size x2fs x2ft x2fu x2fv (N) (D) W ∧ PX (w.heap.size + 1) y4s y4t y4u y4v (0) (1) W ∧ PX q_6 x6cs x6ct x6cu x6cv (N) (D) W ∧ BX q_8 x8gs x8gt (Nk) W ∧ BX q_10 x10js x10jt (Dk) W ∧ Below W9_1.heap.size W9_1 W) (true :: true :: []) (some 45 :: some 46 :: []) (fun _ _ h hb => ⟨h.1.keep hb, h.2.1.keep hb, h.2.2.1.keep hb, h.2.2.2.1.keep hb, h.2.2.2.2.1.keep hb, Below.trans h.2.2.2.2.2 (hb.mono h.2.2.2.2.2.size)⟩) ⟨HS9.out.1, HS9.out.2.1, HS9.out.2.2.1, HS9.out.2.2.2.1, HS9.out.2.2.2.2.1, Below.refl _ _⟩ ?_ ?_
 ·refine sy (sty_move rfl (.inl rfl) Arg.od) ?_
  refine sy (sty_neqE (b := (false)) (rfl) rfl (.inl rfl) (Arg.t 0 rfl) (Arg.const _)) ?_
  trivial
 intro v10 W10 hk hdf hs
 simp only [putV, Act.put, List.setIfInBounds_toArray, List.set_cons_zero, List.set_cons_succ, Nat.reduceAdd]
 have f_45 : v10 0 = .int .i64 0 := hk 0 _ (by decide) rfl
 have f_46 : v10 1 = .bool (false) := hk 1 _ (by decide) rfl
 clear hk hdf
 simp only [f_45, f_46]
 have B10_0 := Below.trans HS9.out.2.2.2.2.2 (hs.2.2.2.2.2.mono HS9.out.2.2.2.2.2.size)
 refine tail_nil ?_
 have HS10 := Lib.hid (And.intro (hs.1) (And.intro (hs.2.1) (And.intro (hs.2.2.1) (And.intro (hs.2.2.2.1) (And.intro (hs.2.2.2.2.1) (B10_0))))))
 clear hs HS9 B10_0 f_45 f_46
 go_upto_region 12 with fail
 refine wp_region_fl 3 ((Fct.z (Nk)) :: (Fct.z (Dk)) :: (Fct.p (Nk) (Dk)) :: []) (fun W => PX w.heap.size x2fs x2ft x2fu x2fv (N) (D) W ∧ PX (w.heap.size + 1) y4s y4t y4u y4v (0) (1) W ∧ PX q_6 x6cs x6ct x6cu x6cv (N) (D) W ∧ BX q_8 x8gs x8gt (Nk) W ∧ BX q_10 x10js x10jt (Dk) W ∧ Below W10.heap.size W10 W) (false :: false :: false :: []) (some 49 :: some 50 :: some 51 :: []) (fun _ _ h hb => ⟨h.1.keep hb, h.2.1.keep hb, h.2.2.1.keep hb, h.2.2.2.1.keep hb, h.2.2.2.2.1.keep hb, Below.trans h.2.2.2.2.2 (hb.mono h.2.2.2.2.2.size)⟩) ⟨HS10.out.1, HS10.out.2.1, HS10.out.2.2.1, HS10.out.2.2.2.1, HS10.out.2.2.2.2.1, Below.refl _ _⟩ ?_ ?_
 ·refine so (step_ldZ0 (b := q_8) rfl (.inl rfl) Arg.od (fun _ h => ⟨h.2.2.2.1.c0, h.2.2.2.1.c1⟩) (fun _ h => h.2.2.2.1.iv)) ?_
  refine so (step_ldZ0 (b := q_10) rfl (.inl rfl) Arg.od (fun _ h => ⟨h.2.2.2.2.1.c0, h.2.2.2.2.1.c1⟩) (fun _ h => h.2.2.2.2.1.iv)) ?_
  refine so (step_call2 E6.out rfl (.inl rfl) (Arg.t 0 rfl) (Arg.t 1 rfl) (fun u v w _ h1 h2 => (HL.out _ _ _ h1 h2).out)) ?_
  trivial
 intro v12 W12 hk hdf hs
 simp only [putV, Act.put, List.setIfInBounds_toArray, List.set_cons_zero, List.set_cons_succ, Nat.reduceAdd]
 have k_51 : (Fct.p (Nk) (Dk)).R (v12 2) W12 := hk 2 _ (by decide) rfl
 clear hk hdf
 have B12_0 := Below.trans HS10.out.2.2.2.2.2 (hs.2.2.2.2.2.mono HS10.out.2.2.2.2.2.size)
 refine tail_stP (q := (w.heap.size + 1)) rfl rfl rfl rfl hs.2.1 k_51 ?_
 intro W12_1 x4ms x4mt x4mu x4mv n_4_1 s_4_1
 have m_2_1 := (hs.1).stq s_4_1 N_2_4.out
 have m_6_1 := (hs.2.2.1).stq s_4_1 (N_4_6.out.symm)
 have m_8_1 := (hs.2.2.2.1).stq s_4_1 (N_4_8.out.symm)
 have m_10_1 := (hs.2.2.2.2.1).stq s_4_1 (N_4_10.out.symm)
 have B12_1 := s_4_1.below w.heap.size w G_4.out B12_0
 refine tail_assign rfl rfl ?_
 simp only [Act.put, List.setIfInBounds_toArray, List.set_cons_zero, List.set_cons_succ]
 refine tail_nil ?_
 have HS12 := Lib.hid (And.intro (m_2_1) (And.intro (n_4_1) (And.intro (m_6_1) (And.intro (m_8_1) (And.intro (m_10_1) (B12_1))))))
 clear hs HS10 B12_0 B12_1 k_51 n_4_1 s_4_1 m_2_1 m_6_1 m_8_1 m_10_1
 have hr := HS12.out.2.1
 have hbl := HS12.out.2.2.2.2.2
 have r0 := hr.c0
 have r1 := hr.c1
 have r2 := hr.c2
 have r3 := hr.c3
 have HR := Lib.hid hr.rv
 have HBL := Lib.hid hbl
 clear hr hbl HS12
 go_wp2_with fail
 refine bodyPost_ret (v := .tuple #[.agg #[x4ms, x4mt, x4mu, x4mv], .int .i64 0]) (by simp [results, Tryz.results32, go_sem, r0, r1, r2, r3]) rfl ⟨_, rfl, HR.out, HBL.out⟩
end
end Go.Proofs.YtghgcbedajaldaaGreat
