/-  S2  -/
import Derived.Test.YtghgcbedajaldaaGreatMpbg
import Derived.Test.YtghgcbedajaldaaGreatMpat
/-  The program's Add and Mul of fractions.  -/
namespace Go.Proofs.YtghgcbedajaldaaGreat
section
open Go.RowKit Digs
theorem enter3 {w : World} {a b c e a' b' c' e' : Value} {n d n' d' : Int} {t : TypeId} (h1 : RatV w (.agg #[a, b, c, e]) n d) (h3 : RatV w (.agg #[a', b', c', e']) n' d') :
  (PX w.heap.size a b c e n d (((w.alloc (.cells #[a, b, c, e] t)).alloc (.cells #[a', b', c', e'] t)).alloc (.cells #[.bool false, .slice none 0 0, .bool false, .slice none 0 0] t)) ∧
  PX (w.heap.size + 1) a' b' c' e' n' d' (((w.alloc (.cells #[a, b, c, e] t)).alloc (.cells #[a', b', c', e'] t)).alloc (.cells #[.bool false, .slice none 0 0, .bool false, .slice none 0 0] t)) ∧
  PX (w.heap.size + 1 + 1) (.bool false) (.slice none 0 0) (.bool false) (.slice none 0 0) 0 1 (((w.alloc (.cells #[a, b, c, e] t)).alloc (.cells #[a', b', c', e'] t)).alloc (.cells #[.bool false, .slice none 0 0, .bool false, .slice none 0 0] t)) ∧
  Below w.heap.size w (((w.alloc (.cells #[a, b, c, e] t)).alloc (.cells #[a', b', c', e'] t)).alloc (.cells #[.bool false, .slice none 0 0, .bool false, .slice none 0 0] t))) := by
 have hal : ∀ (W : World) (o : Obj), Below W.heap.size W (W.alloc o) := fun W o => (Below.refl _ _).alloc (Nat.le_refl _) _
 have hx := (PX.made (t := t) h1).keep (hal _ (.cells #[a', b', c', e'] t))
 have hy := PX.made (w := w.alloc (.cells #[a, b, c, e] t)) (t := t) (h3.keep (hal _ _))
 have hz := PX.made (w := (w.alloc (.cells #[a, b, c, e] t)).alloc (.cells #[a', b', c', e'] t)) (n := 0) (d := 1) (t := t) ⟨_, _, _, _, rfl, IntV.nil0 _, IntV.nil0 _⟩
 simp only [World.size_alloc] at hy hz
 exact ⟨hx.keep (hal _ _), hy.keep (hal _ _), hz, below3w _ _ _ _⟩
theorem gcd_bdS {k : Nat} {x y : Int} (hx : Bd k x) (hy : Bd k y) : Bd k ((Int.gcd x y : Nat) : Int) := by
 unfold Bd at *
 rw [Int.natAbs_natCast]
 by_cases h : x = 0
 ·subst h
  rw [show Int.gcd 0 y = y.natAbs from Nat.gcd_zero_left _]
  exact hy
 ·exact Nat.lt_of_le_of_lt (Nat.le_of_dvd (by omega) (Nat.gcd_dvd_left x.natAbs y.natAbs)) hx
theorem tdiv_bd {k : Nat} {x y : Int} (hx : Bd k x) : Bd k (x.tdiv y) := by
 unfold Bd at *
 rw [Int.natAbs_tdiv]
 exact Nat.lt_of_le_of_lt (Nat.div_le_self _ _) hx
set_option maxHeartbeats 16000000 in
set_option maxRecDepth 100000 in
theorem ratMul_any (n1 d1 n2 d2 : Int) (v1 v2 : Value) (w : World) (hq1 : Low n1 d1) (hq2 : Low n2 d2) (l1 : Bd 100 n1) (l2 : Bd 100 d1) (l3 : Bd 100 n2) (l4 : Bd 100 d2) (h1 : RatV w v1 n1 d1) (h2 : RatV w v2 n2 d2) :
  Calls Tryz.prog 44 #[v1, v2] w (RatPost w (qn (n1 * n2) (d1 * d2)) (qd (n1 * n2) (d1 * d2))) := by
 obtain ⟨f, hf⟩ : ∃ g : Int, ((Int.gcd n1 d2 : Nat) : Int) = g := ⟨_, rfl⟩
 obtain ⟨s, hs⟩ : ∃ g : Int, ((Int.gcd n2 d1 : Nat) : Int) = g := ⟨_, rfl⟩
 obtain ⟨x1, hx1⟩ : ∃ a : Int, n1.tdiv f = a := ⟨_, rfl⟩
 obtain ⟨x2, hx2⟩ : ∃ a : Int, n2.tdiv s = a := ⟨_, rfl⟩
 obtain ⟨y1, hy1⟩ : ∃ a : Int, d1.tdiv s = a := ⟨_, rfl⟩
 obtain ⟨y2, hy2⟩ : ∃ a : Int, d2.tdiv f = a := ⟨_, rfl⟩
 obtain ⟨m1, hm1⟩ : ∃ m : Int, x1 * x2 = m := ⟨_, rfl⟩
 obtain ⟨m2, hm2⟩ : ∃ m : Int, y1 * y2 = m := ⟨_, rfl⟩
 obtain ⟨e1, e2⟩ := mul_low hq1 hq2 f s hf hs
 rw [hx1, hx2, hm1] at e1
 rw [hy1, hy2, hm2] at e2
 rw [e1, e2]
 have bf : Bd 100 f := hf ▸ gcd_bdS l1 l4
 have bs : Bd 100 s := hs ▸ gcd_bdS l3 l2
 have bx1 : Bd 100 x1 := hx1 ▸ tdiv_bd l1
 have bx2 : Bd 100 x2 := hx2 ▸ tdiv_bd l3
 have by1 : Bd 100 y1 := hy1 ▸ tdiv_bd l2
 have by2 : Bd 100 y2 := hy2 ▸ tdiv_bd l4
 have HD1 := Lib.hid fun W u h => Lib.hid (den_any n1 d1 u W hq1.1 (len_le (by decide) l2) h)
 have HD2 := Lib.hid fun W u h => Lib.hid (den_any n2 d2 u W hq2.1 (len_le (by decide) l4) h)
 have HG1 := Lib.hid fun W u v h h' => Lib.hid (show Calls Tryz.prog 97 #[u, v] W (IntPost W f) from by rw [← hf]; exact Gcd_any n1 d2 u v W (len_le (by decide) l1) (len_le (by decide) l4) h h')
 have HG2 := Lib.hid fun W u v h h' => Lib.hid (show Calls Tryz.prog 97 #[u, v] W (IntPost W s) from by rw [← hs]; exact Gcd_any n2 d1 u v W (len_le (by decide) l3) (len_le (by decide) l2) h h')
 have HO1 := Lib.hid fun W u v h h' => Lib.hid (show Calls Tryz.prog 98 #[u, v] W (IntPost W x1) from by rw [← hx1, ← dvq_tdiv]; exact over_any n1 f u v W (len_le (by decide) l1) (len_le (by decide) bf) h h')
 have HO2 := Lib.hid fun W u v h h' => Lib.hid (show Calls Tryz.prog 98 #[u, v] W (IntPost W x2) from by rw [← hx2, ← dvq_tdiv]; exact over_any n2 s u v W (len_le (by decide) l3) (len_le (by decide) bs) h h')
 have HO3 := Lib.hid fun W u v h h' => Lib.hid (show Calls Tryz.prog 98 #[u, v] W (IntPost W y1) from by rw [← hy1, ← dvq_tdiv]; exact over_any d1 s u v W (len_le (by decide) l2) (len_le (by decide) bs) h h')
 have HO4 := Lib.hid fun W u v h h' => Lib.hid (show Calls Tryz.prog 98 #[u, v] W (IntPost W y2) from by rw [← hy2, ← dvq_tdiv]; exact over_any d2 f u v W (len_le (by decide) l4) (len_le (by decide) bf) h h')
 have HM1 := Lib.hid fun W u v h h' => Lib.hid (show Calls Tryz.prog 84 #[u, v] W (IntPost W m1) from by rw [← hm1]; exact Mul_any x1 x2 u v W (len_le (by decide) bx1) (len_le (by decide) bx2) h h')
 have HM2 := Lib.hid fun W u v h h' => Lib.hid (show Calls Tryz.prog 84 #[u, v] W (IntPost W m2) from by rw [← hm2]; exact Mul_any y1 y2 u v W (len_le (by decide) by1) (len_le (by decide) by2) h h')
 have HL := Lib.hid fun W u v h h' => Lib.hid (lowest_any m1 m2 u v W h h')
 obtain ⟨p1, ad1, k1, c1, p2, ad2, k2, c2, rfl⟩ := ratv_shape h1
 obtain ⟨p3, ad3, k3, c3, p4, ad4, k4, c4, rfl⟩ := ratv_shape h2
 have HE := Lib.hid (enter3 (t := 38) h1 h2)
 clear h1 h2
 clear hq1 hq2 l1 l2 l3 l4 hf hs hx1 hx2 hy1 hy2 hm1 hm2 e1 e2 bf bs bx1 bx2 by1 by2
 have E0 := Lib.hid (enters_of Tryz.func67 (by kernel_rfl))
 have E1 := Lib.hid (enters_of Tryz.func97 (by kernel_rfl))
 have E2 := Lib.hid (enters_of Tryz.func98 (by kernel_rfl))
 have E3 := Lib.hid (enters_of Tryz.func84 (by kernel_rfl))
 have E4 := Lib.hid (enters_of Tryz.func93 (by kernel_rfl))
 go_enter Tryz.func44, Tryz.ntmps44
 go_upto_region 1 with fail
 generalize (((w.alloc (.cells #[.bool p1, .slice ad1 k1 c1, .bool p2, .slice ad2 k2 c2] 38)).alloc (.cells #[.bool p3, .slice ad3 k3 c3, .bool p4, .slice ad4 k4 c4] 38)).alloc (.cells #[.bool false, .slice none 0 0, .bool false, .slice none 0 0] 38)) = W0 at *
 obtain ⟨y2s, y2t, y2u, y2v, y3s, y3t, y3u, y3v, y4s, y4t, y4u, y4v, HE⟩ : ∃ y2s y2t y2u y2v y3s y3t y3u y3v y4s y4t y4u y4v : Value, Hid (PX w.heap.size y2s y2t y2u y2v (n1) (d1) W0 ∧ PX (w.heap.size + 1) y3s y3t y3u y3v (n2) (d2) W0 ∧ PX (w.heap.size + 1 + 1) y4s y4t y4u y4v (0) (1) W0 ∧ Below w.heap.size w W0) := ⟨_, _, _, _, _, _, _, _, _, _, _, _, HE⟩
 have N_2_3 := Lib.hid (show w.heap.size ≠ w.heap.size + 1 by omega)
 have N_2_4 := Lib.hid (show w.heap.size ≠ w.heap.size + 1 + 1 by omega)
 have N_3_4 := Lib.hid (show w.heap.size + 1 ≠ w.heap.size + 1 + 1 by omega)
 have G_2 := Lib.hid (show w.heap.size ≤ w.heap.size by omega)
 have G_3 := Lib.hid (show w.heap.size ≤ w.heap.size + 1 by omega)
 have G_4 := Lib.hid (show w.heap.size ≤ w.heap.size + 1 + 1 by omega)
 go_upto_region 1 with fail
 have L1 := Lib.hid (And.intro (HE.out.1.lt) (And.intro (HE.out.2.1.lt) (And.intro (HE.out.2.2.1.lt) (trivial))))
 refine wp_region_fl 6 ((Fct.p (n1) (d1)) :: (Fct.z (d1)) :: (Fct.p (n2) (d2)) :: (Fct.z (d2)) :: (Fct.zb W0.heap.size) :: (Fct.zb W0.heap.size) :: []) (fun W => PX w.heap.size y2s y2t y2u y2v (n1) (d1) W ∧ PX (w.heap.size + 1) y3s y3t y3u y3v (n2) (d2) W ∧ PX (w.heap.size + 1 + 1) y4s y4t y4u y4v (0) (1) W ∧ Below W0.heap.size W0 W) (false :: false :: false :: false :: false :: false :: []) (some 10 :: some 11 :: some 12 :: some 13 :: some 5 :: some 6 :: []) (fun _ _ h hb => ⟨h.1.keep hb, h.2.1.keep hb, h.2.2.1.keep hb, Below.trans h.2.2.2 (hb.mono h.2.2.2.size)⟩) ⟨HE.out.1, HE.out.2.1, HE.out.2.2.1, Below.refl _ _⟩ ?_ ?_
 ·refine so (step_ldP (p := w.heap.size) rfl (.inl rfl) Arg.od (fun _ h => h.1.c4) (fun _ h => h.1.rv)) ?_
  refine so (step_call1 E0.out rfl (.inl rfl) (Arg.t 0 rfl) (fun u w _ h1 => (HD1.out _ _ h1).out)) ?_
  refine so (step_ldP (p := (w.heap.size + 1)) rfl (.inl rfl) Arg.od (fun _ h => h.2.1.c4) (fun _ h => h.2.1.rv)) ?_
  refine so (step_call1 E0.out rfl (.inl rfl) (Arg.t 2 rfl) (fun u w _ h1 => (HD2.out _ _ h1).out)) ?_
  refine sa (step_alZ (B := W0.heap.size) rfl (.inl rfl) (fun _ h => h.2.2.2.size) (fun _ _ h => h)) ?_
  refine sa (step_alZ (B := W0.heap.size) rfl (.inl rfl) (fun _ h => h.2.2.2.size) (fun _ _ h => h)) ?_
  trivial
 intro v1 W1 hk hdf hs
 simp only [putV, Act.put, List.setIfInBounds_toArray, List.set_cons_zero, List.set_cons_succ, Nat.reduceAdd]
 have a_5 : (Fct.zb W0.heap.size).R (v1 4) W1 := hk 4 _ (by decide) rfl
 refine Fct.zb_elim a_5 ?_
 intro q_5 e_5 g_5 k_5
 have a_6 : (Fct.zb W0.heap.size).R (v1 5) W1 := hk 5 _ (by decide) rfl
 refine Fct.zb_elim a_6 ?_
 intro q_6 e_6 g_6 k_6
 have N_5_6 := Lib.hid (show q_5 ≠ q_6 from fun h => hdf 4 5 _ _ (by decide) (by decide) (by decide) rfl rfl rfl rfl (by rw [e_5, e_6, h]))
 have k_11 : (Fct.z (d1)).R (v1 1) W1 := hk 1 _ (by decide) rfl
 have k_13 : (Fct.z (d2)).R (v1 3) W1 := hk 3 _ (by decide) rfl
 clear hk hdf
 simp only [e_5, e_6]
 have B1_0 := Below.trans HE.out.2.2.2 (hs.2.2.2.mono HE.out.2.2.2.size)
 have N_2_5 := Lib.hid (Nat.ne_of_lt (Nat.lt_of_lt_of_le L1.out.1 g_5))
 have N_3_5 := Lib.hid (Nat.ne_of_lt (Nat.lt_of_lt_of_le L1.out.2.1 g_5))
 have N_4_5 := Lib.hid (Nat.ne_of_lt (Nat.lt_of_lt_of_le L1.out.2.2.1 g_5))
 have G_5 := Lib.hid (show w.heap.size ≤ q_5 from Nat.le_trans HE.out.2.2.2.size g_5)
 have N_2_6 := Lib.hid (Nat.ne_of_lt (Nat.lt_of_lt_of_le L1.out.1 g_6))
 have N_3_6 := Lib.hid (Nat.ne_of_lt (Nat.lt_of_lt_of_le L1.out.2.1 g_6))
 have N_4_6 := Lib.hid (Nat.ne_of_lt (Nat.lt_of_lt_of_le L1.out.2.2.1 g_6))
 have G_6 := Lib.hid (show w.heap.size ≤ q_6 from Nat.le_trans HE.out.2.2.2.size g_6)
 refine tail_stZ (q := q_5) rfl rfl rfl rfl k_5 k_11 ?_
 intro W1_1 x5bs x5bt n_5_1 s_5_1
 have m_2_1 := (hs.1).stq s_5_1 N_2_5.out
 have m_3_1 := (hs.2.1).stq s_5_1 N_3_5.out
 have m_4_1 := (hs.2.2.1).stq s_5_1 N_4_5.out
 have m_6_1 := (k_6).stq s_5_1 (N_5_6.out.symm)
 have k_13_1 : (Fct.z (d2)).R _ _ := IntV.stq k_13 s_5_1
 have B1_1 := s_5_1.below w.heap.size w G_5.out B1_0
 refine tail_stZ (q := q_6) rfl rfl rfl rfl m_6_1 k_13_1 ?_
 intro W1_2 x6bs x6bt n_6_2 s_6_2
 have m_2_2 := (m_2_1).stq s_6_2 N_2_6.out
 have m_3_2 := (m_3_1).stq s_6_2 N_3_6.out
 have m_4_2 := (m_4_1).stq s_6_2 N_4_6.out
 have m_5_2 := (n_5_1).stq s_6_2 N_5_6.out
 have B1_2 := s_6_2.below w.heap.size w G_6.out B1_1
 refine tail_nil ?_
 have HS1 := Lib.hid (And.intro (m_2_2) (And.intro (m_3_2) (And.intro (m_4_2) (And.intro (m_5_2) (And.intro (n_6_2) (B1_2))))))
 clear hs L1 HE B1_0 B1_1 B1_2 k_11 k_13 n_5_1 s_5_1 m_2_1 m_3_1 m_4_1 m_6_1 k_13_1 n_6_2 s_6_2 m_2_2 m_3_2 m_4_2 m_5_2 e_5 g_5 k_5 e_6 g_6 k_6 a_5 a_6
 go_upto_region 2 with fail
 have L2 := Lib.hid (And.intro (HS1.out.1.lt) (And.intro (HS1.out.2.1.lt) (And.intro (HS1.out.2.2.1.lt) (And.intro (HS1.out.2.2.2.1.lt) (And.intro (HS1.out.2.2.2.2.1.lt) (trivial))))))
 refine wp_region_fl 10 ((Fct.v (.pointer (some ⟨w.heap.size, 0, none⟩))) :: (Fct.z (n1)) :: (Fct.z (d2)) :: (Fct.z (f)) :: (Fct.v (.pointer (some ⟨(w.heap.size + 1), 0, none⟩))) :: (Fct.z (n2)) :: (Fct.z (d1)) :: (Fct.z (s)) :: (Fct.zb W1_2.heap.size) :: (Fct.zb W1_2.heap.size) :: []) (fun W => PX w.heap.size y2s y2t y2u y2v (n1) (d1) W ∧ PX (w.heap.size + 1) y3s y3t y3u y3v (n2) (d2) W ∧ PX (w.heap.size + 1 + 1) y4s y4t y4u y4v (0) (1) W ∧ BX q_5 x5bs x5bt (d1) W ∧ BX q_6 x6bs x6bt (d2) W ∧ Below W1_2.heap.size W1_2 W) (true :: false :: false :: false :: true :: false :: false :: false :: false :: false :: []) (some 14 :: some 15 :: some 16 :: some 17 :: some 18 :: some 19 :: some 20 :: some 21 :: some 7 :: some 8 :: []) (fun _ _ h hb => ⟨h.1.keep hb, h.2.1.keep hb, h.2.2.1.keep hb, h.2.2.2.1.keep hb, h.2.2.2.2.1.keep hb, Below.trans h.2.2.2.2.2 (hb.mono h.2.2.2.2.2.size)⟩) ⟨HS1.out.1, HS1.out.2.1, HS1.out.2.2.1, HS1.out.2.2.2.1, HS1.out.2.2.2.2.1, Below.refl _ _⟩ ?_ ?_
 ·refine sy (sty_faP0 (p := w.heap.size) rfl (.inl rfl) Arg.od) ?_
  refine so (step_ldZ0 (b := w.heap.size) rfl (.inl rfl) (Arg.t 0 rfl) (fun _ h => ⟨h.1.c0, h.1.c1⟩) (fun _ h => h.1.rv.ints.1)) ?_
  refine so (step_ldZ0 (b := q_6) rfl (.inl rfl) Arg.od (fun _ h => ⟨h.2.2.2.2.1.c0, h.2.2.2.2.1.c1⟩) (fun _ h => h.2.2.2.2.1.iv)) ?_
  refine so (step_call2 E1.out rfl (.inl rfl) (Arg.t 1 rfl) (Arg.t 2 rfl) (fun u v w _ h1 h2 => (HG1.out _ _ _ h1 h2).out)) ?_
  refine sy (sty_faP0 (p := (w.heap.size + 1)) rfl (.inl rfl) Arg.od) ?_
  refine so (step_ldZ0 (b := (w.heap.size + 1)) rfl (.inl rfl) (Arg.t 4 rfl) (fun _ h => ⟨h.2.1.c0, h.2.1.c1⟩) (fun _ h => h.2.1.rv.ints.1)) ?_
  refine so (step_ldZ0 (b := q_5) rfl (.inl rfl) Arg.od (fun _ h => ⟨h.2.2.2.1.c0, h.2.2.2.1.c1⟩) (fun _ h => h.2.2.2.1.iv)) ?_
  refine so (step_call2 E1.out rfl (.inl rfl) (Arg.t 5 rfl) (Arg.t 6 rfl) (fun u v w _ h1 h2 => (HG2.out _ _ _ h1 h2).out)) ?_
  refine sa (step_alZ (B := W1_2.heap.size) rfl (.inl rfl) (fun _ h => h.2.2.2.2.2.size) (fun _ _ h => h)) ?_
  refine sa (step_alZ (B := W1_2.heap.size) rfl (.inl rfl) (fun _ h => h.2.2.2.2.2.size) (fun _ _ h => h)) ?_
  trivial
 intro v2 W2 hk hdf hs
 simp only [putV, Act.put, List.setIfInBounds_toArray, List.set_cons_zero, List.set_cons_succ, Nat.reduceAdd]
 have a_7 : (Fct.zb W1_2.heap.size).R (v2 8) W2 := hk 8 _ (by decide) rfl
 refine Fct.zb_elim a_7 ?_
 intro q_7 e_7 g_7 k_7
 have a_8 : (Fct.zb W1_2.heap.size).R (v2 9) W2 := hk 9 _ (by decide) rfl
 refine Fct.zb_elim a_8 ?_
 intro q_8 e_8 g_8 k_8
 have N_7_8 := Lib.hid (show q_7 ≠ q_8 from fun h => hdf 8 9 _ _ (by decide) (by decide) (by decide) rfl rfl rfl rfl (by rw [e_7, e_8, h]))
 have k_17 : (Fct.z (f)).R (v2 3) W2 := hk 3 _ (by decide) rfl
 have k_21 : (Fct.z (s)).R (v2 7) W2 := hk 7 _ (by decide) rfl
 clear hk hdf
 simp only [e_7, e_8]
 have B2_0 := Below.trans HS1.out.2.2.2.2.2 (hs.2.2.2.2.2.mono HS1.out.2.2.2.2.2.size)
 have N_2_7 := Lib.hid (Nat.ne_of_lt (Nat.lt_of_lt_of_le L2.out.1 g_7))
 have N_3_7 := Lib.hid (Nat.ne_of_lt (Nat.lt_of_lt_of_le L2.out.2.1 g_7))
 have N_4_7 := Lib.hid (Nat.ne_of_lt (Nat.lt_of_lt_of_le L2.out.2.2.1 g_7))
 have N_5_7 := Lib.hid (Nat.ne_of_lt (Nat.lt_of_lt_of_le L2.out.2.2.2.1 g_7))
 have N_6_7 := Lib.hid (Nat.ne_of_lt (Nat.lt_of_lt_of_le L2.out.2.2.2.2.1 g_7))
 have G_7 := Lib.hid (show w.heap.size ≤ q_7 from Nat.le_trans HS1.out.2.2.2.2.2.size g_7)
 have N_2_8 := Lib.hid (Nat.ne_of_lt (Nat.lt_of_lt_of_le L2.out.1 g_8))
 have N_3_8 := Lib.hid (Nat.ne_of_lt (Nat.lt_of_lt_of_le L2.out.2.1 g_8))
 have N_4_8 := Lib.hid (Nat.ne_of_lt (Nat.lt_of_lt_of_le L2.out.2.2.1 g_8))
 have N_5_8 := Lib.hid (Nat.ne_of_lt (Nat.lt_of_lt_of_le L2.out.2.2.2.1 g_8))
 have N_6_8 := Lib.hid (Nat.ne_of_lt (Nat.lt_of_lt_of_le L2.out.2.2.2.2.1 g_8))
 have G_8 := Lib.hid (show w.heap.size ≤ q_8 from Nat.le_trans HS1.out.2.2.2.2.2.size g_8)
 refine tail_stZ (q := q_7) rfl rfl rfl rfl k_7 k_17 ?_
 intro W2_1 x7cs x7ct n_7_1 s_7_1
 have m_2_1 := (hs.1).stq s_7_1 N_2_7.out
 have m_3_1 := (hs.2.1).stq s_7_1 N_3_7.out
 have m_4_1 := (hs.2.2.1).stq s_7_1 N_4_7.out
 have m_5_1 := (hs.2.2.2.1).stq s_7_1 N_5_7.out
 have m_6_1 := (hs.2.2.2.2.1).stq s_7_1 N_6_7.out
 have m_8_1 := (k_8).stq s_7_1 (N_7_8.out.symm)
 have k_21_1 : (Fct.z (s)).R _ _ := IntV.stq k_21 s_7_1
 have B2_1 := s_7_1.below w.heap.size w G_7.out B2_0
 refine tail_stZ (q := q_8) rfl rfl rfl rfl m_8_1 k_21_1 ?_
 intro W2_2 x8cs x8ct n_8_2 s_8_2
 have m_2_2 := (m_2_1).stq s_8_2 N_2_8.out
 have m_3_2 := (m_3_1).stq s_8_2 N_3_8.out
 have m_4_2 := (m_4_1).stq s_8_2 N_4_8.out
 have m_5_2 := (m_5_1).stq s_8_2 N_5_8.out
 have m_6_2 := (m_6_1).stq s_8_2 N_6_8.out
 have m_7_2 := (n_7_1).stq s_8_2 N_7_8.out
 have B2_2 := s_8_2.below w.heap.size w G_8.out B2_1
 refine tail_nil ?_
 have HS2 := Lib.hid (And.intro (m_2_2) (And.intro (m_3_2) (And.intro (m_4_2) (And.intro (m_5_2) (And.intro (m_6_2) (And.intro (m_7_2) (And.intro (n_8_2) (B2_2))))))))
 clear hs L2 HS1 B2_0 B2_1 B2_2 k_17 k_21 n_7_1 s_7_1 m_2_1 m_3_1 m_4_1 m_5_1 m_6_1 m_8_1 k_21_1 n_8_2 s_8_2 m_2_2 m_3_2 m_4_2 m_5_2 m_6_2 m_7_2 e_7 g_7 k_7 e_8 g_8 k_8 a_7 a_8
 go_upto_region 3 with fail
 have L3 := Lib.hid (And.intro (HS2.out.1.lt) (And.intro (HS2.out.2.1.lt) (And.intro (HS2.out.2.2.1.lt) (And.intro (HS2.out.2.2.2.1.lt) (And.intro (HS2.out.2.2.2.2.1.lt) (And.intro (HS2.out.2.2.2.2.2.1.lt) (And.intro (HS2.out.2.2.2.2.2.2.1.lt) (trivial))))))))
 refine wp_region_fl 10 ((Fct.v (.pointer (some ⟨w.heap.size, 0, none⟩))) :: (Fct.z (n1)) :: (Fct.z (f)) :: (Fct.z (x1)) :: (Fct.v (.pointer (some ⟨(w.heap.size + 1), 0, none⟩))) :: (Fct.z (n2)) :: (Fct.z (s)) :: (Fct.z (x2)) :: (Fct.z (m1)) :: (Fct.zb W2_2.heap.size) :: []) (fun W => PX w.heap.size y2s y2t y2u y2v (n1) (d1) W ∧ PX (w.heap.size + 1) y3s y3t y3u y3v (n2) (d2) W ∧ PX (w.heap.size + 1 + 1) y4s y4t y4u y4v (0) (1) W ∧ BX q_5 x5bs x5bt (d1) W ∧ BX q_6 x6bs x6bt (d2) W ∧ BX q_7 x7cs x7ct (f) W ∧ BX q_8 x8cs x8ct (s) W ∧ Below W2_2.heap.size W2_2 W) (true :: false :: false :: false :: true :: false :: false :: false :: false :: false :: []) (some 22 :: some 23 :: some 24 :: some 25 :: some 26 :: some 27 :: some 28 :: some 29 :: some 30 :: some 9 :: []) (fun _ _ h hb => ⟨h.1.keep hb, h.2.1.keep hb, h.2.2.1.keep hb, h.2.2.2.1.keep hb, h.2.2.2.2.1.keep hb, h.2.2.2.2.2.1.keep hb, h.2.2.2.2.2.2.1.keep hb, Below.trans h.2.2.2.2.2.2.2 (hb.mono h.2.2.2.2.2.2.2.size)⟩) ⟨HS2.out.1, HS2.out.2.1, HS2.out.2.2.1, HS2.out.2.2.2.1, HS2.out.2.2.2.2.1, HS2.out.2.2.2.2.2.1, HS2.out.2.2.2.2.2.2.1, Below.refl _ _⟩ ?_ ?_
 ·refine sy (sty_faP0 (p := w.heap.size) rfl (.inl rfl) Arg.od) ?_
  refine so (step_ldZ0 (b := w.heap.size) rfl (.inl rfl) (Arg.t 0 rfl) (fun _ h => ⟨h.1.c0, h.1.c1⟩) (fun _ h => h.1.rv.ints.1)) ?_
  refine so (step_ldZ0 (b := q_7) rfl (.inl rfl) Arg.od (fun _ h => ⟨h.2.2.2.2.2.1.c0, h.2.2.2.2.2.1.c1⟩) (fun _ h => h.2.2.2.2.2.1.iv)) ?_
  refine so (step_call2 E2.out rfl (.inl rfl) (Arg.t 1 rfl) (Arg.t 2 rfl) (fun u v w _ h1 h2 => (HO1.out _ _ _ h1 h2).out)) ?_
  refine sy (sty_faP0 (p := (w.heap.size + 1)) rfl (.inl rfl) Arg.od) ?_
  refine so (step_ldZ0 (b := (w.heap.size + 1)) rfl (.inl rfl) (Arg.t 4 rfl) (fun _ h => ⟨h.2.1.c0, h.2.1.c1⟩) (fun _ h => h.2.1.rv.ints.1)) ?_
  refine so (step_ldZ0 (b := q_8) rfl (.inl rfl) Arg.od (fun _ h => ⟨h.2.2.2.2.2.2.1.c0, h.2.2.2.2.2.2.1.c1⟩) (fun _ h => h.2.2.2.2.2.2.1.iv)) ?_
  refine so (step_call2 E2.out rfl (.inl rfl) (Arg.t 5 rfl) (Arg.t 6 rfl) (fun u v w _ h1 h2 => (HO2.out _ _ _ h1 h2).out)) ?_
  refine so (step_call2 E3.out rfl (.inl rfl) (Arg.t 3 rfl) (Arg.t 7 rfl) (fun u v w _ h1 h2 => (HM1.out _ _ _ h1 h2).out)) ?_
  refine sa (step_alZ (B := W2_2.heap.size) rfl (.inl rfl) (fun _ h => h.2.2.2.2.2.2.2.size) (fun _ _ h => h)) ?_
  trivial
 intro v3 W3 hk hdf hs
 simp only [putV, Act.put, List.setIfInBounds_toArray, List.set_cons_zero, List.set_cons_succ, Nat.reduceAdd]
 have a_9 : (Fct.zb W2_2.heap.size).R (v3 9) W3 := hk 9 _ (by decide) rfl
 refine Fct.zb_elim a_9 ?_
 intro q_9 e_9 g_9 k_9
 have k_30 : (Fct.z (m1)).R (v3 8) W3 := hk 8 _ (by decide) rfl
 clear hk hdf
 simp only [e_9]
 have B3_0 := Below.trans HS2.out.2.2.2.2.2.2.2 (hs.2.2.2.2.2.2.2.mono HS2.out.2.2.2.2.2.2.2.size)
 have N_2_9 := Lib.hid (Nat.ne_of_lt (Nat.lt_of_lt_of_le L3.out.1 g_9))
 have N_3_9 := Lib.hid (Nat.ne_of_lt (Nat.lt_of_lt_of_le L3.out.2.1 g_9))
 have N_4_9 := Lib.hid (Nat.ne_of_lt (Nat.lt_of_lt_of_le L3.out.2.2.1 g_9))
 have N_5_9 := Lib.hid (Nat.ne_of_lt (Nat.lt_of_lt_of_le L3.out.2.2.2.1 g_9))
 have N_6_9 := Lib.hid (Nat.ne_of_lt (Nat.lt_of_lt_of_le L3.out.2.2.2.2.1 g_9))
 have N_7_9 := Lib.hid (Nat.ne_of_lt (Nat.lt_of_lt_of_le L3.out.2.2.2.2.2.1 g_9))
 have N_8_9 := Lib.hid (Nat.ne_of_lt (Nat.lt_of_lt_of_le L3.out.2.2.2.2.2.2.1 g_9))
 have G_9 := Lib.hid (show w.heap.size ≤ q_9 from Nat.le_trans HS2.out.2.2.2.2.2.2.2.size g_9)
 refine tail_stZ (q := q_9) rfl rfl rfl rfl k_9 k_30 ?_
 intro W3_1 x9ds x9dt n_9_1 s_9_1
 have m_2_1 := (hs.1).stq s_9_1 N_2_9.out
 have m_3_1 := (hs.2.1).stq s_9_1 N_3_9.out
 have m_4_1 := (hs.2.2.1).stq s_9_1 N_4_9.out
 have m_5_1 := (hs.2.2.2.1).stq s_9_1 N_5_9.out
 have m_6_1 := (hs.2.2.2.2.1).stq s_9_1 N_6_9.out
 have m_7_1 := (hs.2.2.2.2.2.1).stq s_9_1 N_7_9.out
 have m_8_1 := (hs.2.2.2.2.2.2.1).stq s_9_1 N_8_9.out
 have B3_1 := s_9_1.below w.heap.size w G_9.out B3_0
 refine tail_nil ?_
 have HS3 := Lib.hid (And.intro (m_2_1) (And.intro (m_3_1) (And.intro (m_4_1) (And.intro (m_5_1) (And.intro (m_6_1) (And.intro (m_7_1) (And.intro (m_8_1) (And.intro (n_9_1) (B3_1)))))))))
 clear hs L3 HS2 B3_0 B3_1 k_30 n_9_1 s_9_1 m_2_1 m_3_1 m_4_1 m_5_1 m_6_1 m_7_1 m_8_1 e_9 g_9 k_9 a_9
 go_upto_region 4 with fail
 refine wp_region_fl 9 ((Fct.z (m1)) :: (Fct.z (d1)) :: (Fct.z (s)) :: (Fct.z (y1)) :: (Fct.z (d2)) :: (Fct.z (f)) :: (Fct.z (y2)) :: (Fct.z (m2)) :: (Fct.p (m1) (m2)) :: []) (fun W => PX w.heap.size y2s y2t y2u y2v (n1) (d1) W ∧ PX (w.heap.size + 1) y3s y3t y3u y3v (n2) (d2) W ∧ PX (w.heap.size + 1 + 1) y4s y4t y4u y4v (0) (1) W ∧ BX q_5 x5bs x5bt (d1) W ∧ BX q_6 x6bs x6bt (d2) W ∧ BX q_7 x7cs x7ct (f) W ∧ BX q_8 x8cs x8ct (s) W ∧ BX q_9 x9ds x9dt (m1) W ∧ Below W3_1.heap.size W3_1 W) (false :: false :: false :: false :: false :: false :: false :: false :: false :: []) (some 31 :: some 32 :: some 33 :: some 34 :: some 35 :: some 36 :: some 37 :: some 38 :: some 39 :: []) (fun _ _ h hb => ⟨h.1.keep hb, h.2.1.keep hb, h.2.2.1.keep hb, h.2.2.2.1.keep hb, h.2.2.2.2.1.keep hb, h.2.2.2.2.2.1.keep hb, h.2.2.2.2.2.2.1.keep hb, h.2.2.2.2.2.2.2.1.keep hb, Below.trans h.2.2.2.2.2.2.2.2 (hb.mono h.2.2.2.2.2.2.2.2.size)⟩) ⟨HS3.out.1, HS3.out.2.1, HS3.out.2.2.1, HS3.out.2.2.2.1, HS3.out.2.2.2.2.1, HS3.out.2.2.2.2.2.1, HS3.out.2.2.2.2.2.2.1, HS3.out.2.2.2.2.2.2.2.1, Below.refl _ _⟩ ?_ ?_
 ·refine so (step_ldZ0 (b := q_9) rfl (.inl rfl) Arg.od (fun _ h => ⟨h.2.2.2.2.2.2.2.1.c0, h.2.2.2.2.2.2.2.1.c1⟩) (fun _ h => h.2.2.2.2.2.2.2.1.iv)) ?_
  refine so (step_ldZ0 (b := q_5) rfl (.inl rfl) Arg.od (fun _ h => ⟨h.2.2.2.1.c0, h.2.2.2.1.c1⟩) (fun _ h => h.2.2.2.1.iv)) ?_
  refine so (step_ldZ0 (b := q_8) rfl (.inl rfl) Arg.od (fun _ h => ⟨h.2.2.2.2.2.2.1.c0, h.2.2.2.2.2.2.1.c1⟩) (fun _ h => h.2.2.2.2.2.2.1.iv)) ?_
  refine so (step_call2 E2.out rfl (.inl rfl) (Arg.t 1 rfl) (Arg.t 2 rfl) (fun u v w _ h1 h2 => (HO3.out _ _ _ h1 h2).out)) ?_
  refine so (step_ldZ0 (b := q_6) rfl (.inl rfl) Arg.od (fun _ h => ⟨h.2.2.2.2.1.c0, h.2.2.2.2.1.c1⟩) (fun _ h => h.2.2.2.2.1.iv)) ?_
  refine so (step_ldZ0 (b := q_7) rfl (.inl rfl) Arg.od (fun _ h => ⟨h.2.2.2.2.2.1.c0, h.2.2.2.2.2.1.c1⟩) (fun _ h => h.2.2.2.2.2.1.iv)) ?_
  refine so (step_call2 E2.out rfl (.inl rfl) (Arg.t 4 rfl) (Arg.t 5 rfl) (fun u v w _ h1 h2 => (HO4.out _ _ _ h1 h2).out)) ?_
  refine so (step_call2 E3.out rfl (.inl rfl) (Arg.t 3 rfl) (Arg.t 6 rfl) (fun u v w _ h1 h2 => (HM2.out _ _ _ h1 h2).out)) ?_
  refine so (step_call2 E4.out rfl (.inl rfl) (Arg.t 0 rfl) (Arg.t 7 rfl) (fun u v w _ h1 h2 => (HL.out _ _ _ h1 h2).out)) ?_
  trivial
 intro v4 W4 hk hdf hs
 simp only [putV, Act.put, List.setIfInBounds_toArray, List.set_cons_zero, List.set_cons_succ, Nat.reduceAdd]
 have k_39 : (Fct.p (m1) (m2)).R (v4 8) W4 := hk 8 _ (by decide) rfl
 clear hk hdf
 have B4_0 := Below.trans HS3.out.2.2.2.2.2.2.2.2 (hs.2.2.2.2.2.2.2.2.mono HS3.out.2.2.2.2.2.2.2.2.size)
 refine tail_stP (q := (w.heap.size + 1 + 1)) rfl rfl rfl rfl hs.2.2.1 k_39 ?_
 intro W4_1 x4es x4et x4eu x4ev n_4_1 s_4_1
 have m_2_1 := (hs.1).stq s_4_1 N_2_4.out
 have m_3_1 := (hs.2.1).stq s_4_1 N_3_4.out
 have m_5_1 := (hs.2.2.2.1).stq s_4_1 (N_4_5.out.symm)
 have m_6_1 := (hs.2.2.2.2.1).stq s_4_1 (N_4_6.out.symm)
 have m_7_1 := (hs.2.2.2.2.2.1).stq s_4_1 (N_4_7.out.symm)
 have m_8_1 := (hs.2.2.2.2.2.2.1).stq s_4_1 (N_4_8.out.symm)
 have m_9_1 := (hs.2.2.2.2.2.2.2.1).stq s_4_1 (N_4_9.out.symm)
 have B4_1 := s_4_1.below w.heap.size w G_4.out B4_0
 refine tail_nil ?_
 have HS4 := Lib.hid (And.intro (m_2_1) (And.intro (m_3_1) (And.intro (n_4_1) (And.intro (m_5_1) (And.intro (m_6_1) (And.intro (m_7_1) (And.intro (m_8_1) (And.intro (m_9_1) (B4_1)))))))))
 clear hs HS3 B4_0 B4_1 k_39 n_4_1 s_4_1 m_2_1 m_3_1 m_5_1 m_6_1 m_7_1 m_8_1 m_9_1
 have hr := HS4.out.2.2.1
 have hbl := HS4.out.2.2.2.2.2.2.2.2
 have r0 := hr.c0
 have r1 := hr.c1
 have r2 := hr.c2
 have r3 := hr.c3
 clear HS4
 have HR := Lib.hid hr.rv
 have HBL := Lib.hid hbl
 clear hr hbl
 go_wp2_with fail
 refine bodyPost_ret (v := .agg #[x4es, x4et, x4eu, x4ev]) (by simp [results, Tryz.results44, go_sem, r0, r1, r2, r3]) rfl ⟨_, rfl, HR.out, HBL.out⟩
end
end Go.Proofs.YtghgcbedajaldaaGreat
