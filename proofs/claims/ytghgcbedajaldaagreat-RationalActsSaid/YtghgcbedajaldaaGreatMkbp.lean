/-  S6  -/
import Derived.Test.YtghgcbedajaldaaGreatMkaz
import Derived.Test.YtghgcbedajaldaaGreatMkbn
import Derived.Test.YtghgcbedajaldaaGreatMkbo
/-  The reference's Power and Root of fractions.  -/
namespace Go.Proofs.YtghgcbedajaldaaGreat
section
open Go.RowKit Digs
theorem root_bdS8 {k m r : Nat} (h : Bd k (m : Int)) (hr : r * r ≤ m) : Bd k (r : Int) := by
 unfold Bd at *
 rw [Int.natAbs_natCast] at *
 refine Nat.lt_of_le_of_lt ?_ h
 rcases Nat.eq_zero_or_pos r with h0 | h0
 ·omega
 ·exact Nat.le_trans (Nat.le_mul_of_pos_left r h0) hr
set_option maxHeartbeats 2000000 in
set_option maxRecDepth 100000 in
theorem rPower_run4 (x : Int) (v : Value) (n : Nat) (w : World) (hx : 2 ≤ bl x.natAbs) (hB : Bd 4 x) (h : RefV w v x) (hn : n ≤ 20) :
  Calls Tryz.prog 94 #[v, .int .i64 (n : Int)] w (RefOK w (x ^ n)) := by
 have hl : rlen x ≤ 1000000 := rlen_bd hB (by decide)
 have HW := fun W hw => Lib.hid (width_any x v W hl (h.keep (w' := W) hw))
 have HN := fun W => Lib.hid (rnew_any 1 W (by decide) (by decide))
 have HM := fun k vk W (hk : k ≤ 20) hi hw => Lib.hid (show Calls Tryz.prog 89 #[vk, v] W (RefPost W (x ^ (k + 1))) from by rw [Int.pow_succ]; exact rMul_any (x ^ k) x vk v W (rlen_bd (hB.pow' k) (by omega)) hl hi (h.keep (w' := W) hw))
 have HV := fun k vk W (hk : k ≤ 21) hi => Lib.hid (width_any (x ^ k) vk W (rlen_bd (hB.pow' k) (by omega)) hi)
 have HL := fun k vk W (hk : k ≤ 21) hi => Lib.hid (rLength_any (x ^ k) vk W (rlen_bd (hB.pow' k) (by omega)) hi)
 have HBV : Hid (∀ k, k ≤ 21 → bl (x ^ k).natAbs ≤ 2720) := Lib.hid fun k hk => by have := bl_bd (hB.pow' k); omega
 have HBL : Hid (∀ k, k ≤ 21 → lenZ (x ^ k) ≤ 2720) := Lib.hid fun k hk => lenZ_bda (hB.pow' k) (by omega)
 have HW := Lib.hid HW
 have HN := Lib.hid HN
 have HM := Lib.hid HM
 have HV := Lib.hid HV
 have HL := Lib.hid HL
 have h' := h
 obtain ⟨ad, k, c, rfl, hr⟩ := h
 have HX := Lib.hid h'
 have HXN := Lib.hid (rfl : decide (x < 0) = decide (x < 0))
 clear hr h' hl
 generalize hb : decide (x < 0) = b at *
 clear hb HXN
 go_enter Tryz.func94, Tryz.ntmps94
 have KX0 : Hid (RX w.heap.size (.bool b) (.slice ad k c) x (w.alloc (.cells #[.bool b, .slice ad k c] 34))) := Lib.hid (RX.made HX.out)
 have KR0 : Hid (RX (w.heap.size + 1) (.bool false) (.slice none 0 0) 0 ((w.alloc (.cells #[.bool b, .slice ad k c] 34)).alloc (.cells #[.bool false, .slice none 0 0] 34))) := Lib.hid (by
  have h := RX.made (t := 34) (RefV.zero0 (w.alloc (.cells #[.bool b, .slice ad k c] 34)))
  rw [World.size_alloc] at h
  exact h)
 go_wp2_with fail
 (with_reducible refine (HN.out _).out.mono ?_)
 rintro e w1 ⟨v1, rfl, ⟨d1, n1, e1, rfl, hr1⟩, hb1⟩
 have kx1 := (KX0.out.keep ((Below.refl _ _).alloc (Nat.le_refl _) _)).keep hb1
 have kr1 := KR0.out.keep hb1
 have ho1 : RefV w1 (.agg #[.bool (decide ((1 : Int) < 0)), .slice d1 n1 e1]) 1 := ⟨_, _, _, rfl, hr1⟩
 have HW1 := Lib.hid ((below2 w _ _).trans (hb1.mono (by simp <;> omega)))
 have HO1 := Lib.hid kr1.lt
 have hal := (Below.refl _ w1).alloc (Nat.le_refl _) (.cells #[.bool (decide ((1 : Int) < 0)), .slice d1 n1 e1] 34)
 have HW2 := Lib.hid (HW1.out.alloc HW1.out.size (.cells #[.bool (decide ((1 : Int) < 0)), .slice d1 n1 e1] 34))
 have ko2 := RX.made (t := 34) ho1
 have kx2 := kx1.keep hal
 have kr2 := kr1.keep hal
 have gx0 := kx2.c0
 have gx1 := kx2.c1
 clear hr1 hb1 kx1 kr1 ho1 hal
 generalize decide ((1 : Int) < 0) = b1 at *
 go_wp2_with fail
 (with_reducible refine (HW.out _ HW2.out).out.mono ?_)
 rintro e w3 ⟨rfl, hb3⟩
 have HW3 := Lib.hid (HW2.out.trans (hb3.mono HW2.out.size))
 have ko := ko2.keep hb3
 have kx := kx2.keep hb3
 have kr := kr2.keep hb3
 clear ko2 kx2 kr2 hb3 gx0 gx1
 have hx1 : ¬ ((bl x.natAbs : Nat) : Int) ≤ 1 := by omega
 generalize bl x.natAbs = bx at *
 have HK := Lib.hid (And.intro ko (And.intro kx kr))
 have hne1 : w1.heap.size ≠ w.heap.size + 1 := fun h => by have h1 := HO1.out; omega
 have hne2 : w1.heap.size ≠ w.heap.size := fun h => by have h1 := HO1.out; omega
 have hne3 : w.heap.size + 1 ≠ w.heap.size := by omega
 clear ko kx kr
 go_wp2_with fail
 go_loopw [7] (RPowRel w w.heap.size (w.heap.size + 1) w1.heap.size n x (.bool b) (.slice ad k c)) (fun i _ => n - (intOf i).toNat)
 case atStart => exact ⟨0, _, _, _, _, Nat.zero_le _, rfl, HK.out.2.1, HK.out.2.2, by rw [Int.pow_zero]; exact HK.out.1, HW3.out⟩
 case round =>
  obtain ⟨i, bo, d, m, co, hi, rfl, kx, kr, ko, hbw⟩ := hrel
  have HBW := Lib.hid hbw
  have gx0 := kx.c0
  have gx1 := kx.c1
  have go0 := ko.c0
  have go1 := ko.c1
  have gf0 := ko.f0
  have gf1 := ko.f1
  have HKO := Lib.hid ko
  have HKX := Lib.hid kx
  have HKR := Lib.hid kr
  clear kx kr ko hbw
  by_cases hin : i < n
  ·go_wp2_with fail
   (with_reducible refine (HM.out i _ _ (by omega) HKO.out.rv HBW.out).out.mono ?_)
   rintro e w4 ⟨v4, rfl, ⟨d4, m4, c4, rfl, hr4⟩, hb4⟩
   have ko4 := HKO.out.keep hb4
   have HX4 := Lib.hid (HKX.out.keep hb4)
   have HR4 := Lib.hid (HKR.out.keep hb4)
   have HI4 := Lib.hid (show RefV w4 (.agg #[.bool (decide (x ^ (i + 1) < 0)), .slice d4 m4 c4]) (x ^ (i + 1)) from ⟨_, _, _, rfl, hr4⟩)
   have HW4 := Lib.hid (HBW.out.trans (hb4.mono HBW.out.size))
   have HO4 := Lib.hid ko4
   have go40 := ko4.c0
   have go41 := ko4.c1
   have gf40 := ko4.f0
   have gf41 := ko4.f1
   clear ko4 hb4 hr4 gx0 gx1 go0 go1 gf0 gf1
   generalize decide (x ^ (i + 1) < 0) = b4 at *
   have HO5 := Lib.hid (HO4.out.mine HI4.out)
   have HX5 := Lib.hid (HX4.out.other HO4.out.c0 HO4.out.c1 hne2.symm (.bool b4) (.slice d4 m4 c4))
   have HR5 := Lib.hid (HR4.out.other HO4.out.c0 HO4.out.c1 hne1.symm (.bool b4) (.slice d4 m4 c4))
   have HW5 : Hid (Below w.heap.size w ((w4.setCell ⟨w1.heap.size, 0, none⟩ (.bool b4)).setCell ⟨w1.heap.size, 1, none⟩ (.slice d4 m4 c4))) := Lib.hid ((HW4.out.setCell HW1.out.size _).setCell HW1.out.size _)
   have hbv := HBV.out (i + 1) (by omega)
   go_wp2_with fail
   (with_reducible refine (HV.out (i + 1) _ _ (by omega) HO5.out.rv).out.mono ?_)
   rintro e w6 ⟨rfl, hb6⟩
   have hbv' : ¬ (65537 : Int) < ((bl (x ^ (i + 1)).natAbs : Nat) : Int) := by omega
   have hbv2 : ((bl (x ^ (i + 1)).natAbs : Nat) : Int) ≤ 65537 := by omega
   generalize bl (x ^ (i + 1)).natAbs = B at *
   go_wp2_with fail
   go_roundw
   case rel => exact ⟨i + 1, b4, d4, m4, c4, by omega, by go_num, HX5.out.keep hb6, HR5.out.keep hb6, HO5.out.keep hb6, HW5.out.trans (hb6.mono HW5.out.size)⟩
   case measure => simp [intOf]; omega
  ·obtain rfl : i = n := by omega
   have hbl := HBL.out i (by omega)
   go_wp2_with fail
   (with_reducible refine (HL.out i _ _ (by omega) HKO.out.rv).out.mono ?_)
   rintro e w6 ⟨rfl, hb6⟩
   have hbl' : ¬ (65536 : Int) < ((lenZ (x ^ i) : Nat) : Int) := by omega
   generalize lenZ (x ^ i) = B at *
   have ko6 := HKO.out.keep hb6
   have kr6 := HKR.out.keep hb6
   have HW6 := Lib.hid (HBW.out.trans (hb6.mono HBW.out.size))
   have go60 := ko6.c0
   have go61 := ko6.c1
   have gk60 := kr6.c0
   have gk61 := kr6.c1
   have gr60 := kr6.f0
   have gr61 := kr6.f1
   clear gx0 gx1 go0 go1 gf0 gf1 hb6
   go_wp2_with fail
   refine bodyPost_ret (v := .tuple #[.agg #[.bool bo, .slice d m co], .int .i64 0]) (by simp [results, Tryz.results94, go_sem, kr6.c0, kr6.c1]) rfl ⟨_, rfl, ?_, (HW6.out.setCell (by simp) _).setCell (by simp) _⟩
   exact ko6.rv.store kr6.c0 kr6.c1 _ _
end
section
open Go.RowKit Digs
theorem rPow4 (x : Int) (v : Value) (n : Nat) (w : World) (hB : Bd 4 x) (hn : n < 9223372036854775808) (hs : n ≤ 20 ∨ bl x.natAbs ≤ 1) (h : RefV w v x) :
  Calls Tryz.prog 94 #[v, .int .i64 (n : Int)] w (RefOK w (x ^ n)) := by
 by_cases h1 : bl x.natAbs ≤ 1
 ·exact rPower_unit x v n w h1 h hn
 ·exact rPower_run4 x v n w (by omega) hB h (by omega)
theorem enter2q {w : World} {a b c e : Value} {n d : Int} {t : TypeId} (h1 : RefV w (.agg #[a, b]) n) (h2 : RefV w (.agg #[c, e]) d) :
  (QX w.heap.size a b c e n d ((w.alloc (.cells #[a, b, c, e] t)).alloc (.cells #[.bool false, .slice none 0 0, .bool false, .slice none 0 0] t)) ∧ QX (w.heap.size + 1) (.bool false) (.slice none 0 0) (.bool false) (.slice none 0 0) 0 0 ((w.alloc (.cells #[a, b, c, e] t)).alloc (.cells #[.bool false, .slice none 0 0, .bool false, .slice none 0 0] t)) ∧
  Below w.heap.size w ((w.alloc (.cells #[a, b, c, e] t)).alloc (.cells #[.bool false, .slice none 0 0, .bool false, .slice none 0 0] t))) := by
 have hal : ∀ (W : World) (o : Obj), Below W.heap.size W (W.alloc o) := fun W o => (Below.refl _ _).alloc (Nat.le_refl _) _
 have hx := (QX.made (t := t) h1 h2).keep (hal _ (.cells #[.bool false, .slice none 0 0, .bool false, .slice none 0 0] t))
 have hz := QX.made (w := w.alloc (.cells #[a, b, c, e] t)) (n := 0) (d := 0) (t := t) (rv_nil0 _) (rv_nil0 _)
 simp only [World.size_alloc] at hz
 exact ⟨hx, hz, below2 _ _ _⟩
theorem QX.rv {p : Nat} {a b c e : Value} {n d : Int} {W : World} (h : QX p a b c e n d W) : RQV W (.agg #[a, b, c, e]) n d := h.rq
set_option maxHeartbeats 16000000 in
set_option maxRecDepth 100000 in
theorem rqPower_pos (n d : Int) (k : Nat) (hk : k < 9223372036854775808) (hs1 : k ≤ 20 ∨ bl n.natAbs ≤ 1) (hs2 : k ≤ 20 ∨ bl d.natAbs ≤ 1) (l1 : Bd 4 n) (l2 : Bd 4 d) (v1 : Value) (w : World) (h1 : RQV w v1 n d) : Calls Tryz.prog 33 #[v1, .int .i64 (k : Int)] w (RQRes w (n ^ k) (d ^ k) 0) := by
 have hsg := Lib.hid (show false = decide ((k : Int) < 0) from (decide_eq_false (by omega)).symm)
 have HP1 := Lib.hid fun W u h => Lib.hid (rPow4 n u k W l1 hk hs1 h)
 have HP2 := Lib.hid fun W u h => Lib.hid (rPow4 d u k W l2 hk hs2 h)
 obtain ⟨p1, ad1, k1, c1, p2, ad2, k2, c2, rfl, q1, q2⟩ := rqv_shape h1
 have HE := Lib.hid (enter2q (t := 43) q1 q2)
 clear h1 q1 q2 hk hs1 hs2 l1 l2
 generalize n ^ k = Nk at *
 generalize d ^ k = Dk at *
 generalize (k : Int) = e at *
 have E0 := Lib.hid (enters_of Tryz.func94 (by kernel_rfl))
 go_enter Tryz.func33, Tryz.ntmps33
 go_upto_region 1 with fail
 generalize ((w.alloc (.cells #[.bool p1, .slice ad1 k1 c1, .bool p2, .slice ad2 k2 c2] 43)).alloc (.cells #[.bool false, .slice none 0 0, .bool false, .slice none 0 0] 43)) = W0 at *
 obtain ⟨y2s, y2t, y2u, y2v, y4s, y4t, y4u, y4v, HE⟩ : ∃ y2s y2t y2u y2v y4s y4t y4u y4v : Value, Hid (QX w.heap.size y2s y2t y2u y2v (n) (d) W0 ∧ QX (w.heap.size + 1) y4s y4t y4u y4v (0) (0) W0 ∧ Below w.heap.size w W0) := ⟨_, _, _, _, _, _, _, _, HE⟩
 have N_2_4 := Lib.hid (show w.heap.size ≠ w.heap.size + 1 by omega)
 have G_2 := Lib.hid (show w.heap.size ≤ w.heap.size by omega)
 have G_4 := Lib.hid (show w.heap.size ≤ w.heap.size + 1 by omega)
 go_upto_region 1 with fail
 refine wp_region_fl 2 ((Fct.v (.int .i64 e)) :: (Fct.v (.bool (false))) :: []) (fun W => QX w.heap.size y2s y2t y2u y2v (n) (d) W ∧ QX (w.heap.size + 1) y4s y4t y4u y4v (0) (0) W ∧ Below W0.heap.size W0 W) (true :: true :: []) (some 9 :: some 10 :: []) (fun _ _ h hb => ⟨h.1.keep hb, h.2.1.keep hb, Below.trans h.2.2 (hb.mono h.2.2.size)⟩) ⟨HE.out.1, HE.out.2.1, Below.refl _ _⟩ ?_ ?_
 ·refine sy (sty_move rfl (.inl rfl) Arg.od) ?_
  refine sy (sty_lss (b := (false)) (hsg.out) rfl (.inl rfl) (Arg.t 0 rfl) (Arg.const _)) ?_
  trivial
 intro v1 W1 hk hdf hs
 simp only [putV, Act.put, List.setIfInBounds_toArray, List.set_cons_zero, List.set_cons_succ, Nat.reduceAdd]
 have f_9 : v1 0 = .int .i64 e := hk 0 _ (by decide) rfl
 have f_10 : v1 1 = .bool (false) := hk 1 _ (by decide) rfl
 clear hk hdf
 simp only [f_9, f_10]
 have B1_0 := Below.trans HE.out.2.2 (hs.2.2.mono HE.out.2.2.size)
 refine tail_nil ?_
 have HS1 := Lib.hid (And.intro (hs.1) (And.intro (hs.2.1) (B1_0)))
 clear hs HE B1_0 f_9 f_10
 go_upto_region 8 with fail
 have L8 := Lib.hid (And.intro (HS1.out.1.lt) (And.intro (HS1.out.2.1.lt) (trivial)))
 refine wp_region_fl 8 ((Fct.v (.pointer (some ⟨w.heap.size, 0, none⟩))) :: (Fct.r (n)) :: (Fct.v (.int .i64 e)) :: (Fct.t2 (Fct.r (Nk)) (Fct.v (.int .i64 0))) :: (Fct.t2 (Fct.r (Nk)) (Fct.v (.int .i64 0))) :: (Fct.r (Nk)) :: (Fct.v (.int .i64 0)) :: (Fct.rb W1.heap.size) :: []) (fun W => QX w.heap.size y2s y2t y2u y2v (n) (d) W ∧ QX (w.heap.size + 1) y4s y4t y4u y4v (0) (0) W ∧ Below W1.heap.size W1 W) (true :: false :: true :: false :: true :: true :: true :: false :: []) (some 28 :: some 29 :: some 30 :: some 31 :: some 27 :: some 32 :: some 33 :: some 6 :: []) (fun _ _ h hb => ⟨h.1.keep hb, h.2.1.keep hb, Below.trans h.2.2 (hb.mono h.2.2.size)⟩) ⟨HS1.out.1, HS1.out.2.1, Below.refl _ _⟩ ?_ ?_
 ·refine sy (sty_faQ0 (p := w.heap.size) rfl (.inl rfl) Arg.od) ?_
  refine so (step_ldR0 (b := w.heap.size) rfl (.inl rfl) (Arg.t 0 rfl) (fun _ h => ⟨h.1.c0, h.1.c1⟩) (fun _ h => h.1.n)) ?_
  refine sy (sty_move rfl (.inl rfl) Arg.od) ?_
  refine so (step_call2 E0.out rfl (.inl rfl) (Arg.t 1 rfl) (Arg.t 2 rfl) (fun u v w _ h1 h2 => (by obtain rfl := (show _ = _ from h2); exact (HP1.out _ _ h1).out.mono fun e w' ⟨x0, he, hi, hb⟩ => ⟨_, he, ⟨_, _, rfl, hi, rfl⟩, hb⟩))) ?_
  refine sy (sty_move rfl (.inl rfl) (Arg.t 3 rfl)) ?_
  refine sy (sty_ex20 (f := Fct.r (Nk)) (g := Fct.v (.int .i64 0)) rfl (.inl rfl) (Arg.t 4 rfl)) ?_
  refine sy (sty_ex21 (f := Fct.r (Nk)) (g := Fct.v (.int .i64 0)) rfl (.inl rfl) (Arg.t 4 rfl)) ?_
  refine sa (step_alR (B := W1.heap.size) rfl (.inl rfl) (fun _ h => h.2.2.size) (fun _ _ h => h)) ?_
  trivial
 intro v8 W8 hk hdf hs
 simp only [putV, Act.put, List.setIfInBounds_toArray, List.set_cons_zero, List.set_cons_succ, Nat.reduceAdd]
 have a_6 : (Fct.rb W1.heap.size).R (v8 7) W8 := hk 7 _ (by decide) rfl
 refine Fct.rb_elim a_6 ?_
 intro q_6 e_6 g_6 k_6
 have f_30 : v8 2 = .int .i64 e := hk 2 _ (by decide) rfl
 have k_32 : (Fct.r (Nk)).R (v8 5) W8 := hk 5 _ (by decide) rfl
 have f_33 : v8 6 = .int .i64 0 := hk 6 _ (by decide) rfl
 clear hk hdf
 simp only [e_6, f_30, f_33]
 have B8_0 := Below.trans HS1.out.2.2 (hs.2.2.mono HS1.out.2.2.size)
 have N_2_6 := Lib.hid (Nat.ne_of_lt (Nat.lt_of_lt_of_le L8.out.1 g_6))
 have N_4_6 := Lib.hid (Nat.ne_of_lt (Nat.lt_of_lt_of_le L8.out.2.1 g_6))
 have G_6 := Lib.hid (show w.heap.size ≤ q_6 from Nat.le_trans HS1.out.2.2.size g_6)
 refine tail_stR (q := q_6) rfl rfl rfl rfl k_6 k_32 ?_
 intro W8_1 x6is x6it n_6_1 s_6_1
 have m_2_1 := (hs.1).stq s_6_1 N_2_6.out
 have m_4_1 := (hs.2.1).stq s_6_1 N_4_6.out
 have B8_1 := s_6_1.below w.heap.size w G_6.out B8_0
 refine tail_assign rfl rfl ?_
 simp only [Act.put, List.setIfInBounds_toArray, List.set_cons_zero, List.set_cons_succ]
 refine tail_nil ?_
 have HS8 := Lib.hid (And.intro (m_2_1) (And.intro (m_4_1) (And.intro (n_6_1) (B8_1))))
 clear hs L8 HS1 B8_0 B8_1 f_30 k_32 f_33 n_6_1 s_6_1 m_2_1 m_4_1 e_6 g_6 k_6 a_6
 go_upto_region 9 with fail
 refine wp_region_fl 2 ((Fct.v (.int .i64 0)) :: (Fct.v (.bool (false))) :: []) (fun W => QX w.heap.size y2s y2t y2u y2v (n) (d) W ∧ QX (w.heap.size + 1) y4s y4t y4u y4v (0) (0) W ∧ RX q_6 x6is x6it (Nk) W ∧ Below W8_1.heap.size W8_1 W) (true :: true :: []) (some 34 :: some 35 :: []) (fun _ _ h hb => ⟨h.1.keep hb, h.2.1.keep hb, h.2.2.1.keep hb, Below.trans h.2.2.2 (hb.mono h.2.2.2.size)⟩) ⟨HS8.out.1, HS8.out.2.1, HS8.out.2.2.1, Below.refl _ _⟩ ?_ ?_
 ·refine sy (sty_move rfl (.inl rfl) Arg.od) ?_
  refine sy (sty_neqE (b := (false)) (rfl) rfl (.inl rfl) (Arg.t 0 rfl) (Arg.const _)) ?_
  trivial
 intro v9 W9 hk hdf hs
 simp only [putV, Act.put, List.setIfInBounds_toArray, List.set_cons_zero, List.set_cons_succ, Nat.reduceAdd]
 have f_34 : v9 0 = .int .i64 0 := hk 0 _ (by decide) rfl
 have f_35 : v9 1 = .bool (false) := hk 1 _ (by decide) rfl
 clear hk hdf
 simp only [f_34, f_35]
 have B9_0 := Below.trans HS8.out.2.2.2 (hs.2.2.2.mono HS8.out.2.2.2.size)
 refine tail_nil ?_
 have HS9 := Lib.hid (And.intro (hs.1) (And.intro (hs.2.1) (And.intro (hs.2.2.1) (B9_0))))
 clear hs HS8 B9_0 f_34 f_35
 go_upto_region 11 with fail
 have L11 := Lib.hid (And.intro (HS9.out.1.lt) (And.intro (HS9.out.2.1.lt) (And.intro (HS9.out.2.2.1.lt) (trivial))))
 refine wp_region_fl 8 ((Fct.v (.pointer (some ⟨w.heap.size, 2, none⟩))) :: (Fct.r (d)) :: (Fct.v (.int .i64 e)) :: (Fct.t2 (Fct.r (Dk)) (Fct.v (.int .i64 0))) :: (Fct.t2 (Fct.r (Dk)) (Fct.v (.int .i64 0))) :: (Fct.r (Dk)) :: (Fct.v (.int .i64 0)) :: (Fct.rb W9.heap.size) :: []) (fun W => QX w.heap.size y2s y2t y2u y2v (n) (d) W ∧ QX (w.heap.size + 1) y4s y4t y4u y4v (0) (0) W ∧ RX q_6 x6is x6it (Nk) W ∧ Below W9.heap.size W9 W) (true :: false :: true :: false :: true :: true :: true :: false :: []) (some 39 :: some 40 :: some 41 :: some 42 :: some 38 :: some 43 :: some 44 :: some 8 :: []) (fun _ _ h hb => ⟨h.1.keep hb, h.2.1.keep hb, h.2.2.1.keep hb, Below.trans h.2.2.2 (hb.mono h.2.2.2.size)⟩) ⟨HS9.out.1, HS9.out.2.1, HS9.out.2.2.1, Below.refl _ _⟩ ?_ ?_
 ·refine sy (sty_faQ1 (p := w.heap.size) rfl (.inl rfl) Arg.od) ?_
  refine so (step_ldR2 (b := w.heap.size) rfl (.inl rfl) (Arg.t 0 rfl) (fun _ h => ⟨h.1.c2, h.1.c3⟩) (fun _ h => h.1.d)) ?_
  refine sy (sty_move rfl (.inl rfl) Arg.od) ?_
  refine so (step_call2 E0.out rfl (.inl rfl) (Arg.t 1 rfl) (Arg.t 2 rfl) (fun u v w _ h1 h2 => (by obtain rfl := (show _ = _ from h2); exact (HP2.out _ _ h1).out.mono fun e w' ⟨x0, he, hi, hb⟩ => ⟨_, he, ⟨_, _, rfl, hi, rfl⟩, hb⟩))) ?_
  refine sy (sty_move rfl (.inl rfl) (Arg.t 3 rfl)) ?_
  refine sy (sty_ex20 (f := Fct.r (Dk)) (g := Fct.v (.int .i64 0)) rfl (.inl rfl) (Arg.t 4 rfl)) ?_
  refine sy (sty_ex21 (f := Fct.r (Dk)) (g := Fct.v (.int .i64 0)) rfl (.inl rfl) (Arg.t 4 rfl)) ?_
  refine sa (step_alR (B := W9.heap.size) rfl (.inl rfl) (fun _ h => h.2.2.2.size) (fun _ _ h => h)) ?_
  trivial
 intro v11 W11 hk hdf hs
 simp only [putV, Act.put, List.setIfInBounds_toArray, List.set_cons_zero, List.set_cons_succ, Nat.reduceAdd]
 have a_8 : (Fct.rb W9.heap.size).R (v11 7) W11 := hk 7 _ (by decide) rfl
 refine Fct.rb_elim a_8 ?_
 intro q_8 e_8 g_8 k_8
 have f_41 : v11 2 = .int .i64 e := hk 2 _ (by decide) rfl
 have k_43 : (Fct.r (Dk)).R (v11 5) W11 := hk 5 _ (by decide) rfl
 have f_44 : v11 6 = .int .i64 0 := hk 6 _ (by decide) rfl
 clear hk hdf
 simp only [e_8, f_41, f_44]
 have B11_0 := Below.trans HS9.out.2.2.2 (hs.2.2.2.mono HS9.out.2.2.2.size)
 have N_2_8 := Lib.hid (Nat.ne_of_lt (Nat.lt_of_lt_of_le L11.out.1 g_8))
 have N_4_8 := Lib.hid (Nat.ne_of_lt (Nat.lt_of_lt_of_le L11.out.2.1 g_8))
 have N_6_8 := Lib.hid (Nat.ne_of_lt (Nat.lt_of_lt_of_le L11.out.2.2.1 g_8))
 have G_8 := Lib.hid (show w.heap.size ≤ q_8 from Nat.le_trans HS9.out.2.2.2.size g_8)
 refine tail_stR (q := q_8) rfl rfl rfl rfl k_8 k_43 ?_
 intro W11_1 x8ls x8lt n_8_1 s_8_1
 have m_2_1 := (hs.1).stq s_8_1 N_2_8.out
 have m_4_1 := (hs.2.1).stq s_8_1 N_4_8.out
 have m_6_1 := (hs.2.2.1).stq s_8_1 N_6_8.out
 have B11_1 := s_8_1.below w.heap.size w G_8.out B11_0
 refine tail_assign rfl rfl ?_
 simp only [Act.put, List.setIfInBounds_toArray, List.set_cons_zero, List.set_cons_succ]
 refine tail_nil ?_
 have HS11 := Lib.hid (And.intro (m_2_1) (And.intro (m_4_1) (And.intro (m_6_1) (And.intro (n_8_1) (B11_1)))))
 clear hs L11 HS9 B11_0 B11_1 f_41 k_43 f_44 n_8_1 s_8_1 m_2_1 m_4_1 m_6_1 e_8 g_8 k_8 a_8
 go_upto_region 12 with fail
 refine wp_region_fl 2 ((Fct.v (.int .i64 0)) :: (Fct.v (.bool (false))) :: []) (fun W => QX w.heap.size y2s y2t y2u y2v (n) (d) W ∧ QX (w.heap.size + 1) y4s y4t y4u y4v (0) (0) W ∧ RX q_6 x6is x6it (Nk) W ∧ RX q_8 x8ls x8lt (Dk) W ∧ Below W11_1.heap.size W11_1 W) (true :: true :: []) (some 45 :: some 46 :: []) (fun _ _ h hb => ⟨h.1.keep hb, h.2.1.keep hb, h.2.2.1.keep hb, h.2.2.2.1.keep hb, Below.trans h.2.2.2.2 (hb.mono h.2.2.2.2.size)⟩) ⟨HS11.out.1, HS11.out.2.1, HS11.out.2.2.1, HS11.out.2.2.2.1, Below.refl _ _⟩ ?_ ?_
 ·refine sy (sty_move rfl (.inl rfl) Arg.od) ?_
  refine sy (sty_neqE (b := (false)) (rfl) rfl (.inl rfl) (Arg.t 0 rfl) (Arg.const _)) ?_
  trivial
 intro v12 W12 hk hdf hs
 simp only [putV, Act.put, List.setIfInBounds_toArray, List.set_cons_zero, List.set_cons_succ, Nat.reduceAdd]
 have f_45 : v12 0 = .int .i64 0 := hk 0 _ (by decide) rfl
 have f_46 : v12 1 = .bool (false) := hk 1 _ (by decide) rfl
 clear hk hdf
 simp only [f_45, f_46]
 have B12_0 := Below.trans HS11.out.2.2.2.2 (hs.2.2.2.2.mono HS11.out.2.2.2.2.size)
 refine tail_nil ?_
 have HS12 := Lib.hid (And.intro (hs.1) (And.intro (hs.2.1) (And.intro (hs.2.2.1) (And.intro (hs.2.2.2.1) (B12_0)))))
 clear hs HS11 B12_0 f_45 f_46
 go_upto_region 14 with fail
 refine wp_region_fl 3 ((Fct.r (Nk)) :: (Fct.r (Dk)) :: (Fct.q (Nk) (Dk)) :: []) (fun W => QX w.heap.size y2s y2t y2u y2v (n) (d) W ∧ QX (w.heap.size + 1) y4s y4t y4u y4v (0) (0) W ∧ RX q_6 x6is x6it (Nk) W ∧ RX q_8 x8ls x8lt (Dk) W ∧ Below W12.heap.size W12 W) (false :: false :: true :: []) (some 49 :: some 50 :: some 51 :: []) (fun _ _ h hb => ⟨h.1.keep hb, h.2.1.keep hb, h.2.2.1.keep hb, h.2.2.2.1.keep hb, Below.trans h.2.2.2.2 (hb.mono h.2.2.2.2.size)⟩) ⟨HS12.out.1, HS12.out.2.1, HS12.out.2.2.1, HS12.out.2.2.2.1, Below.refl _ _⟩ ?_ ?_
 ·refine so (step_ldR0 (b := q_6) rfl (.inl rfl) Arg.od (fun _ h => ⟨h.2.2.1.c0, h.2.2.1.c1⟩) (fun _ h => h.2.2.1.rv)) ?_
  refine so (step_ldR0 (b := q_8) rfl (.inl rfl) Arg.od (fun _ h => ⟨h.2.2.2.1.c0, h.2.2.2.1.c1⟩) (fun _ h => h.2.2.2.1.rv)) ?_
  refine sy (sty_buildQ rfl (.inl rfl) (Arg.t 0 rfl) (Arg.t 1 rfl)) ?_
  trivial
 intro v14 W14 hk hdf hs
 simp only [putV, Act.put, List.setIfInBounds_toArray, List.set_cons_zero, List.set_cons_succ, Nat.reduceAdd]
 have k_51 : (Fct.q (Nk) (Dk)).R (v14 2) W14 := hk 2 _ (by decide) rfl
 clear hk hdf
 have B14_0 := Below.trans HS12.out.2.2.2.2 (hs.2.2.2.2.mono HS12.out.2.2.2.2.size)
 refine tail_stQ (q := (w.heap.size + 1)) rfl rfl rfl rfl hs.2.1 k_51 ?_
 intro W14_1 x4os x4ot x4ou x4ov n_4_1 s_4_1
 have m_2_1 := (hs.1).stq s_4_1 N_2_4.out
 have m_6_1 := (hs.2.2.1).stq s_4_1 (N_4_6.out.symm)
 have m_8_1 := (hs.2.2.2.1).stq s_4_1 (N_4_8.out.symm)
 have B14_1 := s_4_1.below w.heap.size w G_4.out B14_0
 refine tail_assign rfl rfl ?_
 simp only [Act.put, List.setIfInBounds_toArray, List.set_cons_zero, List.set_cons_succ]
 refine tail_nil ?_
 have HS14 := Lib.hid (And.intro (m_2_1) (And.intro (n_4_1) (And.intro (m_6_1) (And.intro (m_8_1) (B14_1)))))
 clear hs HS12 B14_0 B14_1 k_51 n_4_1 s_4_1 m_2_1 m_6_1 m_8_1
 have hr := HS14.out.2.1
 have hbl := HS14.out.2.2.2.2
 have r0 := hr.c0
 have r1 := hr.c1
 have r2 := hr.c2
 have r3 := hr.c3
 have HR := Lib.hid hr.rq
 have HBL := Lib.hid hbl
 clear hr hbl HS14
 go_wp2_with fail
 refine bodyPost_ret (v := .tuple #[.agg #[x4os, x4ot, x4ou, x4ov], .int .i64 0]) (by simp [results, Tryz.results33, go_sem, r0, r1, r2, r3]) rfl ⟨_, rfl, HR.out, HBL.out⟩
set_option maxHeartbeats 16000000 in
set_option maxRecDepth 100000 in
theorem rqPower_neg (n d : Int) (e : Int) (k : Nat) (he : e < 0) (he2 : -1099511627776 ≤ e) (hk : (k : Int) = -e) (hs1 : k ≤ 20 ∨ bl (qn d n).natAbs ≤ 1) (hs2 : k ≤ 20 ∨ bl (qd d n).natAbs ≤ 1) (hn0 : n ≠ 0) (l1 : Bd 4 n) (l2 : Bd 4 d) (v1 : Value) (w : World) (h1 : RQV w v1 n d) : Calls Tryz.prog 33 #[v1, .int .i64 e] w (RQRes w (qn d n ^ k) (qd d n ^ k) 0) := by
 have hsg := Lib.hid (show true = decide (e < 0) from (decide_eq_true (by omega)).symm)
 have HS := Lib.hid fun W u h => Lib.hid (rqSign_any n d u W (rlen_bd l1 (by decide)) h)
 have hz := Lib.hid (show false = (sgnZ n == 0) by simp [sgnZ_z, hn0])
 have b1 : Bd 4 (qn d n) := qn_bdS l2
 have b2 : Bd 4 (qd d n) := qd_bdS l1
 have hk' : k < 9223372036854775808 := by omega
 have HOV := Lib.hid fun W u v h h' => Lib.hid (rover_any d n u v W hn0 (rlen_bd l2 (by decide)) (rlen_bd l1 (by decide)) h h')
 have hlt := Lib.hid (show false = decide (e < -1099511627776) from (decide_eq_false (by omega)).symm)
 have hng := Lib.hid (show -9223372036854775808 < e ∧ e < 9223372036854775808 by omega)
 have hke : ((k : Nat) : Int) = -e := hk
 have HP1 := Lib.hid fun W u h => Lib.hid (show Calls Tryz.prog 94 #[u, .int .i64 (-e)] W (RefOK W ((qn d n) ^ k)) from hke ▸ rPow4 (qn d n) u k W b1 hk' hs1 h)
 have HP2 := Lib.hid fun W u h => Lib.hid (show Calls Tryz.prog 94 #[u, .int .i64 (-e)] W (RefOK W ((qd d n) ^ k)) from hke ▸ rPow4 (qd d n) u k W b2 hk' hs2 h)
 obtain ⟨p1, ad1, k1, c1, p2, ad2, k2, c2, rfl, q1, q2⟩ := rqv_shape h1
 have HE := Lib.hid (enter2q (t := 43) q1 q2)
 clear h1 q1 q2 he he2 hk hs1 hs2 hn0 l1 l2 b1 b2 hk' hke
 generalize qn d n = N at *
 generalize qd d n = D at *
 generalize N ^ k = Nk at *
 generalize D ^ k = Dk at *
 have E0 := Lib.hid (enters_of Tryz.func25 (by kernel_rfl))
 have E1 := Lib.hid (enters_of Tryz.func88 (by kernel_rfl))
 have E2 := Lib.hid (enters_of Tryz.func94 (by kernel_rfl))
 go_enter Tryz.func33, Tryz.ntmps33
 go_upto_region 1 with fail
 generalize ((w.alloc (.cells #[.bool p1, .slice ad1 k1 c1, .bool p2, .slice ad2 k2 c2] 43)).alloc (.cells #[.bool false, .slice none 0 0, .bool false, .slice none 0 0] 43)) = W0 at *
 obtain ⟨y2s, y2t, y2u, y2v, y4s, y4t, y4u, y4v, HE⟩ : ∃ y2s y2t y2u y2v y4s y4t y4u y4v : Value, Hid (QX w.heap.size y2s y2t y2u y2v (n) (d) W0 ∧ QX (w.heap.size + 1) y4s y4t y4u y4v (0) (0) W0 ∧ Below w.heap.size w W0) := ⟨_, _, _, _, _, _, _, _, HE⟩
 have N_2_4 := Lib.hid (show w.heap.size ≠ w.heap.size + 1 by omega)
 have G_2 := Lib.hid (show w.heap.size ≤ w.heap.size by omega)
 have G_4 := Lib.hid (show w.heap.size ≤ w.heap.size + 1 by omega)
 go_upto_region 1 with fail
 refine wp_region_fl 2 ((Fct.v (.int .i64 e)) :: (Fct.v (.bool (true))) :: []) (fun W => QX w.heap.size y2s y2t y2u y2v (n) (d) W ∧ QX (w.heap.size + 1) y4s y4t y4u y4v (0) (0) W ∧ Below W0.heap.size W0 W) (true :: true :: []) (some 9 :: some 10 :: []) (fun _ _ h hb => ⟨h.1.keep hb, h.2.1.keep hb, Below.trans h.2.2 (hb.mono h.2.2.size)⟩) ⟨HE.out.1, HE.out.2.1, Below.refl _ _⟩ ?_ ?_
 ·refine sy (sty_move rfl (.inl rfl) Arg.od) ?_
  refine sy (sty_lss (b := (true)) (hsg.out) rfl (.inl rfl) (Arg.t 0 rfl) (Arg.const _)) ?_
  trivial
 intro v1 W1 hk hdf hs
 simp only [putV, Act.put, List.setIfInBounds_toArray, List.set_cons_zero, List.set_cons_succ, Nat.reduceAdd]
 have f_9 : v1 0 = .int .i64 e := hk 0 _ (by decide) rfl
 have f_10 : v1 1 = .bool (true) := hk 1 _ (by decide) rfl
 clear hk hdf
 simp only [f_9, f_10]
 have B1_0 := Below.trans HE.out.2.2 (hs.2.2.mono HE.out.2.2.size)
 refine tail_nil ?_
 have HS1 := Lib.hid (And.intro (hs.1) (And.intro (hs.2.1) (B1_0)))
 clear hs HE B1_0 f_9 f_10
 go_upto_region 2 with fail
 refine wp_region_fl 3 ((Fct.q (n) (d)) :: (Fct.v (.int .i64 (sgnZ (n)))) :: (Fct.v (.bool (false))) :: []) (fun W => QX w.heap.size y2s y2t y2u y2v (n) (d) W ∧ QX (w.heap.size + 1) y4s y4t y4u y4v (0) (0) W ∧ Below W1.heap.size W1 W) (false :: false :: true :: []) (some 11 :: some 12 :: some 13 :: []) (fun _ _ h hb => ⟨h.1.keep hb, h.2.1.keep hb, Below.trans h.2.2 (hb.mono h.2.2.size)⟩) ⟨HS1.out.1, HS1.out.2.1, Below.refl _ _⟩ ?_ ?_
 ·refine so (step_ldQ (p := w.heap.size) rfl (.inl rfl) Arg.od (fun _ h => h.1.c4) (fun _ h => h.1.rq)) ?_
  refine so (step_call1 E0.out rfl (.inl rfl) (Arg.t 0 rfl) (fun u w _ h1 => (HS.out _ _ h1).out.mono fun e w' h => ⟨_, h.1, rfl, h.2⟩)) ?_
  refine sy (sty_eql (b := (false)) (hz.out) rfl (.inl rfl) (Arg.t 1 rfl) (Arg.const _)) ?_
  trivial
 intro v2 W2 hk hdf hs
 simp only [putV, Act.put, List.setIfInBounds_toArray, List.set_cons_zero, List.set_cons_succ, Nat.reduceAdd]
 have f_12 : v2 1 = .int .i64 (sgnZ (n)) := hk 1 _ (by decide) rfl
 have f_13 : v2 2 = .bool (false) := hk 2 _ (by decide) rfl
 clear hk hdf
 simp only [f_12, f_13]
 have B2_0 := Below.trans HS1.out.2.2 (hs.2.2.mono HS1.out.2.2.size)
 refine tail_nil ?_
 have HS2 := Lib.hid (And.intro (hs.1) (And.intro (hs.2.1) (B2_0)))
 clear hs HS1 B2_0 f_12 f_13
 go_upto_region 4 with fail
 refine wp_region_fl 5 ((Fct.v (.pointer (some ⟨w.heap.size, 2, none⟩))) :: (Fct.r (d)) :: (Fct.v (.pointer (some ⟨w.heap.size, 0, none⟩))) :: (Fct.r (n)) :: (Fct.q (N) (D)) :: []) (fun W => QX w.heap.size y2s y2t y2u y2v (n) (d) W ∧ QX (w.heap.size + 1) y4s y4t y4u y4v (0) (0) W ∧ Below W2.heap.size W2 W) (true :: false :: true :: false :: false :: []) (some 15 :: some 16 :: some 17 :: some 18 :: some 19 :: []) (fun _ _ h hb => ⟨h.1.keep hb, h.2.1.keep hb, Below.trans h.2.2 (hb.mono h.2.2.size)⟩) ⟨HS2.out.1, HS2.out.2.1, Below.refl _ _⟩ ?_ ?_
 ·refine sy (sty_faQ1 (p := w.heap.size) rfl (.inl rfl) Arg.od) ?_
  refine so (step_ldR2 (b := w.heap.size) rfl (.inl rfl) (Arg.t 0 rfl) (fun _ h => ⟨h.1.c2, h.1.c3⟩) (fun _ h => h.1.d)) ?_
  refine sy (sty_faQ0 (p := w.heap.size) rfl (.inl rfl) Arg.od) ?_
  refine so (step_ldR0 (b := w.heap.size) rfl (.inl rfl) (Arg.t 2 rfl) (fun _ h => ⟨h.1.c0, h.1.c1⟩) (fun _ h => h.1.n)) ?_
  refine so (step_call2 E1.out rfl (.inl rfl) (Arg.t 1 rfl) (Arg.t 3 rfl) (fun u v w _ h1 h2 => (HOV.out _ _ _ h1 h2).out)) ?_
  trivial
 intro v4 W4 hk hdf hs
 simp only [putV, Act.put, List.setIfInBounds_toArray, List.set_cons_zero, List.set_cons_succ, Nat.reduceAdd]
 have k_19 : (Fct.q (N) (D)).R (v4 4) W4 := hk 4 _ (by decide) rfl
 clear hk hdf
 have B4_0 := Below.trans HS2.out.2.2 (hs.2.2.mono HS2.out.2.2.size)
 refine tail_stQ (q := w.heap.size) rfl rfl rfl rfl hs.1 k_19 ?_
 intro W4_1 x2es x2et x2eu x2ev n_2_1 s_2_1
 have m_4_1 := (hs.2.1).stq s_2_1 (N_2_4.out.symm)
 have B4_1 := s_2_1.below w.heap.size w G_2.out B4_0
 refine tail_nil ?_
 have HS4 := Lib.hid (And.intro (n_2_1) (And.intro (m_4_1) (B4_1)))
 clear hs HS2 B4_0 B4_1 k_19 n_2_1 s_2_1 m_4_1
 go_upto_region 5 with fail
 refine wp_region_fl 2 ((Fct.v (.int .i64 e)) :: (Fct.v (.bool (false))) :: []) (fun W => QX w.heap.size x2es x2et x2eu x2ev (N) (D) W ∧ QX (w.heap.size + 1) y4s y4t y4u y4v (0) (0) W ∧ Below W4_1.heap.size W4_1 W) (true :: true :: []) (some 20 :: some 21 :: []) (fun _ _ h hb => ⟨h.1.keep hb, h.2.1.keep hb, Below.trans h.2.2 (hb.mono h.2.2.size)⟩) ⟨HS4.out.1, HS4.out.2.1, Below.refl _ _⟩ ?_ ?_
 ·refine sy (sty_move rfl (.inl rfl) Arg.od) ?_
  refine sy (sty_lss (b := (false)) (hlt.out) rfl (.inl rfl) (Arg.t 0 rfl) (Arg.const _)) ?_
  trivial
 intro v5 W5 hk hdf hs
 simp only [putV, Act.put, List.setIfInBounds_toArray, List.set_cons_zero, List.set_cons_succ, Nat.reduceAdd]
 have f_20 : v5 0 = .int .i64 e := hk 0 _ (by decide) rfl
 have f_21 : v5 1 = .bool (false) := hk 1 _ (by decide) rfl
 clear hk hdf
 simp only [f_20, f_21]
 have B5_0 := Below.trans HS4.out.2.2 (hs.2.2.mono HS4.out.2.2.size)
 refine tail_nil ?_
 have HS5 := Lib.hid (And.intro (hs.1) (And.intro (hs.2.1) (B5_0)))
 clear hs HS4 B5_0 f_20 f_21
 go_upto_region 7 with fail
 refine wp_region_fl 2 ((Fct.v (.int .i64 e)) :: (Fct.v (.int .i64 (-e))) :: []) (fun W => QX w.heap.size x2es x2et x2eu x2ev (N) (D) W ∧ QX (w.heap.size + 1) y4s y4t y4u y4v (0) (0) W ∧ Below W5.heap.size W5 W) (true :: true :: []) (some 25 :: some 26 :: []) (fun _ _ h hb => ⟨h.1.keep hb, h.2.1.keep hb, Below.trans h.2.2 (hb.mono h.2.2.size)⟩) ⟨HS5.out.1, HS5.out.2.1, Below.refl _ _⟩ ?_ ?_
 ·refine sy (sty_moveL rfl (.inl rfl) (by kernel_rfl) (fun _ => rfl)) ?_
  refine sy (sty_neg (hng.out) rfl (.inl rfl) (Arg.t 0 rfl)) ?_
  trivial
 intro v7 W7 hk hdf hs
 simp only [putV, Act.put, List.setIfInBounds_toArray, List.set_cons_zero, List.set_cons_succ, Nat.reduceAdd]
 have f_25 : v7 0 = .int .i64 e := hk 0 _ (by decide) rfl
 have f_26 : v7 1 = .int .i64 (-e) := hk 1 _ (by decide) rfl
 clear hk hdf
 simp only [f_25, f_26]
 have B7_0 := Below.trans HS5.out.2.2 (hs.2.2.mono HS5.out.2.2.size)
 refine tail_assign rfl rfl ?_
 simp only [Act.put, List.setIfInBounds_toArray, List.set_cons_zero, List.set_cons_succ]
 refine tail_nil ?_
 have HS7 := Lib.hid (And.intro (hs.1) (And.intro (hs.2.1) (B7_0)))
 clear hs HS5 B7_0 f_25 f_26
 go_upto_region 8 with fail
 have L8 := Lib.hid (And.intro (HS7.out.1.lt) (And.intro (HS7.out.2.1.lt) (trivial)))
 refine wp_region_fl 8 ((Fct.v (.pointer (some ⟨w.heap.size, 0, none⟩))) :: (Fct.r (N)) :: (Fct.v (.int .i64 (-e))) :: (Fct.t2 (Fct.r (Nk)) (Fct.v (.int .i64 0))) :: (Fct.t2 (Fct.r (Nk)) (Fct.v (.int .i64 0))) :: (Fct.r (Nk)) :: (Fct.v (.int .i64 0)) :: (Fct.rb W7.heap.size) :: []) (fun W => QX w.heap.size x2es x2et x2eu x2ev (N) (D) W ∧ QX (w.heap.size + 1) y4s y4t y4u y4v (0) (0) W ∧ Below W7.heap.size W7 W) (true :: false :: true :: false :: true :: true :: true :: false :: []) (some 28 :: some 29 :: some 30 :: some 31 :: some 27 :: some 32 :: some 33 :: some 6 :: []) (fun _ _ h hb => ⟨h.1.keep hb, h.2.1.keep hb, Below.trans h.2.2 (hb.mono h.2.2.size)⟩) ⟨HS7.out.1, HS7.out.2.1, Below.refl _ _⟩ ?_ ?_
 ·refine sy (sty_faQ0 (p := w.heap.size) rfl (.inl rfl) Arg.od) ?_
  refine so (step_ldR0 (b := w.heap.size) rfl (.inl rfl) (Arg.t 0 rfl) (fun _ h => ⟨h.1.c0, h.1.c1⟩) (fun _ h => h.1.n)) ?_
  refine sy (sty_move rfl (.inl rfl) Arg.od) ?_
  refine so (step_call2 E2.out rfl (.inl rfl) (Arg.t 1 rfl) (Arg.t 2 rfl) (fun u v w _ h1 h2 => (by obtain rfl := (show _ = _ from h2); exact (HP1.out _ _ h1).out.mono fun e w' ⟨x0, he, hi, hb⟩ => ⟨_, he, ⟨_, _, rfl, hi, rfl⟩, hb⟩))) ?_
  refine sy (sty_move rfl (.inl rfl) (Arg.t 3 rfl)) ?_
  refine sy (sty_ex20 (f := Fct.r (Nk)) (g := Fct.v (.int .i64 0)) rfl (.inl rfl) (Arg.t 4 rfl)) ?_
  refine sy (sty_ex21 (f := Fct.r (Nk)) (g := Fct.v (.int .i64 0)) rfl (.inl rfl) (Arg.t 4 rfl)) ?_
  refine sa (step_alR (B := W7.heap.size) rfl (.inl rfl) (fun _ h => h.2.2.size) (fun _ _ h => h)) ?_
  trivial
 intro v8 W8 hk hdf hs
 simp only [putV, Act.put, List.setIfInBounds_toArray, List.set_cons_zero, List.set_cons_succ, Nat.reduceAdd]
 have a_6 : (Fct.rb W7.heap.size).R (v8 7) W8 := hk 7 _ (by decide) rfl
 refine Fct.rb_elim a_6 ?_
 intro q_6 e_6 g_6 k_6
 have f_30 : v8 2 = .int .i64 (-e) := hk 2 _ (by decide) rfl
 have k_32 : (Fct.r (Nk)).R (v8 5) W8 := hk 5 _ (by decide) rfl
 have f_33 : v8 6 = .int .i64 0 := hk 6 _ (by decide) rfl
 clear hk hdf
 simp only [e_6, f_30, f_33]
 have B8_0 := Below.trans HS7.out.2.2 (hs.2.2.mono HS7.out.2.2.size)
 have N_2_6 := Lib.hid (Nat.ne_of_lt (Nat.lt_of_lt_of_le L8.out.1 g_6))
 have N_4_6 := Lib.hid (Nat.ne_of_lt (Nat.lt_of_lt_of_le L8.out.2.1 g_6))
 have G_6 := Lib.hid (show w.heap.size ≤ q_6 from Nat.le_trans HS7.out.2.2.size g_6)
 refine tail_stR (q := q_6) rfl rfl rfl rfl k_6 k_32 ?_
 intro W8_1 x6is x6it n_6_1 s_6_1
 have m_2_1 := (hs.1).stq s_6_1 N_2_6.out
 have m_4_1 := (hs.2.1).stq s_6_1 N_4_6.out
 have B8_1 := s_6_1.below w.heap.size w G_6.out B8_0
 refine tail_assign rfl rfl ?_
 simp only [Act.put, List.setIfInBounds_toArray, List.set_cons_zero, List.set_cons_succ]
 refine tail_nil ?_
 have HS8 := Lib.hid (And.intro (m_2_1) (And.intro (m_4_1) (And.intro (n_6_1) (B8_1))))
 clear hs L8 HS7 B8_0 B8_1 f_30 k_32 f_33 n_6_1 s_6_1 m_2_1 m_4_1 e_6 g_6 k_6 a_6
 go_upto_region 9 with fail
 refine wp_region_fl 2 ((Fct.v (.int .i64 0)) :: (Fct.v (.bool (false))) :: []) (fun W => QX w.heap.size x2es x2et x2eu x2ev (N) (D) W ∧ QX (w.heap.size + 1) y4s y4t y4u y4v (0) (0) W ∧ RX q_6 x6is x6it (Nk) W ∧ Below W8_1.heap.size W8_1 W) (true :: true :: []) (some 34 :: some 35 :: []) (fun _ _ h hb => ⟨h.1.keep hb, h.2.1.keep hb, h.2.2.1.keep hb, Below.trans h.2.2.2 (hb.mono h.2.2.2.size)⟩) ⟨HS8.out.1, HS8.out.2.1, HS8.out.2.2.1, Below.refl _ _⟩ ?_ ?_
 ·refine sy (sty_move rfl (.inl rfl) Arg.od) ?_
  refine sy (sty_neqE (b := (false)) (rfl) rfl (.inl rfl) (Arg.t 0 rfl) (Arg.const _)) ?_
  trivial
 intro v9 W9 hk hdf hs
 simp only [putV, Act.put, List.setIfInBounds_toArray, List.set_cons_zero, List.set_cons_succ, Nat.reduceAdd]
 have f_34 : v9 0 = .int .i64 0 := hk 0 _ (by decide) rfl
 have f_35 : v9 1 = .bool (false) := hk 1 _ (by decide) rfl
 clear hk hdf
 simp only [f_34, f_35]
 have B9_0 := Below.trans HS8.out.2.2.2 (hs.2.2.2.mono HS8.out.2.2.2.size)
 refine tail_nil ?_
 have HS9 := Lib.hid (And.intro (hs.1) (And.intro (hs.2.1) (And.intro (hs.2.2.1) (B9_0))))
 clear hs HS8 B9_0 f_34 f_35
 go_upto_region 11 with fail
 have L11 := Lib.hid (And.intro (HS9.out.1.lt) (And.intro (HS9.out.2.1.lt) (And.intro (HS9.out.2.2.1.lt) (trivial))))
 refine wp_region_fl 8 ((Fct.v (.pointer (some ⟨w.heap.size, 2, none⟩))) :: (Fct.r (D)) :: (Fct.v (.int .i64 (-e))) :: (Fct.t2 (Fct.r (Dk)) (Fct.v (.int .i64 0))) :: (Fct.t2 (Fct.r (Dk)) (Fct.v (.int .i64 0))) :: (Fct.r (Dk)) :: (Fct.v (.int .i64 0)) :: (Fct.rb W9.heap.size) :: []) (fun W => QX w.heap.size x2es x2et x2eu x2ev (N) (D) W ∧ QX (w.heap.size + 1) y4s y4t y4u y4v (0) (0) W ∧ RX q_6 x6is x6it (Nk) W ∧ Below W9.heap.size W9 W) (true :: false :: true :: false :: true :: true :: true :: false :: []) (some 39 :: some 40 :: some 41 :: some 42 :: some 38 :: some 43 :: some 44 :: some 8 :: []) (fun _ _ h hb => ⟨h.1.keep hb, h.2.1.keep hb, h.2.2.1.keep hb, Below.trans h.2.2.2 (hb.mono h.2.2.2.size)⟩) ⟨HS9.out.1, HS9.out.2.1, HS9.out.2.2.1, Below.refl _ _⟩ ?_ ?_
 ·refine sy (sty_faQ1 (p := w.heap.size) rfl (.inl rfl) Arg.od) ?_
  refine so (step_ldR2 (b := w.heap.size) rfl (.inl rfl) (Arg.t 0 rfl) (fun _ h => ⟨h.1.c2, h.1.c3⟩) (fun _ h => h.1.d)) ?_
  refine sy (sty_move rfl (.inl rfl) Arg.od) ?_
  refine so (step_call2 E2.out rfl (.inl rfl) (Arg.t 1 rfl) (Arg.t 2 rfl) (fun u v w _ h1 h2 => (by obtain rfl := (show _ = _ from h2); exact (HP2.out _ _ h1).out.mono fun e w' ⟨x0, he, hi, hb⟩ => ⟨_, he, ⟨_, _, rfl, hi, rfl⟩, hb⟩))) ?_
  refine sy (sty_move rfl (.inl rfl) (Arg.t 3 rfl)) ?_
  refine sy (sty_ex20 (f := Fct.r (Dk)) (g := Fct.v (.int .i64 0)) rfl (.inl rfl) (Arg.t 4 rfl)) ?_
  refine sy (sty_ex21 (f := Fct.r (Dk)) (g := Fct.v (.int .i64 0)) rfl (.inl rfl) (Arg.t 4 rfl)) ?_
  refine sa (step_alR (B := W9.heap.size) rfl (.inl rfl) (fun _ h => h.2.2.2.size) (fun _ _ h => h)) ?_
  trivial
 intro v11 W11 hk hdf hs
 simp only [putV, Act.put, List.setIfInBounds_toArray, List.set_cons_zero, List.set_cons_succ, Nat.reduceAdd]
 have a_8 : (Fct.rb W9.heap.size).R (v11 7) W11 := hk 7 _ (by decide) rfl
 refine Fct.rb_elim a_8 ?_
 intro q_8 e_8 g_8 k_8
 have f_41 : v11 2 = .int .i64 (-e) := hk 2 _ (by decide) rfl
 have k_43 : (Fct.r (Dk)).R (v11 5) W11 := hk 5 _ (by decide) rfl
 have f_44 : v11 6 = .int .i64 0 := hk 6 _ (by decide) rfl
 clear hk hdf
 simp only [e_8, f_41, f_44]
 have B11_0 := Below.trans HS9.out.2.2.2 (hs.2.2.2.mono HS9.out.2.2.2.size)
 have N_2_8 := Lib.hid (Nat.ne_of_lt (Nat.lt_of_lt_of_le L11.out.1 g_8))
 have N_4_8 := Lib.hid (Nat.ne_of_lt (Nat.lt_of_lt_of_le L11.out.2.1 g_8))
 have N_6_8 := Lib.hid (Nat.ne_of_lt (Nat.lt_of_lt_of_le L11.out.2.2.1 g_8))
 have G_8 := Lib.hid (show w.heap.size ≤ q_8 from Nat.le_trans HS9.out.2.2.2.size g_8)
 refine tail_stR (q := q_8) rfl rfl rfl rfl k_8 k_43 ?_
 intro W11_1 x8ls x8lt n_8_1 s_8_1
 have m_2_1 := (hs.1).stq s_8_1 N_2_8.out
 have m_4_1 := (hs.2.1).stq s_8_1 N_4_8.out
 have m_6_1 := (hs.2.2.1).stq s_8_1 N_6_8.out
 have B11_1 := s_8_1.below w.heap.size w G_8.out B11_0
 refine tail_assign rfl rfl ?_
 simp only [Act.put, List.setIfInBounds_toArray, List.set_cons_zero, List.set_cons_succ]
 refine tail_nil ?_
 have HS11 := Lib.hid (And.intro (m_2_1) (And.intro (m_4_1) (And.intro (m_6_1) (And.intro (n_8_1) (B11_1)))))
 clear hs L11 HS9 B11_0 B11_1 f_41 k_43 f_44 n_8_1 s_8_1 m_2_1 m_4_1 m_6_1 e_8 g_8 k_8 a_8
 go_upto_region 12 with fail
 refine wp_region_fl 2 ((Fct.v (.int .i64 0)) :: (Fct.v (.bool (false))) :: []) (fun W => QX w.heap.size x2es x2et x2eu x2ev (N) (D) W ∧ QX (w.heap.size + 1) y4s y4t y4u y4v (0) (0) W ∧ RX q_6 x6is x6it (Nk) W ∧ RX q_8 x8ls x8lt (Dk) W ∧ Below W11_1.heap.size W11_1 W) (true :: true :: []) (some 45 :: some 46 :: []) (fun _ _ h hb => ⟨h.1.keep hb, h.2.1.keep hb, h.2.2.1.keep hb, h.2.2.2.1.keep hb, Below.trans h.2.2.2.2 (hb.mono h.2.2.2.2.size)⟩) ⟨HS11.out.1, HS11.out.2.1, HS11.out.2.2.1, HS11.out.2.2.2.1, Below.refl _ _⟩ ?_ ?_
 ·refine sy (sty_move rfl (.inl rfl) Arg.od) ?_
  refine sy (sty_neqE (b := (false)) (rfl) rfl (.inl rfl) (Arg.t 0 rfl) (Arg.const _)) ?_
  trivial
 intro v12 W12 hk hdf hs
 simp only [putV, Act.put, List.setIfInBounds_toArray, List.set_cons_zero, List.set_cons_succ, Nat.reduceAdd]
 have f_45 : v12 0 = .int .i64 0 := hk 0 _ (by decide) rfl
 have f_46 : v12 1 = .bool (false) := hk 1 _ (by decide) rfl
 clear hk hdf
 simp only [f_45, f_46]
 have B12_0 := Below.trans HS11.out.2.2.2.2 (hs.2.2.2.2.mono HS11.out.2.2.2.2.size)
 refine tail_nil ?_
 have HS12 := Lib.hid (And.intro (hs.1) (And.intro (hs.2.1) (And.intro (hs.2.2.1) (And.intro (hs.2.2.2.1) (B12_0)))))
 clear hs HS11 B12_0 f_45 f_46
 go_upto_region 14 with fail
 refine wp_region_fl 3 ((Fct.r (Nk)) :: (Fct.r (Dk)) :: (Fct.q (Nk) (Dk)) :: []) (fun W => QX w.heap.size x2es x2et x2eu x2ev (N) (D) W ∧ QX (w.heap.size + 1) y4s y4t y4u y4v (0) (0) W ∧ RX q_6 x6is x6it (Nk) W ∧ RX q_8 x8ls x8lt (Dk) W ∧ Below W12.heap.size W12 W) (false :: false :: true :: []) (some 49 :: some 50 :: some 51 :: []) (fun _ _ h hb => ⟨h.1.keep hb, h.2.1.keep hb, h.2.2.1.keep hb, h.2.2.2.1.keep hb, Below.trans h.2.2.2.2 (hb.mono h.2.2.2.2.size)⟩) ⟨HS12.out.1, HS12.out.2.1, HS12.out.2.2.1, HS12.out.2.2.2.1, Below.refl _ _⟩ ?_ ?_
 ·refine so (step_ldR0 (b := q_6) rfl (.inl rfl) Arg.od (fun _ h => ⟨h.2.2.1.c0, h.2.2.1.c1⟩) (fun _ h => h.2.2.1.rv)) ?_
  refine so (step_ldR0 (b := q_8) rfl (.inl rfl) Arg.od (fun _ h => ⟨h.2.2.2.1.c0, h.2.2.2.1.c1⟩) (fun _ h => h.2.2.2.1.rv)) ?_
  refine sy (sty_buildQ rfl (.inl rfl) (Arg.t 0 rfl) (Arg.t 1 rfl)) ?_
  trivial
 intro v14 W14 hk hdf hs
 simp only [putV, Act.put, List.setIfInBounds_toArray, List.set_cons_zero, List.set_cons_succ, Nat.reduceAdd]
 have k_51 : (Fct.q (Nk) (Dk)).R (v14 2) W14 := hk 2 _ (by decide) rfl
 clear hk hdf
 have B14_0 := Below.trans HS12.out.2.2.2.2 (hs.2.2.2.2.mono HS12.out.2.2.2.2.size)
 refine tail_stQ (q := (w.heap.size + 1)) rfl rfl rfl rfl hs.2.1 k_51 ?_
 intro W14_1 x4os x4ot x4ou x4ov n_4_1 s_4_1
 have m_2_1 := (hs.1).stq s_4_1 N_2_4.out
 have m_6_1 := (hs.2.2.1).stq s_4_1 (N_4_6.out.symm)
 have m_8_1 := (hs.2.2.2.1).stq s_4_1 (N_4_8.out.symm)
 have B14_1 := s_4_1.below w.heap.size w G_4.out B14_0
 refine tail_assign rfl rfl ?_
 simp only [Act.put, List.setIfInBounds_toArray, List.set_cons_zero, List.set_cons_succ]
 refine tail_nil ?_
 have HS14 := Lib.hid (And.intro (m_2_1) (And.intro (n_4_1) (And.intro (m_6_1) (And.intro (m_8_1) (B14_1)))))
 clear hs HS12 B14_0 B14_1 k_51 n_4_1 s_4_1 m_2_1 m_6_1 m_8_1
 have hr := HS14.out.2.1
 have hbl := HS14.out.2.2.2.2
 have r0 := hr.c0
 have r1 := hr.c1
 have r2 := hr.c2
 have r3 := hr.c3
 have HR := Lib.hid hr.rq
 have HBL := Lib.hid hbl
 clear hr hbl HS14
 go_wp2_with fail
 refine bodyPost_ret (v := .tuple #[.agg #[x4os, x4ot, x4ou, x4ov], .int .i64 0]) (by simp [results, Tryz.results33, go_sem, r0, r1, r2, r3]) rfl ⟨_, rfl, HR.out, HBL.out⟩
set_option maxHeartbeats 16000000 in
set_option maxRecDepth 100000 in
theorem rqPower_big (n d : Int) (e : Int) (k : Nat) (he : e < -1099511627776) (he2 : -9223372036854775808 ≤ e) (hk : (k : Int) = -(-1099511627776 + e.tmod 2)) (hs1 : bl (qn d n).natAbs ≤ 1) (hs2 : bl (qd d n).natAbs ≤ 1) (hn0 : n ≠ 0) (l1 : Bd 4 n) (l2 : Bd 4 d) (v1 : Value) (w : World) (h1 : RQV w v1 n d) : Calls Tryz.prog 33 #[v1, .int .i64 e] w (RQRes w (qn d n ^ k) (qd d n ^ k) 0) := by
 have hsg := Lib.hid (show true = decide (e < 0) from (decide_eq_true (by omega)).symm)
 have HS := Lib.hid fun W u h => Lib.hid (rqSign_any n d u W (rlen_bd l1 (by decide)) h)
 have hz := Lib.hid (show false = (sgnZ n == 0) by simp [sgnZ_z, hn0])
 have b1 : Bd 4 (qn d n) := qn_bdS l2
 have b2 : Bd 4 (qd d n) := qd_bdS l1
 have hk' : k < 9223372036854775808 := by 
  have h1 := Int.tmod_lt_of_pos e (show (0 : Int) < 2 by decide)
  have h2 := Int.lt_tmod_of_pos e (show (0 : Int) < 2 by decide)
  omega
 have HOV := Lib.hid fun W u v h h' => Lib.hid (rover_any d n u v W hn0 (rlen_bd l2 (by decide)) (rlen_bd l1 (by decide)) h h')
 have hlt := Lib.hid (show true = decide (e < -1099511627776) from (decide_eq_true he).symm)
 have hr1 : -2 < e.tmod 2 ∧ e.tmod 2 < 2 := by
  have h1 := Int.tmod_lt_of_pos e (show (0 : Int) < 2 by decide)
  have h2 := Int.lt_tmod_of_pos e (show (0 : Int) < 2 by decide)
  omega
 have hrm := Lib.hid (show e.tmod 2 = e.tmod 2 ∧ (2 : Int) ≠ 0 from ⟨rfl, by decide⟩)
 have had := Lib.hid (show -1099511627776 + e.tmod 2 = IntKind.i64.wrap (-1099511627776 + e.tmod 2) by rw [IntKind.wrap_i64]; omega)
 have hng := Lib.hid (show -9223372036854775808 < -1099511627776 + e.tmod 2 ∧ -1099511627776 + e.tmod 2 < 9223372036854775808 by omega)
 have hke : ((k : Nat) : Int) = -(-1099511627776 + e.tmod 2) := hk
 have HP1 := Lib.hid fun W u h => Lib.hid (show Calls Tryz.prog 94 #[u, .int .i64 (-(-1099511627776 + e.tmod 2))] W (RefOK W ((qn d n) ^ k)) from hke ▸ rPow4 (qn d n) u k W b1 hk' (.inr hs1) h)
 have HP2 := Lib.hid fun W u h => Lib.hid (show Calls Tryz.prog 94 #[u, .int .i64 (-(-1099511627776 + e.tmod 2))] W (RefOK W ((qd d n) ^ k)) from hke ▸ rPow4 (qd d n) u k W b2 hk' (.inr hs2) h)
 obtain ⟨p1, ad1, k1, c1, p2, ad2, k2, c2, rfl, q1, q2⟩ := rqv_shape h1
 have HE := Lib.hid (enter2q (t := 43) q1 q2)
 clear h1 q1 q2 he he2 hk hs1 hs2 hn0 l1 l2 b1 b2 hk' hke hr1
 generalize qn d n = N at *
 generalize qd d n = D at *
 generalize N ^ k = Nk at *
 generalize D ^ k = Dk at *
 have E0 := Lib.hid (enters_of Tryz.func25 (by kernel_rfl))
 have E1 := Lib.hid (enters_of Tryz.func88 (by kernel_rfl))
 have E2 := Lib.hid (enters_of Tryz.func94 (by kernel_rfl))
 go_enter Tryz.func33, Tryz.ntmps33
 go_upto_region 1 with fail
 generalize ((w.alloc (.cells #[.bool p1, .slice ad1 k1 c1, .bool p2, .slice ad2 k2 c2] 43)).alloc (.cells #[.bool false, .slice none 0 0, .bool false, .slice none 0 0] 43)) = W0 at *
 obtain ⟨y2s, y2t, y2u, y2v, y4s, y4t, y4u, y4v, HE⟩ : ∃ y2s y2t y2u y2v y4s y4t y4u y4v : Value, Hid (QX w.heap.size y2s y2t y2u y2v (n) (d) W0 ∧ QX (w.heap.size + 1) y4s y4t y4u y4v (0) (0) W0 ∧ Below w.heap.size w W0) := ⟨_, _, _, _, _, _, _, _, HE⟩
 have N_2_4 := Lib.hid (show w.heap.size ≠ w.heap.size + 1 by omega)
 have G_2 := Lib.hid (show w.heap.size ≤ w.heap.size by omega)
 have G_4 := Lib.hid (show w.heap.size ≤ w.heap.size + 1 by omega)
 go_upto_region 1 with fail
 refine wp_region_fl 2 ((Fct.v (.int .i64 e)) :: (Fct.v (.bool (true))) :: []) (fun W => QX w.heap.size y2s y2t y2u y2v (n) (d) W ∧ QX (w.heap.size + 1) y4s y4t y4u y4v (0) (0) W ∧ Below W0.heap.size W0 W) (true :: true :: []) (some 9 :: some 10 :: []) (fun _ _ h hb => ⟨h.1.keep hb, h.2.1.keep hb, Below.trans h.2.2 (hb.mono h.2.2.size)⟩) ⟨HE.out.1, HE.out.2.1, Below.refl _ _⟩ ?_ ?_
 ·refine sy (sty_move rfl (.inl rfl) Arg.od) ?_
  refine sy (sty_lss (b := (true)) (hsg.out) rfl (.inl rfl) (Arg.t 0 rfl) (Arg.const _)) ?_
  trivial
 intro v1 W1 hk hdf hs
 simp only [putV, Act.put, List.setIfInBounds_toArray, List.set_cons_zero, List.set_cons_succ, Nat.reduceAdd]
 have f_9 : v1 0 = .int .i64 e := hk 0 _ (by decide) rfl
 have f_10 : v1 1 = .bool (true) := hk 1 _ (by decide) rfl
 clear hk hdf
 simp only [f_9, f_10]
 have B1_0 := Below.trans HE.out.2.2 (hs.2.2.mono HE.out.2.2.size)
 refine tail_nil ?_
 have HS1 := Lib.hid (And.intro (hs.1) (And.intro (hs.2.1) (B1_0)))
 clear hs HE B1_0 f_9 f_10
 go_upto_region 2 with fail
 refine wp_region_fl 3 ((Fct.q (n) (d)) :: (Fct.v (.int .i64 (sgnZ (n)))) :: (Fct.v (.bool (false))) :: []) (fun W => QX w.heap.size y2s y2t y2u y2v (n) (d) W ∧ QX (w.heap.size + 1) y4s y4t y4u y4v (0) (0) W ∧ Below W1.heap.size W1 W) (false :: false :: true :: []) (some 11 :: some 12 :: some 13 :: []) (fun _ _ h hb => ⟨h.1.keep hb, h.2.1.keep hb, Below.trans h.2.2 (hb.mono h.2.2.size)⟩) ⟨HS1.out.1, HS1.out.2.1, Below.refl _ _⟩ ?_ ?_
 ·refine so (step_ldQ (p := w.heap.size) rfl (.inl rfl) Arg.od (fun _ h => h.1.c4) (fun _ h => h.1.rq)) ?_
  refine so (step_call1 E0.out rfl (.inl rfl) (Arg.t 0 rfl) (fun u w _ h1 => (HS.out _ _ h1).out.mono fun e w' h => ⟨_, h.1, rfl, h.2⟩)) ?_
  refine sy (sty_eql (b := (false)) (hz.out) rfl (.inl rfl) (Arg.t 1 rfl) (Arg.const _)) ?_
  trivial
 intro v2 W2 hk hdf hs
 simp only [putV, Act.put, List.setIfInBounds_toArray, List.set_cons_zero, List.set_cons_succ, Nat.reduceAdd]
 have f_12 : v2 1 = .int .i64 (sgnZ (n)) := hk 1 _ (by decide) rfl
 have f_13 : v2 2 = .bool (false) := hk 2 _ (by decide) rfl
 clear hk hdf
 simp only [f_12, f_13]
 have B2_0 := Below.trans HS1.out.2.2 (hs.2.2.mono HS1.out.2.2.size)
 refine tail_nil ?_
 have HS2 := Lib.hid (And.intro (hs.1) (And.intro (hs.2.1) (B2_0)))
 clear hs HS1 B2_0 f_12 f_13
 go_upto_region 4 with fail
 refine wp_region_fl 5 ((Fct.v (.pointer (some ⟨w.heap.size, 2, none⟩))) :: (Fct.r (d)) :: (Fct.v (.pointer (some ⟨w.heap.size, 0, none⟩))) :: (Fct.r (n)) :: (Fct.q (N) (D)) :: []) (fun W => QX w.heap.size y2s y2t y2u y2v (n) (d) W ∧ QX (w.heap.size + 1) y4s y4t y4u y4v (0) (0) W ∧ Below W2.heap.size W2 W) (true :: false :: true :: false :: false :: []) (some 15 :: some 16 :: some 17 :: some 18 :: some 19 :: []) (fun _ _ h hb => ⟨h.1.keep hb, h.2.1.keep hb, Below.trans h.2.2 (hb.mono h.2.2.size)⟩) ⟨HS2.out.1, HS2.out.2.1, Below.refl _ _⟩ ?_ ?_
 ·refine sy (sty_faQ1 (p := w.heap.size) rfl (.inl rfl) Arg.od) ?_
  refine so (step_ldR2 (b := w.heap.size) rfl (.inl rfl) (Arg.t 0 rfl) (fun _ h => ⟨h.1.c2, h.1.c3⟩) (fun _ h => h.1.d)) ?_
  refine sy (sty_faQ0 (p := w.heap.size) rfl (.inl rfl) Arg.od) ?_
  refine so (step_ldR0 (b := w.heap.size) rfl (.inl rfl) (Arg.t 2 rfl) (fun _ h => ⟨h.1.c0, h.1.c1⟩) (fun _ h => h.1.n)) ?_
  refine so (step_call2 E1.out rfl (.inl rfl) (Arg.t 1 rfl) (Arg.t 3 rfl) (fun u v w _ h1 h2 => (HOV.out _ _ _ h1 h2).out)) ?_
  trivial
 intro v4 W4 hk hdf hs
 simp only [putV, Act.put, List.setIfInBounds_toArray, List.set_cons_zero, List.set_cons_succ, Nat.reduceAdd]
 have k_19 : (Fct.q (N) (D)).R (v4 4) W4 := hk 4 _ (by decide) rfl
 clear hk hdf
 have B4_0 := Below.trans HS2.out.2.2 (hs.2.2.mono HS2.out.2.2.size)
 refine tail_stQ (q := w.heap.size) rfl rfl rfl rfl hs.1 k_19 ?_
 intro W4_1 x2es x2et x2eu x2ev n_2_1 s_2_1
 have m_4_1 := (hs.2.1).stq s_2_1 (N_2_4.out.symm)
 have B4_1 := s_2_1.below w.heap.size w G_2.out B4_0
 refine tail_nil ?_
 have HS4 := Lib.hid (And.intro (n_2_1) (And.intro (m_4_1) (B4_1)))
 clear hs HS2 B4_0 B4_1 k_19 n_2_1 s_2_1 m_4_1
 go_upto_region 5 with fail
 refine wp_region_fl 2 ((Fct.v (.int .i64 e)) :: (Fct.v (.bool (true))) :: []) (fun W => QX w.heap.size x2es x2et x2eu x2ev (N) (D) W ∧ QX (w.heap.size + 1) y4s y4t y4u y4v (0) (0) W ∧ Below W4_1.heap.size W4_1 W) (true :: true :: []) (some 20 :: some 21 :: []) (fun _ _ h hb => ⟨h.1.keep hb, h.2.1.keep hb, Below.trans h.2.2 (hb.mono h.2.2.size)⟩) ⟨HS4.out.1, HS4.out.2.1, Below.refl _ _⟩ ?_ ?_
 ·refine sy (sty_move rfl (.inl rfl) Arg.od) ?_
  refine sy (sty_lss (b := (true)) (hlt.out) rfl (.inl rfl) (Arg.t 0 rfl) (Arg.const _)) ?_
  trivial
 intro v5 W5 hk hdf hs
 simp only [putV, Act.put, List.setIfInBounds_toArray, List.set_cons_zero, List.set_cons_succ, Nat.reduceAdd]
 have f_20 : v5 0 = .int .i64 e := hk 0 _ (by decide) rfl
 have f_21 : v5 1 = .bool (true) := hk 1 _ (by decide) rfl
 clear hk hdf
 simp only [f_20, f_21]
 have B5_0 := Below.trans HS4.out.2.2 (hs.2.2.mono HS4.out.2.2.size)
 refine tail_nil ?_
 have HS5 := Lib.hid (And.intro (hs.1) (And.intro (hs.2.1) (B5_0)))
 clear hs HS4 B5_0 f_20 f_21
 go_upto_region 6 with fail
 refine wp_region_fl 3 ((Fct.v (.int .i64 e)) :: (Fct.v (.int .i64 (e.tmod 2))) :: (Fct.v (.int .i64 (-1099511627776 + e.tmod 2))) :: []) (fun W => QX w.heap.size x2es x2et x2eu x2ev (N) (D) W ∧ QX (w.heap.size + 1) y4s y4t y4u y4v (0) (0) W ∧ Below W5.heap.size W5 W) (true :: true :: true :: []) (some 22 :: some 23 :: some 24 :: []) (fun _ _ h hb => ⟨h.1.keep hb, h.2.1.keep hb, Below.trans h.2.2 (hb.mono h.2.2.size)⟩) ⟨HS5.out.1, HS5.out.2.1, Below.refl _ _⟩ ?_ ?_
 ·refine sy (sty_moveL rfl (.inl rfl) (by kernel_rfl) (fun _ => rfl)) ?_
  refine sy (sty_rem (hrm.out) rfl (.inl rfl) (Arg.t 0 rfl) (Arg.const _)) ?_
  refine sy (sty_add (had.out) rfl (.inl rfl) (Arg.const _) (Arg.t 1 rfl)) ?_
  trivial
 intro v6 W6 hk hdf hs
 simp only [putV, Act.put, List.setIfInBounds_toArray, List.set_cons_zero, List.set_cons_succ, Nat.reduceAdd]
 have f_22 : v6 0 = .int .i64 e := hk 0 _ (by decide) rfl
 have f_23 : v6 1 = .int .i64 (e.tmod 2) := hk 1 _ (by decide) rfl
 have f_24 : v6 2 = .int .i64 (-1099511627776 + e.tmod 2) := hk 2 _ (by decide) rfl
 clear hk hdf
 simp only [f_22, f_23, f_24]
 have B6_0 := Below.trans HS5.out.2.2 (hs.2.2.mono HS5.out.2.2.size)
 refine tail_assign rfl rfl ?_
 simp only [Act.put, List.setIfInBounds_toArray, List.set_cons_zero, List.set_cons_succ]
 refine tail_nil ?_
 have HS6 := Lib.hid (And.intro (hs.1) (And.intro (hs.2.1) (B6_0)))
 clear hs HS5 B6_0 f_22 f_23 f_24
 go_upto_region 7 with fail
 refine wp_region_fl 2 ((Fct.v (.int .i64 (-1099511627776 + e.tmod 2))) :: (Fct.v (.int .i64 (-(-1099511627776 + e.tmod 2)))) :: []) (fun W => QX w.heap.size x2es x2et x2eu x2ev (N) (D) W ∧ QX (w.heap.size + 1) y4s y4t y4u y4v (0) (0) W ∧ Below W6.heap.size W6 W) (true :: true :: []) (some 25 :: some 26 :: []) (fun _ _ h hb => ⟨h.1.keep hb, h.2.1.keep hb, Below.trans h.2.2 (hb.mono h.2.2.size)⟩) ⟨HS6.out.1, HS6.out.2.1, Below.refl _ _⟩ ?_ ?_
 ·refine sy (sty_moveL rfl (.inl rfl) (by kernel_rfl) (fun _ => rfl)) ?_
  refine sy (sty_neg (hng.out) rfl (.inl rfl) (Arg.t 0 rfl)) ?_
  trivial
 intro v7 W7 hk hdf hs
 simp only [putV, Act.put, List.setIfInBounds_toArray, List.set_cons_zero, List.set_cons_succ, Nat.reduceAdd]
 have f_25 : v7 0 = .int .i64 (-1099511627776 + e.tmod 2) := hk 0 _ (by decide) rfl
 have f_26 : v7 1 = .int .i64 (-(-1099511627776 + e.tmod 2)) := hk 1 _ (by decide) rfl
 clear hk hdf
 simp only [f_25, f_26]
 have B7_0 := Below.trans HS6.out.2.2 (hs.2.2.mono HS6.out.2.2.size)
 refine tail_assign rfl rfl ?_
 simp only [Act.put, List.setIfInBounds_toArray, List.set_cons_zero, List.set_cons_succ]
 refine tail_nil ?_
 have HS7 := Lib.hid (And.intro (hs.1) (And.intro (hs.2.1) (B7_0)))
 clear hs HS6 B7_0 f_25 f_26
 go_upto_region 8 with fail
 have L8 := Lib.hid (And.intro (HS7.out.1.lt) (And.intro (HS7.out.2.1.lt) (trivial)))
 refine wp_region_fl 8 ((Fct.v (.pointer (some ⟨w.heap.size, 0, none⟩))) :: (Fct.r (N)) :: (Fct.v (.int .i64 (-(-1099511627776 + e.tmod 2)))) :: (Fct.t2 (Fct.r (Nk)) (Fct.v (.int .i64 0))) :: (Fct.t2 (Fct.r (Nk)) (Fct.v (.int .i64 0))) :: (Fct.r (Nk)) :: (Fct.v (.int .i64 0)) :: (Fct.rb W7.heap.size) :: []) (fun W => QX w.heap.size x2es x2et x2eu x2ev (N) (D) W ∧ QX (w.heap.size + 1) y4s y4t y4u y4v (0) (0) W ∧ Below W7.heap.size W7 W) (true :: false :: true :: false :: true :: true :: true :: false :: []) (some 28 :: some 29 :: some 30 :: some 31 :: some 27 :: some 32 :: some 33 :: some 6 :: []) (fun _ _ h hb => ⟨h.1.keep hb, h.2.1.keep hb, Below.trans h.2.2 (hb.mono h.2.2.size)⟩) ⟨HS7.out.1, HS7.out.2.1, Below.refl _ _⟩ ?_ ?_
 ·refine sy (sty_faQ0 (p := w.heap.size) rfl (.inl rfl) Arg.od) ?_
  refine so (step_ldR0 (b := w.heap.size) rfl (.inl rfl) (Arg.t 0 rfl) (fun _ h => ⟨h.1.c0, h.1.c1⟩) (fun _ h => h.1.n)) ?_
  refine sy (sty_move rfl (.inl rfl) Arg.od) ?_
  refine so (step_call2 E2.out rfl (.inl rfl) (Arg.t 1 rfl) (Arg.t 2 rfl) (fun u v w _ h1 h2 => (by obtain rfl := (show _ = _ from h2); exact (HP1.out _ _ h1).out.mono fun e w' ⟨x0, he, hi, hb⟩ => ⟨_, he, ⟨_, _, rfl, hi, rfl⟩, hb⟩))) ?_
  refine sy (sty_move rfl (.inl rfl) (Arg.t 3 rfl)) ?_
  refine sy (sty_ex20 (f := Fct.r (Nk)) (g := Fct.v (.int .i64 0)) rfl (.inl rfl) (Arg.t 4 rfl)) ?_
  refine sy (sty_ex21 (f := Fct.r (Nk)) (g := Fct.v (.int .i64 0)) rfl (.inl rfl) (Arg.t 4 rfl)) ?_
  refine sa (step_alR (B := W7.heap.size) rfl (.inl rfl) (fun _ h => h.2.2.size) (fun _ _ h => h)) ?_
  trivial
 intro v8 W8 hk hdf hs
 simp only [putV, Act.put, List.setIfInBounds_toArray, List.set_cons_zero, List.set_cons_succ, Nat.reduceAdd]
 have a_6 : (Fct.rb W7.heap.size).R (v8 7) W8 := hk 7 _ (by decide) rfl
 refine Fct.rb_elim a_6 ?_
 intro q_6 e_6 g_6 k_6
 have f_30 : v8 2 = .int .i64 (-(-1099511627776 + e.tmod 2)) := hk 2 _ (by decide) rfl
 have k_32 : (Fct.r (Nk)).R (v8 5) W8 := hk 5 _ (by decide) rfl
 have f_33 : v8 6 = .int .i64 0 := hk 6 _ (by decide) rfl
 clear hk hdf
 simp only [e_6, f_30, f_33]
 have B8_0 := Below.trans HS7.out.2.2 (hs.2.2.mono HS7.out.2.2.size)
 have N_2_6 := Lib.hid (Nat.ne_of_lt (Nat.lt_of_lt_of_le L8.out.1 g_6))
 have N_4_6 := Lib.hid (Nat.ne_of_lt (Nat.lt_of_lt_of_le L8.out.2.1 g_6))
 have G_6 := Lib.hid (show w.heap.size ≤ q_6 from Nat.le_trans HS7.out.2.2.size g_6)
 refine tail_stR (q := q_6) rfl rfl rfl rfl k_6 k_32 ?_
 intro W8_1 x6is x6it n_6_1 s_6_1
 have m_2_1 := (hs.1).stq s_6_1 N_2_6.out
 have m_4_1 := (hs.2.1).stq s_6_1 N_4_6.out
 have B8_1 := s_6_1.below w.heap.size w G_6.out B8_0
 refine tail_assign rfl rfl ?_
 simp only [Act.put, List.setIfInBounds_toArray, List.set_cons_zero, List.set_cons_succ]
 refine tail_nil ?_
 have HS8 := Lib.hid (And.intro (m_2_1) (And.intro (m_4_1) (And.intro (n_6_1) (B8_1))))
 clear hs L8 HS7 B8_0 B8_1 f_30 k_32 f_33 n_6_1 s_6_1 m_2_1 m_4_1 e_6 g_6 k_6 a_6
 go_upto_region 9 with fail
 refine wp_region_fl 2 ((Fct.v (.int .i64 0)) :: (Fct.v (.bool (false))) :: []) (fun W => QX w.heap.size x2es x2et x2eu x2ev (N) (D) W ∧ QX (w.heap.size + 1) y4s y4t y4u y4v (0) (0) W ∧ RX q_6 x6is x6it (Nk) W ∧ Below W8_1.heap.size W8_1 W) (true :: true :: []) (some 34 :: some 35 :: []) (fun _ _ h hb => ⟨h.1.keep hb, h.2.1.keep hb, h.2.2.1.keep hb, Below.trans h.2.2.2 (hb.mono h.2.2.2.size)⟩) ⟨HS8.out.1, HS8.out.2.1, HS8.out.2.2.1, Below.refl _ _⟩ ?_ ?_
 ·refine sy (sty_move rfl (.inl rfl) Arg.od) ?_
  refine sy (sty_neqE (b := (false)) (rfl) rfl (.inl rfl) (Arg.t 0 rfl) (Arg.const _)) ?_
  trivial
 intro v9 W9 hk hdf hs
 simp only [putV, Act.put, List.setIfInBounds_toArray, List.set_cons_zero, List.set_cons_succ, Nat.reduceAdd]
 have f_34 : v9 0 = .int .i64 0 := hk 0 _ (by decide) rfl
 have f_35 : v9 1 = .bool (false) := hk 1 _ (by decide) rfl
 clear hk hdf
 simp only [f_34, f_35]
 have B9_0 := Below.trans HS8.out.2.2.2 (hs.2.2.2.mono HS8.out.2.2.2.size)
 refine tail_nil ?_
 have HS9 := Lib.hid (And.intro (hs.1) (And.intro (hs.2.1) (And.intro (hs.2.2.1) (B9_0))))
 clear hs HS8 B9_0 f_34 f_35
 go_upto_region 11 with fail
 have L11 := Lib.hid (And.intro (HS9.out.1.lt) (And.intro (HS9.out.2.1.lt) (And.intro (HS9.out.2.2.1.lt) (trivial))))
 refine wp_region_fl 8 ((Fct.v (.pointer (some ⟨w.heap.size, 2, none⟩))) :: (Fct.r (D)) :: (Fct.v (.int .i64 (-(-1099511627776 + e.tmod 2)))) :: (Fct.t2 (Fct.r (Dk)) (Fct.v (.int .i64 0))) :: (Fct.t2 (Fct.r (Dk)) (Fct.v (.int .i64 0))) :: (Fct.r (Dk)) :: (Fct.v (.int .i64 0)) :: (Fct.rb W9.heap.size) :: []) (fun W => QX w.heap.size x2es x2et x2eu x2ev (N) (D) W ∧ QX (w.heap.size + 1) y4s y4t y4u y4v (0) (0) W ∧ RX q_6 x6is x6it (Nk) W ∧ Below W9.heap.size W9 W) (true :: false :: true :: false :: true :: true :: true :: false :: []) (some 39 :: some 40 :: some 41 :: some 42 :: some 38 :: some 43 :: some 44 :: some 8 :: []) (fun _ _ h hb => ⟨h.1.keep hb, h.2.1.keep hb, h.2.2.1.keep hb, Below.trans h.2.2.2 (hb.mono h.2.2.2.size)⟩) ⟨HS9.out.1, HS9.out.2.1, HS9.out.2.2.1, Below.refl _ _⟩ ?_ ?_
 ·refine sy (sty_faQ1 (p := w.heap.size) rfl (.inl rfl) Arg.od) ?_
  refine so (step_ldR2 (b := w.heap.size) rfl (.inl rfl) (Arg.t 0 rfl) (fun _ h => ⟨h.1.c2, h.1.c3⟩) (fun _ h => h.1.d)) ?_
  refine sy (sty_move rfl (.inl rfl) Arg.od) ?_
  refine so (step_call2 E2.out rfl (.inl rfl) (Arg.t 1 rfl) (Arg.t 2 rfl) (fun u v w _ h1 h2 => (by obtain rfl := (show _ = _ from h2); exact (HP2.out _ _ h1).out.mono fun e w' ⟨x0, he, hi, hb⟩ => ⟨_, he, ⟨_, _, rfl, hi, rfl⟩, hb⟩))) ?_
  refine sy (sty_move rfl (.inl rfl) (Arg.t 3 rfl)) ?_
  refine sy (sty_ex20 (f := Fct.r (Dk)) (g := Fct.v (.int .i64 0)) rfl (.inl rfl) (Arg.t 4 rfl)) ?_
  refine sy (sty_ex21 (f := Fct.r (Dk)) (g := Fct.v (.int .i64 0)) rfl (.inl rfl) (Arg.t 4 rfl)) ?_
  refine sa (step_alR (B := W9.heap.size) rfl (.inl rfl) (fun _ h => h.2.2.2.size) (fun _ _ h => h)) ?_
  trivial
 intro v11 W11 hk hdf hs
 simp only [putV, Act.put, List.setIfInBounds_toArray, List.set_cons_zero, List.set_cons_succ, Nat.reduceAdd]
 have a_8 : (Fct.rb W9.heap.size).R (v11 7) W11 := hk 7 _ (by decide) rfl
 refine Fct.rb_elim a_8 ?_
 intro q_8 e_8 g_8 k_8
 have f_41 : v11 2 = .int .i64 (-(-1099511627776 + e.tmod 2)) := hk 2 _ (by decide) rfl
 have k_43 : (Fct.r (Dk)).R (v11 5) W11 := hk 5 _ (by decide) rfl
 have f_44 : v11 6 = .int .i64 0 := hk 6 _ (by decide) rfl
 clear hk hdf
 simp only [e_8, f_41, f_44]
 have B11_0 := Below.trans HS9.out.2.2.2 (hs.2.2.2.mono HS9.out.2.2.2.size)
 have N_2_8 := Lib.hid (Nat.ne_of_lt (Nat.lt_of_lt_of_le L11.out.1 g_8))
 have N_4_8 := Lib.hid (Nat.ne_of_lt (Nat.lt_of_lt_of_le L11.out.2.1 g_8))
 have N_6_8 := Lib.hid (Nat.ne_of_lt (Nat.lt_of_lt_of_le L11.out.2.2.1 g_8))
 have G_8 := Lib.hid (show w.heap.size ≤ q_8 from Nat.le_trans HS9.out.2.2.2.size g_8)
 refine tail_stR (q := q_8) rfl rfl rfl rfl k_8 k_43 ?_
 intro W11_1 x8ls x8lt n_8_1 s_8_1
 have m_2_1 := (hs.1).stq s_8_1 N_2_8.out
 have m_4_1 := (hs.2.1).stq s_8_1 N_4_8.out
 have m_6_1 := (hs.2.2.1).stq s_8_1 N_6_8.out
 have B11_1 := s_8_1.below w.heap.size w G_8.out B11_0
 refine tail_assign rfl rfl ?_
 simp only [Act.put, List.setIfInBounds_toArray, List.set_cons_zero, List.set_cons_succ]
 refine tail_nil ?_
 have HS11 := Lib.hid (And.intro (m_2_1) (And.intro (m_4_1) (And.intro (m_6_1) (And.intro (n_8_1) (B11_1)))))
 clear hs L11 HS9 B11_0 B11_1 f_41 k_43 f_44 n_8_1 s_8_1 m_2_1 m_4_1 m_6_1 e_8 g_8 k_8 a_8
 go_upto_region 12 with fail
 refine wp_region_fl 2 ((Fct.v (.int .i64 0)) :: (Fct.v (.bool (false))) :: []) (fun W => QX w.heap.size x2es x2et x2eu x2ev (N) (D) W ∧ QX (w.heap.size + 1) y4s y4t y4u y4v (0) (0) W ∧ RX q_6 x6is x6it (Nk) W ∧ RX q_8 x8ls x8lt (Dk) W ∧ Below W11_1.heap.size W11_1 W) (true :: true :: []) (some 45 :: some 46 :: []) (fun _ _ h hb => ⟨h.1.keep hb, h.2.1.keep hb, h.2.2.1.keep hb, h.2.2.2.1.keep hb, Below.trans h.2.2.2.2 (hb.mono h.2.2.2.2.size)⟩) ⟨HS11.out.1, HS11.out.2.1, HS11.out.2.2.1, HS11.out.2.2.2.1, Below.refl _ _⟩ ?_ ?_
 ·refine sy (sty_move rfl (.inl rfl) Arg.od) ?_
  refine sy (sty_neqE (b := (false)) (rfl) rfl (.inl rfl) (Arg.t 0 rfl) (Arg.const _)) ?_
  trivial
 intro v12 W12 hk hdf hs
 simp only [putV, Act.put, List.setIfInBounds_toArray, List.set_cons_zero, List.set_cons_succ, Nat.reduceAdd]
 have f_45 : v12 0 = .int .i64 0 := hk 0 _ (by decide) rfl
 have f_46 : v12 1 = .bool (false) := hk 1 _ (by decide) rfl
 clear hk hdf
 simp only [f_45, f_46]
 have B12_0 := Below.trans HS11.out.2.2.2.2 (hs.2.2.2.2.mono HS11.out.2.2.2.2.size)
 refine tail_nil ?_
 have HS12 := Lib.hid (And.intro (hs.1) (And.intro (hs.2.1) (And.intro (hs.2.2.1) (And.intro (hs.2.2.2.1) (B12_0)))))
 clear hs HS11 B12_0 f_45 f_46
 go_upto_region 14 with fail
 refine wp_region_fl 3 ((Fct.r (Nk)) :: (Fct.r (Dk)) :: (Fct.q (Nk) (Dk)) :: []) (fun W => QX w.heap.size x2es x2et x2eu x2ev (N) (D) W ∧ QX (w.heap.size + 1) y4s y4t y4u y4v (0) (0) W ∧ RX q_6 x6is x6it (Nk) W ∧ RX q_8 x8ls x8lt (Dk) W ∧ Below W12.heap.size W12 W) (false :: false :: true :: []) (some 49 :: some 50 :: some 51 :: []) (fun _ _ h hb => ⟨h.1.keep hb, h.2.1.keep hb, h.2.2.1.keep hb, h.2.2.2.1.keep hb, Below.trans h.2.2.2.2 (hb.mono h.2.2.2.2.size)⟩) ⟨HS12.out.1, HS12.out.2.1, HS12.out.2.2.1, HS12.out.2.2.2.1, Below.refl _ _⟩ ?_ ?_
 ·refine so (step_ldR0 (b := q_6) rfl (.inl rfl) Arg.od (fun _ h => ⟨h.2.2.1.c0, h.2.2.1.c1⟩) (fun _ h => h.2.2.1.rv)) ?_
  refine so (step_ldR0 (b := q_8) rfl (.inl rfl) Arg.od (fun _ h => ⟨h.2.2.2.1.c0, h.2.2.2.1.c1⟩) (fun _ h => h.2.2.2.1.rv)) ?_
  refine sy (sty_buildQ rfl (.inl rfl) (Arg.t 0 rfl) (Arg.t 1 rfl)) ?_
  trivial
 intro v14 W14 hk hdf hs
 simp only [putV, Act.put, List.setIfInBounds_toArray, List.set_cons_zero, List.set_cons_succ, Nat.reduceAdd]
 have k_51 : (Fct.q (Nk) (Dk)).R (v14 2) W14 := hk 2 _ (by decide) rfl
 clear hk hdf
 have B14_0 := Below.trans HS12.out.2.2.2.2 (hs.2.2.2.2.mono HS12.out.2.2.2.2.size)
 refine tail_stQ (q := (w.heap.size + 1)) rfl rfl rfl rfl hs.2.1 k_51 ?_
 intro W14_1 x4os x4ot x4ou x4ov n_4_1 s_4_1
 have m_2_1 := (hs.1).stq s_4_1 N_2_4.out
 have m_6_1 := (hs.2.2.1).stq s_4_1 (N_4_6.out.symm)
 have m_8_1 := (hs.2.2.2.1).stq s_4_1 (N_4_8.out.symm)
 have B14_1 := s_4_1.below w.heap.size w G_4.out B14_0
 refine tail_assign rfl rfl ?_
 simp only [Act.put, List.setIfInBounds_toArray, List.set_cons_zero, List.set_cons_succ]
 refine tail_nil ?_
 have HS14 := Lib.hid (And.intro (m_2_1) (And.intro (n_4_1) (And.intro (m_6_1) (And.intro (m_8_1) (B14_1)))))
 clear hs HS12 B14_0 B14_1 k_51 n_4_1 s_4_1 m_2_1 m_6_1 m_8_1
 have hr := HS14.out.2.1
 have hbl := HS14.out.2.2.2.2
 have r0 := hr.c0
 have r1 := hr.c1
 have r2 := hr.c2
 have r3 := hr.c3
 have HR := Lib.hid hr.rq
 have HBL := Lib.hid hbl
 clear hr hbl HS14
 go_wp2_with fail
 refine bodyPost_ret (v := .tuple #[.agg #[x4os, x4ot, x4ou, x4ov], .int .i64 0]) (by simp [results, Tryz.results33, go_sem, r0, r1, r2, r3]) rfl ⟨_, rfl, HR.out, HBL.out⟩
set_option maxHeartbeats 16000000 in
set_option maxRecDepth 100000 in
theorem rqPower_zero (n d : Int) (e : Int) (he : e < 0) (hn0 : n = 0) (v1 : Value) (w : World) (h1 : RQV w v1 n d) : Calls Tryz.prog 33 #[v1, .int .i64 e] w (RQRes w 0 1 6) := by
 have hsg := Lib.hid (show true = decide (e < 0) from (decide_eq_true (by omega)).symm)
 subst hn0
 have HS := Lib.hid fun W u h => Lib.hid (rqSign_any 0 d u W (rlen_bd (k := 1) (by unfold Bd; decide) (by decide)) h)
 have hz := Lib.hid (show true = (sgnZ 0 == 0) by rfl)
 have HI0 := Lib.hid fun W  => Lib.hid (rInt_any 0 W (by decide) (by decide))
 obtain ⟨p1, ad1, k1, c1, p2, ad2, k2, c2, rfl, q1, q2⟩ := rqv_shape h1
 have HE := Lib.hid (enter2q (t := 43) q1 q2)
 clear h1 q1 q2 he
 have E0 := Lib.hid (enters_of Tryz.func25 (by kernel_rfl))
 have E1 := Lib.hid (enters_of Tryz.func78 (by kernel_rfl))
 go_enter Tryz.func33, Tryz.ntmps33
 go_upto_region 1 with fail
 generalize ((w.alloc (.cells #[.bool p1, .slice ad1 k1 c1, .bool p2, .slice ad2 k2 c2] 43)).alloc (.cells #[.bool false, .slice none 0 0, .bool false, .slice none 0 0] 43)) = W0 at *
 obtain ⟨y2s, y2t, y2u, y2v, y4s, y4t, y4u, y4v, HE⟩ : ∃ y2s y2t y2u y2v y4s y4t y4u y4v : Value, Hid (QX w.heap.size y2s y2t y2u y2v (0) (d) W0 ∧ QX (w.heap.size + 1) y4s y4t y4u y4v (0) (0) W0 ∧ Below w.heap.size w W0) := ⟨_, _, _, _, _, _, _, _, HE⟩
 have N_2_4 := Lib.hid (show w.heap.size ≠ w.heap.size + 1 by omega)
 have G_2 := Lib.hid (show w.heap.size ≤ w.heap.size by omega)
 have G_4 := Lib.hid (show w.heap.size ≤ w.heap.size + 1 by omega)
 go_upto_region 1 with fail
 refine wp_region_fl 2 ((Fct.v (.int .i64 e)) :: (Fct.v (.bool (true))) :: []) (fun W => QX w.heap.size y2s y2t y2u y2v (0) (d) W ∧ QX (w.heap.size + 1) y4s y4t y4u y4v (0) (0) W ∧ Below W0.heap.size W0 W) (true :: true :: []) (some 9 :: some 10 :: []) (fun _ _ h hb => ⟨h.1.keep hb, h.2.1.keep hb, Below.trans h.2.2 (hb.mono h.2.2.size)⟩) ⟨HE.out.1, HE.out.2.1, Below.refl _ _⟩ ?_ ?_
 ·refine sy (sty_move rfl (.inl rfl) Arg.od) ?_
  refine sy (sty_lss (b := (true)) (hsg.out) rfl (.inl rfl) (Arg.t 0 rfl) (Arg.const _)) ?_
  trivial
 intro v1 W1 hk hdf hs
 simp only [putV, Act.put, List.setIfInBounds_toArray, List.set_cons_zero, List.set_cons_succ, Nat.reduceAdd]
 have f_9 : v1 0 = .int .i64 e := hk 0 _ (by decide) rfl
 have f_10 : v1 1 = .bool (true) := hk 1 _ (by decide) rfl
 clear hk hdf
 simp only [f_9, f_10]
 have B1_0 := Below.trans HE.out.2.2 (hs.2.2.mono HE.out.2.2.size)
 refine tail_nil ?_
 have HS1 := Lib.hid (And.intro (hs.1) (And.intro (hs.2.1) (B1_0)))
 clear hs HE B1_0 f_9 f_10
 go_upto_region 2 with fail
 refine wp_region_fl 3 ((Fct.q (0) (d)) :: (Fct.v (.int .i64 (sgnZ (0)))) :: (Fct.v (.bool (true))) :: []) (fun W => QX w.heap.size y2s y2t y2u y2v (0) (d) W ∧ QX (w.heap.size + 1) y4s y4t y4u y4v (0) (0) W ∧ Below W1.heap.size W1 W) (false :: false :: true :: []) (some 11 :: some 12 :: some 13 :: []) (fun _ _ h hb => ⟨h.1.keep hb, h.2.1.keep hb, Below.trans h.2.2 (hb.mono h.2.2.size)⟩) ⟨HS1.out.1, HS1.out.2.1, Below.refl _ _⟩ ?_ ?_
 ·refine so (step_ldQ (p := w.heap.size) rfl (.inl rfl) Arg.od (fun _ h => h.1.c4) (fun _ h => h.1.rq)) ?_
  refine so (step_call1 E0.out rfl (.inl rfl) (Arg.t 0 rfl) (fun u w _ h1 => (HS.out _ _ h1).out.mono fun e w' h => ⟨_, h.1, rfl, h.2⟩)) ?_
  refine sy (sty_eql (b := (true)) (hz.out) rfl (.inl rfl) (Arg.t 1 rfl) (Arg.const _)) ?_
  trivial
 intro v2 W2 hk hdf hs
 simp only [putV, Act.put, List.setIfInBounds_toArray, List.set_cons_zero, List.set_cons_succ, Nat.reduceAdd]
 have f_12 : v2 1 = .int .i64 (sgnZ (0)) := hk 1 _ (by decide) rfl
 have f_13 : v2 2 = .bool (true) := hk 2 _ (by decide) rfl
 clear hk hdf
 simp only [f_12, f_13]
 have B2_0 := Below.trans HS1.out.2.2 (hs.2.2.mono HS1.out.2.2.size)
 refine tail_nil ?_
 have HS2 := Lib.hid (And.intro (hs.1) (And.intro (hs.2.1) (B2_0)))
 clear hs HS1 B2_0 f_12 f_13
 go_upto_region 3 with fail
 refine wp_region_fl 1 ((Fct.q (0) (1)) :: []) (fun W => QX w.heap.size y2s y2t y2u y2v (0) (d) W ∧ QX (w.heap.size + 1) y4s y4t y4u y4v (0) (0) W ∧ Below W2.heap.size W2 W) (false :: []) (some 14 :: []) (fun _ _ h hb => ⟨h.1.keep hb, h.2.1.keep hb, Below.trans h.2.2 (hb.mono h.2.2.size)⟩) ⟨HS2.out.1, HS2.out.2.1, Below.refl _ _⟩ ?_ ?_
 ·refine so (step_call1 E1.out rfl (.inl rfl) (Arg.const _) (fun u w _ h1 => (by obtain rfl := (show _ = _ from h1); exact (HI0.out _).out))) ?_
  trivial
 intro v3 W3 hk hdf hs
 simp only [putV, Act.put, List.setIfInBounds_toArray, List.set_cons_zero, List.set_cons_succ]
 have k_14 : (Fct.q (0) (1)).R (v3 0) W3 := hk 0 _ (by decide) rfl
 clear hk hdf
 have B3_0 := Below.trans HS2.out.2.2 (hs.2.2.mono HS2.out.2.2.size)
 refine tail_stQ (q := (w.heap.size + 1)) rfl rfl rfl rfl hs.2.1 k_14 ?_
 intro W3_1 x4ds x4dt x4du x4dv n_4_1 s_4_1
 have m_2_1 := (hs.1).stq s_4_1 N_2_4.out
 have B3_1 := s_4_1.below w.heap.size w G_4.out B3_0
 refine tail_assign rfl rfl ?_
 simp only [Act.put, List.setIfInBounds_toArray, List.set_cons_zero, List.set_cons_succ]
 refine tail_nil ?_
 have HS3 := Lib.hid (And.intro (m_2_1) (And.intro (n_4_1) (B3_1)))
 clear hs HS2 B3_0 B3_1 k_14 n_4_1 s_4_1 m_2_1
 have hr := HS3.out.2.1
 have hbl := HS3.out.2.2
 have r0 := hr.c0
 have r1 := hr.c1
 have r2 := hr.c2
 have r3 := hr.c3
 have HR := Lib.hid hr.rq
 have HBL := Lib.hid hbl
 clear hr hbl HS3
 go_wp2_with fail
 refine bodyPost_ret (v := .tuple #[.agg #[x4ds, x4dt, x4du, x4dv], .int .i64 6]) (by simp [results, Tryz.results33, go_sem, r0, r1, r2, r3]) rfl ⟨_, rfl, HR.out, HBL.out⟩
theorem rRoot_of (m r : Nat) (v1 : Value) (w : World) (hr : IsRt m r) (l1 : Bd 8 (m : Int)) (h1 : RefV w v1 (m : Int)) :
  Calls Tryz.prog 96 #[v1] w (RefOK w (r : Int)) := by
 refine (rRoot_any m v1 w l1 h1).mono ?_
 rintro e w' ⟨s, a, b, h⟩
 obtain rfl := root_uniq hr.1 hr.2 a b
 exact h
theorem sgn_ne0 (x y : Int) : (!(sgnZ (x - y) == 0)) = !decide (x = y) := by
 by_cases h : x = y
 ·subst h; rw [Int.sub_self, decide_eq_true rfl]; rfl
 ·rw [decide_eq_false h]; simp [sgnZ_z]; omega
set_option maxHeartbeats 16000000 in
set_option maxRecDepth 100000 in
theorem rqRoot_A (n d : Int) (v1 : Value) (w : World) (hn : n < 0) (l1 : Bd 8 n) (h1 : RQV w v1 n d) : Calls Tryz.prog 35 #[v1] w (RQRes w 0 1 1) := by
 have HR1 := Lib.hid fun W u h => Lib.hid (rRoot_neg n u W hn (rlen_bd l1 (by decide)) h)
 have HI0 := Lib.hid fun W  => Lib.hid (rInt_any 0 W (by decide) (by decide))
 obtain ⟨p1, ad1, k1, c1, p2, ad2, k2, c2, rfl, q1, q2⟩ := rqv_shape h1
 have HE := Lib.hid (enter2q (t := 43) q1 q2)
 clear h1 q1 q2 l1 hn
 have E0 := Lib.hid (enters_of Tryz.func96 (by kernel_rfl))
 have E1 := Lib.hid (enters_of Tryz.func78 (by kernel_rfl))
 go_enter Tryz.func35, Tryz.ntmps35
 go_upto_region 1 with fail
 generalize ((w.alloc (.cells #[.bool p1, .slice ad1 k1 c1, .bool p2, .slice ad2 k2 c2] 43)).alloc (.cells #[.bool false, .slice none 0 0, .bool false, .slice none 0 0] 43)) = W0 at *
 obtain ⟨y1s, y1t, y1u, y1v, y2s, y2t, y2u, y2v, HE⟩ : ∃ y1s y1t y1u y1v y2s y2t y2u y2v : Value, Hid (QX w.heap.size y1s y1t y1u y1v (n) (d) W0 ∧ QX (w.heap.size + 1) y2s y2t y2u y2v (0) (0) W0 ∧ Below w.heap.size w W0) := ⟨_, _, _, _, _, _, _, _, HE⟩
 have N_1_2 := Lib.hid (show w.heap.size ≠ w.heap.size + 1 by omega)
 have G_1 := Lib.hid (show w.heap.size ≤ w.heap.size by omega)
 have G_2 := Lib.hid (show w.heap.size ≤ w.heap.size + 1 by omega)
 go_upto_region 1 with fail
 have L1 := Lib.hid (And.intro (HE.out.1.lt) (And.intro (HE.out.2.1.lt) (trivial)))
 refine wp_region_fl 7 ((Fct.v (.pointer (some ⟨w.heap.size, 0, none⟩))) :: (Fct.r (n)) :: (Fct.t2 (Fct.r (0)) (Fct.v (.int .i64 1))) :: (Fct.t2 (Fct.r (0)) (Fct.v (.int .i64 1))) :: (Fct.r (0)) :: (Fct.v (.int .i64 1)) :: (Fct.rb W0.heap.size) :: []) (fun W => QX w.heap.size y1s y1t y1u y1v (n) (d) W ∧ QX (w.heap.size + 1) y2s y2t y2u y2v (0) (0) W ∧ Below W0.heap.size W0 W) (true :: false :: false :: true :: true :: true :: false :: []) (some 9 :: some 10 :: some 11 :: some 8 :: some 12 :: some 13 :: some 4 :: []) (fun _ _ h hb => ⟨h.1.keep hb, h.2.1.keep hb, Below.trans h.2.2 (hb.mono h.2.2.size)⟩) ⟨HE.out.1, HE.out.2.1, Below.refl _ _⟩ ?_ ?_
 ·refine sy (sty_faQ0 (p := w.heap.size) rfl (.inl rfl) Arg.od) ?_
  refine so (step_ldR0 (b := w.heap.size) rfl (.inl rfl) (Arg.t 0 rfl) (fun _ h => ⟨h.1.c0, h.1.c1⟩) (fun _ h => h.1.n)) ?_
  refine so (step_call1 E0.out rfl (.inl rfl) (Arg.t 1 rfl) (fun u w _ h1 => (HR1.out _ _ h1).out |>.mono fun e w' ⟨he, hb⟩ => ⟨_, he, ⟨_, _, rfl, rv_nil0 _, rfl⟩, hb⟩)) ?_
  refine sy (sty_move rfl (.inl rfl) (Arg.t 2 rfl)) ?_
  refine sy (sty_ex20 (f := Fct.r (0)) (g := Fct.v (.int .i64 1)) rfl (.inl rfl) (Arg.t 3 rfl)) ?_
  refine sy (sty_ex21 (f := Fct.r (0)) (g := Fct.v (.int .i64 1)) rfl (.inl rfl) (Arg.t 3 rfl)) ?_
  refine sa (step_alR (B := W0.heap.size) rfl (.inl rfl) (fun _ h => h.2.2.size) (fun _ _ h => h)) ?_
  trivial
 intro v1 W1 hk hdf hs
 simp only [putV, Act.put, List.setIfInBounds_toArray, List.set_cons_zero, List.set_cons_succ, Nat.reduceAdd]
 have a_4 : (Fct.rb W0.heap.size).R (v1 6) W1 := hk 6 _ (by decide) rfl
 refine Fct.rb_elim a_4 ?_
 intro q_4 e_4 g_4 k_4
 have k_12 : (Fct.r (0)).R (v1 4) W1 := hk 4 _ (by decide) rfl
 have f_13 : v1 5 = .int .i64 1 := hk 5 _ (by decide) rfl
 clear hk hdf
 simp only [e_4, f_13]
 have B1_0 := Below.trans HE.out.2.2 (hs.2.2.mono HE.out.2.2.size)
 have N_1_4 := Lib.hid (Nat.ne_of_lt (Nat.lt_of_lt_of_le L1.out.1 g_4))
 have N_2_4 := Lib.hid (Nat.ne_of_lt (Nat.lt_of_lt_of_le L1.out.2.1 g_4))
 have G_4 := Lib.hid (show w.heap.size ≤ q_4 from Nat.le_trans HE.out.2.2.size g_4)
 refine tail_stR (q := q_4) rfl rfl rfl rfl k_4 k_12 ?_
 intro W1_1 x4bs x4bt n_4_1 s_4_1
 have m_1_1 := (hs.1).stq s_4_1 N_1_4.out
 have m_2_1 := (hs.2.1).stq s_4_1 N_2_4.out
 have B1_1 := s_4_1.below w.heap.size w G_4.out B1_0
 refine tail_assign rfl rfl ?_
 simp only [Act.put, List.setIfInBounds_toArray, List.set_cons_zero, List.set_cons_succ]
 refine tail_nil ?_
 have HS1 := Lib.hid (And.intro (m_1_1) (And.intro (m_2_1) (And.intro (n_4_1) (B1_1))))
 clear hs L1 HE B1_0 B1_1 k_12 f_13 n_4_1 s_4_1 m_1_1 m_2_1 e_4 g_4 k_4 a_4
 go_upto_region 2 with fail
 refine wp_region_fl 2 ((Fct.v (.int .i64 1)) :: (Fct.v (.bool (true))) :: []) (fun W => QX w.heap.size y1s y1t y1u y1v (n) (d) W ∧ QX (w.heap.size + 1) y2s y2t y2u y2v (0) (0) W ∧ RX q_4 x4bs x4bt (0) W ∧ Below W1_1.heap.size W1_1 W) (true :: true :: []) (some 14 :: some 15 :: []) (fun _ _ h hb => ⟨h.1.keep hb, h.2.1.keep hb, h.2.2.1.keep hb, Below.trans h.2.2.2 (hb.mono h.2.2.2.size)⟩) ⟨HS1.out.1, HS1.out.2.1, HS1.out.2.2.1, Below.refl _ _⟩ ?_ ?_
 ·refine sy (sty_move rfl (.inl rfl) Arg.od) ?_
  refine sy (sty_neqE (b := (true)) (rfl) rfl (.inl rfl) (Arg.t 0 rfl) (Arg.const _)) ?_
  trivial
 intro v2 W2 hk hdf hs
 simp only [putV, Act.put, List.setIfInBounds_toArray, List.set_cons_zero, List.set_cons_succ, Nat.reduceAdd]
 have f_14 : v2 0 = .int .i64 1 := hk 0 _ (by decide) rfl
 have f_15 : v2 1 = .bool (true) := hk 1 _ (by decide) rfl
 clear hk hdf
 simp only [f_14, f_15]
 have B2_0 := Below.trans HS1.out.2.2.2 (hs.2.2.2.mono HS1.out.2.2.2.size)
 refine tail_nil ?_
 have HS2 := Lib.hid (And.intro (hs.1) (And.intro (hs.2.1) (And.intro (hs.2.2.1) (B2_0))))
 clear hs HS1 B2_0 f_14 f_15
 go_upto_region 3 with fail
 refine wp_region_fl 2 ((Fct.q (0) (1)) :: (Fct.v (.int .i64 1)) :: []) (fun W => QX w.heap.size y1s y1t y1u y1v (n) (d) W ∧ QX (w.heap.size + 1) y2s y2t y2u y2v (0) (0) W ∧ RX q_4 x4bs x4bt (0) W ∧ Below W2.heap.size W2 W) (false :: true :: []) (some 16 :: some 17 :: []) (fun _ _ h hb => ⟨h.1.keep hb, h.2.1.keep hb, h.2.2.1.keep hb, Below.trans h.2.2.2 (hb.mono h.2.2.2.size)⟩) ⟨HS2.out.1, HS2.out.2.1, HS2.out.2.2.1, Below.refl _ _⟩ ?_ ?_
 ·refine so (step_call1 E1.out rfl (.inl rfl) (Arg.const _) (fun u w _ h1 => (by obtain rfl := (show _ = _ from h1); exact (HI0.out _).out))) ?_
  refine sy (sty_move rfl (.inl rfl) Arg.od) ?_
  trivial
 intro v3 W3 hk hdf hs
 simp only [putV, Act.put, List.setIfInBounds_toArray, List.set_cons_zero, List.set_cons_succ, Nat.reduceAdd]
 have k_16 : (Fct.q (0) (1)).R (v3 0) W3 := hk 0 _ (by decide) rfl
 have f_17 : v3 1 = .int .i64 1 := hk 1 _ (by decide) rfl
 clear hk hdf
 simp only [f_17]
 have B3_0 := Below.trans HS2.out.2.2.2 (hs.2.2.2.mono HS2.out.2.2.2.size)
 refine tail_stQ (q := (w.heap.size + 1)) rfl rfl rfl rfl hs.2.1 k_16 ?_
 intro W3_1 x2ds x2dt x2du x2dv n_2_1 s_2_1
 have m_1_1 := (hs.1).stq s_2_1 N_1_2.out
 have m_4_1 := (hs.2.2.1).stq s_2_1 (N_2_4.out.symm)
 have B3_1 := s_2_1.below w.heap.size w G_2.out B3_0
 refine tail_assign rfl rfl ?_
 simp only [Act.put, List.setIfInBounds_toArray, List.set_cons_zero, List.set_cons_succ]
 refine tail_nil ?_
 have HS3 := Lib.hid (And.intro (m_1_1) (And.intro (n_2_1) (And.intro (m_4_1) (B3_1))))
 clear hs HS2 B3_0 B3_1 k_16 f_17 n_2_1 s_2_1 m_1_1 m_4_1
 have hr := HS3.out.2.1
 have hbl := HS3.out.2.2.2
 have r0 := hr.c0
 have r1 := hr.c1
 have r2 := hr.c2
 have r3 := hr.c3
 have HR := Lib.hid hr.rq
 have HBL := Lib.hid hbl
 clear hr hbl HS3
 go_wp2_with fail
 refine bodyPost_ret (v := .tuple #[.agg #[x2ds, x2dt, x2du, x2dv], .int .i64 1]) (by simp [results, Tryz.results35, go_sem, r0, r1, r2, r3]) rfl ⟨_, rfl, HR.out, HBL.out⟩
set_option maxHeartbeats 16000000 in
set_option maxRecDepth 100000 in
theorem rqRoot_B (n d : Int) (v1 : Value) (w : World) (m : Nat) (hm : n = (m : Int)) (rn : Nat) (hr : IsRt m rn) (hq : rn * rn ≠ m) (k : Nat) (hk : d = (k : Int)) (rd : Nat) (hr2 : IsRt k rd) (l1 : Bd 8 n) (l2 : Bd 8 d) (h1 : RQV w v1 n d) : Calls Tryz.prog 35 #[v1] w (RQRes w 0 1 5) := by
 subst hm
 subst hk
 have HR1 := Lib.hid fun W u h => Lib.hid (rRoot_of m rn u W hr l1 h)
 have HR2 := Lib.hid fun W u h => Lib.hid (rRoot_of k rd u W hr2 l2 h)
 have br1 : Bd 8 (rn : Int) := root_bdS8 l1 hr.1
 have br2 : Bd 8 (rd : Int) := root_bdS8 l2 hr2.1
 have HM1 := Lib.hid fun W u v h h' => Lib.hid (rMul_any (rn : Int) (rn : Int) u v W (rlen_bd br1 (by decide)) (rlen_bd br1 (by decide)) h h')
 have HC1 := Lib.hid fun W u v h h' => Lib.hid (rCmp_any ((rn : Int) * (rn : Int)) (m : Int) u v W (rlen_bd (br1.mul br1) (by decide)) (rlen_bd l1 (by decide)) (rlen_bd ((br1.mul br1).sub l1) (by decide)) h h')
 have hc1 : true = !(sgnZ ((rn : Int) * (rn : Int) - (m : Int)) == 0) := by
  rw [sgn_ne0]
  have e1 := Int.natCast_mul rn rn
  rw [decide_eq_false (by omega)]; rfl
 have HI0 := Lib.hid fun W  => Lib.hid (rInt_any 0 W (by decide) (by decide))
 obtain ⟨p1, ad1, k1, c1, p2, ad2, k2, c2, rfl, q1, q2⟩ := rqv_shape h1
 have HE := Lib.hid (enter2q (t := 43) q1 q2)
 clear h1 q1 q2 l1 hr hq hr2 l2 br1 br2
 generalize (rn : Int) * (rn : Int) = RR at *
 replace hc1 := Lib.hid hc1
 have E0 := Lib.hid (enters_of Tryz.func96 (by kernel_rfl))
 have E1 := Lib.hid (enters_of Tryz.func89 (by kernel_rfl))
 have E2 := Lib.hid (enters_of Tryz.func83 (by kernel_rfl))
 have E3 := Lib.hid (enters_of Tryz.func78 (by kernel_rfl))
 go_enter Tryz.func35, Tryz.ntmps35
 go_upto_region 1 with fail
 generalize ((w.alloc (.cells #[.bool p1, .slice ad1 k1 c1, .bool p2, .slice ad2 k2 c2] 43)).alloc (.cells #[.bool false, .slice none 0 0, .bool false, .slice none 0 0] 43)) = W0 at *
 obtain ⟨y1s, y1t, y1u, y1v, y2s, y2t, y2u, y2v, HE⟩ : ∃ y1s y1t y1u y1v y2s y2t y2u y2v : Value, Hid (QX w.heap.size y1s y1t y1u y1v ((m : Int)) ((k : Int)) W0 ∧ QX (w.heap.size + 1) y2s y2t y2u y2v (0) (0) W0 ∧ Below w.heap.size w W0) := ⟨_, _, _, _, _, _, _, _, HE⟩
 have N_1_2 := Lib.hid (show w.heap.size ≠ w.heap.size + 1 by omega)
 have G_1 := Lib.hid (show w.heap.size ≤ w.heap.size by omega)
 have G_2 := Lib.hid (show w.heap.size ≤ w.heap.size + 1 by omega)
 go_upto_region 1 with fail
 have L1 := Lib.hid (And.intro (HE.out.1.lt) (And.intro (HE.out.2.1.lt) (trivial)))
 refine wp_region_fl 7 ((Fct.v (.pointer (some ⟨w.heap.size, 0, none⟩))) :: (Fct.r ((m : Int))) :: (Fct.t2 (Fct.r ((rn : Int))) (Fct.v (.int .i64 0))) :: (Fct.t2 (Fct.r ((rn : Int))) (Fct.v (.int .i64 0))) :: (Fct.r ((rn : Int))) :: (Fct.v (.int .i64 0)) :: (Fct.rb W0.heap.size) :: []) (fun W => QX w.heap.size y1s y1t y1u y1v ((m : Int)) ((k : Int)) W ∧ QX (w.heap.size + 1) y2s y2t y2u y2v (0) (0) W ∧ Below W0.heap.size W0 W) (true :: false :: false :: true :: true :: true :: false :: []) (some 9 :: some 10 :: some 11 :: some 8 :: some 12 :: some 13 :: some 4 :: []) (fun _ _ h hb => ⟨h.1.keep hb, h.2.1.keep hb, Below.trans h.2.2 (hb.mono h.2.2.size)⟩) ⟨HE.out.1, HE.out.2.1, Below.refl _ _⟩ ?_ ?_
 ·refine sy (sty_faQ0 (p := w.heap.size) rfl (.inl rfl) Arg.od) ?_
  refine so (step_ldR0 (b := w.heap.size) rfl (.inl rfl) (Arg.t 0 rfl) (fun _ h => ⟨h.1.c0, h.1.c1⟩) (fun _ h => h.1.n)) ?_
  refine so (step_call1 E0.out rfl (.inl rfl) (Arg.t 1 rfl) (fun u w _ h1 => (HR1.out _ _ h1).out.mono fun e w' ⟨x0, he, hi, hb⟩ => ⟨_, he, ⟨_, _, rfl, hi, rfl⟩, hb⟩)) ?_
  refine sy (sty_move rfl (.inl rfl) (Arg.t 2 rfl)) ?_
  refine sy (sty_ex20 (f := Fct.r ((rn : Int))) (g := Fct.v (.int .i64 0)) rfl (.inl rfl) (Arg.t 3 rfl)) ?_
  refine sy (sty_ex21 (f := Fct.r ((rn : Int))) (g := Fct.v (.int .i64 0)) rfl (.inl rfl) (Arg.t 3 rfl)) ?_
  refine sa (step_alR (B := W0.heap.size) rfl (.inl rfl) (fun _ h => h.2.2.size) (fun _ _ h => h)) ?_
  trivial
 intro v1 W1 hk hdf hs
 simp only [putV, Act.put, List.setIfInBounds_toArray, List.set_cons_zero, List.set_cons_succ, Nat.reduceAdd]
 have a_4 : (Fct.rb W0.heap.size).R (v1 6) W1 := hk 6 _ (by decide) rfl
 refine Fct.rb_elim a_4 ?_
 intro q_4 e_4 g_4 k_4
 have k_12 : (Fct.r ((rn : Int))).R (v1 4) W1 := hk 4 _ (by decide) rfl
 have f_13 : v1 5 = .int .i64 0 := hk 5 _ (by decide) rfl
 clear hk hdf
 simp only [e_4, f_13]
 have B1_0 := Below.trans HE.out.2.2 (hs.2.2.mono HE.out.2.2.size)
 have N_1_4 := Lib.hid (Nat.ne_of_lt (Nat.lt_of_lt_of_le L1.out.1 g_4))
 have N_2_4 := Lib.hid (Nat.ne_of_lt (Nat.lt_of_lt_of_le L1.out.2.1 g_4))
 have G_4 := Lib.hid (show w.heap.size ≤ q_4 from Nat.le_trans HE.out.2.2.size g_4)
 refine tail_stR (q := q_4) rfl rfl rfl rfl k_4 k_12 ?_
 intro W1_1 x4bs x4bt n_4_1 s_4_1
 have m_1_1 := (hs.1).stq s_4_1 N_1_4.out
 have m_2_1 := (hs.2.1).stq s_4_1 N_2_4.out
 have B1_1 := s_4_1.below w.heap.size w G_4.out B1_0
 refine tail_assign rfl rfl ?_
 simp only [Act.put, List.setIfInBounds_toArray, List.set_cons_zero, List.set_cons_succ]
 refine tail_nil ?_
 have HS1 := Lib.hid (And.intro (m_1_1) (And.intro (m_2_1) (And.intro (n_4_1) (B1_1))))
 clear hs L1 HE B1_0 B1_1 k_12 f_13 n_4_1 s_4_1 m_1_1 m_2_1 e_4 g_4 k_4 a_4
 go_upto_region 2 with fail
 refine wp_region_fl 2 ((Fct.v (.int .i64 0)) :: (Fct.v (.bool (false))) :: []) (fun W => QX w.heap.size y1s y1t y1u y1v ((m : Int)) ((k : Int)) W ∧ QX (w.heap.size + 1) y2s y2t y2u y2v (0) (0) W ∧ RX q_4 x4bs x4bt ((rn : Int)) W ∧ Below W1_1.heap.size W1_1 W) (true :: true :: []) (some 14 :: some 15 :: []) (fun _ _ h hb => ⟨h.1.keep hb, h.2.1.keep hb, h.2.2.1.keep hb, Below.trans h.2.2.2 (hb.mono h.2.2.2.size)⟩) ⟨HS1.out.1, HS1.out.2.1, HS1.out.2.2.1, Below.refl _ _⟩ ?_ ?_
 ·refine sy (sty_move rfl (.inl rfl) Arg.od) ?_
  refine sy (sty_neqE (b := (false)) (rfl) rfl (.inl rfl) (Arg.t 0 rfl) (Arg.const _)) ?_
  trivial
 intro v2 W2 hk hdf hs
 simp only [putV, Act.put, List.setIfInBounds_toArray, List.set_cons_zero, List.set_cons_succ, Nat.reduceAdd]
 have f_14 : v2 0 = .int .i64 0 := hk 0 _ (by decide) rfl
 have f_15 : v2 1 = .bool (false) := hk 1 _ (by decide) rfl
 clear hk hdf
 simp only [f_14, f_15]
 have B2_0 := Below.trans HS1.out.2.2.2 (hs.2.2.2.mono HS1.out.2.2.2.size)
 refine tail_nil ?_
 have HS2 := Lib.hid (And.intro (hs.1) (And.intro (hs.2.1) (And.intro (hs.2.2.1) (B2_0))))
 clear hs HS1 B2_0 f_14 f_15
 go_upto_region 4 with fail
 have L4 := Lib.hid (And.intro (HS2.out.1.lt) (And.intro (HS2.out.2.1.lt) (And.intro (HS2.out.2.2.1.lt) (trivial))))
 refine wp_region_fl 7 ((Fct.v (.pointer (some ⟨w.heap.size, 2, none⟩))) :: (Fct.r ((k : Int))) :: (Fct.t2 (Fct.r ((rd : Int))) (Fct.v (.int .i64 0))) :: (Fct.t2 (Fct.r ((rd : Int))) (Fct.v (.int .i64 0))) :: (Fct.r ((rd : Int))) :: (Fct.v (.int .i64 0)) :: (Fct.rb W2.heap.size) :: []) (fun W => QX w.heap.size y1s y1t y1u y1v ((m : Int)) ((k : Int)) W ∧ QX (w.heap.size + 1) y2s y2t y2u y2v (0) (0) W ∧ RX q_4 x4bs x4bt ((rn : Int)) W ∧ Below W2.heap.size W2 W) (true :: false :: false :: true :: true :: true :: false :: []) (some 19 :: some 20 :: some 21 :: some 18 :: some 22 :: some 23 :: some 6 :: []) (fun _ _ h hb => ⟨h.1.keep hb, h.2.1.keep hb, h.2.2.1.keep hb, Below.trans h.2.2.2 (hb.mono h.2.2.2.size)⟩) ⟨HS2.out.1, HS2.out.2.1, HS2.out.2.2.1, Below.refl _ _⟩ ?_ ?_
 ·refine sy (sty_faQ1 (p := w.heap.size) rfl (.inl rfl) Arg.od) ?_
  refine so (step_ldR2 (b := w.heap.size) rfl (.inl rfl) (Arg.t 0 rfl) (fun _ h => ⟨h.1.c2, h.1.c3⟩) (fun _ h => h.1.d)) ?_
  refine so (step_call1 E0.out rfl (.inl rfl) (Arg.t 1 rfl) (fun u w _ h1 => (HR2.out _ _ h1).out.mono fun e w' ⟨x0, he, hi, hb⟩ => ⟨_, he, ⟨_, _, rfl, hi, rfl⟩, hb⟩)) ?_
  refine sy (sty_move rfl (.inl rfl) (Arg.t 2 rfl)) ?_
  refine sy (sty_ex20 (f := Fct.r ((rd : Int))) (g := Fct.v (.int .i64 0)) rfl (.inl rfl) (Arg.t 3 rfl)) ?_
  refine sy (sty_ex21 (f := Fct.r ((rd : Int))) (g := Fct.v (.int .i64 0)) rfl (.inl rfl) (Arg.t 3 rfl)) ?_
  refine sa (step_alR (B := W2.heap.size) rfl (.inl rfl) (fun _ h => h.2.2.2.size) (fun _ _ h => h)) ?_
  trivial
 intro v4 W4 hk hdf hs
 simp only [putV, Act.put, List.setIfInBounds_toArray, List.set_cons_zero, List.set_cons_succ, Nat.reduceAdd]
 have a_6 : (Fct.rb W2.heap.size).R (v4 6) W4 := hk 6 _ (by decide) rfl
 refine Fct.rb_elim a_6 ?_
 intro q_6 e_6 g_6 k_6
 have k_22 : (Fct.r ((rd : Int))).R (v4 4) W4 := hk 4 _ (by decide) rfl
 have f_23 : v4 5 = .int .i64 0 := hk 5 _ (by decide) rfl
 clear hk hdf
 simp only [e_6, f_23]
 have B4_0 := Below.trans HS2.out.2.2.2 (hs.2.2.2.mono HS2.out.2.2.2.size)
 have N_1_6 := Lib.hid (Nat.ne_of_lt (Nat.lt_of_lt_of_le L4.out.1 g_6))
 have N_2_6 := Lib.hid (Nat.ne_of_lt (Nat.lt_of_lt_of_le L4.out.2.1 g_6))
 have N_4_6 := Lib.hid (Nat.ne_of_lt (Nat.lt_of_lt_of_le L4.out.2.2.1 g_6))
 have G_6 := Lib.hid (show w.heap.size ≤ q_6 from Nat.le_trans HS2.out.2.2.2.size g_6)
 refine tail_stR (q := q_6) rfl rfl rfl rfl k_6 k_22 ?_
 intro W4_1 x6es x6et n_6_1 s_6_1
 have m_1_1 := (hs.1).stq s_6_1 N_1_6.out
 have m_2_1 := (hs.2.1).stq s_6_1 N_2_6.out
 have m_4_1 := (hs.2.2.1).stq s_6_1 N_4_6.out
 have B4_1 := s_6_1.below w.heap.size w G_6.out B4_0
 refine tail_assign rfl rfl ?_
 simp only [Act.put, List.setIfInBounds_toArray, List.set_cons_zero, List.set_cons_succ]
 refine tail_nil ?_
 have HS4 := Lib.hid (And.intro (m_1_1) (And.intro (m_2_1) (And.intro (m_4_1) (And.intro (n_6_1) (B4_1)))))
 clear hs L4 HS2 B4_0 B4_1 k_22 f_23 n_6_1 s_6_1 m_1_1 m_2_1 m_4_1 e_6 g_6 k_6 a_6
 go_upto_region 5 with fail
 refine wp_region_fl 16 ((Fct.r ((rn : Int))) :: (Fct.r ((rn : Int))) :: (Fct.r (RR)) :: (Fct.v (.pointer (some ⟨w.heap.size, 0, none⟩))) :: (Fct.r ((m : Int))) :: (Fct.v (.int .i64 (sgnZ (RR - (m : Int))))) :: (Fct.v (.bool (true))) :: (Fct.v (.bool (true))) :: (Fct.v (undef)) :: (Fct.v (undef)) :: (Fct.v (undef)) :: (Fct.v (undef)) :: (Fct.v (undef)) :: (Fct.v (undef)) :: (Fct.v (undef)) :: (Fct.v (.bool (true))) :: []) (fun W => QX w.heap.size y1s y1t y1u y1v ((m : Int)) ((k : Int)) W ∧ QX (w.heap.size + 1) y2s y2t y2u y2v (0) (0) W ∧ RX q_4 x4bs x4bt ((rn : Int)) W ∧ RX q_6 x6es x6et ((rd : Int)) W ∧ Below W4_1.heap.size W4_1 W) (false :: false :: false :: true :: false :: false :: true :: true :: true :: true :: true :: true :: true :: true :: true :: true :: []) (some 24 :: some 25 :: some 26 :: some 27 :: some 28 :: some 29 :: some 30 :: some 31 :: some 32 :: some 33 :: some 34 :: some 35 :: some 36 :: some 37 :: some 38 :: some 39 :: []) (fun _ _ h hb => ⟨h.1.keep hb, h.2.1.keep hb, h.2.2.1.keep hb, h.2.2.2.1.keep hb, Below.trans h.2.2.2.2 (hb.mono h.2.2.2.2.size)⟩) ⟨HS4.out.1, HS4.out.2.1, HS4.out.2.2.1, HS4.out.2.2.2.1, Below.refl _ _⟩ ?_ ?_
 ·refine so (step_ldR0 (b := q_4) rfl (.inl rfl) Arg.od (fun _ h => ⟨h.2.2.1.c0, h.2.2.1.c1⟩) (fun _ h => h.2.2.1.rv)) ?_
  refine so (step_ldR0 (b := q_4) rfl (.inl rfl) Arg.od (fun _ h => ⟨h.2.2.1.c0, h.2.2.1.c1⟩) (fun _ h => h.2.2.1.rv)) ?_
  refine so (step_call2 E1.out rfl (.inl rfl) (Arg.t 0 rfl) (Arg.t 1 rfl) (fun u v w _ h1 h2 => (HM1.out _ _ _ h1 h2).out)) ?_
  refine sy (sty_faQ0 (p := w.heap.size) rfl (.inl rfl) Arg.od) ?_
  refine so (step_ldR0 (b := w.heap.size) rfl (.inl rfl) (Arg.t 3 rfl) (fun _ h => ⟨h.1.c0, h.1.c1⟩) (fun _ h => h.1.n)) ?_
  refine so (step_call2 E2.out rfl (.inl rfl) (Arg.t 2 rfl) (Arg.t 4 rfl) (fun u v w _ h1 h2 => (HC1.out _ _ _ h1 h2).out.mono fun e w' h => ⟨_, h.1, rfl, h.2⟩)) ?_
  refine sy (sty_neq (b := (true)) (hc1.out) rfl (.inl rfl) (Arg.t 5 rfl) (Arg.const _)) ?_
  refine sy (sty_move rfl (.inl rfl) (Arg.t 6 rfl)) ?_
  refine sy (sty_un (b := false) rfl rfl (by kernel_rfl) (fun _ _ h => h) (fun _ => rfl)) ?_
  refine sy (sty_un (b := false) rfl rfl (by kernel_rfl) (fun _ _ h => h) (fun _ => rfl)) ?_
  refine sy (sty_un (b := false) rfl rfl (by kernel_rfl) (fun _ _ h => h) (fun _ => rfl)) ?_
  refine sy (sty_un (b := false) rfl rfl (by kernel_rfl) (fun _ _ h => h) (fun _ => rfl)) ?_
  refine sy (sty_un (b := false) rfl rfl (by kernel_rfl) (fun _ _ h => h) (fun _ => rfl)) ?_
  refine sy (sty_un (b := false) rfl rfl (by kernel_rfl) (fun _ _ h => h) (fun _ => rfl)) ?_
  refine sy (sty_un (b := false) rfl rfl (by kernel_rfl) (fun _ _ h => h) (fun _ => rfl)) ?_
  refine sy (sty_pickT rfl (.inl rfl) (Arg.t 7 rfl) (Arg.const _)) ?_
  trivial
 intro v5 W5 hk hdf hs
 simp only [putV, Act.put, List.setIfInBounds_toArray, List.set_cons_zero, List.set_cons_succ, Nat.reduceAdd]
 have f_29 : v5 5 = .int .i64 (sgnZ (RR - (m : Int))) := hk 5 _ (by decide) rfl
 have f_30 : v5 6 = .bool (true) := hk 6 _ (by decide) rfl
 have f_31 : v5 7 = .bool (true) := hk 7 _ (by decide) rfl
 have f_32 : v5 8 = undef := hk 8 _ (by decide) rfl
 have f_33 : v5 9 = undef := hk 9 _ (by decide) rfl
 have f_34 : v5 10 = undef := hk 10 _ (by decide) rfl
 have f_35 : v5 11 = undef := hk 11 _ (by decide) rfl
 have f_36 : v5 12 = undef := hk 12 _ (by decide) rfl
 have f_37 : v5 13 = undef := hk 13 _ (by decide) rfl
 have f_38 : v5 14 = undef := hk 14 _ (by decide) rfl
 have f_39 : v5 15 = .bool (true) := hk 15 _ (by decide) rfl
 clear hk hdf
 simp only [f_29, f_30, f_31, f_32, f_33, f_34, f_35, f_36, f_37, f_38, f_39]
 have B5_0 := Below.trans HS4.out.2.2.2.2 (hs.2.2.2.2.mono HS4.out.2.2.2.2.size)
 refine tail_nil ?_
 have HS5 := Lib.hid (And.intro (hs.1) (And.intro (hs.2.1) (And.intro (hs.2.2.1) (And.intro (hs.2.2.2.1) (B5_0)))))
 clear hs HS4 B5_0 f_29 f_30 f_31 f_32 f_33 f_34 f_35 f_36 f_37 f_38 f_39
 go_upto_region 6 with fail
 refine wp_region_fl 1 ((Fct.q (0) (1)) :: []) (fun W => QX w.heap.size y1s y1t y1u y1v ((m : Int)) ((k : Int)) W ∧ QX (w.heap.size + 1) y2s y2t y2u y2v (0) (0) W ∧ RX q_4 x4bs x4bt ((rn : Int)) W ∧ RX q_6 x6es x6et ((rd : Int)) W ∧ Below W5.heap.size W5 W) (false :: []) (some 40 :: []) (fun _ _ h hb => ⟨h.1.keep hb, h.2.1.keep hb, h.2.2.1.keep hb, h.2.2.2.1.keep hb, Below.trans h.2.2.2.2 (hb.mono h.2.2.2.2.size)⟩) ⟨HS5.out.1, HS5.out.2.1, HS5.out.2.2.1, HS5.out.2.2.2.1, Below.refl _ _⟩ ?_ ?_
 ·refine so (step_call1 E3.out rfl (.inl rfl) (Arg.const _) (fun u w _ h1 => (by obtain rfl := (show _ = _ from h1); exact (HI0.out _).out))) ?_
  trivial
 intro v6 W6 hk hdf hs
 simp only [putV, Act.put, List.setIfInBounds_toArray, List.set_cons_zero, List.set_cons_succ]
 have k_40 : (Fct.q (0) (1)).R (v6 0) W6 := hk 0 _ (by decide) rfl
 clear hk hdf
 have B6_0 := Below.trans HS5.out.2.2.2.2 (hs.2.2.2.2.mono HS5.out.2.2.2.2.size)
 refine tail_stQ (q := (w.heap.size + 1)) rfl rfl rfl rfl hs.2.1 k_40 ?_
 intro W6_1 x2gs x2gt x2gu x2gv n_2_1 s_2_1
 have m_1_1 := (hs.1).stq s_2_1 N_1_2.out
 have m_4_1 := (hs.2.2.1).stq s_2_1 (N_2_4.out.symm)
 have m_6_1 := (hs.2.2.2.1).stq s_2_1 (N_2_6.out.symm)
 have B6_1 := s_2_1.below w.heap.size w G_2.out B6_0
 refine tail_assign rfl rfl ?_
 simp only [Act.put, List.setIfInBounds_toArray, List.set_cons_zero, List.set_cons_succ]
 refine tail_nil ?_
 have HS6 := Lib.hid (And.intro (m_1_1) (And.intro (n_2_1) (And.intro (m_4_1) (And.intro (m_6_1) (B6_1)))))
 clear hs HS5 B6_0 B6_1 k_40 n_2_1 s_2_1 m_1_1 m_4_1 m_6_1
 have hr := HS6.out.2.1
 have hbl := HS6.out.2.2.2.2
 have r0 := hr.c0
 have r1 := hr.c1
 have r2 := hr.c2
 have r3 := hr.c3
 have HR := Lib.hid hr.rq
 have HBL := Lib.hid hbl
 clear hr hbl HS6
 go_wp2_with fail
 refine bodyPost_ret (v := .tuple #[.agg #[x2gs, x2gt, x2gu, x2gv], .int .i64 5]) (by simp [results, Tryz.results35, go_sem, r0, r1, r2, r3]) rfl ⟨_, rfl, HR.out, HBL.out⟩
set_option maxHeartbeats 16000000 in
set_option maxRecDepth 100000 in
theorem rqRoot_C (n d : Int) (v1 : Value) (w : World) (m : Nat) (hm : n = (m : Int)) (rn : Nat) (hr : IsRt m rn) (hq : rn * rn = m) (k : Nat) (hk : d = (k : Int)) (rd : Nat) (hr2 : IsRt k rd) (hq2 : rd * rd ≠ k) (l1 : Bd 8 n) (l2 : Bd 8 d) (h1 : RQV w v1 n d) : Calls Tryz.prog 35 #[v1] w (RQRes w 0 1 5) := by
 subst hm
 subst hk
 have HR1 := Lib.hid fun W u h => Lib.hid (rRoot_of m rn u W hr l1 h)
 have HR2 := Lib.hid fun W u h => Lib.hid (rRoot_of k rd u W hr2 l2 h)
 have br1 : Bd 8 (rn : Int) := root_bdS8 l1 hr.1
 have br2 : Bd 8 (rd : Int) := root_bdS8 l2 hr2.1
 have HM1 := Lib.hid fun W u v h h' => Lib.hid (rMul_any (rn : Int) (rn : Int) u v W (rlen_bd br1 (by decide)) (rlen_bd br1 (by decide)) h h')
 have HC1 := Lib.hid fun W u v h h' => Lib.hid (rCmp_any ((rn : Int) * (rn : Int)) (m : Int) u v W (rlen_bd (br1.mul br1) (by decide)) (rlen_bd l1 (by decide)) (rlen_bd ((br1.mul br1).sub l1) (by decide)) h h')
 have hc1 : false = !(sgnZ ((rn : Int) * (rn : Int) - (m : Int)) == 0) := by
  rw [sgn_ne0]
  have e1 := Int.natCast_mul rn rn
  rw [decide_eq_true (by rw [← hq]; exact e1.symm)]; rfl
 have HM2 := Lib.hid fun W u v h h' => Lib.hid (rMul_any (rd : Int) (rd : Int) u v W (rlen_bd br2 (by decide)) (rlen_bd br2 (by decide)) h h')
 have HC2 := Lib.hid fun W u v h h' => Lib.hid (rCmp_any ((rd : Int) * (rd : Int)) (k : Int) u v W (rlen_bd (br2.mul br2) (by decide)) (rlen_bd l2 (by decide)) (rlen_bd ((br2.mul br2).sub l2) (by decide)) h h')
 have hc2 : true = !(sgnZ ((rd : Int) * (rd : Int) - (k : Int)) == 0) := by
  rw [sgn_ne0]
  have e1 := Int.natCast_mul rd rd
  rw [decide_eq_false (by omega)]; rfl
 have HI0 := Lib.hid fun W  => Lib.hid (rInt_any 0 W (by decide) (by decide))
 obtain ⟨p1, ad1, k1, c1, p2, ad2, k2, c2, rfl, q1, q2⟩ := rqv_shape h1
 have HE := Lib.hid (enter2q (t := 43) q1 q2)
 clear h1 q1 q2 l1 hr hq hr2 hq2 l2 br1 br2
 generalize (rn : Int) * (rn : Int) = RR at *
 generalize (rd : Int) * (rd : Int) = DD at *
 replace hc1 := Lib.hid hc1
 replace hc2 := Lib.hid hc2
 have E0 := Lib.hid (enters_of Tryz.func96 (by kernel_rfl))
 have E1 := Lib.hid (enters_of Tryz.func89 (by kernel_rfl))
 have E2 := Lib.hid (enters_of Tryz.func83 (by kernel_rfl))
 have E3 := Lib.hid (enters_of Tryz.func78 (by kernel_rfl))
 go_enter Tryz.func35, Tryz.ntmps35
 go_upto_region 1 with fail
 generalize ((w.alloc (.cells #[.bool p1, .slice ad1 k1 c1, .bool p2, .slice ad2 k2 c2] 43)).alloc (.cells #[.bool false, .slice none 0 0, .bool false, .slice none 0 0] 43)) = W0 at *
 obtain ⟨y1s, y1t, y1u, y1v, y2s, y2t, y2u, y2v, HE⟩ : ∃ y1s y1t y1u y1v y2s y2t y2u y2v : Value, Hid (QX w.heap.size y1s y1t y1u y1v ((m : Int)) ((k : Int)) W0 ∧ QX (w.heap.size + 1) y2s y2t y2u y2v (0) (0) W0 ∧ Below w.heap.size w W0) := ⟨_, _, _, _, _, _, _, _, HE⟩
 have N_1_2 := Lib.hid (show w.heap.size ≠ w.heap.size + 1 by omega)
 have G_1 := Lib.hid (show w.heap.size ≤ w.heap.size by omega)
 have G_2 := Lib.hid (show w.heap.size ≤ w.heap.size + 1 by omega)
 go_upto_region 1 with fail
 have L1 := Lib.hid (And.intro (HE.out.1.lt) (And.intro (HE.out.2.1.lt) (trivial)))
 refine wp_region_fl 7 ((Fct.v (.pointer (some ⟨w.heap.size, 0, none⟩))) :: (Fct.r ((m : Int))) :: (Fct.t2 (Fct.r ((rn : Int))) (Fct.v (.int .i64 0))) :: (Fct.t2 (Fct.r ((rn : Int))) (Fct.v (.int .i64 0))) :: (Fct.r ((rn : Int))) :: (Fct.v (.int .i64 0)) :: (Fct.rb W0.heap.size) :: []) (fun W => QX w.heap.size y1s y1t y1u y1v ((m : Int)) ((k : Int)) W ∧ QX (w.heap.size + 1) y2s y2t y2u y2v (0) (0) W ∧ Below W0.heap.size W0 W) (true :: false :: false :: true :: true :: true :: false :: []) (some 9 :: some 10 :: some 11 :: some 8 :: some 12 :: some 13 :: some 4 :: []) (fun _ _ h hb => ⟨h.1.keep hb, h.2.1.keep hb, Below.trans h.2.2 (hb.mono h.2.2.size)⟩) ⟨HE.out.1, HE.out.2.1, Below.refl _ _⟩ ?_ ?_
 ·refine sy (sty_faQ0 (p := w.heap.size) rfl (.inl rfl) Arg.od) ?_
  refine so (step_ldR0 (b := w.heap.size) rfl (.inl rfl) (Arg.t 0 rfl) (fun _ h => ⟨h.1.c0, h.1.c1⟩) (fun _ h => h.1.n)) ?_
  refine so (step_call1 E0.out rfl (.inl rfl) (Arg.t 1 rfl) (fun u w _ h1 => (HR1.out _ _ h1).out.mono fun e w' ⟨x0, he, hi, hb⟩ => ⟨_, he, ⟨_, _, rfl, hi, rfl⟩, hb⟩)) ?_
  refine sy (sty_move rfl (.inl rfl) (Arg.t 2 rfl)) ?_
  refine sy (sty_ex20 (f := Fct.r ((rn : Int))) (g := Fct.v (.int .i64 0)) rfl (.inl rfl) (Arg.t 3 rfl)) ?_
  refine sy (sty_ex21 (f := Fct.r ((rn : Int))) (g := Fct.v (.int .i64 0)) rfl (.inl rfl) (Arg.t 3 rfl)) ?_
  refine sa (step_alR (B := W0.heap.size) rfl (.inl rfl) (fun _ h => h.2.2.size) (fun _ _ h => h)) ?_
  trivial
 intro v1 W1 hk hdf hs
 simp only [putV, Act.put, List.setIfInBounds_toArray, List.set_cons_zero, List.set_cons_succ, Nat.reduceAdd]
 have a_4 : (Fct.rb W0.heap.size).R (v1 6) W1 := hk 6 _ (by decide) rfl
 refine Fct.rb_elim a_4 ?_
 intro q_4 e_4 g_4 k_4
 have k_12 : (Fct.r ((rn : Int))).R (v1 4) W1 := hk 4 _ (by decide) rfl
 have f_13 : v1 5 = .int .i64 0 := hk 5 _ (by decide) rfl
 clear hk hdf
 simp only [e_4, f_13]
 have B1_0 := Below.trans HE.out.2.2 (hs.2.2.mono HE.out.2.2.size)
 have N_1_4 := Lib.hid (Nat.ne_of_lt (Nat.lt_of_lt_of_le L1.out.1 g_4))
 have N_2_4 := Lib.hid (Nat.ne_of_lt (Nat.lt_of_lt_of_le L1.out.2.1 g_4))
 have G_4 := Lib.hid (show w.heap.size ≤ q_4 from Nat.le_trans HE.out.2.2.size g_4)
 refine tail_stR (q := q_4) rfl rfl rfl rfl k_4 k_12 ?_
 intro W1_1 x4bs x4bt n_4_1 s_4_1
 have m_1_1 := (hs.1).stq s_4_1 N_1_4.out
 have m_2_1 := (hs.2.1).stq s_4_1 N_2_4.out
 have B1_1 := s_4_1.below w.heap.size w G_4.out B1_0
 refine tail_assign rfl rfl ?_
 simp only [Act.put, List.setIfInBounds_toArray, List.set_cons_zero, List.set_cons_succ]
 refine tail_nil ?_
 have HS1 := Lib.hid (And.intro (m_1_1) (And.intro (m_2_1) (And.intro (n_4_1) (B1_1))))
 clear hs L1 HE B1_0 B1_1 k_12 f_13 n_4_1 s_4_1 m_1_1 m_2_1 e_4 g_4 k_4 a_4
 go_upto_region 2 with fail
 refine wp_region_fl 2 ((Fct.v (.int .i64 0)) :: (Fct.v (.bool (false))) :: []) (fun W => QX w.heap.size y1s y1t y1u y1v ((m : Int)) ((k : Int)) W ∧ QX (w.heap.size + 1) y2s y2t y2u y2v (0) (0) W ∧ RX q_4 x4bs x4bt ((rn : Int)) W ∧ Below W1_1.heap.size W1_1 W) (true :: true :: []) (some 14 :: some 15 :: []) (fun _ _ h hb => ⟨h.1.keep hb, h.2.1.keep hb, h.2.2.1.keep hb, Below.trans h.2.2.2 (hb.mono h.2.2.2.size)⟩) ⟨HS1.out.1, HS1.out.2.1, HS1.out.2.2.1, Below.refl _ _⟩ ?_ ?_
 ·refine sy (sty_move rfl (.inl rfl) Arg.od) ?_
  refine sy (sty_neqE (b := (false)) (rfl) rfl (.inl rfl) (Arg.t 0 rfl) (Arg.const _)) ?_
  trivial
 intro v2 W2 hk hdf hs
 simp only [putV, Act.put, List.setIfInBounds_toArray, List.set_cons_zero, List.set_cons_succ, Nat.reduceAdd]
 have f_14 : v2 0 = .int .i64 0 := hk 0 _ (by decide) rfl
 have f_15 : v2 1 = .bool (false) := hk 1 _ (by decide) rfl
 clear hk hdf
 simp only [f_14, f_15]
 have B2_0 := Below.trans HS1.out.2.2.2 (hs.2.2.2.mono HS1.out.2.2.2.size)
 refine tail_nil ?_
 have HS2 := Lib.hid (And.intro (hs.1) (And.intro (hs.2.1) (And.intro (hs.2.2.1) (B2_0))))
 clear hs HS1 B2_0 f_14 f_15
 go_upto_region 4 with fail
 have L4 := Lib.hid (And.intro (HS2.out.1.lt) (And.intro (HS2.out.2.1.lt) (And.intro (HS2.out.2.2.1.lt) (trivial))))
 refine wp_region_fl 7 ((Fct.v (.pointer (some ⟨w.heap.size, 2, none⟩))) :: (Fct.r ((k : Int))) :: (Fct.t2 (Fct.r ((rd : Int))) (Fct.v (.int .i64 0))) :: (Fct.t2 (Fct.r ((rd : Int))) (Fct.v (.int .i64 0))) :: (Fct.r ((rd : Int))) :: (Fct.v (.int .i64 0)) :: (Fct.rb W2.heap.size) :: []) (fun W => QX w.heap.size y1s y1t y1u y1v ((m : Int)) ((k : Int)) W ∧ QX (w.heap.size + 1) y2s y2t y2u y2v (0) (0) W ∧ RX q_4 x4bs x4bt ((rn : Int)) W ∧ Below W2.heap.size W2 W) (true :: false :: false :: true :: true :: true :: false :: []) (some 19 :: some 20 :: some 21 :: some 18 :: some 22 :: some 23 :: some 6 :: []) (fun _ _ h hb => ⟨h.1.keep hb, h.2.1.keep hb, h.2.2.1.keep hb, Below.trans h.2.2.2 (hb.mono h.2.2.2.size)⟩) ⟨HS2.out.1, HS2.out.2.1, HS2.out.2.2.1, Below.refl _ _⟩ ?_ ?_
 ·refine sy (sty_faQ1 (p := w.heap.size) rfl (.inl rfl) Arg.od) ?_
  refine so (step_ldR2 (b := w.heap.size) rfl (.inl rfl) (Arg.t 0 rfl) (fun _ h => ⟨h.1.c2, h.1.c3⟩) (fun _ h => h.1.d)) ?_
  refine so (step_call1 E0.out rfl (.inl rfl) (Arg.t 1 rfl) (fun u w _ h1 => (HR2.out _ _ h1).out.mono fun e w' ⟨x0, he, hi, hb⟩ => ⟨_, he, ⟨_, _, rfl, hi, rfl⟩, hb⟩)) ?_
  refine sy (sty_move rfl (.inl rfl) (Arg.t 2 rfl)) ?_
  refine sy (sty_ex20 (f := Fct.r ((rd : Int))) (g := Fct.v (.int .i64 0)) rfl (.inl rfl) (Arg.t 3 rfl)) ?_
  refine sy (sty_ex21 (f := Fct.r ((rd : Int))) (g := Fct.v (.int .i64 0)) rfl (.inl rfl) (Arg.t 3 rfl)) ?_
  refine sa (step_alR (B := W2.heap.size) rfl (.inl rfl) (fun _ h => h.2.2.2.size) (fun _ _ h => h)) ?_
  trivial
 intro v4 W4 hk hdf hs
 simp only [putV, Act.put, List.setIfInBounds_toArray, List.set_cons_zero, List.set_cons_succ, Nat.reduceAdd]
 have a_6 : (Fct.rb W2.heap.size).R (v4 6) W4 := hk 6 _ (by decide) rfl
 refine Fct.rb_elim a_6 ?_
 intro q_6 e_6 g_6 k_6
 have k_22 : (Fct.r ((rd : Int))).R (v4 4) W4 := hk 4 _ (by decide) rfl
 have f_23 : v4 5 = .int .i64 0 := hk 5 _ (by decide) rfl
 clear hk hdf
 simp only [e_6, f_23]
 have B4_0 := Below.trans HS2.out.2.2.2 (hs.2.2.2.mono HS2.out.2.2.2.size)
 have N_1_6 := Lib.hid (Nat.ne_of_lt (Nat.lt_of_lt_of_le L4.out.1 g_6))
 have N_2_6 := Lib.hid (Nat.ne_of_lt (Nat.lt_of_lt_of_le L4.out.2.1 g_6))
 have N_4_6 := Lib.hid (Nat.ne_of_lt (Nat.lt_of_lt_of_le L4.out.2.2.1 g_6))
 have G_6 := Lib.hid (show w.heap.size ≤ q_6 from Nat.le_trans HS2.out.2.2.2.size g_6)
 refine tail_stR (q := q_6) rfl rfl rfl rfl k_6 k_22 ?_
 intro W4_1 x6es x6et n_6_1 s_6_1
 have m_1_1 := (hs.1).stq s_6_1 N_1_6.out
 have m_2_1 := (hs.2.1).stq s_6_1 N_2_6.out
 have m_4_1 := (hs.2.2.1).stq s_6_1 N_4_6.out
 have B4_1 := s_6_1.below w.heap.size w G_6.out B4_0
 refine tail_assign rfl rfl ?_
 simp only [Act.put, List.setIfInBounds_toArray, List.set_cons_zero, List.set_cons_succ]
 refine tail_nil ?_
 have HS4 := Lib.hid (And.intro (m_1_1) (And.intro (m_2_1) (And.intro (m_4_1) (And.intro (n_6_1) (B4_1)))))
 clear hs L4 HS2 B4_0 B4_1 k_22 f_23 n_6_1 s_6_1 m_1_1 m_2_1 m_4_1 e_6 g_6 k_6 a_6
 go_upto_region 5 with fail
 refine wp_region_fl 16 ((Fct.r ((rn : Int))) :: (Fct.r ((rn : Int))) :: (Fct.r (RR)) :: (Fct.v (.pointer (some ⟨w.heap.size, 0, none⟩))) :: (Fct.r ((m : Int))) :: (Fct.v (.int .i64 (sgnZ (RR - (m : Int))))) :: (Fct.v (.bool (false))) :: (Fct.v (.bool (false))) :: (Fct.r ((rd : Int))) :: (Fct.r ((rd : Int))) :: (Fct.r (DD)) :: (Fct.v (.pointer (some ⟨w.heap.size, 2, none⟩))) :: (Fct.r ((k : Int))) :: (Fct.v (.int .i64 (sgnZ (DD - (k : Int))))) :: (Fct.v (.bool (true))) :: (Fct.v (.bool (true))) :: []) (fun W => QX w.heap.size y1s y1t y1u y1v ((m : Int)) ((k : Int)) W ∧ QX (w.heap.size + 1) y2s y2t y2u y2v (0) (0) W ∧ RX q_4 x4bs x4bt ((rn : Int)) W ∧ RX q_6 x6es x6et ((rd : Int)) W ∧ Below W4_1.heap.size W4_1 W) (false :: false :: false :: true :: false :: false :: true :: true :: false :: false :: false :: true :: false :: false :: true :: true :: []) (some 24 :: some 25 :: some 26 :: some 27 :: some 28 :: some 29 :: some 30 :: some 31 :: some 32 :: some 33 :: some 34 :: some 35 :: some 36 :: some 37 :: some 38 :: some 39 :: []) (fun _ _ h hb => ⟨h.1.keep hb, h.2.1.keep hb, h.2.2.1.keep hb, h.2.2.2.1.keep hb, Below.trans h.2.2.2.2 (hb.mono h.2.2.2.2.size)⟩) ⟨HS4.out.1, HS4.out.2.1, HS4.out.2.2.1, HS4.out.2.2.2.1, Below.refl _ _⟩ ?_ ?_
 ·refine so (step_ldR0 (b := q_4) rfl (.inl rfl) Arg.od (fun _ h => ⟨h.2.2.1.c0, h.2.2.1.c1⟩) (fun _ h => h.2.2.1.rv)) ?_
  refine so (step_ldR0 (b := q_4) rfl (.inl rfl) Arg.od (fun _ h => ⟨h.2.2.1.c0, h.2.2.1.c1⟩) (fun _ h => h.2.2.1.rv)) ?_
  refine so (step_call2 E1.out rfl (.inl rfl) (Arg.t 0 rfl) (Arg.t 1 rfl) (fun u v w _ h1 h2 => (HM1.out _ _ _ h1 h2).out)) ?_
  refine sy (sty_faQ0 (p := w.heap.size) rfl (.inl rfl) Arg.od) ?_
  refine so (step_ldR0 (b := w.heap.size) rfl (.inl rfl) (Arg.t 3 rfl) (fun _ h => ⟨h.1.c0, h.1.c1⟩) (fun _ h => h.1.n)) ?_
  refine so (step_call2 E2.out rfl (.inl rfl) (Arg.t 2 rfl) (Arg.t 4 rfl) (fun u v w _ h1 h2 => (HC1.out _ _ _ h1 h2).out.mono fun e w' h => ⟨_, h.1, rfl, h.2⟩)) ?_
  refine sy (sty_neq (b := (false)) (hc1.out) rfl (.inl rfl) (Arg.t 5 rfl) (Arg.const _)) ?_
  refine sy (sty_move rfl (.inl rfl) (Arg.t 6 rfl)) ?_
  refine so (step_ldR0 (b := q_6) rfl (.inr ⟨7, false, _, rfl, rfl, by kernel_rfl, fun _ _ h => h⟩) Arg.od (fun _ h => ⟨h.2.2.2.1.c0, h.2.2.2.1.c1⟩) (fun _ h => h.2.2.2.1.rv)) ?_
  refine so (step_ldR0 (b := q_6) rfl (.inr ⟨7, false, _, rfl, rfl, by kernel_rfl, fun _ _ h => h⟩) Arg.od (fun _ h => ⟨h.2.2.2.1.c0, h.2.2.2.1.c1⟩) (fun _ h => h.2.2.2.1.rv)) ?_
  refine so (step_call2 E1.out rfl (.inr ⟨7, false, _, rfl, rfl, by kernel_rfl, fun _ _ h => h⟩) (Arg.t 8 rfl) (Arg.t 9 rfl) (fun u v w _ h1 h2 => (HM2.out _ _ _ h1 h2).out)) ?_
  refine sy (sty_faQ1 (p := w.heap.size) rfl (.inr ⟨7, false, _, rfl, rfl, by kernel_rfl, fun _ _ h => h⟩) Arg.od) ?_
  refine so (step_ldR2 (b := w.heap.size) rfl (.inr ⟨7, false, _, rfl, rfl, by kernel_rfl, fun _ _ h => h⟩) (Arg.t 11 rfl) (fun _ h => ⟨h.1.c2, h.1.c3⟩) (fun _ h => h.1.d)) ?_
  refine so (step_call2 E2.out rfl (.inr ⟨7, false, _, rfl, rfl, by kernel_rfl, fun _ _ h => h⟩) (Arg.t 10 rfl) (Arg.t 12 rfl) (fun u v w _ h1 h2 => (HC2.out _ _ _ h1 h2).out.mono fun e w' h => ⟨_, h.1, rfl, h.2⟩)) ?_
  refine sy (sty_neq (b := (true)) (hc2.out) rfl (.inr ⟨7, false, _, rfl, rfl, by kernel_rfl, fun _ _ h => h⟩) (Arg.t 13 rfl) (Arg.const _)) ?_
  refine sy (sty_pickF rfl (.inl rfl) (Arg.t 7 rfl) (Arg.t 14 rfl)) ?_
  trivial
 intro v5 W5 hk hdf hs
 simp only [putV, Act.put, List.setIfInBounds_toArray, List.set_cons_zero, List.set_cons_succ, Nat.reduceAdd]
 have f_29 : v5 5 = .int .i64 (sgnZ (RR - (m : Int))) := hk 5 _ (by decide) rfl
 have f_30 : v5 6 = .bool (false) := hk 6 _ (by decide) rfl
 have f_31 : v5 7 = .bool (false) := hk 7 _ (by decide) rfl
 have f_37 : v5 13 = .int .i64 (sgnZ (DD - (k : Int))) := hk 13 _ (by decide) rfl
 have f_38 : v5 14 = .bool (true) := hk 14 _ (by decide) rfl
 have f_39 : v5 15 = .bool (true) := hk 15 _ (by decide) rfl
 clear hk hdf
 simp only [f_29, f_30, f_31, f_37, f_38, f_39]
 have B5_0 := Below.trans HS4.out.2.2.2.2 (hs.2.2.2.2.mono HS4.out.2.2.2.2.size)
 refine tail_nil ?_
 have HS5 := Lib.hid (And.intro (hs.1) (And.intro (hs.2.1) (And.intro (hs.2.2.1) (And.intro (hs.2.2.2.1) (B5_0)))))
 clear hs HS4 B5_0 f_29 f_30 f_31 f_37 f_38 f_39
 go_upto_region 6 with fail
 refine wp_region_fl 1 ((Fct.q (0) (1)) :: []) (fun W => QX w.heap.size y1s y1t y1u y1v ((m : Int)) ((k : Int)) W ∧ QX (w.heap.size + 1) y2s y2t y2u y2v (0) (0) W ∧ RX q_4 x4bs x4bt ((rn : Int)) W ∧ RX q_6 x6es x6et ((rd : Int)) W ∧ Below W5.heap.size W5 W) (false :: []) (some 40 :: []) (fun _ _ h hb => ⟨h.1.keep hb, h.2.1.keep hb, h.2.2.1.keep hb, h.2.2.2.1.keep hb, Below.trans h.2.2.2.2 (hb.mono h.2.2.2.2.size)⟩) ⟨HS5.out.1, HS5.out.2.1, HS5.out.2.2.1, HS5.out.2.2.2.1, Below.refl _ _⟩ ?_ ?_
 ·refine so (step_call1 E3.out rfl (.inl rfl) (Arg.const _) (fun u w _ h1 => (by obtain rfl := (show _ = _ from h1); exact (HI0.out _).out))) ?_
  trivial
 intro v6 W6 hk hdf hs
 simp only [putV, Act.put, List.setIfInBounds_toArray, List.set_cons_zero, List.set_cons_succ]
 have k_40 : (Fct.q (0) (1)).R (v6 0) W6 := hk 0 _ (by decide) rfl
 clear hk hdf
 have B6_0 := Below.trans HS5.out.2.2.2.2 (hs.2.2.2.2.mono HS5.out.2.2.2.2.size)
 refine tail_stQ (q := (w.heap.size + 1)) rfl rfl rfl rfl hs.2.1 k_40 ?_
 intro W6_1 x2gs x2gt x2gu x2gv n_2_1 s_2_1
 have m_1_1 := (hs.1).stq s_2_1 N_1_2.out
 have m_4_1 := (hs.2.2.1).stq s_2_1 (N_2_4.out.symm)
 have m_6_1 := (hs.2.2.2.1).stq s_2_1 (N_2_6.out.symm)
 have B6_1 := s_2_1.below w.heap.size w G_2.out B6_0
 refine tail_assign rfl rfl ?_
 simp only [Act.put, List.setIfInBounds_toArray, List.set_cons_zero, List.set_cons_succ]
 refine tail_nil ?_
 have HS6 := Lib.hid (And.intro (m_1_1) (And.intro (n_2_1) (And.intro (m_4_1) (And.intro (m_6_1) (B6_1)))))
 clear hs HS5 B6_0 B6_1 k_40 n_2_1 s_2_1 m_1_1 m_4_1 m_6_1
 have hr := HS6.out.2.1
 have hbl := HS6.out.2.2.2.2
 have r0 := hr.c0
 have r1 := hr.c1
 have r2 := hr.c2
 have r3 := hr.c3
 have HR := Lib.hid hr.rq
 have HBL := Lib.hid hbl
 clear hr hbl HS6
 go_wp2_with fail
 refine bodyPost_ret (v := .tuple #[.agg #[x2gs, x2gt, x2gu, x2gv], .int .i64 5]) (by simp [results, Tryz.results35, go_sem, r0, r1, r2, r3]) rfl ⟨_, rfl, HR.out, HBL.out⟩
set_option maxHeartbeats 16000000 in
set_option maxRecDepth 100000 in
theorem rqRoot_D (n d : Int) (v1 : Value) (w : World) (m : Nat) (hm : n = (m : Int)) (rn : Nat) (hr : IsRt m rn) (hq : rn * rn = m) (k : Nat) (hk : d = (k : Int)) (rd : Nat) (hr2 : IsRt k rd) (hq2 : rd * rd = k) (l1 : Bd 8 n) (l2 : Bd 8 d) (h1 : RQV w v1 n d) : Calls Tryz.prog 35 #[v1] w (RQRes w (rn : Int) (rd : Int) 0) := by
 subst hm
 subst hk
 have HR1 := Lib.hid fun W u h => Lib.hid (rRoot_of m rn u W hr l1 h)
 have HR2 := Lib.hid fun W u h => Lib.hid (rRoot_of k rd u W hr2 l2 h)
 have br1 : Bd 8 (rn : Int) := root_bdS8 l1 hr.1
 have br2 : Bd 8 (rd : Int) := root_bdS8 l2 hr2.1
 have HM1 := Lib.hid fun W u v h h' => Lib.hid (rMul_any (rn : Int) (rn : Int) u v W (rlen_bd br1 (by decide)) (rlen_bd br1 (by decide)) h h')
 have HC1 := Lib.hid fun W u v h h' => Lib.hid (rCmp_any ((rn : Int) * (rn : Int)) (m : Int) u v W (rlen_bd (br1.mul br1) (by decide)) (rlen_bd l1 (by decide)) (rlen_bd ((br1.mul br1).sub l1) (by decide)) h h')
 have hc1 : false = !(sgnZ ((rn : Int) * (rn : Int) - (m : Int)) == 0) := by
  rw [sgn_ne0]
  have e1 := Int.natCast_mul rn rn
  rw [decide_eq_true (by rw [← hq]; exact e1.symm)]; rfl
 have HM2 := Lib.hid fun W u v h h' => Lib.hid (rMul_any (rd : Int) (rd : Int) u v W (rlen_bd br2 (by decide)) (rlen_bd br2 (by decide)) h h')
 have HC2 := Lib.hid fun W u v h h' => Lib.hid (rCmp_any ((rd : Int) * (rd : Int)) (k : Int) u v W (rlen_bd (br2.mul br2) (by decide)) (rlen_bd l2 (by decide)) (rlen_bd ((br2.mul br2).sub l2) (by decide)) h h')
 have hc2 : false = !(sgnZ ((rd : Int) * (rd : Int) - (k : Int)) == 0) := by
  rw [sgn_ne0]
  have e1 := Int.natCast_mul rd rd
  rw [decide_eq_true (by rw [← hq2]; exact e1.symm)]; rfl
 obtain ⟨p1, ad1, k1, c1, p2, ad2, k2, c2, rfl, q1, q2⟩ := rqv_shape h1
 have HE := Lib.hid (enter2q (t := 43) q1 q2)
 clear h1 q1 q2 l1 hr hq hr2 hq2 l2 br1 br2
 generalize (rn : Int) * (rn : Int) = RR at *
 generalize (rd : Int) * (rd : Int) = DD at *
 replace hc1 := Lib.hid hc1
 replace hc2 := Lib.hid hc2
 have E0 := Lib.hid (enters_of Tryz.func96 (by kernel_rfl))
 have E1 := Lib.hid (enters_of Tryz.func89 (by kernel_rfl))
 have E2 := Lib.hid (enters_of Tryz.func83 (by kernel_rfl))
 go_enter Tryz.func35, Tryz.ntmps35
 go_upto_region 1 with fail
 generalize ((w.alloc (.cells #[.bool p1, .slice ad1 k1 c1, .bool p2, .slice ad2 k2 c2] 43)).alloc (.cells #[.bool false, .slice none 0 0, .bool false, .slice none 0 0] 43)) = W0 at *
 obtain ⟨y1s, y1t, y1u, y1v, y2s, y2t, y2u, y2v, HE⟩ : ∃ y1s y1t y1u y1v y2s y2t y2u y2v : Value, Hid (QX w.heap.size y1s y1t y1u y1v ((m : Int)) ((k : Int)) W0 ∧ QX (w.heap.size + 1) y2s y2t y2u y2v (0) (0) W0 ∧ Below w.heap.size w W0) := ⟨_, _, _, _, _, _, _, _, HE⟩
 have N_1_2 := Lib.hid (show w.heap.size ≠ w.heap.size + 1 by omega)
 have G_1 := Lib.hid (show w.heap.size ≤ w.heap.size by omega)
 have G_2 := Lib.hid (show w.heap.size ≤ w.heap.size + 1 by omega)
 go_upto_region 1 with fail
 have L1 := Lib.hid (And.intro (HE.out.1.lt) (And.intro (HE.out.2.1.lt) (trivial)))
 refine wp_region_fl 7 ((Fct.v (.pointer (some ⟨w.heap.size, 0, none⟩))) :: (Fct.r ((m : Int))) :: (Fct.t2 (Fct.r ((rn : Int))) (Fct.v (.int .i64 0))) :: (Fct.t2 (Fct.r ((rn : Int))) (Fct.v (.int .i64 0))) :: (Fct.r ((rn : Int))) :: (Fct.v (.int .i64 0)) :: (Fct.rb W0.heap.size) :: []) (fun W => QX w.heap.size y1s y1t y1u y1v ((m : Int)) ((k : Int)) W ∧ QX (w.heap.size + 1) y2s y2t y2u y2v (0) (0) W ∧ Below W0.heap.size W0 W) (true :: false :: false :: true :: true :: true :: false :: []) (some 9 :: some 10 :: some 11 :: some 8 :: some 12 :: some 13 :: some 4 :: []) (fun _ _ h hb => ⟨h.1.keep hb, h.2.1.keep hb, Below.trans h.2.2 (hb.mono h.2.2.size)⟩) ⟨HE.out.1, HE.out.2.1, Below.refl _ _⟩ ?_ ?_
 ·refine sy (sty_faQ0 (p := w.heap.size) rfl (.inl rfl) Arg.od) ?_
  refine so (step_ldR0 (b := w.heap.size) rfl (.inl rfl) (Arg.t 0 rfl) (fun _ h => ⟨h.1.c0, h.1.c1⟩) (fun _ h => h.1.n)) ?_
  refine so (step_call1 E0.out rfl (.inl rfl) (Arg.t 1 rfl) (fun u w _ h1 => (HR1.out _ _ h1).out.mono fun e w' ⟨x0, he, hi, hb⟩ => ⟨_, he, ⟨_, _, rfl, hi, rfl⟩, hb⟩)) ?_
  refine sy (sty_move rfl (.inl rfl) (Arg.t 2 rfl)) ?_
  refine sy (sty_ex20 (f := Fct.r ((rn : Int))) (g := Fct.v (.int .i64 0)) rfl (.inl rfl) (Arg.t 3 rfl)) ?_
  refine sy (sty_ex21 (f := Fct.r ((rn : Int))) (g := Fct.v (.int .i64 0)) rfl (.inl rfl) (Arg.t 3 rfl)) ?_
  refine sa (step_alR (B := W0.heap.size) rfl (.inl rfl) (fun _ h => h.2.2.size) (fun _ _ h => h)) ?_
  trivial
 intro v1 W1 hk hdf hs
 simp only [putV, Act.put, List.setIfInBounds_toArray, List.set_cons_zero, List.set_cons_succ, Nat.reduceAdd]
 have a_4 : (Fct.rb W0.heap.size).R (v1 6) W1 := hk 6 _ (by decide) rfl
 refine Fct.rb_elim a_4 ?_
 intro q_4 e_4 g_4 k_4
 have k_12 : (Fct.r ((rn : Int))).R (v1 4) W1 := hk 4 _ (by decide) rfl
 have f_13 : v1 5 = .int .i64 0 := hk 5 _ (by decide) rfl
 clear hk hdf
 simp only [e_4, f_13]
 have B1_0 := Below.trans HE.out.2.2 (hs.2.2.mono HE.out.2.2.size)
 have N_1_4 := Lib.hid (Nat.ne_of_lt (Nat.lt_of_lt_of_le L1.out.1 g_4))
 have N_2_4 := Lib.hid (Nat.ne_of_lt (Nat.lt_of_lt_of_le L1.out.2.1 g_4))
 have G_4 := Lib.hid (show w.heap.size ≤ q_4 from Nat.le_trans HE.out.2.2.size g_4)
 refine tail_stR (q := q_4) rfl rfl rfl rfl k_4 k_12 ?_
 intro W1_1 x4bs x4bt n_4_1 s_4_1
 have m_1_1 := (hs.1).stq s_4_1 N_1_4.out
 have m_2_1 := (hs.2.1).stq s_4_1 N_2_4.out
 have B1_1 := s_4_1.below w.heap.size w G_4.out B1_0
 refine tail_assign rfl rfl ?_
 simp only [Act.put, List.setIfInBounds_toArray, List.set_cons_zero, List.set_cons_succ]
 refine tail_nil ?_
 have HS1 := Lib.hid (And.intro (m_1_1) (And.intro (m_2_1) (And.intro (n_4_1) (B1_1))))
 clear hs L1 HE B1_0 B1_1 k_12 f_13 n_4_1 s_4_1 m_1_1 m_2_1 e_4 g_4 k_4 a_4
 go_upto_region 2 with fail
 refine wp_region_fl 2 ((Fct.v (.int .i64 0)) :: (Fct.v (.bool (false))) :: []) (fun W => QX w.heap.size y1s y1t y1u y1v ((m : Int)) ((k : Int)) W ∧ QX (w.heap.size + 1) y2s y2t y2u y2v (0) (0) W ∧ RX q_4 x4bs x4bt ((rn : Int)) W ∧ Below W1_1.heap.size W1_1 W) (true :: true :: []) (some 14 :: some 15 :: []) (fun _ _ h hb => ⟨h.1.keep hb, h.2.1.keep hb, h.2.2.1.keep hb, Below.trans h.2.2.2 (hb.mono h.2.2.2.size)⟩) ⟨HS1.out.1, HS1.out.2.1, HS1.out.2.2.1, Below.refl _ _⟩ ?_ ?_
 ·refine sy (sty_move rfl (.inl rfl) Arg.od) ?_
  refine sy (sty_neqE (b := (false)) (rfl) rfl (.inl rfl) (Arg.t 0 rfl) (Arg.const _)) ?_
  trivial
 intro v2 W2 hk hdf hs
 simp only [putV, Act.put, List.setIfInBounds_toArray, List.set_cons_zero, List.set_cons_succ, Nat.reduceAdd]
 have f_14 : v2 0 = .int .i64 0 := hk 0 _ (by decide) rfl
 have f_15 : v2 1 = .bool (false) := hk 1 _ (by decide) rfl
 clear hk hdf
 simp only [f_14, f_15]
 have B2_0 := Below.trans HS1.out.2.2.2 (hs.2.2.2.mono HS1.out.2.2.2.size)
 refine tail_nil ?_
 have HS2 := Lib.hid (And.intro (hs.1) (And.intro (hs.2.1) (And.intro (hs.2.2.1) (B2_0))))
 clear hs HS1 B2_0 f_14 f_15
 go_upto_region 4 with fail
 have L4 := Lib.hid (And.intro (HS2.out.1.lt) (And.intro (HS2.out.2.1.lt) (And.intro (HS2.out.2.2.1.lt) (trivial))))
 refine wp_region_fl 7 ((Fct.v (.pointer (some ⟨w.heap.size, 2, none⟩))) :: (Fct.r ((k : Int))) :: (Fct.t2 (Fct.r ((rd : Int))) (Fct.v (.int .i64 0))) :: (Fct.t2 (Fct.r ((rd : Int))) (Fct.v (.int .i64 0))) :: (Fct.r ((rd : Int))) :: (Fct.v (.int .i64 0)) :: (Fct.rb W2.heap.size) :: []) (fun W => QX w.heap.size y1s y1t y1u y1v ((m : Int)) ((k : Int)) W ∧ QX (w.heap.size + 1) y2s y2t y2u y2v (0) (0) W ∧ RX q_4 x4bs x4bt ((rn : Int)) W ∧ Below W2.heap.size W2 W) (true :: false :: false :: true :: true :: true :: false :: []) (some 19 :: some 20 :: some 21 :: some 18 :: some 22 :: some 23 :: some 6 :: []) (fun _ _ h hb => ⟨h.1.keep hb, h.2.1.keep hb, h.2.2.1.keep hb, Below.trans h.2.2.2 (hb.mono h.2.2.2.size)⟩) ⟨HS2.out.1, HS2.out.2.1, HS2.out.2.2.1, Below.refl _ _⟩ ?_ ?_
 ·refine sy (sty_faQ1 (p := w.heap.size) rfl (.inl rfl) Arg.od) ?_
  refine so (step_ldR2 (b := w.heap.size) rfl (.inl rfl) (Arg.t 0 rfl) (fun _ h => ⟨h.1.c2, h.1.c3⟩) (fun _ h => h.1.d)) ?_
  refine so (step_call1 E0.out rfl (.inl rfl) (Arg.t 1 rfl) (fun u w _ h1 => (HR2.out _ _ h1).out.mono fun e w' ⟨x0, he, hi, hb⟩ => ⟨_, he, ⟨_, _, rfl, hi, rfl⟩, hb⟩)) ?_
  refine sy (sty_move rfl (.inl rfl) (Arg.t 2 rfl)) ?_
  refine sy (sty_ex20 (f := Fct.r ((rd : Int))) (g := Fct.v (.int .i64 0)) rfl (.inl rfl) (Arg.t 3 rfl)) ?_
  refine sy (sty_ex21 (f := Fct.r ((rd : Int))) (g := Fct.v (.int .i64 0)) rfl (.inl rfl) (Arg.t 3 rfl)) ?_
  refine sa (step_alR (B := W2.heap.size) rfl (.inl rfl) (fun _ h => h.2.2.2.size) (fun _ _ h => h)) ?_
  trivial
 intro v4 W4 hk hdf hs
 simp only [putV, Act.put, List.setIfInBounds_toArray, List.set_cons_zero, List.set_cons_succ, Nat.reduceAdd]
 have a_6 : (Fct.rb W2.heap.size).R (v4 6) W4 := hk 6 _ (by decide) rfl
 refine Fct.rb_elim a_6 ?_
 intro q_6 e_6 g_6 k_6
 have k_22 : (Fct.r ((rd : Int))).R (v4 4) W4 := hk 4 _ (by decide) rfl
 have f_23 : v4 5 = .int .i64 0 := hk 5 _ (by decide) rfl
 clear hk hdf
 simp only [e_6, f_23]
 have B4_0 := Below.trans HS2.out.2.2.2 (hs.2.2.2.mono HS2.out.2.2.2.size)
 have N_1_6 := Lib.hid (Nat.ne_of_lt (Nat.lt_of_lt_of_le L4.out.1 g_6))
 have N_2_6 := Lib.hid (Nat.ne_of_lt (Nat.lt_of_lt_of_le L4.out.2.1 g_6))
 have N_4_6 := Lib.hid (Nat.ne_of_lt (Nat.lt_of_lt_of_le L4.out.2.2.1 g_6))
 have G_6 := Lib.hid (show w.heap.size ≤ q_6 from Nat.le_trans HS2.out.2.2.2.size g_6)
 refine tail_stR (q := q_6) rfl rfl rfl rfl k_6 k_22 ?_
 intro W4_1 x6es x6et n_6_1 s_6_1
 have m_1_1 := (hs.1).stq s_6_1 N_1_6.out
 have m_2_1 := (hs.2.1).stq s_6_1 N_2_6.out
 have m_4_1 := (hs.2.2.1).stq s_6_1 N_4_6.out
 have B4_1 := s_6_1.below w.heap.size w G_6.out B4_0
 refine tail_assign rfl rfl ?_
 simp only [Act.put, List.setIfInBounds_toArray, List.set_cons_zero, List.set_cons_succ]
 refine tail_nil ?_
 have HS4 := Lib.hid (And.intro (m_1_1) (And.intro (m_2_1) (And.intro (m_4_1) (And.intro (n_6_1) (B4_1)))))
 clear hs L4 HS2 B4_0 B4_1 k_22 f_23 n_6_1 s_6_1 m_1_1 m_2_1 m_4_1 e_6 g_6 k_6 a_6
 go_upto_region 5 with fail
 refine wp_region_fl 16 ((Fct.r ((rn : Int))) :: (Fct.r ((rn : Int))) :: (Fct.r (RR)) :: (Fct.v (.pointer (some ⟨w.heap.size, 0, none⟩))) :: (Fct.r ((m : Int))) :: (Fct.v (.int .i64 (sgnZ (RR - (m : Int))))) :: (Fct.v (.bool (false))) :: (Fct.v (.bool (false))) :: (Fct.r ((rd : Int))) :: (Fct.r ((rd : Int))) :: (Fct.r (DD)) :: (Fct.v (.pointer (some ⟨w.heap.size, 2, none⟩))) :: (Fct.r ((k : Int))) :: (Fct.v (.int .i64 (sgnZ (DD - (k : Int))))) :: (Fct.v (.bool (false))) :: (Fct.v (.bool (false))) :: []) (fun W => QX w.heap.size y1s y1t y1u y1v ((m : Int)) ((k : Int)) W ∧ QX (w.heap.size + 1) y2s y2t y2u y2v (0) (0) W ∧ RX q_4 x4bs x4bt ((rn : Int)) W ∧ RX q_6 x6es x6et ((rd : Int)) W ∧ Below W4_1.heap.size W4_1 W) (false :: false :: false :: true :: false :: false :: true :: true :: false :: false :: false :: true :: false :: false :: true :: true :: []) (some 24 :: some 25 :: some 26 :: some 27 :: some 28 :: some 29 :: some 30 :: some 31 :: some 32 :: some 33 :: some 34 :: some 35 :: some 36 :: some 37 :: some 38 :: some 39 :: []) (fun _ _ h hb => ⟨h.1.keep hb, h.2.1.keep hb, h.2.2.1.keep hb, h.2.2.2.1.keep hb, Below.trans h.2.2.2.2 (hb.mono h.2.2.2.2.size)⟩) ⟨HS4.out.1, HS4.out.2.1, HS4.out.2.2.1, HS4.out.2.2.2.1, Below.refl _ _⟩ ?_ ?_
 ·refine so (step_ldR0 (b := q_4) rfl (.inl rfl) Arg.od (fun _ h => ⟨h.2.2.1.c0, h.2.2.1.c1⟩) (fun _ h => h.2.2.1.rv)) ?_
  refine so (step_ldR0 (b := q_4) rfl (.inl rfl) Arg.od (fun _ h => ⟨h.2.2.1.c0, h.2.2.1.c1⟩) (fun _ h => h.2.2.1.rv)) ?_
  refine so (step_call2 E1.out rfl (.inl rfl) (Arg.t 0 rfl) (Arg.t 1 rfl) (fun u v w _ h1 h2 => (HM1.out _ _ _ h1 h2).out)) ?_
  refine sy (sty_faQ0 (p := w.heap.size) rfl (.inl rfl) Arg.od) ?_
  refine so (step_ldR0 (b := w.heap.size) rfl (.inl rfl) (Arg.t 3 rfl) (fun _ h => ⟨h.1.c0, h.1.c1⟩) (fun _ h => h.1.n)) ?_
  refine so (step_call2 E2.out rfl (.inl rfl) (Arg.t 2 rfl) (Arg.t 4 rfl) (fun u v w _ h1 h2 => (HC1.out _ _ _ h1 h2).out.mono fun e w' h => ⟨_, h.1, rfl, h.2⟩)) ?_
  refine sy (sty_neq (b := (false)) (hc1.out) rfl (.inl rfl) (Arg.t 5 rfl) (Arg.const _)) ?_
  refine sy (sty_move rfl (.inl rfl) (Arg.t 6 rfl)) ?_
  refine so (step_ldR0 (b := q_6) rfl (.inr ⟨7, false, _, rfl, rfl, by kernel_rfl, fun _ _ h => h⟩) Arg.od (fun _ h => ⟨h.2.2.2.1.c0, h.2.2.2.1.c1⟩) (fun _ h => h.2.2.2.1.rv)) ?_
  refine so (step_ldR0 (b := q_6) rfl (.inr ⟨7, false, _, rfl, rfl, by kernel_rfl, fun _ _ h => h⟩) Arg.od (fun _ h => ⟨h.2.2.2.1.c0, h.2.2.2.1.c1⟩) (fun _ h => h.2.2.2.1.rv)) ?_
  refine so (step_call2 E1.out rfl (.inr ⟨7, false, _, rfl, rfl, by kernel_rfl, fun _ _ h => h⟩) (Arg.t 8 rfl) (Arg.t 9 rfl) (fun u v w _ h1 h2 => (HM2.out _ _ _ h1 h2).out)) ?_
  refine sy (sty_faQ1 (p := w.heap.size) rfl (.inr ⟨7, false, _, rfl, rfl, by kernel_rfl, fun _ _ h => h⟩) Arg.od) ?_
  refine so (step_ldR2 (b := w.heap.size) rfl (.inr ⟨7, false, _, rfl, rfl, by kernel_rfl, fun _ _ h => h⟩) (Arg.t 11 rfl) (fun _ h => ⟨h.1.c2, h.1.c3⟩) (fun _ h => h.1.d)) ?_
  refine so (step_call2 E2.out rfl (.inr ⟨7, false, _, rfl, rfl, by kernel_rfl, fun _ _ h => h⟩) (Arg.t 10 rfl) (Arg.t 12 rfl) (fun u v w _ h1 h2 => (HC2.out _ _ _ h1 h2).out.mono fun e w' h => ⟨_, h.1, rfl, h.2⟩)) ?_
  refine sy (sty_neq (b := (false)) (hc2.out) rfl (.inr ⟨7, false, _, rfl, rfl, by kernel_rfl, fun _ _ h => h⟩) (Arg.t 13 rfl) (Arg.const _)) ?_
  refine sy (sty_pickF rfl (.inl rfl) (Arg.t 7 rfl) (Arg.t 14 rfl)) ?_
  trivial
 intro v5 W5 hk hdf hs
 simp only [putV, Act.put, List.setIfInBounds_toArray, List.set_cons_zero, List.set_cons_succ, Nat.reduceAdd]
 have f_29 : v5 5 = .int .i64 (sgnZ (RR - (m : Int))) := hk 5 _ (by decide) rfl
 have f_30 : v5 6 = .bool (false) := hk 6 _ (by decide) rfl
 have f_31 : v5 7 = .bool (false) := hk 7 _ (by decide) rfl
 have f_37 : v5 13 = .int .i64 (sgnZ (DD - (k : Int))) := hk 13 _ (by decide) rfl
 have f_38 : v5 14 = .bool (false) := hk 14 _ (by decide) rfl
 have f_39 : v5 15 = .bool (false) := hk 15 _ (by decide) rfl
 clear hk hdf
 simp only [f_29, f_30, f_31, f_37, f_38, f_39]
 have B5_0 := Below.trans HS4.out.2.2.2.2 (hs.2.2.2.2.mono HS4.out.2.2.2.2.size)
 refine tail_nil ?_
 have HS5 := Lib.hid (And.intro (hs.1) (And.intro (hs.2.1) (And.intro (hs.2.2.1) (And.intro (hs.2.2.2.1) (B5_0)))))
 clear hs HS4 B5_0 f_29 f_30 f_31 f_37 f_38 f_39
 go_upto_region 7 with fail
 refine wp_region_fl 3 ((Fct.r ((rn : Int))) :: (Fct.r ((rd : Int))) :: (Fct.q ((rn : Int)) ((rd : Int))) :: []) (fun W => QX w.heap.size y1s y1t y1u y1v ((m : Int)) ((k : Int)) W ∧ QX (w.heap.size + 1) y2s y2t y2u y2v (0) (0) W ∧ RX q_4 x4bs x4bt ((rn : Int)) W ∧ RX q_6 x6es x6et ((rd : Int)) W ∧ Below W5.heap.size W5 W) (false :: false :: true :: []) (some 41 :: some 42 :: some 43 :: []) (fun _ _ h hb => ⟨h.1.keep hb, h.2.1.keep hb, h.2.2.1.keep hb, h.2.2.2.1.keep hb, Below.trans h.2.2.2.2 (hb.mono h.2.2.2.2.size)⟩) ⟨HS5.out.1, HS5.out.2.1, HS5.out.2.2.1, HS5.out.2.2.2.1, Below.refl _ _⟩ ?_ ?_
 ·refine so (step_ldR0 (b := q_4) rfl (.inl rfl) Arg.od (fun _ h => ⟨h.2.2.1.c0, h.2.2.1.c1⟩) (fun _ h => h.2.2.1.rv)) ?_
  refine so (step_ldR0 (b := q_6) rfl (.inl rfl) Arg.od (fun _ h => ⟨h.2.2.2.1.c0, h.2.2.2.1.c1⟩) (fun _ h => h.2.2.2.1.rv)) ?_
  refine sy (sty_buildQ rfl (.inl rfl) (Arg.t 0 rfl) (Arg.t 1 rfl)) ?_
  trivial
 intro v7 W7 hk hdf hs
 simp only [putV, Act.put, List.setIfInBounds_toArray, List.set_cons_zero, List.set_cons_succ, Nat.reduceAdd]
 have k_43 : (Fct.q ((rn : Int)) ((rd : Int))).R (v7 2) W7 := hk 2 _ (by decide) rfl
 clear hk hdf
 have B7_0 := Below.trans HS5.out.2.2.2.2 (hs.2.2.2.2.mono HS5.out.2.2.2.2.size)
 refine tail_stQ (q := (w.heap.size + 1)) rfl rfl rfl rfl hs.2.1 k_43 ?_
 intro W7_1 x2hs x2ht x2hu x2hv n_2_1 s_2_1
 have m_1_1 := (hs.1).stq s_2_1 N_1_2.out
 have m_4_1 := (hs.2.2.1).stq s_2_1 (N_2_4.out.symm)
 have m_6_1 := (hs.2.2.2.1).stq s_2_1 (N_2_6.out.symm)
 have B7_1 := s_2_1.below w.heap.size w G_2.out B7_0
 refine tail_assign rfl rfl ?_
 simp only [Act.put, List.setIfInBounds_toArray, List.set_cons_zero, List.set_cons_succ]
 refine tail_nil ?_
 have HS7 := Lib.hid (And.intro (m_1_1) (And.intro (n_2_1) (And.intro (m_4_1) (And.intro (m_6_1) (B7_1)))))
 clear hs HS5 B7_0 B7_1 k_43 n_2_1 s_2_1 m_1_1 m_4_1 m_6_1
 have hr := HS7.out.2.1
 have hbl := HS7.out.2.2.2.2
 have r0 := hr.c0
 have r1 := hr.c1
 have r2 := hr.c2
 have r3 := hr.c3
 have HR := Lib.hid hr.rq
 have HBL := Lib.hid hbl
 clear hr hbl HS7
 go_wp2_with fail
 refine bodyPost_ret (v := .tuple #[.agg #[x2hs, x2ht, x2hu, x2hv], .int .i64 0]) (by simp [results, Tryz.results35, go_sem, r0, r1, r2, r3]) rfl ⟨_, rfl, HR.out, HBL.out⟩
theorem rqRoot_any (n d : Int) (rn rd : Nat) (v1 : Value) (w : World) (hd0 : 0 < d) (hr : IsRt n.natAbs rn) (hr2 : IsRt d.natAbs rd) (l1 : Bd 8 n) (l2 : Bd 8 d) (h1 : RQV w v1 n d) :
  Calls Tryz.prog 35 #[v1] w (RQRes w (rtN n d rn rd) (rtD n d rn rd) (rtC n d rn rd)) := by
 unfold rtN rtD rtC
 by_cases hn : n < 0
 ·rw [if_pos hn, if_pos hn, if_pos hn]
  exact rqRoot_A n d v1 w hn l1 h1
 ·rw [if_neg hn, if_neg hn, if_neg hn]
  have hm : n = ((n.natAbs : Nat) : Int) := by omega
  have hk : d = ((d.natAbs : Nat) : Int) := by omega
  by_cases hq : rn * rn = n.natAbs
  ·by_cases hq2 : rd * rd = d.natAbs
   ·rw [if_pos ⟨hq, hq2⟩, if_pos ⟨hq, hq2⟩, if_pos ⟨hq, hq2⟩]
    exact rqRoot_D n d v1 w n.natAbs hm rn hr hq d.natAbs hk rd hr2 hq2 l1 l2 h1
   ·rw [if_neg (fun h => hq2 h.2), if_neg (fun h => hq2 h.2), if_neg (fun h => hq2 h.2)]
    exact rqRoot_C n d v1 w n.natAbs hm rn hr hq d.natAbs hk rd hr2 hq2 l1 l2 h1
  ·rw [if_neg (fun h => hq h.1), if_neg (fun h => hq h.1), if_neg (fun h => hq h.1)]
   exact rqRoot_B n d v1 w n.natAbs hm rn hr hq d.natAbs hk rd hr2 l1 l2 h1
end
end Go.Proofs.YtghgcbedajaldaaGreat
