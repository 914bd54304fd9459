/-  R3 R4  -/
import Derived.Test.YtghgcbedajaldaaGreatMkax
/-  The reference's fractions: over, Whole, Sign, Neg.  -/
namespace Go.Proofs.YtghgcbedajaldaaGreat
section
open Go.RowKit Digs
theorem bd_le {k : Nat} {z x : Int} (h : Bd k x) (hz : z.natAbs ≤ x.natAbs) : Bd k z := Nat.lt_of_le_of_lt hz h
theorem bd_neg {k : Nat} {z : Int} (h : Bd k z) : Bd k (-z) := bd_le h (by omega)
theorem bd_qn {k : Nat} {a b : Int} (h : Bd k a) : Bd k (qn a b) := by
 unfold qn
 refine bd_le h (Nat.le_trans (by rw [Int.natAbs_tdiv]; exact Nat.div_le_self _ _) ?_)
 split <;> omega
theorem bd_qd {k : Nat} {a b : Int} (h : Bd k b) : Bd k (qd a b) := by
 unfold qd
 refine bd_le h (Nat.le_trans (by rw [Int.natAbs_tdiv]; exact Nat.div_le_self _ _) ?_)
 split <;> omega
structure QX (p : Nat) (a b c e : Value) (n d : Int) (W : World) : Prop where
 c0 : W.cell? ⟨p, 0, none⟩ = some a
 c1 : W.cell? ⟨p, 1, none⟩ = some b
 c2 : W.cell? ⟨p, 2, none⟩ = some c
 c3 : W.cell? ⟨p, 3, none⟩ = some e
 f0 : W.frozen? ⟨p, 0, none⟩ = false
 f1 : W.frozen? ⟨p, 1, none⟩ = false
 f2 : W.frozen? ⟨p, 2, none⟩ = false
 f3 : W.frozen? ⟨p, 3, none⟩ = false
 n : RefV W (.agg #[a, b]) n
 d : RefV W (.agg #[c, e]) d
theorem QX.lt {p : Nat} {a b c e : Value} {n d : Int} {W : World} (h : QX p a b c e n d W) : p < W.heap.size := World.block_lt_of_cell? W _ h.c0
theorem QX.keep {p : Nat} {a b c e : Value} {n d : Int} {W W' : World} (h : QX p a b c e n d W) (hb : Below W.heap.size W W') : QX p a b c e n d W' :=
 ⟨(hb.cell (p := ⟨p, 0, none⟩) h.lt).trans h.c0, (hb.cell (p := ⟨p, 1, none⟩) h.lt).trans h.c1, (hb.cell (p := ⟨p, 2, none⟩) h.lt).trans h.c2, (hb.cell (p := ⟨p, 3, none⟩) h.lt).trans h.c3,
  (hb.frozen (p := ⟨p, 0, none⟩) h.lt).trans h.f0, (hb.frozen (p := ⟨p, 1, none⟩) h.lt).trans h.f1, (hb.frozen (p := ⟨p, 2, none⟩) h.lt).trans h.f2, (hb.frozen (p := ⟨p, 3, none⟩) h.lt).trans h.f3, h.n.keep hb, h.d.keep hb⟩
theorem QX.made {w : World} {a b c e : Value} {n d : Int} {t : TypeId} (h1 : RefV w (.agg #[a, b]) n) (h2 : RefV w (.agg #[c, e]) d) : QX w.heap.size a b c e n d (w.alloc (.cells #[a, b, c, e] t)) := by
 have h := cells4 (w := w) (a := a) (b := b) (c := c) (d := e) (t := t) (Below.refl _ _)
 have hb := (Below.refl w.heap.size w).alloc (Nat.le_refl _) (.cells #[a, b, c, e] t)
 exact ⟨h.1, h.2.1, h.2.2.1, h.2.2.2.1, h.2.2.2.2.1, h.2.2.2.2.2.1, h.2.2.2.2.2.2.1, h.2.2.2.2.2.2.2.1, h1.keep hb, h2.keep hb⟩
theorem QX.rq {p : Nat} {a b c e : Value} {n d : Int} {W : World} (h : QX p a b c e n d W) : RQV W (.agg #[a, b, c, e]) n d := ⟨_, _, _, _, rfl, h.n, h.d⟩
theorem QX.c4 {p : Nat} {a b c e : Value} {n d : Int} {W : World} (h : QX p a b c e n d W) : W.cell? ⟨p, 0, none⟩ = some a ∧ W.cell? ⟨p, 1, none⟩ = some b ∧ W.cell? ⟨p, 2, none⟩ = some c ∧ W.cell? ⟨p, 3, none⟩ = some e := ⟨h.c0, h.c1, h.c2, h.c3⟩
set_option maxHeartbeats 4000000 in
set_option maxRecDepth 100000 in
theorem rover_any (n d : Int) (vn vd : Value) (w : World) (hd0 : d ≠ 0) (hn : rlen n ≤ 50000) (hd : rlen d ≤ 50000) (h1 : RefV w vn n) (h2 : RefV w vd d) :
  Calls Tryz.prog 88 #[vn, vd] w (RQPost w (qn n d) (qd n d)) := by
 have HN := Lib.hid fun W u v h h' => Lib.hid (show Calls Tryz.prog 17 #[u, v] W (RQRes W (qn n d) (qd n d) 0) from by
  have := rNew_any n d u v W hn hd h h'
  rwa [if_neg hd0, if_neg hd0, if_neg hd0] at this)
 obtain ⟨p1, ad1, n1, c1, rfl⟩ := refv_shape h1
 obtain ⟨p2, ad2, n2, c2, rfl⟩ := refv_shape h2
 have HR1 : Hid (N3 w n d (.bool p1) (.slice ad1 n1 c1) (.bool p2) (.slice ad2 n2 c2) _) := Lib.hid (N3.made (t := 34) (u := 43) h1 h2)
 clear h1 h2 hd0 hn hd
 generalize qn n d = qN at *
 generalize qd n d = qD at *
 go_enter Tryz.func88, Tryz.ntmps88
 go_wp2_with fail
 (with_reducible refine (HN.out _ _ _ HR1.out.x.rv HR1.out.y.rv).out.mono ?_)
 rintro e w1 ⟨v1, rfl, hq, hb1⟩
 obtain ⟨p3, ad3, n3, c3, p4, ad4, n4, c4, rfl, hq1, hq2⟩ := rqv_shape hq
 have hal := (Below.refl w1.heap.size w1).alloc (Nat.le_refl _) (.cells #[.bool p3, .slice ad3 n3 c3, .bool p4, .slice ad4 n4 c4] 43)
 have hR2 := (HR1.out.keep hb1).keep hal
 have g1 := Lib.hid (hR2.z.put (hq1.keep hal))
 have g2 := Lib.hid (hR2.z.put (hq2.keep hal))
 have HBL := Lib.hid hR2.below
 obtain ⟨_, _, ⟨r0, r1, r2, r3, f0, f1, f2, f3⟩, _⟩ := hR2
 clear hq hq1 hq2 hb1 hal HR1
 go_wp2_with fail
 refine bodyPost_ret (v := .agg #[.bool p3, .slice ad3 n3 c3, .bool p4, .slice ad4 n4 c4]) (by simp [results, Tryz.results88, go_sem, r0, r1, r2, r3]) rfl ⟨_, rfl, ⟨_, _, _, _, rfl, g1.out _ _ _ _, g2.out _ _ _ _⟩, ?_⟩
 exact (((HBL.out.setCell (by simp; omega) _).setCell (by simp; omega) _).setCell (by simp; omega) _).setCell (by simp; omega) _
set_option maxRecDepth 100000 in
theorem rqSign_any (n d : Int) (v : Value) (w : World) (hn : rlen n ≤ 1000000) (h : RQV w v n d) :
  Calls Tryz.prog 25 #[v] w fun e w' => e = .returned (.int .i64 (sgnZ n)) ∧ Below w.heap.size w w' := by
 obtain ⟨p1, ad1, n1, c1, p2, ad2, n2, c2, rfl, h1, h2⟩ := rqv_shape h
 have HS := Lib.hid fun W hw => Lib.hid (rSign_any n _ W hn (h1.keep (w' := W) hw))
 clear h h1 h2
 go_enter Tryz.func25, Tryz.ntmps25
 go_wp2_with fail
 refine (HS.out _ ((Below.refl _ _).alloc (Nat.le_refl _) _)).out.mono ?_
 rintro e w1 ⟨rfl, hb⟩
 have HB := Lib.hid (((Below.refl w.heap.size w).alloc (Nat.le_refl _) (.cells #[.bool p1, .slice ad1 n1 c1, .bool p2, .slice ad2 n2 c2] 43)).trans (hb.mono (by simp)))
 clear hb
 go_wp2_with fail
 go_ret
 exact ⟨rfl, HB.out⟩
set_option maxHeartbeats 4000000 in
set_option maxRecDepth 100000 in
theorem rqNeg_any (n d : Int) (v : Value) (w : World) (h : RQV w v n d) :
  Calls Tryz.prog 37 #[v] w (RQPost w (-n) d) := by
 obtain ⟨p1, ad1, n1, c1, p2, ad2, n2, c2, rfl, h1, h2⟩ := rqv_shape h
 have HN := Lib.hid fun W u h => Lib.hid (rNeg_any n u W h)
 have hal := (Below.refl (w.alloc (.cells #[.bool p1, .slice ad1 n1 c1, .bool p2, .slice ad2 n2 c2] 43)).heap.size (w.alloc (.cells #[.bool p1, .slice ad1 n1 c1, .bool p2, .slice ad2 n2 c2] 43))).alloc (Nat.le_refl _) (.cells #[.bool false, .slice none 0 0, .bool false, .slice none 0 0] 43)
 have HX0 := Lib.hid (((QX.made (t := 43) h1 h2).keep hal).keep (Below.refl _ _).drew)
 have hz0 := (Z4b.made (w := w.alloc (.cells #[.bool p1, .slice ad1 n1 c1, .bool p2, .slice ad2 n2 c2] 43)) (t := 43)).keep (Below.refl _ _).drew
 simp only [World.size_alloc] at hz0
 have HZ0 := Lib.hid hz0
 have HB0 := Lib.hid (below2 w (.cells #[.bool p1, .slice ad1 n1 c1, .bool p2, .slice ad2 n2 c2] 43) (.cells #[.bool false, .slice none 0 0, .bool false, .slice none 0 0] 43)).drew
 have hne : w.heap.size ≠ w.heap.size + 1 := by omega
 generalize -n = m at *
 clear h h1 h2 hal hz0
 go_enter Tryz.func37, Tryz.ntmps37
 go_upto_region 1 with fail
 have hx0 := HX0.out
 have hz0 := HZ0.out
 have hb0 := HB0.out
 clear HX0 HZ0 HB0
 go_region_held3 (fun w' => w'.cell? ⟨w.heap.size, 0, none⟩ = some (.bool p1) ∧ w'.cell? ⟨w.heap.size, 1, none⟩ = some (.slice ad1 n1 c1) ∧ w'.cell? ⟨w.heap.size, 2, none⟩ = some (.bool p2) ∧ w'.cell? ⟨w.heap.size, 3, none⟩ = some (.slice ad2 n2 c2))
  (first | with_reducible exact hx1.c4 | with_reducible exact hx0.c4 | with_reducible exact ⟨(cell_store4 hne).trans hx1.c0, (cell_store4 hne).trans hx1.c1, (cell_store4 hne).trans hx1.c2, (cell_store4 hne).trans hx1.c3⟩ | go_keep)
  (go_loud (first
  | (go_at_call 79; (with_reducible refine (HN.out _ _ hx0.n).out.mono ?_); rintro e wA ⟨vA, rfl, hiA, hbA⟩; have hx1 := hx0.keep hbA; have hz1 := hz0.keep hbA; have hb1 := hb0.trans (hbA.mono hb0.size); obtain ⟨p3, ad3, n3, c3, rfl⟩ := refv_shape hiA; have r0 := hz1.r0; have r1 := hz1.r1; have r2 := hz1.r2; have r3 := hz1.r3; have f0 := hz1.f0; have f1 := hz1.f1; have f2 := hz1.f2; have f3 := hz1.f3)))
 all_goals
  have g1 := Lib.hid (hz1.put hiA)
  have g2 := Lib.hid (hz1.put hx1.d)
  have hbl := hb1
  go_wp2_with fail
  refine bodyPost_ret (v := .agg #[.bool p3, .slice ad3 n3 c3, .bool p2, .slice ad2 n2 c2]) (by simp [results, Tryz.results37, go_sem, r0, r1, r2, r3]) rfl ⟨_, rfl, ⟨_, _, _, _, rfl, g1.out _ _ _ _, g2.out _ _ _ _⟩, ?_⟩
  exact (((hbl.setCell (by simp) _).setCell (by simp) _).setCell (by simp) _).setCell (by simp) _
end
end Go.Proofs.YtghgcbedajaldaaGreat
/-  The reference's fractions: Add, Sub, Cmp.  -/
namespace Go.Proofs.YtghgcbedajaldaaGreat
section
open Go.RowKit Digs
structure G3 (w : World) (a b c e : Value) (n d : Int) (a' b' c' e' : Value) (n' d' : Int) (W : World) : Prop where
 x : QX w.heap.size a b c e n d W
 y : QX (w.heap.size + 1) a' b' c' e' n' d' W
 z : Z4b (w.heap.size + 1 + 1) W
 below : Below w.heap.size w W
theorem G3.keep {w : World} {a b c e a' b' c' e' : Value} {n d n' d' : Int} {W W' : World} (h : G3 w a b c e n d a' b' c' e' n' d' W) (hb : Below W.heap.size W W') : G3 w a b c e n d a' b' c' e' n' d' W' :=
 ⟨h.x.keep hb, h.y.keep hb, h.z.keep hb, h.below.trans (hb.mono h.below.size)⟩
theorem G3.made {w : World} {a b c e a' b' c' e' : Value} {n d n' d' : Int} {t : TypeId} (h1 : RefV w (.agg #[a, b]) n) (h2 : RefV w (.agg #[c, e]) d) (h3 : RefV w (.agg #[a', b']) n') (h4 : RefV w (.agg #[c', e']) d') :
  G3 w a b c e n d a' b' c' e' n' d' (((w.alloc (.cells #[a, b, c, e] t)).alloc (.cells #[a', b', c', e'] t)).alloc (.cells #[.bool false, .slice none 0 0, .bool false, .slice none 0 0] t)) := by
 have hal : ∀ (W : World) (o : Obj), Below W.heap.size W (W.alloc o) := fun W o => (Below.refl _ _).alloc (Nat.le_refl _) _
 have hx := (QX.made (t := t) h1 h2).keep (hal _ (.cells #[a', b', c', e'] t))
 have hy := QX.made (w := w.alloc (.cells #[a, b, c, e] t)) (t := t) (h3.keep (hal _ _)) (h4.keep (hal _ _))
 have hz := Z4b.made (w := (w.alloc (.cells #[a, b, c, e] t)).alloc (.cells #[a', b', c', e'] t)) (t := t)
 simp only [World.size_alloc] at hy hz
 exact ⟨hx.keep (hal _ _), hy.keep (hal _ _), hz, below3w _ _ _ _⟩
theorem G3.c8 {w : World} {a b c e a' b' c' e' : Value} {n d n' d' : Int} {W : World} (h : G3 w a b c e n d a' b' c' e' n' d' W) :
  (W.cell? ⟨w.heap.size, 0, none⟩ = some a ∧ W.cell? ⟨w.heap.size, 1, none⟩ = some b ∧ W.cell? ⟨w.heap.size, 2, none⟩ = some c ∧ W.cell? ⟨w.heap.size, 3, none⟩ = some e) ∧
  W.cell? ⟨w.heap.size + 1, 0, none⟩ = some a' ∧ W.cell? ⟨w.heap.size + 1, 1, none⟩ = some b' ∧ W.cell? ⟨w.heap.size + 1, 2, none⟩ = some c' ∧ W.cell? ⟨w.heap.size + 1, 3, none⟩ = some e' := ⟨h.x.c4, h.y.c4⟩
theorem G3.c8s {w : World} {a b c e a' b' c' e' : Value} {n d n' d' : Int} {W : World} (h : G3 w a b c e n d a' b' c' e' n' d' W) {r0 r1 r2 r3 : Value} :
    (((((W.setCell ⟨w.heap.size + 1 + 1, 0, none⟩ r0).setCell ⟨w.heap.size + 1 + 1, 1, none⟩ r1).setCell ⟨w.heap.size + 1 + 1, 2, none⟩ r2).setCell ⟨w.heap.size + 1 + 1, 3, none⟩ r3).cell? ⟨w.heap.size, 0, none⟩ = some a ∧ ((((W.setCell ⟨w.heap.size + 1 + 1, 0, none⟩ r0).setCell ⟨w.heap.size + 1 + 1, 1, none⟩ r1).setCell ⟨w.heap.size + 1 + 1, 2, none⟩ r2).setCell ⟨w.heap.size + 1 + 1, 3, none⟩ r3).cell? ⟨w.heap.size, 1, none⟩ = some b ∧ ((((W.setCell ⟨w.heap.size + 1 + 1, 0, none⟩ r0).setCell ⟨w.heap.size + 1 + 1, 1, none⟩ r1).setCell ⟨w.heap.size + 1 + 1, 2, none⟩ r2).setCell ⟨w.heap.size + 1 + 1, 3, none⟩ r3).cell? ⟨w.heap.size, 2, none⟩ = some c ∧ ((((W.setCell ⟨w.heap.size + 1 + 1, 0, none⟩ r0).setCell ⟨w.heap.size + 1 + 1, 1, none⟩ r1).setCell ⟨w.heap.size + 1 + 1, 2, none⟩ r2).setCell ⟨w.heap.size + 1 + 1, 3, none⟩ r3).cell? ⟨w.heap.size, 3, none⟩ = some e) ∧
    ((((W.setCell ⟨w.heap.size + 1 + 1, 0, none⟩ r0).setCell ⟨w.heap.size + 1 + 1, 1, none⟩ r1).setCell ⟨w.heap.size + 1 + 1, 2, none⟩ r2).setCell ⟨w.heap.size + 1 + 1, 3, none⟩ r3).cell? ⟨w.heap.size + 1, 0, none⟩ = some a' ∧ ((((W.setCell ⟨w.heap.size + 1 + 1, 0, none⟩ r0).setCell ⟨w.heap.size + 1 + 1, 1, none⟩ r1).setCell ⟨w.heap.size + 1 + 1, 2, none⟩ r2).setCell ⟨w.heap.size + 1 + 1, 3, none⟩ r3).cell? ⟨w.heap.size + 1, 1, none⟩ = some b' ∧ ((((W.setCell ⟨w.heap.size + 1 + 1, 0, none⟩ r0).setCell ⟨w.heap.size + 1 + 1, 1, none⟩ r1).setCell ⟨w.heap.size + 1 + 1, 2, none⟩ r2).setCell ⟨w.heap.size + 1 + 1, 3, none⟩ r3).cell? ⟨w.heap.size + 1, 2, none⟩ = some c' ∧ ((((W.setCell ⟨w.heap.size + 1 + 1, 0, none⟩ r0).setCell ⟨w.heap.size + 1 + 1, 1, none⟩ r1).setCell ⟨w.heap.size + 1 + 1, 2, none⟩ r2).setCell ⟨w.heap.size + 1 + 1, 3, none⟩ r3).cell? ⟨w.heap.size + 1, 3, none⟩ = some e' := by
  have n1 : w.heap.size ≠ w.heap.size + 1 + 1 := by omega
  have n2 : w.heap.size + 1 ≠ w.heap.size + 1 + 1 := by omega
  exact ⟨⟨(cell_store4 n1).trans h.x.c0, (cell_store4 n1).trans h.x.c1, (cell_store4 n1).trans h.x.c2, (cell_store4 n1).trans h.x.c3⟩, (cell_store4 n2).trans h.y.c0, (cell_store4 n2).trans h.y.c1, (cell_store4 n2).trans h.y.c2, (cell_store4 n2).trans h.y.c3⟩

set_option maxHeartbeats 16000000 in
set_option maxRecDepth 100000 in
theorem rqAdd_any (n1 d1 n2 d2 : Int) (v1 v2 : Value) (w : World) (hd1 : d1 ≠ 0) (hd2 : d2 ≠ 0) (l1 : Bd 100 n1) (l2 : Bd 100 d1) (l3 : Bd 100 n2) (l4 : Bd 100 d2) (h1 : RQV w v1 n1 d1) (h2 : RQV w v2 n2 d2) :
  Calls Tryz.prog 41 #[v1, v2] w (RQPost w (qn (n1 * d2 + n2 * d1) (d1 * d2)) (qd (n1 * d2 + n2 * d1) (d1 * d2))) := by
 obtain ⟨p1, ad1, k1, c1, p2, ad2, k2, c2, rfl, q1, q2⟩ := rqv_shape h1
 obtain ⟨p3, ad3, k3, c3, p4, ad4, k4, c4, rfl, q3, q4⟩ := rqv_shape h2
 have HM1 := Lib.hid fun W u v h h' => Lib.hid (rMul_any n1 d2 u v W (rlen_bd l1 (by decide)) (rlen_bd l4 (by decide)) h h')
 have HM2 := Lib.hid fun W u v h h' => Lib.hid (rMul_any n2 d1 u v W (rlen_bd l3 (by decide)) (rlen_bd l2 (by decide)) h h')
 have HM3 := Lib.hid fun W u v h h' => Lib.hid (rMul_any d1 d2 u v W (rlen_bd l2 (by decide)) (rlen_bd l4 (by decide)) h h')
 have HA := Lib.hid fun W u v h h' => Lib.hid (rAdd_any (n1 * d2) (n2 * d1) u v W (rlen_bd (Bd.mul l1 l4) (by decide)) (rlen_bd (Bd.mul l3 l2) (by decide)) h h')
 have HO := Lib.hid fun W u v h h' => Lib.hid (rover_any (n1 * d2 + n2 * d1) (d1 * d2) u v W (Int.mul_ne_zero hd1 hd2) (rlen_bd (Bd.add (Bd.mul l1 l4) (Bd.mul l3 l2)) (by decide)) (rlen_bd (Bd.mul l2 l4) (by decide)) h h')
 have HX0 := Lib.hid ((G3.made (t := 43) q1 q2 q3 q4).keep (Below.refl _ _).drew)
 clear hd1 hd2 l1 l2 l3 l4 h1 h2 q1 q2 q3 q4
 generalize qn (n1 * d2 + n2 * d1) (d1 * d2) = qN at *
 generalize qd (n1 * d2 + n2 * d1) (d1 * d2) = qD at *
 generalize n1 * d2 + n2 * d1 = s at *
 generalize n1 * d2 = m1 at *
 generalize n2 * d1 = m2 at *
 generalize d1 * d2 = m3 at *
 go_enter Tryz.func41, Tryz.ntmps41
 go_upto_region 1 with fail
 have hx0 := HX0.out
 clear HX0
 go_region_held3 (fun w' => (w'.cell? ⟨w.heap.size, 0, none⟩ = some (.bool p1) ∧ w'.cell? ⟨w.heap.size, 1, none⟩ = some (.slice ad1 k1 c1) ∧ w'.cell? ⟨w.heap.size, 2, none⟩ = some (.bool p2) ∧ w'.cell? ⟨w.heap.size, 3, none⟩ = some (.slice ad2 k2 c2)) ∧ w'.cell? ⟨w.heap.size + 1, 0, none⟩ = some (.bool p3) ∧ w'.cell? ⟨w.heap.size + 1, 1, none⟩ = some (.slice ad3 k3 c3) ∧ w'.cell? ⟨w.heap.size + 1, 2, none⟩ = some (.bool p4) ∧ w'.cell? ⟨w.heap.size + 1, 3, none⟩ = some (.slice ad4 k4 c4))
  (first | with_reducible exact hx5.c8 | with_reducible exact hx4.c8 | with_reducible exact hx3.c8 | with_reducible exact hx2.c8 | with_reducible exact hx1.c8 | with_reducible exact hx0.c8 | with_reducible exact hx5.c8s | go_keep)
  (go_loud (first
  | (go_at_call 89; (with_reducible refine (HM1.out _ _ _ hx0.x.n hx0.y.d).out.mono ?_); rintro e wA ⟨vA, rfl, hiA, hbA⟩; have hx1 := hx0.keep hbA)
  | (go_at_call 89; (with_reducible refine (HM2.out _ _ _ hx1.y.n hx1.x.d).out.mono ?_); rintro e wB ⟨vB, rfl, hiB, hbB⟩; have hx2 := hx1.keep hbB; have hiA2 := hiA.keep hbB)
  | (go_at_call 86; (with_reducible refine (HA.out _ _ _ hiA2 hiB).out.mono ?_); rintro e wC ⟨vC, rfl, hiC, hbC⟩; have hx3 := hx2.keep hbC)
  | (go_at_call 89; (with_reducible refine (HM3.out _ _ _ hx3.x.d hx3.y.d).out.mono ?_); rintro e wD ⟨vD, rfl, hiD, hbD⟩; have hx4 := hx3.keep hbD; have hiC4 := hiC.keep hbD)
  | (go_at_call 88; (with_reducible refine (HO.out _ _ _ hiC4 hiD).out.mono ?_); rintro e wE ⟨vE, rfl, hqE, hbE⟩; have hx5 := hx4.keep hbE; obtain ⟨p5, ad5, k5, c5, p6, ad6, k6, c6, rfl, hq1, hq2⟩ := rqv_shape hqE; have r0 := hx5.z.r0; have r1 := hx5.z.r1; have r2 := hx5.z.r2; have r3 := hx5.z.r3; have f0 := hx5.z.f0; have f1 := hx5.z.f1; have f2 := hx5.z.f2; have f3 := hx5.z.f3)))
 all_goals
  have g1 := Lib.hid (hx5.z.put hq1)
  have g2 := Lib.hid (hx5.z.put hq2)
  have HBL := Lib.hid hx5.below
  clear hq1 hq2 hqE hx0 hx1 hx2 hx3 hx4 hx5 hiA hiA2 hiB hiC hiC4 hiD hbA hbB hbC hbD hbE HM1 HM2 HM3 HA HO
  go_wp2_with fail
  refine bodyPost_ret (v := .agg #[.bool p5, .slice ad5 k5 c5, .bool p6, .slice ad6 k6 c6]) (by simp [results, Tryz.results41, go_sem, r0, r1, r2, r3]) rfl ⟨_, rfl, ⟨_, _, _, _, rfl, g1.out _ _ _ _, g2.out _ _ _ _⟩, ?_⟩
  exact (((HBL.out.setCell (by simp; omega) _).setCell (by simp; omega) _).setCell (by simp; omega) _).setCell (by simp; omega) _
set_option maxHeartbeats 8000000 in
set_option maxRecDepth 100000 in
theorem rqSub_any (n1 d1 n2 d2 : Int) (v1 v2 : Value) (w : World) (hd1 : d1 ≠ 0) (hd2 : d2 ≠ 0) (l1 : Bd 100 n1) (l2 : Bd 100 d1) (l3 : Bd 100 n2) (l4 : Bd 100 d2) (h1 : RQV w v1 n1 d1) (h2 : RQV w v2 n2 d2) :
  Calls Tryz.prog 43 #[v1, v2] w (RQPost w (qn (n1 * d2 - n2 * d1) (d1 * d2)) (qd (n1 * d2 - n2 * d1) (d1 * d2))) := by
 obtain ⟨p1, ad1, k1, c1, p2, ad2, k2, c2, rfl, q1, q2⟩ := rqv_shape h1
 obtain ⟨p3, ad3, k3, c3, p4, ad4, k4, c4, rfl, q3, q4⟩ := rqv_shape h2
 have HN := Lib.hid fun W u h => Lib.hid (rqNeg_any n2 d2 u W h)
 have HA := Lib.hid fun W u v h h' => Lib.hid (show Calls Tryz.prog 41 #[u, v] W (RQPost W (qn (n1 * d2 - n2 * d1) (d1 * d2)) (qd (n1 * d2 - n2 * d1) (d1 * d2))) from by
  have := rqAdd_any n1 d1 (-n2) d2 u v W hd1 hd2 l1 l2 (bd_neg l3) l4 h h'
  rwa [show n1 * d2 + -n2 * d1 = n1 * d2 - n2 * d1 from by rw [Int.neg_mul]; rfl] at this)
 have HX0 := Lib.hid ((G3.made (t := 43) q1 q2 q3 q4).keep (Below.refl _ _).drew)
 clear hd1 hd2 l1 l2 l3 l4 h1 h2 q1 q2 q3 q4
 generalize qn (n1 * d2 - n2 * d1) (d1 * d2) = qN at *
 generalize qd (n1 * d2 - n2 * d1) (d1 * d2) = qD at *
 go_enter Tryz.func43, Tryz.ntmps43
 go_upto_region 1 with fail
 have hx0 := HX0.out
 clear HX0
 go_region_held3 (fun w' => (w'.cell? ⟨w.heap.size, 0, none⟩ = some (.bool p1) ∧ w'.cell? ⟨w.heap.size, 1, none⟩ = some (.slice ad1 k1 c1) ∧ w'.cell? ⟨w.heap.size, 2, none⟩ = some (.bool p2) ∧ w'.cell? ⟨w.heap.size, 3, none⟩ = some (.slice ad2 k2 c2)) ∧ w'.cell? ⟨w.heap.size + 1, 0, none⟩ = some (.bool p3) ∧ w'.cell? ⟨w.heap.size + 1, 1, none⟩ = some (.slice ad3 k3 c3) ∧ w'.cell? ⟨w.heap.size + 1, 2, none⟩ = some (.bool p4) ∧ w'.cell? ⟨w.heap.size + 1, 3, none⟩ = some (.slice ad4 k4 c4))
  (first | with_reducible exact hx2.c8 | with_reducible exact hx1.c8 | with_reducible exact hx0.c8 | with_reducible exact hx2.c8s | go_keep)
  (go_loud (first
  | (go_at_call 37; (with_reducible refine (HN.out _ _ hx0.y.rq).out.mono ?_); rintro e wA ⟨vA, rfl, hqA, hbA⟩; have hx1 := hx0.keep hbA; obtain ⟨p7, ad7, k7, c7, p8, ad8, k8, c8, rfl, _, _⟩ := rqv_shape hqA)
  | (go_at_call 41; (with_reducible refine (HA.out _ _ _ hx1.x.rq hqA).out.mono ?_); rintro e wB ⟨vB, rfl, hqB, hbB⟩; have hx2 := hx1.keep hbB; obtain ⟨p5, ad5, k5, c5, p6, ad6, k6, c6, rfl, hq1, hq2⟩ := rqv_shape hqB; have r0 := hx2.z.r0; have r1 := hx2.z.r1; have r2 := hx2.z.r2; have r3 := hx2.z.r3; have f0 := hx2.z.f0; have f1 := hx2.z.f1; have f2 := hx2.z.f2; have f3 := hx2.z.f3)))
 all_goals
  have g1 := Lib.hid (hx2.z.put hq1)
  have g2 := Lib.hid (hx2.z.put hq2)
  have HBL := Lib.hid hx2.below
  clear hq1 hq2 hqA hqB hx0 hx1 hx2 hbA hbB HN HA
  go_wp2_with fail
  refine bodyPost_ret (v := .agg #[.bool p5, .slice ad5 k5 c5, .bool p6, .slice ad6 k6 c6]) (by simp [results, Tryz.results43, go_sem, r0, r1, r2, r3]) rfl ⟨_, rfl, ⟨_, _, _, _, rfl, g1.out _ _ _ _, g2.out _ _ _ _⟩, ?_⟩
  exact (((HBL.out.setCell (by simp; omega) _).setCell (by simp; omega) _).setCell (by simp; omega) _).setCell (by simp; omega) _
end
end Go.Proofs.YtghgcbedajaldaaGreat
