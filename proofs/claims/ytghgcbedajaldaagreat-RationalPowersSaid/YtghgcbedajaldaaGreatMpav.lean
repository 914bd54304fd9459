/-  R1 R2 R3  -/
import Derived.Test.YtghgcbedajaldaaGreatMpau
/-  The reference's fractions: one, Of, Int.  -/
namespace Go.Proofs.YtghgcbedajaldaaGreat
section
open Go.RowKit Digs
def RQV (w : World) (v : Value) (n d : Int) : Prop := ∃ a b c e : Value, v = .agg #[a, b, c, e] ∧ RefV w (.agg #[a, b]) n ∧ RefV w (.agg #[c, e]) d
def RQPost (w : World) (n d : Int) (e : Ending) (w' : World) : Prop := ∃ v, e = .returned v ∧ RQV w' v n d ∧ Below w.heap.size w w'
def RQRes (w : World) (n d c : Int) (e : Ending) (w' : World) : Prop := ∃ v, e = .returned (.tuple #[v, .int .i64 c]) ∧ RQV w' v n d ∧ Below w.heap.size w w'
theorem RQV.keep {w w' : World} {v : Value} {n d : Int} (h : RQV w v n d) (hb : Below w.heap.size w w') : RQV w' v n d := by
 obtain ⟨a, b, c, e, rfl, h1, h2⟩ := h
 exact ⟨a, b, c, e, rfl, h1.keep hb, h2.keep hb⟩
theorem RefV.st {w : World} {v : Value} {z : Int} (h : RefV w v z) {a : Addr} {u : Value} (hu : w.cell? a = some u) (hne : ∀ n, u ≠ .int .i64 n) (x : Value) : RefV (w.setCell a x) v z := by
 obtain ⟨ad, n, c, rfl, hr⟩ := h
 exact ⟨_, _, _, rfl, hr.store hu hne x⟩
theorem RefV.st2 {w : World} {v : Value} {z : Int} (h : RefV w v z) {R : Nat} {a b : Value} (h0 : w.cell? ⟨R, 0, none⟩ = some a) (h1 : w.cell? ⟨R, 1, none⟩ = some b)
  (n0 : ∀ n, a ≠ .int .i64 n) (n1 : ∀ n, b ≠ .int .i64 n) (x y : Value) : RefV ((w.setCell ⟨R, 0, none⟩ x).setCell ⟨R, 1, none⟩ y) v z :=
 (h.st h0 n0 x).st (u := b) (by rw [World.cell?_setCell_other _ _ _ _ (by simp)]; exact h1) n1 y
theorem RefV.st4 {w : World} {v : Value} {z : Int} (h : RefV w v z) {R : Nat} {a b c d : Value} (h0 : w.cell? ⟨R, 0, none⟩ = some a) (h1 : w.cell? ⟨R, 1, none⟩ = some b) (h2 : w.cell? ⟨R, 2, none⟩ = some c) (h3 : w.cell? ⟨R, 3, none⟩ = some d)
    (n0 : ∀ n, a ≠ .int .i64 n) (n1 : ∀ n, b ≠ .int .i64 n) (n2 : ∀ n, c ≠ .int .i64 n) (n3 : ∀ n, d ≠ .int .i64 n) (x y s t : Value) :
    RefV ((((w.setCell ⟨R, 0, none⟩ x).setCell ⟨R, 1, none⟩ y).setCell ⟨R, 2, none⟩ s).setCell ⟨R, 3, none⟩ t) v z :=
  ((h.st2 h0 h1 n0 n1 x y).st (u := c) (by rw [World.cell?_setCell_other _ _ _ _ (by simp), World.cell?_setCell_other _ _ _ _ (by simp)]; exact h2) n2 s).st (u := d)
    (by rw [World.cell?_setCell_other _ _ _ _ (by simp), World.cell?_setCell_other _ _ _ _ (by simp), World.cell?_setCell_other _ _ _ _ (by simp)]; exact h3) n3 t
theorem RefV.parts {w : World} {a b : Value} {z : Int} (h : RefV w (.agg #[a, b]) z) : ∃ (p : Bool) (ad : Option Addr) (n c : Nat), a = .bool p ∧ b = .slice ad n c ∧ decide (z < 0) = p := by
 obtain ⟨ad, n, c, he, _⟩ := h
 injection he with he
 injection he with he
 injection he with h1 h2
 injection h2 with h2 _
 exact ⟨_, ad, n, c, h1, h2, rfl⟩
theorem refv_shape {w : World} {v : Value} {z : Int} (h : RefV w v z) : ∃ (p : Bool) (ad : Option Addr) (n c : Nat), v = .agg #[.bool p, .slice ad n c] := by
 obtain ⟨ad, n, c, rfl, _⟩ := h
 exact ⟨_, ad, n, c, rfl⟩
theorem rqv_shape {w : World} {v : Value} {n d : Int} (h : RQV w v n d) : ∃ (p : Bool) (ad : Option Addr) (m c : Nat) (p2 : Bool) (ad2 : Option Addr) (m2 c2 : Nat), v = .agg #[.bool p, .slice ad m c, .bool p2, .slice ad2 m2 c2] ∧
  RefV w (.agg #[.bool p, .slice ad m c]) n ∧ RefV w (.agg #[.bool p2, .slice ad2 m2 c2]) d := by
 obtain ⟨a, b, c, e, rfl, h1, h2⟩ := h
 obtain ⟨p1, ad1, n1, c1, rfl, rfl, _⟩ := h1.parts
 obtain ⟨p2, ad2, n2, c2, rfl, rfl, _⟩ := h2.parts
 exact ⟨_, _, _, _, _, _, _, _, rfl, h1, h2⟩
structure Z4b (p : Nat) (W : World) : Prop where
 r0 : W.cell? ⟨p, 0, none⟩ = some (.bool false)
 r1 : W.cell? ⟨p, 1, none⟩ = some (.slice none 0 0)
 r2 : W.cell? ⟨p, 2, none⟩ = some (.bool false)
 r3 : W.cell? ⟨p, 3, none⟩ = some (.slice none 0 0)
 f0 : W.frozen? ⟨p, 0, none⟩ = false
 f1 : W.frozen? ⟨p, 1, none⟩ = false
 f2 : W.frozen? ⟨p, 2, none⟩ = false
 f3 : W.frozen? ⟨p, 3, none⟩ = false
theorem Z4b.lt {p : Nat} {W : World} (h : Z4b p W) : p < W.heap.size := World.block_lt_of_cell? W _ h.r0
theorem Z4b.keep {p : Nat} {W W' : World} (h : Z4b p W) (hb : Below W.heap.size W W') : Z4b p W' :=
 ⟨(hb.cell (p := ⟨p, 0, none⟩) h.lt).trans h.r0, (hb.cell (p := ⟨p, 1, none⟩) h.lt).trans h.r1, (hb.cell (p := ⟨p, 2, none⟩) h.lt).trans h.r2, (hb.cell (p := ⟨p, 3, none⟩) h.lt).trans h.r3,
  (hb.frozen (p := ⟨p, 0, none⟩) h.lt).trans h.f0, (hb.frozen (p := ⟨p, 1, none⟩) h.lt).trans h.f1, (hb.frozen (p := ⟨p, 2, none⟩) h.lt).trans h.f2, (hb.frozen (p := ⟨p, 3, none⟩) h.lt).trans h.f3⟩
theorem Z4b.made {w : World} {t : TypeId} : Z4b w.heap.size (w.alloc (.cells #[.bool false, .slice none 0 0, .bool false, .slice none 0 0] t)) := by
 have h := cells4 (w := w) (a := .bool false) (b := .slice none 0 0) (c := .bool false) (d := .slice none 0 0) (t := t) (Below.refl _ _)
 exact ⟨h.1, h.2.1, h.2.2.1, h.2.2.2.1, h.2.2.2.2.1, h.2.2.2.2.2.1, h.2.2.2.2.2.2.1, h.2.2.2.2.2.2.2.1⟩
theorem Z4b.put {p : Nat} {W : World} (h : Z4b p W) {v : Value} {z : Int} (hv : RefV W v z) (x y s t : Value) : RefV ((((W.setCell ⟨p, 0, none⟩ x).setCell ⟨p, 1, none⟩ y).setCell ⟨p, 2, none⟩ s).setCell ⟨p, 3, none⟩ t) v z :=
 hv.st4 h.r0 h.r1 h.r2 h.r3 (by intro n h; cases h) (by intro n h; cases h) (by intro n h; cases h) (by intro n h; cases h) x y s t
set_option maxRecDepth 100000 in
theorem rone_any (w : World) : Calls Tryz.prog 82 #[] w (RefPost w 1) := by
 have HN := Lib.hid fun W => Lib.hid (rnew_any 1 W (by decide) (by decide))
 go_enter Tryz.func82, Tryz.ntmps82
 go_wp2_with fail
 refine (HN.out _).out.mono ?_
 rintro e w1 ⟨v1, rfl, ⟨ad, n, c, rfl, hr⟩, hb⟩
 have HI : Hid (RefV w1 (.agg #[.bool (decide ((1 : Int) < 0)), .slice ad n c]) 1) := Lib.hid ⟨_, _, _, rfl, hr⟩
 generalize decide ((1 : Int) < 0) = p at *
 obtain ⟨cE, cF, fE, fF, hsz⟩ := box2 hb
 have HR := Lib.hid (HI.out.st2 cE cF (by intro n h; cases h) (by intro n h; cases h))
 have HB := Lib.hid (((Below.refl w.heap.size w).alloc (Nat.le_refl _) (.cells #[.bool false, .slice none 0 0] 34)).trans (hb.mono (by simp)))
 clear hr hb
 go_wp2_with fail
 refine bodyPost_ret (v := .agg #[.bool p, .slice ad n c]) (by simp [results, Tryz.results82, go_sem, cE, cF]) rfl ⟨_, rfl, HR.out _ _, ?_⟩
 exact (HB.out.setCell (by simp) _).setCell (by simp) _
set_option maxHeartbeats 4000000 in
set_option maxRecDepth 100000 in
theorem rOf_any (n : Int) (v : Value) (w : World) (h : RefV w v n) :
  Calls Tryz.prog 21 #[v] w (RQPost w n 1) := by
 obtain ⟨p1, ad1, n1, c1, rfl⟩ := refv_shape h
 have H1 := Lib.hid h
 clear h
 have HO := Lib.hid fun W => Lib.hid (rone_any W)
 go_enter Tryz.func21, Tryz.ntmps21
 go_upto_region 1 with fail
 have hb0 : Below w.heap.size w _ := (below2 w (.cells #[.bool p1, .slice ad1 n1 c1] 34) (.cells #[.bool false, .slice none 0 0, .bool false, .slice none 0 0] 43)).drew
 have hx0 : RX w.heap.size (.bool p1) (.slice ad1 n1 c1) n _ := ((RX.made (t := 34) H1.out).keep ((Below.refl _ _).alloc (Nat.le_refl _) (.cells #[.bool false, .slice none 0 0, .bool false, .slice none 0 0] 43))).keep ((Below.refl _ _).drew)
 have hz0 := (Z4b.made (w := w.alloc (.cells #[.bool p1, .slice ad1 n1 c1] 34)) (t := 43)).keep ((Below.refl _ _).drew)
 simp only [World.size_alloc] at hz0
 have hne : w.heap.size ≠ w.heap.size + 1 := by omega
 go_region_held3 (fun w' => w'.cell? ⟨w.heap.size, 0, none⟩ = some (.bool p1) ∧ w'.cell? ⟨w.heap.size, 1, none⟩ = some (.slice ad1 n1 c1))
  (first | with_reducible exact ⟨hx1.c0, hx1.c1⟩ | with_reducible exact ⟨hx0.c0, hx0.c1⟩ | with_reducible exact ⟨(cell_store4 hne).trans hx1.c0, (cell_store4 hne).trans hx1.c1⟩ | go_keep)
  (go_loud (first
  | (go_at_call 82; (with_reducible refine (HO.out _).out.mono ?_); rintro e wA ⟨vA, rfl, hiA, hbA⟩; have hx1 := hx0.keep hbA; have hz1 := hz0.keep hbA; have hb1 := hb0.trans (hbA.mono hb0.size); obtain ⟨p3, ad3, n3, c3, rfl⟩ := refv_shape hiA; have r0 := hz1.r0; have r1 := hz1.r1; have r2 := hz1.r2; have r3 := hz1.r3; have f0 := hz1.f0; have f1 := hz1.f1; have f2 := hz1.f2; have f3 := hz1.f3)))
 all_goals
  have g1 := Lib.hid (hz1.put hx1.rv)
  have g2 := Lib.hid (hz1.put hiA)
  have hbl := hb1
  go_wp2_with fail
  refine bodyPost_ret (v := .agg #[.bool p1, .slice ad1 n1 c1, .bool p3, .slice ad3 n3 c3]) (by simp [results, Tryz.results21, go_sem, r0, r1, r2, r3]) rfl ⟨_, rfl, ⟨_, _, _, _, rfl, g1.out _ _ _ _, g2.out _ _ _ _⟩, ?_⟩
  exact (((hbl.setCell (by simp) _).setCell (by simp) _).setCell (by simp) _).setCell (by simp) _
set_option maxHeartbeats 4000000 in
set_option maxRecDepth 100000 in
theorem rInt_any (n : Int) (w : World) (hlo : -9223372036854775808 ≤ n) (hhi : n ≤ 9223372036854775807) :
  Calls Tryz.prog 78 #[.int .i64 n] w (RQPost w n 1) := by
 have HN := Lib.hid fun W => Lib.hid (rnew_any n W hlo hhi)
 have HO := Lib.hid fun W u h => Lib.hid (rOf_any n u W h)
 clear hlo hhi
 go_enter Tryz.func78, Tryz.ntmps78
 have hz0 := Z4b.made (w := w.alloc (.cells #[.int .i64 n] 2)) (t := 43)
 have hz1 := Z4b.made (w := w) (t := 43)
 go_wp2_with fail
 (with_reducible refine (HN.out _).out.mono ?_)
 rintro e w1 ⟨v1, rfl, hi1, hb1⟩
 first | (have hz := hz1.keep hb1) | (simp only [World.size_alloc] at hz0; have hz := hz0.keep hb1)
 first | (have hb := ((Below.refl w.heap.size w).alloc (Nat.le_refl _) _).trans (hb1.mono (by simp))) | (have hb := (below2 w _ _).trans (hb1.mono (by simp)))
 have HI := Lib.hid hi1
 clear hi1 hb1 hz0 hz1
 go_wp2_with fail
 (with_reducible refine (HO.out _ _ HI.out).out.mono ?_)
 rintro e w2 ⟨v2, rfl, hq, hb2⟩
 obtain ⟨p1, ad1, n1, c1, p2, ad2, n2, c2, rfl, hq1, hq2⟩ := rqv_shape hq
 have hz2 := hz.keep hb2
 have hbl := hb.trans (hb2.mono hb.size)
 have g1 := Lib.hid (hz2.put hq1)
 have g2 := Lib.hid (hz2.put hq2)
 obtain ⟨r0, r1, r2, r3, f0, f1, f2, f3⟩ := hz2
 clear hq hq1 hq2 hb hb2 hz
 go_wp2_with fail
 refine bodyPost_ret (v := .agg #[.bool p1, .slice ad1 n1 c1, .bool p2, .slice ad2 n2 c2]) (by simp [results, Tryz.results78, go_sem, r0, r1, r2, r3]) rfl ⟨_, rfl, ⟨_, _, _, _, rfl, g1.out _ _ _ _, g2.out _ _ _ _⟩, ?_⟩
 exact (((hbl.setCell (by simp <;> omega) _).setCell (by simp <;> omega) _).setCell (by simp <;> omega) _).setCell (by simp <;> omega) _
end
end Go.Proofs.YtghgcbedajaldaaGreat
/-  The reference's fractions: New, over.  -/
namespace Go.Proofs.YtghgcbedajaldaaGreat
section
open Go.RowKit Digs
theorem Z4b.oth {p R : Nat} {W : World} (h : Z4b p W) (hne : p ≠ R) (x y : Value) : Z4b p ((W.setCell ⟨R, 0, none⟩ x).setCell ⟨R, 1, none⟩ y) :=
 ⟨(cell_store2 hne).trans h.r0, (cell_store2 hne).trans h.r1, (cell_store2 hne).trans h.r2, (cell_store2 hne).trans h.r3, by simpa using h.f0, by simpa using h.f1, by simpa using h.f2, by simpa using h.f3⟩
structure N3 (w : World) (n d : Int) (a b c e : Value) (W : World) : Prop where
 x : RX w.heap.size a b n W
 y : RX (w.heap.size + 1) c e d W
 z : Z4b (w.heap.size + 1 + 1) W
 below : Below w.heap.size w W
theorem N3.keep {w : World} {n d : Int} {a b c e : Value} {W W' : World} (h : N3 w n d a b c e W) (hb : Below W.heap.size W W') : N3 w n d a b c e W' :=
 ⟨h.x.keep hb, h.y.keep hb, h.z.keep hb, h.below.trans (hb.mono h.below.size)⟩
theorem N3.made {w : World} {n d : Int} {a b c e : Value} {t u : TypeId} (h1 : RefV w (.agg #[a, b]) n) (h2 : RefV w (.agg #[c, e]) d) :
  N3 w n d a b c e (((w.alloc (.cells #[a, b] t)).alloc (.cells #[c, e] t)).alloc (.cells #[.bool false, .slice none 0 0, .bool false, .slice none 0 0] u)) := by
 have hx : RX w.heap.size a b n ((w.alloc (.cells #[a, b] t)).alloc (.cells #[c, e] t)) := (RX.made h1).keep ((Below.refl _ _).alloc (Nat.le_refl _) _)
 have hy : RX (w.alloc (.cells #[a, b] t)).heap.size c e d ((w.alloc (.cells #[a, b] t)).alloc (.cells #[c, e] t)) := RX.made (h2.keep ((Below.refl _ _).alloc (Nat.le_refl _) _))
 have hz := Z4b.made (w := (w.alloc (.cells #[a, b] t)).alloc (.cells #[c, e] t)) (t := u)
 simp only [World.size_alloc] at hy hz
 exact ⟨hx.keep ((Below.refl _ _).alloc (Nat.le_refl _) _), hy.keep ((Below.refl _ _).alloc (Nat.le_refl _) _), hz, below3w _ _ _ _⟩
theorem N3.setX {w W : World} {n d n' : Int} {p1 p2 p3 : Bool} {a1 a2 a3 : Option Addr} {n1 n2 n3 c1 c2 c3 : Nat} (h : N3 w n d (.bool p1) (.slice a1 n1 c1) (.bool p2) (.slice a2 n2 c2) W) (h3 : RefV W (.agg #[.bool p3, .slice a3 n3 c3]) n') :
  N3 w n' d (.bool p3) (.slice a3 n3 c3) (.bool p2) (.slice a2 n2 c2) ((W.setCell ⟨w.heap.size, 0, none⟩ (.bool p3)).setCell ⟨w.heap.size, 1, none⟩ (.slice a3 n3 c3)) :=
 ⟨h.x.mine h3, h.y.other h.x.c0 h.x.c1 (by omega) _ _, h.z.oth (by omega) _ _, (h.below.setCell (by simp) _).setCell (by simp) _⟩
theorem N3.setY {w W : World} {n d d' : Int} {p1 p2 p3 : Bool} {a1 a2 a3 : Option Addr} {n1 n2 n3 c1 c2 c3 : Nat} (h : N3 w n d (.bool p1) (.slice a1 n1 c1) (.bool p2) (.slice a2 n2 c2) W) (h3 : RefV W (.agg #[.bool p3, .slice a3 n3 c3]) d') :
  N3 w n d' (.bool p1) (.slice a1 n1 c1) (.bool p3) (.slice a3 n3 c3) ((W.setCell ⟨w.heap.size + 1, 0, none⟩ (.bool p3)).setCell ⟨w.heap.size + 1, 1, none⟩ (.slice a3 n3 c3)) :=
 ⟨h.x.other h.y.c0 h.y.c1 (by omega) _ _, h.y.mine h3, h.z.oth (by omega) _ _, (h.below.setCell (by simp) _).setCell (by simp) _⟩
theorem N3.parts {w : World} {n d : Int} {a b c e : Value} {W : World} (h : N3 w n d a b c e W) : ∃ (p1 : Bool) (a1 : Option Addr) (n1 c1 : Nat) (p2 : Bool) (a2 : Option Addr) (n2 c2 : Nat), a = .bool p1 ∧ b = .slice a1 n1 c1 ∧ c = .bool p2 ∧ e = .slice a2 n2 c2 := by
 obtain ⟨p3, ad3, n3, c3, rfl, rfl, _⟩ := h.x.rv.parts
 obtain ⟨p4, ad4, n4, c4, rfl, rfl, _⟩ := h.y.rv.parts
 exact ⟨_, _, _, _, _, _, _, _, rfl, rfl, rfl, rfl⟩
theorem ifr_len (p : Prop) [Decidable p] (x : Int) {M : Nat} (hx : rlen x ≤ M) : rlen (if p then -x else x) ≤ M := by
 split
 ·unfold rlen at *; rw [Int.natAbs_neg]; exact hx
 ·exact hx
theorem rgcd_len (x y : Int) {M : Nat} (hx : rlen x ≤ M) (hy : rlen y ≤ M) : rlen ((Int.gcd x y : Nat) : Int) ≤ M := by
 unfold rlen at *
 rw [Int.natAbs_natCast]
 by_cases h : y = 0
 ·subst h
  rw [show Int.gcd x 0 = x.natAbs from Nat.gcd_zero_right _]
  exact hx
 ·exact Nat.le_trans (digs_length_mono (by decide) (Nat.le_of_dvd (by omega) (Nat.gcd_dvd_right x.natAbs y.natAbs))) hy
set_option maxHeartbeats 8000000 in
set_option maxRecDepth 100000 in
theorem rNew_any (n d : Int) (vn vd : Value) (w : World) (hn : rlen n ≤ 50000) (hd : rlen d ≤ 50000) (h1 : RefV w vn n) (h2 : RefV w vd d) :
  Calls Tryz.prog 17 #[vn, vd] w (RQRes w (if d = 0 then 0 else qn n d) (if d = 0 then 1 else qd n d) (if d = 0 then 6 else 0)) := by
 obtain ⟨N, hN⟩ : ∃ N : Int, N = if d = 0 then 0 else qn n d := ⟨_, rfl⟩
 obtain ⟨D, hD⟩ : ∃ D : Int, D = if d = 0 then 1 else qd n d := ⟨_, rfl⟩
 obtain ⟨C, hC⟩ : ∃ C : Int, C = if d = 0 then 6 else 0 := ⟨_, rfl⟩
 rw [← hN, ← hD, ← hC]
 have HN := Lib.hid hN
 have HD := Lib.hid hD
 have HC := Lib.hid hC
 clear hN hD hC
 obtain ⟨p1, ad1, n1, c1, rfl⟩ := refv_shape h1
 obtain ⟨p2, ad2, n2, c2, rfl⟩ := refv_shape h2
 have HR1 : Hid (N3 w n d (.bool p1) (.slice ad1 n1 c1) (.bool p2) (.slice ad2 n2 c2) _) := Lib.hid (N3.made (t := 34) (u := 43) h1 h2)
 clear h1 h2
 have HS := Lib.hid fun W u h => Lib.hid (rSign_any d u W (Nat.le_trans hd (by omega)) h)
 have HN1 := Lib.hid fun W u h => Lib.hid (rNeg_any n u W h)
 have HN2 := Lib.hid fun W u h => Lib.hid (rNeg_any d u W h)
 have HI0 := Lib.hid fun W => Lib.hid (rInt_any 0 W (by decide) (by decide))
 have hsg : sgnZ d < 0 ↔ d < 0 := by unfold sgnZ; split <;> (try split) <;> omega
 have hsg0 : (sgnZ d == 0) = decide (d = 0) := by
  by_cases h : d = 0
  ·rw [decide_eq_true h, sgnZ_z.2 h]; rfl
  ·rw [decide_eq_false h]; simp [sgnZ_z, h]
 generalize sgnZ d = sd at *
 go_enter Tryz.func17, Tryz.ntmps17
 go_wp2_with fail
 (with_reducible refine (HS.out _ _ HR1.out.y.rv).out.mono ?_)
 rintro e w1 ⟨rfl, hb1⟩
 replace HR1 := Lib.hid (HR1.out.keep hb1)
 clear hb1
 by_cases h0 : d = 0
 ·obtain rfl : N = 0 := HN.out.trans (if_pos h0)
  obtain rfl : D = 1 := HD.out.trans (if_pos h0)
  obtain rfl : C = 6 := HC.out.trans (if_pos h0)
  clear HN HD HC hsg
  go_wp2_with fail
  (with_reducible refine (HI0.out _).out.mono ?_)
  rintro e w2 ⟨v2, rfl, hq, hb2⟩
  obtain ⟨p3, ad3, n3, c3, p4, ad4, n4, c4, rfl, hq1, hq2⟩ := rqv_shape hq
  have hR2 := HR1.out.keep hb2
  have hbl := hR2.below
  have g1 := Lib.hid (hR2.z.put hq1)
  have g2 := Lib.hid (hR2.z.put hq2)
  obtain ⟨_, _, ⟨r0, r1, r2, r3, f0, f1, f2, f3⟩, _⟩ := hR2
  clear hq hq1 hq2 hb2
  go_wp2_with fail
  refine bodyPost_ret (v := .tuple #[.agg #[.bool p3, .slice ad3 n3 c3, .bool p4, .slice ad4 n4 c4], .int .i64 6]) (by simp [results, Tryz.results17, go_sem, r0, r1, r2, r3]) rfl ⟨_, rfl, ⟨_, _, _, _, rfl, g1.out _ _ _ _, g2.out _ _ _ _⟩, ?_⟩
  exact (((hbl.setCell (by simp; omega) _).setCell (by simp; omega) _).setCell (by simp; omega) _).setCell (by simp; omega) _
 ·obtain rfl : N = qn n d := HN.out.trans (if_neg h0)
  obtain rfl : D = qd n d := HD.out.trans (if_neg h0)
  obtain rfl : C = 0 := HC.out.trans (if_neg h0)
  clear HN HD HC
  obtain ⟨y0, y1⟩ := HR1.out.y.cells
  go_wp2_with fail
  (with_reducible refine (HS.out _ _ HR1.out.y.rv).out.mono ?_)
  rintro e w2 ⟨rfl, hb2⟩
  replace HR1 := Lib.hid (HR1.out.keep hb2)
  clear hb2 y0 y1
  go_upto_if 13 with fail
  go_cut [] from 13 to 18 (fun wx => ∃ a b c e, N3 w (if d < 0 then -n else n) (if d < 0 then -d else d) a b c e wx)
  case first =>
   by_cases hneg : d < 0
   ·obtain ⟨x0, x1⟩ := HR1.out.x.cells
    obtain ⟨y0, y1⟩ := HR1.out.y.cells
    have ga0 := HR1.out.x.f0
    have ga1 := HR1.out.x.f1
    have gb0 := HR1.out.y.f0
    have gb1 := HR1.out.y.f1
    go_upto_region 4 with fail
    have hR0 := HR1.out.keep ((Below.refl _ _).drew)
    go_region_with
     (first
     | (go_at_call 79; (with_reducible refine (HN1.out _ _ hR0.x.rv).out.mono ?_); rintro e wA ⟨vA, rfl, hiA0, hbA⟩; have hiA := Lib.hid hiA0; obtain ⟨p3, ad5, n5, c5, rfl⟩ := refv_shape hiA0; have hR1 := hR0.keep hbA; have eb0 := hR1.y.c0; have eb1 := hR1.y.c1)
     | (go_at_call 79; (with_reducible refine (HN2.out _ _ hR1.y.rv).out.mono ?_); rintro e wB ⟨vB, rfl, hiB0, hbB⟩; have hiB := Lib.hid hiB0; obtain ⟨p4, ad6, n6, c6, rfl⟩ := refv_shape hiB0; have hR2 := hR1.keep hbB; have qa0 := hR2.x.c0; have qa1 := hR2.x.c1; have qb0 := hR2.y.c0; have qb1 := hR2.y.c1; have qc0 := hR2.x.f0; have qc1 := hR2.x.f1; have qd0 := hR2.y.f0; have qd1 := hR2.y.f1))
    all_goals
     have HX := Lib.hid ((hR2.setX (hiA.out.keep hbB)).setY (hiB.out.store hR2.x.c0 hR2.x.c1 _ _))
     go_wp2_with fail
     go_meet
     rw [if_pos hneg, if_pos hneg]
     exact ⟨_, _, _, _, HX.out⟩
   ·go_wp2_with fail
    go_meet
    rw [if_neg (by omega), if_neg (by omega)]
    exact ⟨_, _, _, _, HR1.out⟩
  case rest =>
   obtain ⟨a, b, c, e, hr⟩ := hcut
   obtain ⟨p3, ad3, n3, c3, p4, ad4, n4, c4, rfl, rfl, rfl, rfl⟩ := hr.parts
   have HG := Lib.hid fun W u v h h' => Lib.hid (rGcd_any (if d < 0 then -n else n) (if d < 0 then -d else d) u v W (ifr_len _ n hn) (ifr_len _ d hd) h h')
   have HO1 := Lib.hid fun W u v h h' => Lib.hid (rDivide_all (if d < 0 then -n else n) ((Int.gcd n d : Nat) : Int) u v W (ifr_len _ n hn) (rgcd_len n d hn hd) h h')
   have HO2 := Lib.hid fun W u v h h' => Lib.hid (rDivide_all (if d < 0 then -d else d) ((Int.gcd n d : Nat) : Int) u v W (ifr_len _ d hd) (rgcd_len n d hn hd) h h')
   rw [if_gcd] at HG
   rw [dvq_tdiv] at HO1 HO2
   rw [show (if d < 0 then -n else n).tdiv ((Int.gcd n d : Nat) : Int) = qn n d from rfl] at HO1
   rw [show (if d < 0 then -d else d).tdiv ((Int.gcd n d : Nat) : Int) = qd n d from rfl] at HO2
   have HR := Lib.hid hr
   obtain ⟨x0, x1⟩ := hr.x.cells
   obtain ⟨y0, y1⟩ := hr.y.cells
   clear hr HR1 HN1 HN2 HS hsg hsg0 HI0 h0 hn hd
   generalize dvr (if d < 0 then -n else n) ((Int.gcd n d : Nat) : Int) = r1 at *
   generalize dvr (if d < 0 then -d else d) ((Int.gcd n d : Nat) : Int) = r2 at *
   generalize (if d < 0 then -n else n) = n' at *
   generalize (if d < 0 then -d else d) = d' at *
   generalize dvc ((Int.gcd n d : Nat) : Int) = cc at *
   generalize ((Int.gcd n d : Nat) : Int) = g at *
   generalize qn n d = qN at *
   generalize qd n d = qD at *
   generalize wc = w3 at *
   go_wp2_with fail
   (with_reducible refine (HG.out _ _ _ HR.out.x.rv HR.out.y.rv).out.mono ?_)
   rintro e w4 ⟨vg, rfl, hg, hb3⟩
   obtain ⟨p5, ad5, n5, c5, rfl⟩ := refv_shape hg
   have hG0 := Lib.hid (RX.made (t := 34) hg)
   have hR0 := HR.out.keep hb3
   have hlt := hR0.z.lt
   have HR2 := Lib.hid (hR0.keep ((Below.refl _ _).alloc (Nat.le_refl _) (.cells #[.bool p5, .slice ad5 n5 c5] 34)))
   clear hR0
   have hn1 : w4.heap.size ≠ w.heap.size := by omega
   have hn2 : w4.heap.size ≠ w.heap.size + 1 := by omega
   have hn3 : w4.heap.size ≠ w.heap.size + 1 + 1 := by omega
   have HNE := Lib.hid (And.intro hn1 (And.intro hn2 hn3))
   clear hn1 hn2 hn3 hlt hg hb3 x0 x1 y0 y1 HG HR
   obtain ⟨x0, x1⟩ := HR2.out.x.cells
   obtain ⟨g0, g1⟩ := hG0.out.cells
   go_wp2_with fail
   (with_reducible refine (HO1.out _ _ _ HR2.out.x.rv hG0.out.rv).out.mono ?_)
   rintro e w5 ⟨vq, vr, rfl, hq, hr, hb5⟩
   obtain ⟨p6, ad6, n6, c6, rfl⟩ := refv_shape hq
   obtain ⟨p7, ad7, n7, c7, rfl⟩ := refv_shape hr
   have hR5 := HR2.out.keep hb5
   have hG5 := hG0.out.keep hb5
   have HR3 := Lib.hid (hR5.setX hq)
   have HG3 := Lib.hid (hG5.other (y1 := .bool p6) (y2 := .slice ad6 n6 c6) hR5.x.c0 hR5.x.c1 HNE.out.1)
   obtain ⟨e0, e1, f0, f1, _⟩ := hR5.x
   clear x0 x1 g0 g1 HR2 hG0 hb5 hq hr hR5 hG5 HO1
   obtain ⟨y0, y1⟩ := HR3.out.y.cells
   obtain ⟨g0, g1⟩ := HG3.out.cells
   go_wp2_with fail
   (with_reducible refine (HO2.out _ _ _ HR3.out.y.rv HG3.out.rv).out.mono ?_)
   rintro e w6 ⟨vq, vr, rfl, hq, hr, hb6⟩
   obtain ⟨p8, ad8, n8, c8, rfl⟩ := refv_shape hq
   obtain ⟨p9, ad9, n9, c9, rfl⟩ := refv_shape hr
   have hR6 := HR3.out.keep hb6
   have hR7 := hR6.setY hq
   have HP1 := Lib.hid (hR7.z.put hR7.x.rv)
   have HP2 := Lib.hid (hR7.z.put hR7.y.rv)
   have HBL := Lib.hid hR7.below
   obtain ⟨k0, k1, l0, l1, _⟩ := hR6.y
   obtain ⟨x0, x1⟩ := hR6.x.cells
   obtain ⟨⟨z0, z1, _, _, _⟩, ⟨z2, z3, _, _, _⟩, ⟨r0', r1', r2', r3', q0, q1, q2, q3⟩, _⟩ := hR7
   clear y0 y1 g0 g1 HR3 HG3 hb6 hq hr hR6 HO2 e0 e1 f0 f1
   go_wp2_with fail
   refine bodyPost_ret (v := .tuple #[.agg #[.bool p6, .slice ad6 n6 c6, .bool p8, .slice ad8 n8 c8], .int .i64 0]) (by simp [results, Tryz.results17, go_sem, r0', r1', r2', r3']) rfl ⟨_, rfl, ⟨_, _, _, _, rfl, HP1.out _ _ _ _, HP2.out _ _ _ _⟩, ?_⟩
   exact (((HBL.out.setCell (by simp; omega) _).setCell (by simp; omega) _).setCell (by simp; omega) _).setCell (by simp; omega) _
end
end Go.Proofs.YtghgcbedajaldaaGreat
/-  The reference's fractions: over, Whole, Sign, Neg.  -/
namespace Go.Proofs.YtghgcbedajaldaaGreat
section
open Go.RowKit Digs
theorem bd_le {k : Nat} {z x : Int} (h : Bd k x) (hz : z.natAbs ≤ x.natAbs) : Bd k z := Nat.lt_of_le_of_lt hz h
theorem bd_qn {k : Nat} {a b : Int} (h : Bd k a) : Bd k (qn a b) := by
 unfold qn
 refine bd_le h (Nat.le_trans (by rw [Int.natAbs_tdiv]; exact Nat.div_le_self _ _) ?_)
 split <;> omega
theorem bd_qd {k : Nat} {a b : Int} (h : Bd k b) : Bd k (qd a b) := by
 unfold qd
 refine bd_le h (Nat.le_trans (by rw [Int.natAbs_tdiv]; exact Nat.div_le_self _ _) ?_)
 split <;> omega
structure QX (p : Nat) (a b c e : Value) (n d : Int) (W : World) : Prop where
 c0 : W.cell? ⟨p, 0, none⟩ = some a
 c1 : W.cell? ⟨p, 1, none⟩ = some b
 c2 : W.cell? ⟨p, 2, none⟩ = some c
 c3 : W.cell? ⟨p, 3, none⟩ = some e
 f0 : W.frozen? ⟨p, 0, none⟩ = false
 f1 : W.frozen? ⟨p, 1, none⟩ = false
 f2 : W.frozen? ⟨p, 2, none⟩ = false
 f3 : W.frozen? ⟨p, 3, none⟩ = false
 n : RefV W (.agg #[a, b]) n
 d : RefV W (.agg #[c, e]) d
theorem QX.lt {p : Nat} {a b c e : Value} {n d : Int} {W : World} (h : QX p a b c e n d W) : p < W.heap.size := World.block_lt_of_cell? W _ h.c0
theorem QX.keep {p : Nat} {a b c e : Value} {n d : Int} {W W' : World} (h : QX p a b c e n d W) (hb : Below W.heap.size W W') : QX p a b c e n d W' :=
 ⟨(hb.cell (p := ⟨p, 0, none⟩) h.lt).trans h.c0, (hb.cell (p := ⟨p, 1, none⟩) h.lt).trans h.c1, (hb.cell (p := ⟨p, 2, none⟩) h.lt).trans h.c2, (hb.cell (p := ⟨p, 3, none⟩) h.lt).trans h.c3,
  (hb.frozen (p := ⟨p, 0, none⟩) h.lt).trans h.f0, (hb.frozen (p := ⟨p, 1, none⟩) h.lt).trans h.f1, (hb.frozen (p := ⟨p, 2, none⟩) h.lt).trans h.f2, (hb.frozen (p := ⟨p, 3, none⟩) h.lt).trans h.f3, h.n.keep hb, h.d.keep hb⟩
theorem QX.made {w : World} {a b c e : Value} {n d : Int} {t : TypeId} (h1 : RefV w (.agg #[a, b]) n) (h2 : RefV w (.agg #[c, e]) d) : QX w.heap.size a b c e n d (w.alloc (.cells #[a, b, c, e] t)) := by
 have h := cells4 (w := w) (a := a) (b := b) (c := c) (d := e) (t := t) (Below.refl _ _)
 have hb := (Below.refl w.heap.size w).alloc (Nat.le_refl _) (.cells #[a, b, c, e] t)
 exact ⟨h.1, h.2.1, h.2.2.1, h.2.2.2.1, h.2.2.2.2.1, h.2.2.2.2.2.1, h.2.2.2.2.2.2.1, h.2.2.2.2.2.2.2.1, h1.keep hb, h2.keep hb⟩
theorem QX.rq {p : Nat} {a b c e : Value} {n d : Int} {W : World} (h : QX p a b c e n d W) : RQV W (.agg #[a, b, c, e]) n d := ⟨_, _, _, _, rfl, h.n, h.d⟩
theorem QX.c4 {p : Nat} {a b c e : Value} {n d : Int} {W : World} (h : QX p a b c e n d W) : W.cell? ⟨p, 0, none⟩ = some a ∧ W.cell? ⟨p, 1, none⟩ = some b ∧ W.cell? ⟨p, 2, none⟩ = some c ∧ W.cell? ⟨p, 3, none⟩ = some e := ⟨h.c0, h.c1, h.c2, h.c3⟩
end
end Go.Proofs.YtghgcbedajaldaaGreat
