/-  Q2 Q3 Q4 Q5  -/
import Derived.Test.YtghgcbedajaldaaGreatMpag
import Derived.Test.YtghgcbedajaldaaGreatMpat
/-  Fractions: the program's over, reduce, New.  -/
namespace Go.Proofs.YtghgcbedajaldaaGreat
section
open Go.RowKit Digs
structure B2 (w : World) (a b c d : Value) (W : World) : Prop where
 a0 : W.cell? ⟨w.heap.size, 0, none⟩ = some a
 a1 : W.cell? ⟨w.heap.size, 1, none⟩ = some b
 b0 : W.cell? ⟨w.heap.size + 1, 0, none⟩ = some c
 b1 : W.cell? ⟨w.heap.size + 1, 1, none⟩ = some d
 r0 : W.cell? ⟨w.heap.size + 1 + 1, 0, none⟩ = some (.bool false)
 r1 : W.cell? ⟨w.heap.size + 1 + 1, 1, none⟩ = some (.slice none 0 0)
 f0 : W.frozen? ⟨w.heap.size + 1 + 1, 0, none⟩ = false
 f1 : W.frozen? ⟨w.heap.size + 1 + 1, 1, none⟩ = false
 below : Below w.heap.size w W
theorem below3w (w : World) (a b c : Obj) : Below w.heap.size w (((w.alloc a).alloc b).alloc c) := (below2 w a b).alloc (by simp; omega) _
theorem B2.made {w : World} {a b c d : Value} {t u : TypeId} {W : World} (h : Below (((w.alloc (.cells #[a, b] t)).alloc (.cells #[c, d] t)).alloc (.cells #[.bool false, .slice none 0 0] u)).heap.size (((w.alloc (.cells #[a, b] t)).alloc (.cells #[c, d] t)).alloc (.cells #[.bool false, .slice none 0 0] u)) W) : B2 w a b c d W := by
 have h4 := box2 h
 simp only [World.size_alloc] at h4
 have hz := zcells3 w a b c d t t (((Below.refl _ _).alloc (Nat.le_refl _) (.cells #[.bool false, .slice none 0 0] u)).trans (h.mono (by simp)))
 exact ⟨hz.1.1, hz.1.2, hz.2.1, hz.2.2, h4.1, h4.2.1, h4.2.2.1, h4.2.2.2.1, (below3w w _ _ _).trans (h.mono (by simp; omega))⟩
set_option maxRecDepth 100000 in
theorem over_any (n d : Int) (vn vd : Value) (w : World) (hn : len n ≤ 1000000) (hd : len d ≤ 1000000) (h1 : IntV w vn n) (h2 : IntV w vd d) :
  Calls Tryz.prog 98 #[vn, vd] w (IntPost w (dvq n d)) := by
 have k1 := h1
 have k2 := h2
 obtain ⟨ad1, n1, c1, rfl, _⟩ := k1
 obtain ⟨ad2, n2, c2, rfl, _⟩ := k2
 have HD := Lib.hid fun W (hw : Below w.heap.size w W) => Lib.hid (Divide_all n d _ _ W hn hd (h1.keep hw) (h2.keep hw))
 clear h1 h2 hn hd
 generalize decide (n < 0) = p1 at *
 generalize decide (d < 0) = p2 at *
 generalize dvq n d = q at *
 generalize dvr n d = r at *
 go_enter Tryz.func98, Tryz.ntmps98
 go_wp2_with fail
 (with_reducible refine (HD.out _ (below3w _ _ _ _)).out.mono ?_)
 rintro e w1 ⟨vq, vr, rfl, ⟨ad3, n3, c3, rfl, hq⟩, ⟨ad4, n4, c4, rfl, hr⟩, hb⟩
 have HQ : Hid (IntV w1 (.agg #[.bool (decide (q < 0)), .slice ad3 n3 c3]) q) := Lib.hid ⟨_, _, _, rfl, hq⟩
 generalize decide (q < 0) = p3 at *
 generalize decide (r < 0) = p4 at *
 have hal := below2 w1 (.cells #[.bool p3, .slice ad3 n3 c3] 31) (.cells #[.bool p4, .slice ad4 n4 c4] 31)
 obtain ⟨_, _, _, _, r0, r1, f0, f1, hbw⟩ := B2.made (hb.trans (hal.mono hb.size))
 have HI := Lib.hid ((HQ.out.keep hal).st2 r0 r1 (by intro n h; cases h) (by intro n h; cases h))
 have HB := Lib.hid hbw
 clear hq hr hb hal hbw
 go_wp2_with fail
 refine bodyPost_ret (v := .agg #[.bool p3, .slice ad3 n3 c3]) (by simp [results, Tryz.results98, go_sem, r0, r1]) rfl ⟨_, rfl, HI.out _ _, ?_⟩
 exact (HB.out.setCell (by simp; omega) _).setCell (by simp; omega) _
theorem cell_store4 {w : World} {R b o : Nat} {x y s t : Value} (h : b ≠ R) : ((((w.setCell ⟨R, 0, none⟩ x).setCell ⟨R, 1, none⟩ y).setCell ⟨R, 2, none⟩ s).setCell ⟨R, 3, none⟩ t).cell? ⟨b, o, none⟩ = w.cell? ⟨b, o, none⟩ := by
 rw [World.cell?_setCell_other _ _ _ _ (by simp <;> omega), World.cell?_setCell_other _ _ _ _ (by simp <;> omega), World.cell?_setCell_other _ _ _ _ (by simp <;> omega), World.cell?_setCell_other _ _ _ _ (by simp <;> omega)]
theorem dvq_tdiv (x y : Int) : dvq x y = x.tdiv y := by
 unfold dvq
 split
 ·next h => rw [h, Int.tdiv_zero]
 ·rfl
theorem gcd_len (x y : Int) (hx : len x ≤ 1000000) (hy : len y ≤ 1000000) : len ((Int.gcd x y : Nat) : Int) ≤ 1000000 := by
 unfold len at *
 rw [Int.natAbs_natCast]
 by_cases h : y = 0
 ·subst h
  rw [show Int.gcd x 0 = x.natAbs from Nat.gcd_zero_right _]
  exact hx
 ·exact Nat.le_trans (digs_length_mono (by decide) (Nat.le_of_dvd (by omega) (Nat.gcd_dvd_right x.natAbs y.natAbs))) hy
theorem if_len (p : Prop) [Decidable p] (x : Int) (hx : len x ≤ 1000000) : len (if p then -x else x) ≤ 1000000 := by
 split
 ·unfold len at *; rw [Int.natAbs_neg]; exact hx
 ·exact hx
theorem if_gcd (p : Prop) [Decidable p] (x y : Int) : Int.gcd (if p then -x else x) (if p then -y else y) = Int.gcd x y := by
 split
 ·rw [Int.gcd_neg, Int.neg_gcd]
 ·rfl
structure R3 (w : World) (n d : Int) (a b c e : Value) (W : World) : Prop where
 s : B3 w a b c e W
 n : IntV W (.agg #[a, b]) n
 d : IntV W (.agg #[c, e]) d
theorem B3.keep {w : World} {a b c d : Value} {W W' : World} (h : B3 w a b c d W) (hb : Below W.heap.size W W') : B3 w a b c d W' := by
 have l0 := World.block_lt_of_cell? W _ h.a0
 have l1 := World.block_lt_of_cell? W _ h.b0
 have l2 := World.block_lt_of_cell? W _ h.r0
 exact ⟨(hb.cell (p := ⟨_, 0, none⟩) l0).trans h.a0, (hb.cell (p := ⟨_, 1, none⟩) l0).trans h.a1, (hb.cell (p := ⟨_, 0, none⟩) l1).trans h.b0, (hb.cell (p := ⟨_, 1, none⟩) l1).trans h.b1,
  (hb.cell (p := ⟨_, 0, none⟩) l2).trans h.r0, (hb.cell (p := ⟨_, 1, none⟩) l2).trans h.r1, (hb.cell (p := ⟨_, 2, none⟩) l2).trans h.r2, (hb.cell (p := ⟨_, 3, none⟩) l2).trans h.r3,
  (hb.frozen (p := ⟨_, 0, none⟩) l2).trans h.f0, (hb.frozen (p := ⟨_, 1, none⟩) l2).trans h.f1, (hb.frozen (p := ⟨_, 2, none⟩) l2).trans h.f2, (hb.frozen (p := ⟨_, 3, none⟩) l2).trans h.f3, (hb.frozen (p := ⟨_, 0, none⟩) l0).trans h.ga0, (hb.frozen (p := ⟨_, 1, none⟩) l0).trans h.ga1, (hb.frozen (p := ⟨_, 0, none⟩) l1).trans h.gb0, (hb.frozen (p := ⟨_, 1, none⟩) l1).trans h.gb1, h.below.trans (hb.mono h.below.size)⟩
theorem R3.keep {w : World} {n d : Int} {a b c e : Value} {W W' : World} (h : R3 w n d a b c e W) (hb : Below W.heap.size W W') : R3 w n d a b c e W' := ⟨h.s.keep hb, h.n.keep hb, h.d.keep hb⟩
theorem R3.stored {w W : World} {n d n' d' : Int} {p1 p2 p3 p4 : Bool} {a1 a2 a3 a4 : Option Addr} {n1 n2 n3 n4 c1 c2 c3 c4 : Nat} (h : R3 w n d (.bool p1) (.slice a1 n1 c1) (.bool p2) (.slice a2 n2 c2) W)
    (h3 : IntV W (.agg #[.bool p3, .slice a3 n3 c3]) n') (h4 : IntV W (.agg #[.bool p4, .slice a4 n4 c4]) d') :
    R3 w n' d' (.bool p3) (.slice a3 n3 c3) (.bool p4) (.slice a4 n4 c4) ((((W.setCell ⟨w.heap.size, 0, none⟩ (.bool p3)).setCell ⟨w.heap.size, 1, none⟩ (.slice a3 n3 c3)).setCell ⟨w.heap.size + 1, 0, none⟩ (.bool p4)).setCell ⟨w.heap.size + 1, 1, none⟩ (.slice a4 n4 c4)) := by
  obtain ⟨⟨x0, x1, y0, y1, r0, r1, r2, r3, f0, f1, f2, f3, ga0, ga1, gb0, gb1, hb⟩, _, _⟩ := h
  have y0' : ((W.setCell ⟨w.heap.size, 0, none⟩ (.bool p3)).setCell ⟨w.heap.size, 1, none⟩ (.slice a3 n3 c3)).cell? ⟨w.heap.size + 1, 0, none⟩ = some (.bool p2) := by
    rw [World.cell?_setCell_other _ _ _ _ (by simp), World.cell?_setCell_other _ _ _ _ (by simp)]; exact y0
  have y1' : ((W.setCell ⟨w.heap.size, 0, none⟩ (.bool p3)).setCell ⟨w.heap.size, 1, none⟩ (.slice a3 n3 c3)).cell? ⟨w.heap.size + 1, 1, none⟩ = some (.slice a2 n2 c2) := by
    rw [World.cell?_setCell_other _ _ _ _ (by simp), World.cell?_setCell_other _ _ _ _ (by simp)]; exact y1
  refine ⟨⟨?_, ?_, ?_, ?_, ?_, ?_, ?_, ?_, by simpa using f0, by simpa using f1, by simpa using f2, by simpa using f3, by simpa using ga0, by simpa using ga1, by simpa using gb0, by simpa using gb1,
    (((hb.setCell (by simp) _).setCell (by simp) _).setCell (by simp) _).setCell (by simp) _⟩,
    (h3.st2 x0 x1 (by intro n h; cases h) (by intro n h; cases h) _ _).st2 y0' y1' (by intro n h; cases h) (by intro n h; cases h) _ _,
    (h4.st2 x0 x1 (by intro n h; cases h) (by intro n h; cases h) _ _).st2 y0' y1' (by intro n h; cases h) (by intro n h; cases h) _ _⟩
  · rw [World.cell?_setCell_other _ _ _ _ (by simp), World.cell?_setCell_other _ _ _ _ (by simp), World.cell?_setCell_other _ _ _ _ (by simp)]
    exact World.cell?_setCell_same _ _ _ x0
  · rw [World.cell?_setCell_other _ _ _ _ (by simp), World.cell?_setCell_other _ _ _ _ (by simp)]
    exact World.cell?_setCell_same _ _ _ (by rw [World.cell?_setCell_other _ _ _ _ (by simp)]; exact x1)
  · rw [World.cell?_setCell_other _ _ _ _ (by simp)]
    exact World.cell?_setCell_same _ _ _ y0'
  · exact World.cell?_setCell_same _ _ _ (by rw [World.cell?_setCell_other _ _ _ _ (by simp)]; exact y1')
  all_goals
    rw [World.cell?_setCell_other _ _ _ _ (by simp <;> omega), World.cell?_setCell_other _ _ _ _ (by simp <;> omega), World.cell?_setCell_other _ _ _ _ (by simp), World.cell?_setCell_other _ _ _ _ (by simp)]
    assumption

set_option maxHeartbeats 4000000 in
set_option maxRecDepth 100000 in
theorem reduce_any (n d : Int) (vn vd : Value) (w : World) (hn : len n ≤ 1000000) (hd : len d ≤ 1000000) (h1 : IntV w vn n) (h2 : IntV w vd d) :
  Calls Tryz.prog 76 #[vn, vd] w (RatPost w (qn n d) (qd n d)) := by
 have k1 := h1
 have k2 := h2
 obtain ⟨ad1, n1, c1, rfl, _⟩ := k1
 obtain ⟨ad2, n2, c2, rfl, _⟩ := k2
 have H1 := Lib.hid h1
 have H2 := Lib.hid h2
 clear h1 h2
 have HS := Lib.hid fun W u h => Lib.hid (sign_any d u W hd h)
 have HN1 := Lib.hid fun W u h => Lib.hid (Neg_any n u W hn h)
 have HN2 := Lib.hid fun W u h => Lib.hid (Neg_any d u W hd h)
 have hsg : sgnZ d < 0 ↔ d < 0 := by unfold sgnZ; split <;> (try split) <;> omega
 generalize decide (n < 0) = p1 at *
 generalize decide (d < 0) = p2 at *
 generalize sgnZ d = sd at *
 go_enter Tryz.func76, Tryz.ntmps76
 have HB0 := Lib.hid (fun W h => B3.made (w := w) (a := .bool p1) (b := .slice ad1 n1 c1) (c := .bool p2) (d := .slice ad2 n2 c2) (t := 31) (u := 38) (W := W) h)
 go_wp2_with fail
 (with_reducible refine (HS.out _ _ (H2.out.keep (below3w _ _ _ _))).out.mono ?_)
 rintro e w1 ⟨rfl, hb1⟩
 have hB1 := HB0.out _ hb1
 have HR1 : Hid (R3 w n d (.bool p1) (.slice ad1 n1 c1) (.bool p2) (.slice ad2 n2 c2) w1) := Lib.hid ⟨hB1, H1.out.keep hB1.below, H2.out.keep hB1.below⟩
 clear hb1 HB0
 go_upto_if 8 with fail
 go_cut [] from 8 to 12 (fun wx => ∃ a b c e, R3 w (if d < 0 then -n else n) (if d < 0 then -d else d) a b c e wx)
 case first =>
  by_cases hneg : d < 0
  ·obtain ⟨x0, x1, y0, y1, _, _, _, _, _, _, _, _, ga0, ga1, gb0, gb1, _⟩ := HR1.out.s
   go_upto_region 2 with fail
   have hR0 : R3 w n d (.bool p1) (.slice ad1 n1 c1) (.bool p2) (.slice ad2 n2 c2) w1.drew := HR1.out.keep ((Below.refl _ _).drew)
   go_region_with
    (first
    | (go_at_call 62; (with_reducible refine (HN1.out _ _ hR0.n).out.mono ?_); rintro e wA ⟨vA, rfl, hiA0, hbA⟩; have hiA := Lib.hid hiA0; obtain ⟨ad5, n5, c5, rfl, _⟩ := hiA0; generalize decide (-n < 0) = p3 at *; have hR1 := hR0.keep hbA; have eb0 := hR1.s.b0; have eb1 := hR1.s.b1)
    | (go_at_call 62; (with_reducible refine (HN2.out _ _ hR1.d).out.mono ?_); rintro e wB ⟨vB, rfl, hiB0, hbB⟩; have hiB := Lib.hid hiB0; obtain ⟨ad6, n6, c6, rfl, _⟩ := hiB0; generalize decide (-d < 0) = p4 at *; have hR2 := hR1.keep hbB; have qa0 := hR2.s.a0; have qa1 := hR2.s.a1; have qb0 := hR2.s.b0; have qb1 := hR2.s.b1; have qc0 := hR2.s.ga0; have qc1 := hR2.s.ga1; have qd0 := hR2.s.gb0; have qd1 := hR2.s.gb1))
   all_goals
    have HX := Lib.hid (hR2.stored (hiA.out.keep hbB) hiB.out)
    go_wp2_with fail
    go_meet
    rw [if_pos hneg, if_pos hneg]
    exact ⟨_, _, _, _, HX.out⟩
  ·go_wp2_with fail
   go_meet
   rw [if_neg (by omega), if_neg (by omega)]
   exact ⟨_, _, _, _, HR1.out⟩
 case rest =>
  obtain ⟨a, b, c, e, hr⟩ := hcut
  obtain ⟨p3, ad3, n3, c3, rfl, rfl, _⟩ := hr.n.parts
  obtain ⟨p4, ad4, n4, c4, rfl, rfl, _⟩ := hr.d.parts
  have HG := Lib.hid fun W u v h h' => Lib.hid (Gcd_any (if d < 0 then -n else n) (if d < 0 then -d else d) u v W (if_len _ n hn) (if_len _ d hd) h h')
  have HO1 := Lib.hid fun W u v h h' => Lib.hid (over_any (if d < 0 then -n else n) ((Int.gcd n d : Nat) : Int) u v W (if_len _ n hn) (gcd_len n d hn hd) h h')
  have HO2 := Lib.hid fun W u v h h' => Lib.hid (over_any (if d < 0 then -d else d) ((Int.gcd n d : Nat) : Int) u v W (if_len _ d hd) (gcd_len n d hn hd) h h')
  have HL := Lib.hid fun W u v h h' => Lib.hid (lowest_any (qn n d) (qd n d) u v W h h')
  rw [if_gcd] at HG
  rw [dvq_tdiv] at HO1 HO2
  rw [show (if d < 0 then -n else n).tdiv ((Int.gcd n d : Nat) : Int) = qn n d from rfl] at HO1
  rw [show (if d < 0 then -d else d).tdiv ((Int.gcd n d : Nat) : Int) = qd n d from rfl] at HO2
  have HR := Lib.hid hr
  obtain ⟨x0, x1, y0, y1, _⟩ := hr.s
  clear hr HR1 HN1 HN2 HS hsg hB1 H1 H2 hn hd
  generalize (if d < 0 then -n else n) = n' at *
  generalize (if d < 0 then -d else d) = d' at *
  generalize ((Int.gcd n d : Nat) : Int) = g at *
  generalize qn n d = qN at *
  generalize qd n d = qD at *
  generalize wc = w2 at *
  go_wp2_with fail
  (with_reducible refine (HG.out _ _ _ HR.out.n HR.out.d).out.mono ?_)
  rintro e w3 ⟨vg, rfl, ⟨ad5, n5, c5, rfl, hg⟩, hb3⟩
  have HGI : Hid (IntV w3 (.agg #[.bool (decide (g < 0)), .slice ad5 n5 c5]) g) := Lib.hid ⟨_, _, _, rfl, hg⟩
  generalize decide (g < 0) = p5 at *
  have hal := (Below.refl w3.heap.size w3).alloc (Nat.le_refl _) (.cells #[.bool p5, .slice ad5 n5 c5] 31)
  have hlt : w.heap.size + 1 + 1 < w3.heap.size := World.block_lt_of_cell? w3 _ (HR.out.keep hb3).s.r0
  have hR0 := HR.out.keep (hb3.trans (hal.mono hb3.size))
  have hG0 : BX w3.heap.size (.bool p5) (.slice ad5 n5 c5) g (w3.alloc (.cells #[.bool p5, .slice ad5 n5 c5] 31)) := BX.made HGI.out
  clear hg hb3 hal x0 x1 y0 y1
  have hn1 : w.heap.size ≠ w.heap.size + 1 + 1 := by omega
  have hn2 : w.heap.size + 1 ≠ w.heap.size + 1 + 1 := by omega
  have hn3 : w3.heap.size ≠ w.heap.size + 1 + 1 := by omega
  have HN := Lib.hid (And.intro hn1 (And.intro hn2 hn3))
  clear hn1 hn2 hn3 hlt
  go_upto_region 4 with fail
  obtain ⟨hn1, hn2, hn3⟩ := HN.out
  have hR1 := hR0.keep ((Below.refl _ _).drew)
  have hG1 := hG0.keep ((Below.refl _ _).drew)
  go_region_held3 (fun w' => (w'.cell? ⟨w.heap.size, 0, none⟩ = some (.bool p3) ∧ w'.cell? ⟨w.heap.size, 1, none⟩ = some (.slice ad3 n3 c3)) ∧ (w'.cell? ⟨w.heap.size + 1, 0, none⟩ = some (.bool p4) ∧ w'.cell? ⟨w.heap.size + 1, 1, none⟩ = some (.slice ad4 n4 c4)) ∧ w'.cell? ⟨w3.heap.size, 0, none⟩ = some (.bool p5) ∧ w'.cell? ⟨w3.heap.size, 1, none⟩ = some (.slice ad5 n5 c5))
   (first | exact ⟨⟨hR4.s.a0, hR4.s.a1⟩, ⟨hR4.s.b0, hR4.s.b1⟩, hG4.c0, hG4.c1⟩ | exact ⟨⟨hR3.s.a0, hR3.s.a1⟩, ⟨hR3.s.b0, hR3.s.b1⟩, hG3.c0, hG3.c1⟩ | exact ⟨⟨hR2.s.a0, hR2.s.a1⟩, ⟨hR2.s.b0, hR2.s.b1⟩, hG2.c0, hG2.c1⟩ | exact ⟨⟨hR1.s.a0, hR1.s.a1⟩, ⟨hR1.s.b0, hR1.s.b1⟩, hG1.c0, hG1.c1⟩ | exact ⟨⟨(cell_store4 hn1).trans hR4.s.a0, (cell_store4 hn1).trans hR4.s.a1⟩, ⟨(cell_store4 hn2).trans hR4.s.b0, (cell_store4 hn2).trans hR4.s.b1⟩, (cell_store4 hn3).trans hG4.c0, (cell_store4 hn3).trans hG4.c1⟩ | go_keep)
   (go_loud (first
   | (go_at_call 98; (with_reducible refine (HO1.out _ _ _ hR1.n hG1.iv).out.mono ?_); rintro e wA ⟨vA, rfl, hiA, hbA⟩; have hR2 := hR1.keep hbA; have hG2 := hG1.keep hbA)
   | (go_at_call 98; (with_reducible refine (HO2.out _ _ _ hR2.d hG2.iv).out.mono ?_); rintro e wB ⟨vB, rfl, hiB, hbB⟩; have hR3 := hR2.keep hbB; have hG3 := hG2.keep hbB; have hiA3 := hiA.keep hbB)
   | (go_at_call 93; (with_reducible refine (HL.out _ _ _ hiA3 hiB).out.mono ?_); rintro e wC ⟨vC, rfl, ⟨ka, kb, kc, kd, rfl, hi1, hi2⟩, hbC⟩; have hR4 := hR3.keep hbC; have hG4 := hG3.keep hbC; obtain ⟨p6, ad6, n6, c6, rfl, rfl, _⟩ := hi1.parts; obtain ⟨p7, ad7, n7, c7, rfl, rfl, _⟩ := hi2.parts; have r0 := hR4.s.r0; have r1 := hR4.s.r1; have r2 := hR4.s.r2; have r3 := hR4.s.r3; have f0 := hR4.s.f0; have f1 := hR4.s.f1; have f2 := hR4.s.f2; have f3 := hR4.s.f3)))
  have h1 := Lib.hid (hi1.st4 r0 r1 r2 r3 (by intro n h; cases h) (by intro n h; cases h) (by intro n h; cases h) (by intro n h; cases h))
  have h2 := Lib.hid (hi2.st4 r0 r1 r2 r3 (by intro n h; cases h) (by intro n h; cases h) (by intro n h; cases h) (by intro n h; cases h))
  have hbl := hR4.s.below
  go_wp2_with fail
  refine bodyPost_ret (v := .agg #[.bool p6, .slice ad6 n6 c6, .bool p7, .slice ad7 n7 c7]) (by simp [results, Tryz.results76, go_sem, r0, r1, r2, r3]) rfl ⟨_, rfl, ⟨_, _, _, _, rfl, h1.out _ _ _ _, h2.out _ _ _ _⟩, ?_⟩
  exact (((hbl.setCell (by simp; omega) _).setCell (by simp; omega) _).setCell (by simp; omega) _).setCell (by simp; omega) _
end
end Go.Proofs.YtghgcbedajaldaaGreat
/-  Fractions: the program's New.  -/
namespace Go.Proofs.YtghgcbedajaldaaGreat
section
open Go.RowKit Digs
theorem sgnZ_z {x : Int} : sgnZ x = 0 ↔ x = 0 := by
 unfold sgnZ
 split <;> (try split) <;> constructor <;> intro h <;> first | omega | (exfalso; omega)
set_option maxHeartbeats 4000000 in
set_option maxRecDepth 100000 in
theorem ratNew_any (n d : Int) (vn vd : Value) (w : World) (hn : len n ≤ 1000000) (hd : len d ≤ 1000000) (h1 : IntV w vn n) (h2 : IntV w vd d) :
  Calls Tryz.prog 16 #[vn, vd] w (RatRes w (if d = 0 then 0 else qn n d) (if d = 0 then 1 else qd n d) (if d = 0 then 6 else 0)) := by
 obtain ⟨N, hN⟩ : ∃ N : Int, N = if d = 0 then 0 else qn n d := ⟨_, rfl⟩
 obtain ⟨D, hD⟩ : ∃ D : Int, D = if d = 0 then 1 else qd n d := ⟨_, rfl⟩
 obtain ⟨C, hC⟩ : ∃ C : Int, C = if d = 0 then 6 else 0 := ⟨_, rfl⟩
 rw [← hN, ← hD, ← hC]
 have HN := Lib.hid hN
 have HD := Lib.hid hD
 have HC := Lib.hid hC
 clear hN hD hC
 have k1 := h1
 have k2 := h2
 obtain ⟨ad1, n1, c1, rfl, _⟩ := k1
 obtain ⟨ad2, n2, c2, rfl, _⟩ := k2
 have H1 := Lib.hid h1
 have H2 := Lib.hid h2
 clear h1 h2
 have HS := Lib.hid fun W u h => Lib.hid (sign_any d u W hd h)
 have HR := Lib.hid fun W u v h h' => Lib.hid (reduce_any n d u v W hn hd h h')
 have hsg : (sgnZ d == 0) = decide (d = 0) := by
  by_cases h : d = 0
  ·rw [decide_eq_true h, sgnZ_z.2 h]; rfl
  ·rw [decide_eq_false h]; simp [sgnZ_z, h]
 generalize decide (n < 0) = p1 at *
 generalize decide (d < 0) = p2 at *
 generalize sgnZ d = sd at *
 go_enter Tryz.func16, Tryz.ntmps16
 have HB0 := Lib.hid (fun W h => B3.made (w := w) (a := .bool p1) (b := .slice ad1 n1 c1) (c := .bool p2) (d := .slice ad2 n2 c2) (t := 31) (u := 38) (W := W) h)
 go_wp2_with fail
 (with_reducible refine (HS.out _ _ (H2.out.keep (below3w _ _ _ _))).out.mono ?_)
 rintro e w1 ⟨rfl, hb1⟩
 have hB1 := HB0.out _ hb1
 clear hb1 HB0
 by_cases h0 : d = 0
 ·obtain rfl : N = 0 := HN.out.trans (if_pos h0)
  obtain rfl : D = 1 := HD.out.trans (if_pos h0)
  obtain rfl : C = 6 := HC.out.trans (if_pos h0)
  clear HN HD HC
  obtain ⟨_, _, _, _, r0, r1, r2, r3, f0, f1, f2, f3, _, _, _, _, hbl⟩ := hB1
  go_wp2_with fail
  refine bodyPost_ret (v := .tuple #[.agg #[.bool false, .slice none 0 0, .bool false, .slice none 0 0], .int .i64 6]) (by simp [results, Tryz.results16, go_sem, r0, r1, r2, r3]) rfl ⟨_, rfl, ⟨_, _, _, _, rfl, IntV.nil0 _, IntV.nil0 _⟩, ?_⟩
  exact (((hbl.setCell (by simp; omega) _).setCell (by simp; omega) _).setCell (by simp; omega) _).setCell (by simp; omega) _
 ·obtain rfl : N = qn n d := HN.out.trans (if_neg h0)
  obtain rfl : D = qd n d := HD.out.trans (if_neg h0)
  obtain rfl : C = 0 := HC.out.trans (if_neg h0)
  clear HN HD HC
  generalize qn n d = N at *
  generalize qd n d = D at *
  have hB := Lib.hid hB1
  obtain ⟨x0, x1, y0, y1, _⟩ := hB1
  go_wp2_with fail
  (with_reducible refine (HR.out _ _ _ (H1.out.keep hB.out.below) (H2.out.keep hB.out.below)).out.mono ?_)
  rintro e w2 ⟨v2, rfl, ⟨ka, kb, kc, kd, rfl, hi1, hi2⟩, hb2⟩
  obtain ⟨p6, ad6, n6, c6, rfl, rfl, _⟩ := hi1.parts
  obtain ⟨p7, ad7, n7, c7, rfl, rfl, _⟩ := hi2.parts
  obtain ⟨_, _, _, _, r0, r1, r2, r3, f0, f1, f2, f3, _, _, _, _, hbl⟩ := hB.out.keep hb2
  have g1 := Lib.hid (hi1.st4 r0 r1 r2 r3 (by intro n h; cases h) (by intro n h; cases h) (by intro n h; cases h) (by intro n h; cases h))
  have g2 := Lib.hid (hi2.st4 r0 r1 r2 r3 (by intro n h; cases h) (by intro n h; cases h) (by intro n h; cases h) (by intro n h; cases h))
  clear hi1 hi2 hb2 x0 x1 y0 y1
  go_wp2_with fail
  refine bodyPost_ret (v := .tuple #[.agg #[.bool p6, .slice ad6 n6 c6, .bool p7, .slice ad7 n7 c7], .int .i64 0]) (by simp [results, Tryz.results16, go_sem, r0, r1, r2, r3]) rfl ⟨_, rfl, ⟨_, _, _, _, rfl, g1.out _ _ _ _, g2.out _ _ _ _⟩, ?_⟩
  exact (((hbl.setCell (by simp; omega) _).setCell (by simp; omega) _).setCell (by simp; omega) _).setCell (by simp; omega) _
end
end Go.Proofs.YtghgcbedajaldaaGreat
/-  Fractions: the program's Of, Numerator, Whole, Sign.  -/
namespace Go.Proofs.YtghgcbedajaldaaGreat
section
open Go.RowKit Digs
set_option maxRecDepth 100000 in
theorem ratSign_any (n d : Int) (v : Value) (w : World) (hn : len n ≤ 1000000) (h : RatV w v n d) :
  Calls Tryz.prog 24 #[v] w fun e w' => e = .returned (.int .i64 (sgnZ n)) ∧ Below w.heap.size w w' := by
 obtain ⟨a, b, c, e, rfl, h1, h2⟩ := h
 obtain ⟨p1, ad1, n1, c1, rfl, rfl, _⟩ := h1.parts
 obtain ⟨p2, ad2, n2, c2, rfl, rfl, _⟩ := h2.parts
 have HS := Lib.hid fun W hw => Lib.hid (sign_any n _ W hn (h1.keep (w' := W) hw))
 clear h1 h2
 go_enter Tryz.func24, Tryz.ntmps24
 go_wp2_with fail
 refine (HS.out _ ((Below.refl _ _).alloc (Nat.le_refl _) _)).out.mono ?_
 rintro e w1 ⟨rfl, hb⟩
 have HB := Lib.hid (((Below.refl w.heap.size w).alloc (Nat.le_refl _) (.cells #[.bool p1, .slice ad1 n1 c1, .bool p2, .slice ad2 n2 c2] 38)).trans (hb.mono (by simp)))
 clear hb
 go_wp2_with fail
 go_ret
 exact ⟨rfl, HB.out⟩
set_option maxRecDepth 100000 in
theorem ratWhole_any (n d : Int) (v : Value) (w : World) (hd0 : 0 < d) (hd : len d ≤ 1000000) (h : RatV w v n d) :
  Calls Tryz.prog 22 #[v] w (BoolPost w (decide (d = 1))) := by
 obtain ⟨a, b, c, e, rfl, h1, h2⟩ := h
 obtain ⟨p1, ad1, n1, c1, rfl, rfl, _⟩ := h1.parts
 obtain ⟨p2, ad2, n2, c2, rfl, rfl, _⟩ := h2.parts
 have HS := Lib.hid fun W hw => Lib.hid (sign_any (dz d) _ W (dz_len hd) (h2.keep (w' := W) hw))
 have hs : (sgnZ (dz d) == 0) = decide (d = 1) := by
  by_cases h : d = 1
  ·rw [(dz_sgn hd0).1 h, decide_eq_true h]; rfl
  ·rw [((dz_sgn hd0).2 h).2, decide_eq_false h]; rfl
 clear h1 h2
 generalize sgnZ (dz d) = s at *
 go_enter Tryz.func22, Tryz.ntmps22
 go_wp2_with fail
 refine (HS.out _ ((Below.refl _ _).alloc (Nat.le_refl _) _)).out.mono ?_
 rintro e w1 ⟨rfl, hb⟩
 have HB := Lib.hid (((Below.refl w.heap.size w).alloc (Nat.le_refl _) (.cells #[.bool p1, .slice ad1 n1 c1, .bool p2, .slice ad2 n2 c2] 38)).trans (hb.mono (by simp)))
 clear hb
 go_wp2_with fail
 go_ret
 exact ⟨rfl, HB.out⟩
set_option maxRecDepth 100000 in
theorem ratOf_any (n : Int) (v : Value) (w : World) (h : IntV w v n) :
  Calls Tryz.prog 20 #[v] w (RatPost w n 1) := by
 have k := h
 obtain ⟨ad1, n1, c1, rfl, _⟩ := k
 have H1 := Lib.hid h
 clear h
 generalize decide (n < 0) = p1 at *
 go_enter Tryz.func20, Tryz.ntmps20
 go_wp2_with fail
 refine bodyPost_ret (v := .agg #[.bool p1, .slice ad1 n1 c1, .bool false, .slice none 0 0]) (by simp [results, Tryz.results20, go_sem]) rfl ⟨_, rfl, ⟨_, _, _, _, rfl, H1.out.keep (below2 _ _ _), IntV.nil0 _⟩, below2 _ _ _⟩
end
end Go.Proofs.YtghgcbedajaldaaGreat
/-  Fractions: the program's Neg, Abs.  -/
namespace Go.Proofs.YtghgcbedajaldaaGreat
section
open Go.RowKit Digs
theorem intv_shape {w : World} {v : Value} {z : Int} (h : IntV w v z) : ∃ (p : Bool) (ad : Option Addr) (n c : Nat), v = .agg #[.bool p, .slice ad n c] := by
 obtain ⟨ad, n, c, rfl, _⟩ := h
 exact ⟨_, ad, n, c, rfl⟩
structure F2 (w : World) (a b c d : Value) (W : World) : Prop where
 a0 : W.cell? ⟨w.heap.size, 0, none⟩ = some a
 a1 : W.cell? ⟨w.heap.size, 1, none⟩ = some b
 a2 : W.cell? ⟨w.heap.size, 2, none⟩ = some c
 a3 : W.cell? ⟨w.heap.size, 3, none⟩ = some d
 r0 : W.cell? ⟨w.heap.size + 1, 0, none⟩ = some (.bool false)
 r1 : W.cell? ⟨w.heap.size + 1, 1, none⟩ = some (.slice none 0 0)
 r2 : W.cell? ⟨w.heap.size + 1, 2, none⟩ = some (.bool false)
 r3 : W.cell? ⟨w.heap.size + 1, 3, none⟩ = some (.slice none 0 0)
 f0 : W.frozen? ⟨w.heap.size + 1, 0, none⟩ = false
 f1 : W.frozen? ⟨w.heap.size + 1, 1, none⟩ = false
 f2 : W.frozen? ⟨w.heap.size + 1, 2, none⟩ = false
 f3 : W.frozen? ⟨w.heap.size + 1, 3, none⟩ = false
 below : Below w.heap.size w W
theorem F2.made {w : World} {a b c d : Value} {t : TypeId} {W : World} (h : Below ((w.alloc (.cells #[a, b, c, d] t)).alloc (.cells #[.bool false, .slice none 0 0, .bool false, .slice none 0 0] t)).heap.size ((w.alloc (.cells #[a, b, c, d] t)).alloc (.cells #[.bool false, .slice none 0 0, .bool false, .slice none 0 0] t)) W) : F2 w a b c d W := by
 have h4 := cells4 h
 simp only [World.size_alloc] at h4
 have hx := cells4l h
 exact ⟨hx.1, hx.2.1, hx.2.2.1, hx.2.2.2, h4.1, h4.2.1, h4.2.2.1, h4.2.2.2.1, h4.2.2.2.2.1, h4.2.2.2.2.2.1, h4.2.2.2.2.2.2.1, h4.2.2.2.2.2.2.2.1, (below2 w _ _).trans (h.mono (by simp <;> omega))⟩
end
end Go.Proofs.YtghgcbedajaldaaGreat
