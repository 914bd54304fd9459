/-  Qj Qk R8  -/
import Derived.Test.YtghgcbedajaldaaGreatMpbd
import Derived.Test.YtghgcbedajaldaaGreatMpba
import Derived.Test.YtghgcbedajaldaaGreatMpaw
import Derived.Test.YtghgcbedajaldaaGreatMpax
/-  simplest and Simplest, for ends above 0.  -/
namespace Go.Proofs.YtghgcbedajaldaaGreat
section
open Go.RowKit Go.Shelf Digs
structure RB4 (R : Nat) (x y s t : Value) (W : World) : Prop where
 c0 : W.cell? ⟨R, 0, none⟩ = some x
 c1 : W.cell? ⟨R, 1, none⟩ = some y
 c2 : W.cell? ⟨R, 2, none⟩ = some s
 c3 : W.cell? ⟨R, 3, none⟩ = some t
theorem RB4.keep {R : Nat} {x y s t : Value} {W W' : World} (h : RB4 R x y s t W) (hb : Below W.heap.size W W') : RB4 R x y s t W' := by
 have l := World.block_lt_of_cell? W _ h.c0
 exact ⟨(hb.cell (p := ⟨R, 0, none⟩) l).trans h.c0, (hb.cell (p := ⟨R, 1, none⟩) l).trans h.c1, (hb.cell (p := ⟨R, 2, none⟩) l).trans h.c2, (hb.cell (p := ⟨R, 3, none⟩) l).trans h.c3⟩
theorem RB4.made (w : World) (x y s t : Value) (u : TypeId) : RB4 w.heap.size x y s t (w.alloc (.cells #[x, y, s, t] u)) := by
 obtain ⟨h1, h2, h3, h4, _⟩ := cells4 (Below.refl (w.alloc (.cells #[x, y, s, t] u)).heap.size (w.alloc (.cells #[x, y, s, t] u)))
 exact ⟨h1, h2, h3, h4⟩
theorem RB4.lt {R : Nat} {x y s t : Value} {W : World} (h : RB4 R x y s t W) : R < W.heap.size := World.block_lt_of_cell? W _ h.c0
structure CTok (T : List Int) (N D : Int) : Prop where
 ok : ∃ zs z, T = zs ++ [z] ∧ zs.length ≤ 100000 ∧ (∀ k, k ≤ zs.length → 0 < ((zs.reverse.take k).foldl cs (z, 1)).1 ∧ len ((zs.reverse.take k).foldl cs (z, 1)).1 ≤ 400000 ∧ len ((zs.reverse.take k).foldl cs (z, 1)).2 ≤ 400000) ∧
  (∀ t ∈ zs, len t ≤ 400000) ∧ (zs.reverse.foldl cs (z, 1)).2 ≠ 0 ∧ (zs.reverse.foldl cs (z, 1)).1 = N ∧ (zs.reverse.foldl cs (z, 1)).2 = D
def CTPost (w : World) (n1 d1 n2 d2 : Int) (k : Nat) (e : Ending) (w' : World) : Prop :=
 ∃ b1 b2, e = .returned (.func (.func 173) #[] #[.pointer (some ⟨b1, 0, none⟩), .pointer (some ⟨b2, 0, none⟩)]) ∧ GivesZ 173 #[.pointer (some ⟨b1, 0, none⟩), .pointer (some ⟨b2, 0, none⟩)] (ct k n1 d1 n2 d2) w' ∧ Below w.heap.size w w'
set_option maxRecDepth 100000 in
theorem commonTerms_any (k : Nat) (n1 d1 n2 d2 : Int) (v1 v2 : Value) (w : World) (h1 : RatV w v1 n1 d1) (h2 : RatV w v2 n2 d2) (hd1 : 0 < d1) (hd2 : 0 < d2) (hle : n1 * d2 ≤ n2 * d1) (hk : d1 + d2 ≤ (k : Int)) (l1 : len n1 ≤ 900000) (l2 : len d1 ≤ 900000) (l3 : len n2 ≤ 900000) (l4 : len d2 ≤ 900000) :
  Calls Tryz.prog 153 #[v1, v2] w (CTPost w n1 d1 n2 d2 k) := by
 obtain ⟨p1, ad1, m1, c1, p2, ad2, m2, c2, e1⟩ := rat_shape h1
 obtain ⟨q1, ae1, o1, f1, q2, ae2, o2, f2, e2⟩ := rat_shape h2
 subst e1 e2
 have al : ∀ (A : World) (o : Obj), Below A.heap.size A (A.alloc o) := fun A o => (Below.refl _ _).alloc (Nat.le_refl _) _
 have r1 := (RB4.made w (.bool p1) (.slice ad1 m1 c1) (.bool p2) (.slice ad2 m2 c2) 38).keep (al _ (.cells #[.bool q1, .slice ae1 o1 f1, .bool q2, .slice ae2 o2 f2] 38))
 have r2 := RB4.made (w.alloc (.cells #[.bool p1, .slice ad1 m1 c1, .bool p2, .slice ad2 m2 c2] 38)) (.bool q1) (.slice ae1 o1 f1) (.bool q2) (.slice ae2 o2 f2) 38
 rw [World.size_alloc] at r2
 have hb := below2 w (.cells #[.bool p1, .slice ad1 m1 c1, .bool p2, .slice ad2 m2 c2] 38) (.cells #[.bool q1, .slice ae1 o1 f1, .bool q2, .slice ae2 o2 f2] 38)
 have HG := Lib.hid (commonTerms_gives w.heap.size (w.heap.size + 1) k n1 d1 n2 d2 _ _ _ _ _ _ _ _ _ _ _ r1.lt r2.lt rfl rfl r1.c0 r1.c1 r1.c2 r1.c3 r2.c0 r2.c1 r2.c2 r2.c3 (h1.keep hb) (h2.keep hb) hd1 hd2 hle hk l1 l2 l3 l4)
 have HB := Lib.hid hb
 clear al r1 r2 hb h1 h2 hd1 hd2 hle hk l1 l2 l3 l4
 go_enter Tryz.func153, Tryz.ntmps153
 go_wp2
 go_ret
 exact ⟨_, _, rfl, HG.out, HB.out⟩
theorem ZRow.el {w : World} {base : Nat} {v : Value} {T : List Int} (h : ZRow w base v T) (hT : 0 < T.length) : ∃ g cap, v = .slice (some ⟨g, 0, none⟩) T.length cap ∧ T.length ≤ cap ∧ g < w.heap.size ∧ ElAt w g T := by
 obtain ⟨xs, ho, _, hel⟩ := h
 have ho' := ho
 obtain ⟨_, ⟨_, h0⟩ | ⟨g, cap, cur, rfl, _, hg, hc, _⟩⟩ := ho
 ·omega
 ·refine ⟨g, cap, rfl, hc, (Array.getElem?_eq_some_iff.1 hg).1, fun j hj => ?_⟩
  obtain ⟨ad, n, c, e1, e2, e3⟩ := hel j hj
  exact ⟨_, ad, n, c, by rw [ho'.cellAt _ (by omega)]; exact e1, by rw [ho'.cellAt _ (by omega)]; exact e2, e3⟩
set_option maxHeartbeats 1000000 in
set_option maxRecDepth 100000 in
theorem simplest_any (k : Nat) (n1 d1 n2 d2 N D : Int) (v1 v2 : Value) (w : World) (h1 : RatV w v1 n1 d1) (h2 : RatV w v2 n2 d2) (hd1 : 0 < d1) (hd2 : 0 < d2) (hle : n1 * d2 ≤ n2 * d1) (hk : d1 + d2 ≤ (k : Int)) (l1 : len n1 ≤ 900000) (l2 : len d1 ≤ 900000) (l3 : len n2 ≤ 900000) (l4 : len d2 ≤ 900000)
  (hT : (ct k n1 d1 n2 d2).length ≤ 1000000) (hok : CTok (ct k n1 d1 n2 d2) N D) :
  Calls Tryz.prog 109 #[v1, v2] w (RatPost w (qn N D) (qd N D)) := by
 have HC := Lib.hid fun W (hW : Below w.heap.size w W) => Lib.hid (show Calls Tryz.prog 153 #[v1, v2] W (fun e w' => ∃ b1 b2, e = .returned (.func (.func 173) #[] #[.pointer (some ⟨b1, 0, none⟩), .pointer (some ⟨b2, 0, none⟩)]) ∧ GivesZ 173 #[.pointer (some ⟨b1, 0, none⟩), .pointer (some ⟨b2, 0, none⟩)] (ct k n1 d1 n2 d2) w' ∧ Below W.heap.size W w') from commonTerms_any k n1 d1 n2 d2 v1 v2 W (h1.keep hW) (h2.keep hW) hd1 hd2 hle hk l1 l2 l3 l4)
 obtain ⟨p1, ad1, m1, c1, p2, ad2, m2, c2, e1⟩ := rat_shape h1
 obtain ⟨q1, ae1, o1, f1, q2, ae2, o2, f2, e2⟩ := rat_shape h2
 subst e1 e2
 have HT := Lib.hid hT
 have HOK := Lib.hid hok
 clear h1 h2 hd1 hd2 hle hk l1 l2 l3 l4 hT hok
 generalize ct k n1 d1 n2 d2 = T at *
 have al : ∀ (A : World) (o : Obj), Below A.heap.size A (A.alloc o) := fun A o => (Below.refl _ _).alloc (Nat.le_refl _) _
 obtain ⟨X0, hX0⟩ : ∃ X0, ((w.alloc (.cells #[.bool p1, .slice ad1 m1 c1, .bool p2, .slice ad2 m2 c2] 38)).alloc (.cells #[.bool q1, .slice ae1 o1 f1, .bool q2, .slice ae2 o2 f2] 38)).alloc (.cells #[.bool false, .slice none 0 0, .bool false, .slice none 0 0] 38) = X0 := ⟨_, rfl⟩
 have hZ := Z4.made ((w.alloc (.cells #[.bool p1, .slice ad1 m1 c1, .bool p2, .slice ad2 m2 c2] 38)).alloc (.cells #[.bool q1, .slice ae1 o1 f1, .bool q2, .slice ae2 o2 f2] 38)) 38
 have hB := below3w w (.cells #[.bool p1, .slice ad1 m1 c1, .bool p2, .slice ad2 m2 c2] 38) (.cells #[.bool q1, .slice ae1 o1 f1, .bool q2, .slice ae2 o2 f2] 38) (.cells #[.bool false, .slice none 0 0, .bool false, .slice none 0 0] 38)
 rw [World.size_alloc, World.size_alloc, hX0] at hZ
 rw [hX0] at hB
 have HZ := Lib.hid hZ
 have HB := Lib.hid hB
 have HX := Lib.hid hX0
 have HCC := Lib.hid (HC.out X0 hB)
 rw [← hX0] at HCC
 clear hX0 hZ hB al HC
 go_enter Tryz.func109, Tryz.ntmps109
 go_wp2_with fail
 (with_reducible refine HCC.out.out.mono ?_)
 rintro e w1 ⟨b1, b2, rfl, hG, hb1⟩
 rw [HX.out] at hb1
 have HZ1 := Lib.hid (HZ.out.keep hb1)
 have HB1 := Lib.hid (HB.out.trans (hb1.mono HB.out.size))
 have HCO := Lib.hid (collect_any _ _ T w1 HT.out (enters_of Tryz.func173 (by kernel_rfl)) hG)
 clear hb1 hG HCC HX HZ HB
 go_wp2_with fail
 (with_reducible refine HCO.out.mono ?_)
 rintro e w2 ⟨v, rfl, hz, hb2⟩
 have HZ2 := Lib.hid (HZ1.out.keep hb2)
 have HB2 := Lib.hid (HB1.out.trans (hb2.mono HB1.out.size))
 obtain ⟨zs, z, hTT, hl, hst, hlt, hD, hN1, hD1⟩ := HOK.out.ok
 subst hTT
 obtain ⟨g, cap, rfl, hcap, hg, hel⟩ := hz.el (by rw [List.length_append, List.length_singleton]; omega)
 rw [List.length_append, List.length_singleton] at hcap ⊢
 have HCT := Lib.hid (contract_any g cap zs z w2 hl hcap hel hg hst hlt hD)
 rw [hN1, hD1] at HCT
 clear hz hb2 HZ1 HB1 HCO HT HOK hl hst hlt hD hN1 hD1 hel hcap hg
 generalize qn N D = qN at *
 generalize qd N D = qD at *
 go_wp2_with fail
 (with_reducible refine HCT.out.mono ?_)
 rintro e w3 ⟨v3, rfl, hr3, hb3⟩
 have hr3' := hr3
 obtain ⟨p6, ad6, n6, c6, p7, ad7, n7, c7, rfl⟩ := rat_shape hr3'
 have hal : Below w3.heap.size w3 (w3.alloc (.cells #[.bool p6, .slice ad6 n6 c6, .bool p7, .slice ad7 n7 c7] 38)) := (Below.refl _ _).alloc (Nat.le_refl _) _
 have hRB := RB4.made w3 (.bool p6) (.slice ad6 n6 c6) (.bool p7) (.slice ad7 n7 c7) 38
 obtain ⟨g0, g1, g2, g3⟩ := hRB
 have HZ4 := Lib.hid ((HZ2.out.keep hb3).keep hal)
 have HR4 := Lib.hid (hr3.keep hal)
 have HB4 := Lib.hid ((HB2.out.trans (hb3.mono HB2.out.size)).trans (hal.mono (Nat.le_trans HB2.out.size hb3.size)))
 obtain ⟨r0, r1, r2, r3, f0, f1, f2, f3⟩ := HZ4.out
 clear hr3 hr3' hb3 hal HCT HZ2 HB2
 go_wp2_with fail
 refine bodyPost_ret (v := .agg #[.bool p6, .slice ad6 n6 c6, .bool p7, .slice ad7 n7 c7]) (by simp [results, Tryz.results109, go_sem, r0, r1, r2, r3]) rfl ⟨_, rfl, HZ4.out.set HR4.out rfl, ?_⟩
 exact (((HB4.out.setCell (by simp; omega) _).setCell (by simp; omega) _).setCell (by simp; omega) _).setCell (by simp; omega) _
set_option maxHeartbeats 1000000 in
set_option maxRecDepth 100000 in
theorem Simplest_pos (k : Nat) (n1 d1 n2 d2 N D : Int) (v1 v2 : Value) (w : World) (h1 : RatV w v1 n1 d1) (h2 : RatV w v2 n2 d2) (hn1 : 0 < n1) (hd1 : 0 < d1) (hd2 : 0 < d2) (hle : n1 * d2 ≤ n2 * d1) (hk : d1 + d2 ≤ (k : Int)) (l1 : len n1 ≤ 900000) (l2 : len d1 ≤ 900000) (l3 : len n2 ≤ 900000) (l4 : len d2 ≤ 900000)
  (hT : (ct k n1 d1 n2 d2).length ≤ 1000000) (hok : CTok (ct k n1 d1 n2 d2) N D) :
  Calls Tryz.prog 54 #[v1, v2] w (RatRes w (qn N D) (qd N D) 0) := by
 have HS := Lib.hid fun W (hW : Below w.heap.size w W) => Lib.hid (simplest_any k n1 d1 n2 d2 N D v1 v2 W (h1.keep hW) (h2.keep hW) hd1 hd2 hle hk l1 l2 l3 l4 hT hok)
 have HC := Lib.hid fun W (hW : Below w.heap.size w W) => Lib.hid (ratCmp_any n1 d1 n2 d2 v1 v2 W hd1 hd2 (by omega) (by omega) (by omega) (by omega) (h1.keep hW) (h2.keep hW))
 have HG := Lib.hid fun W (hW : Below w.heap.size w W) => Lib.hid (ratSign_any n1 d1 v1 W (by omega) (h1.keep hW))
 have hc : ¬ 0 < cmpZ (n1 * d2) (n2 * d1) := by have := (cmpZ_le (n1 * d2) (n2 * d1)).2 hle; omega
 have hg : 0 < sgnZ n1 := by unfold sgnZ; rw [if_neg (by omega), if_neg (by omega)]; decide
 obtain ⟨p1, ad1, m1, c1, p2, ad2, m2, c2, e1⟩ := rat_shape h1
 obtain ⟨q1, ae1, o1, f1, q2, ae2, o2, f2, e2⟩ := rat_shape h2
 subst e1 e2
 clear h1 h2 hn1 hd1 hd2 hle hk l1 l2 l3 l4 hT hok
 generalize cmpZ (n1 * d2) (n2 * d1) = cz at *
 generalize sgnZ n1 = sz at *
 generalize qn N D = qN at *
 generalize qd N D = qD at *
 have al : ∀ (A : World) (o : Obj), Below A.heap.size A (A.alloc o) := fun A o => (Below.refl _ _).alloc (Nat.le_refl _) _
 have r1 := ((RB4.made w (.bool p1) (.slice ad1 m1 c1) (.bool p2) (.slice ad2 m2 c2) 38).keep (al _ (.cells #[.bool q1, .slice ae1 o1 f1, .bool q2, .slice ae2 o2 f2] 38))).keep (al _ (.cells #[.bool false, .slice none 0 0, .bool false, .slice none 0 0] 38))
 have r2 := (RB4.made (w.alloc (.cells #[.bool p1, .slice ad1 m1 c1, .bool p2, .slice ad2 m2 c2] 38)) (.bool q1) (.slice ae1 o1 f1) (.bool q2) (.slice ae2 o2 f2) 38).keep (al _ (.cells #[.bool false, .slice none 0 0, .bool false, .slice none 0 0] 38))
 have hZ := Z4.made ((w.alloc (.cells #[.bool p1, .slice ad1 m1 c1, .bool p2, .slice ad2 m2 c2] 38)).alloc (.cells #[.bool q1, .slice ae1 o1 f1, .bool q2, .slice ae2 o2 f2] 38)) 38
 have hB := below3w w (.cells #[.bool p1, .slice ad1 m1 c1, .bool p2, .slice ad2 m2 c2] 38) (.cells #[.bool q1, .slice ae1 o1 f1, .bool q2, .slice ae2 o2 f2] 38) (.cells #[.bool false, .slice none 0 0, .bool false, .slice none 0 0] 38)
 rw [World.size_alloc] at r2
 rw [World.size_alloc, World.size_alloc] at hZ
 have R1 := Lib.hid r1
 have R2 := Lib.hid r2
 have HZ := Lib.hid hZ
 have HB := Lib.hid hB
 clear r1 r2 hZ hB al
 go_enter Tryz.func54, Tryz.ntmps54
 go_wp2_with fail
 (with_reducible refine (HC.out _ HB.out).out.mono ?_)
 rintro e w1 ⟨rfl, hb1⟩
 have R1a := Lib.hid (R1.out.keep hb1)
 have R2a := Lib.hid (R2.out.keep hb1)
 have HZa := Lib.hid (HZ.out.keep hb1)
 have HBa := Lib.hid (HB.out.trans (hb1.mono HB.out.size))
 obtain ⟨g0, g1, g2, g3⟩ := R1a.out
 clear hb1 R1 R2 HZ HB
 go_wp2_with fail
 (with_reducible refine (HG.out _ HBa.out).out.mono ?_)
 rintro e w2 ⟨rfl, hb2⟩
 have R1b := Lib.hid (R1a.out.keep hb2)
 have R2b := Lib.hid (R2a.out.keep hb2)
 have HZb := Lib.hid (HZa.out.keep hb2)
 have HBb := Lib.hid (HBa.out.trans (hb2.mono HBa.out.size))
 clear g0 g1 g2 g3 hb2 R1a R2a HZa HBa
 obtain ⟨g0, g1, g2, g3⟩ := R1b.out
 obtain ⟨g4, g5, g6, g7⟩ := R2b.out
 go_wp2_with fail
 (with_reducible refine (HS.out _ HBb.out).out.mono ?_)
 rintro e w3 ⟨v3, rfl, hr3, hb3⟩
 have hr3' := hr3
 obtain ⟨p6, ad6, n6, c6, p7, ad7, n7, c7, rfl⟩ := rat_shape hr3'
 have HZ4 := Lib.hid (HZb.out.keep hb3)
 have HR4 := Lib.hid hr3
 have HB4 := Lib.hid (HBb.out.trans (hb3.mono HBb.out.size))
 obtain ⟨r0, r1, r2, r3, f0, f1, f2, f3⟩ := HZ4.out
 clear hr3 hr3' hb3 g0 g1 g2 g3 g4 g5 g6 g7 R1b R2b HZb HBb
 go_wp2_with fail
 refine bodyPost_ret (v := .tuple #[.agg #[.bool p6, .slice ad6 n6 c6, .bool p7, .slice ad7 n7 c7], .int .i64 0]) (by simp [results, Tryz.results54, go_sem, r0, r1, r2, r3]) rfl ⟨_, rfl, HZ4.out.set HR4.out rfl, ?_⟩
 exact (((HB4.out.setCell (by simp; omega) _).setCell (by simp; omega) _).setCell (by simp; omega) _).setCell (by simp; omega) _
end
end Go.Proofs.YtghgcbedajaldaaGreat
/-  Layer 3's example.  -/
namespace Go.Proofs.YtghgcbedajaldaaGreat
section
open Go.RowKit Digs
theorem len_sm {z : Int} (h : z.natAbs < 4294967296) : len z ≤ 1 := by
 unfold len
 by_cases h0 : z.natAbs = 0
 ·rw [h0, digs_zero]; exact Nat.zero_le _
 ·rw [digs_pos (by decide) (by omega), Nat.div_eq_of_lt h, digs_zero]; exact Nat.le_refl _
theorem ct_ex : ct 125 31 100 8 25 = [0, 3, 5] := by rfl
theorem ctok_ex : CTok [0, 3, 5] 5 16 := by
 refine ⟨[0, 3], 5, rfl, by decide, fun k hk => ?_, fun t ht => ?_, by decide, by decide, by decide⟩
 ·match k, hk with
  | 0, _ => exact ⟨by decide, Nat.le_trans (len_sm (by decide)) (by decide), Nat.le_trans (len_sm (by decide)) (by decide)⟩
  | 1, _ => exact ⟨by decide, Nat.le_trans (len_sm (by decide)) (by decide), Nat.le_trans (len_sm (by decide)) (by decide)⟩
  | 2, _ => exact ⟨by decide, Nat.le_trans (len_sm (by decide)) (by decide), Nat.le_trans (len_sm (by decide)) (by decide)⟩
 ·simp only [List.mem_cons, List.not_mem_nil, or_false] at ht
  rcases ht with rfl | rfl <;> exact Nat.le_trans (len_sm (by decide)) (by decide)
theorem run_max_zero6 (w : World) (ts : Array TypeId) (t : TypeId) : (Builtin.max_ ts t #[.int .i64 0, .int .i64 0, .int .i64 0, .int .i64 0, .int .i64 0, .int .i64 0]).run Tryz.prog w = .ok (.int .i64 0) w := rfl
theorem lens {z : Int} (h : z.natAbs < 4294967296) : len z ≤ 900000 := Nat.le_trans (len_sm h) (by decide)
theorem lens' {z : Int} (h : z.natAbs < 4294967296) : len z ≤ 1000000 := Nat.le_trans (len_sm h) (by decide)
theorem parse_1 (w : World) : Calls Tryz.prog 58 #[.string ⟨#[43, 48, 54, 47, 52]⟩, .int .i64 10] w (RatRes w 3 2 0) := by
 have h := ratParse_ok 10 [43, 48, 54] [52] 6 4 w (by decide) (by decide) (by decide) (by decide) (by decide) prs_a prs_b (by decide) (by decide) (by decide) (lens' (by decide)) (lens' (by decide))
 rwa [q_a.1, q_a.2] at h
theorem parse_2 (w : World) : Calls Tryz.prog 58 #[.string ⟨#[51, 49, 47, 49, 48, 48]⟩, .int .i64 10] w (RatRes w 31 100 0) := by
 have h := ratParse_ok 10 [51, 49] [49, 48, 48] 31 100 w (by decide) (by decide) (by decide) (by decide) (by decide) prs_c prs_e (by decide) (by decide) (by decide) (lens' (by decide)) (lens' (by decide))
 rwa [q_b.1, q_b.2] at h
theorem parse_3 (w : World) : Calls Tryz.prog 58 #[.string ⟨#[51, 50, 47, 49, 48, 48]⟩, .int .i64 10] w (RatRes w 8 25 0) := by
 have h := ratParse_ok 10 [51, 50] [49, 48, 48] 32 100 w (by decide) (by decide) (by decide) (by decide) (by decide) prs_d prs_e (by decide) (by decide) (by decide) (lens' (by decide)) (lens' (by decide))
 rwa [q_c.1, q_c.2] at h
theorem text_1 (v : Value) (w : World) (h : RatV w v 3 2) : Calls Tryz.prog 56 #[v, .int .i64 10] w (fun e w' => e = .returned (.tuple #[.string ⟨#[51, 47, 50]⟩, .int .i64 0]) ∧ Below w.heap.size w w') :=
 ratText_any 10 3 2 [51] [50] v w h (by decide) (by decide) (lens' (by decide)) (lens' (by decide)) txt_a txt_b (by decide) (by decide)
theorem text_2 (v : Value) (w : World) (h : RatV w v 5 16) : Calls Tryz.prog 56 #[v, .int .i64 10] w (fun e w' => e = .returned (.tuple #[.string ⟨#[53, 47, 49, 54]⟩, .int .i64 0]) ∧ Below w.heap.size w w') :=
 ratText_any 10 5 16 [53] [49, 54] v w h (by decide) (by decide) (lens' (by decide)) (lens' (by decide)) txt_c txt_d (by decide) (by decide)
theorem simplest_1 (v1 v2 : Value) (w : World) (h1 : RatV w v1 31 100) (h2 : RatV w v2 8 25) : Calls Tryz.prog 54 #[v1, v2] w (RatRes w 5 16 0) := by
 have h := Simplest_pos 125 31 100 8 25 5 16 v1 v2 w h1 h2 (by decide) (by decide) (by decide) (by decide) (by decide) (lens (by decide)) (lens (by decide)) (lens (by decide)) (lens (by decide)) (by rw [ct_ex]; decide) (by rw [ct_ex]; exact ctok_ex)
 rwa [q_d.1, q_d.2] at h
set_option maxHeartbeats 1000000 in
set_option maxRecDepth 100000 in
theorem awake3_any (w : World) : Calls Tryz.prog 14 #[] w (BoolPost w true) := by
 have HP1 := Lib.hid fun W => Lib.hid (parse_1 W)
 have HP2 := Lib.hid fun W => Lib.hid (parse_2 W)
 have HP3 := Lib.hid fun W => Lib.hid (parse_3 W)
 have HT1 := Lib.hid fun v W h => Lib.hid (text_1 v W h)
 have HT2 := Lib.hid fun v W h => Lib.hid (text_2 v W h)
 have HS := Lib.hid fun u v W h h' => Lib.hid (simplest_1 u v W h h')
 go_enter Tryz.func14, Tryz.ntmps14
 go_wp2_with fail
 (with_reducible refine (HP1.out _).out.mono ?_)
 rintro e w1 ⟨v1, rfl, hr1, hb1⟩
 have hr1' := hr1
 obtain ⟨p1, ad1, m1, c1, p2, ad2, m2, c2, rfl⟩ := rat_shape hr1'
 have hal1 : Below w1.heap.size w1 (w1.alloc (.cells #[.bool p1, .slice ad1 m1 c1, .bool p2, .slice ad2 m2 c2] 38)) := (Below.refl _ _).alloc (Nat.le_refl _) _
 have R1 := Lib.hid (RB4.made w1 (.bool p1) (.slice ad1 m1 c1) (.bool p2) (.slice ad2 m2 c2) 38)
 have V1 := Lib.hid (hr1.keep hal1)
 have B1 := Lib.hid (hb1.trans (hal1.mono hb1.size))
 obtain ⟨g0, g1, g2, g3⟩ := R1.out
 clear hr1 hr1' hal1 hb1
 go_wp2_with fail
 (with_reducible refine (HT1.out _ _ V1.out).out.mono ?_)
 rintro e w2 ⟨rfl, hb2⟩
 have B2 := Lib.hid (B1.out.trans (hb2.mono B1.out.size))
 clear hb2 g0 g1 g2 g3 R1 V1 B1
 go_wp2_with fail
 (with_reducible refine (HP2.out _).out.mono ?_)
 rintro e w3 ⟨v3, rfl, hr3, hb3⟩
 have hr3' := hr3
 obtain ⟨p3, ad3, m3, c3, p4, ad4, m4, c4, rfl⟩ := rat_shape hr3'
 have hal3 : Below w3.heap.size w3 (w3.alloc (.cells #[.bool p3, .slice ad3 m3 c3, .bool p4, .slice ad4 m4 c4] 38)) := (Below.refl _ _).alloc (Nat.le_refl _) _
 have R3 := Lib.hid (RB4.made w3 (.bool p3) (.slice ad3 m3 c3) (.bool p4) (.slice ad4 m4 c4) 38)
 have V3 := Lib.hid (hr3.keep hal3)
 have B3 := Lib.hid (B2.out.trans ((hb3.trans (hal3.mono hb3.size)).mono B2.out.size))
 clear hr3 hr3' hal3 hb3 B2
 go_wp2_with fail
 (with_reducible refine (HP3.out _).out.mono ?_)
 rintro e w4 ⟨v4, rfl, hr4, hb4⟩
 have hr4' := hr4
 obtain ⟨p5, ad5, m5, c5, p6, ad6, m6, c6, rfl⟩ := rat_shape hr4'
 have hal4 : Below w4.heap.size w4 (w4.alloc (.cells #[.bool p5, .slice ad5 m5 c5, .bool p6, .slice ad6 m6 c6] 38)) := (Below.refl _ _).alloc (Nat.le_refl _) _
 have R4 := Lib.hid (RB4.made w4 (.bool p5) (.slice ad5 m5 c5) (.bool p6) (.slice ad6 m6 c6) 38)
 have V4 := Lib.hid (hr4.keep hal4)
 have R3b := Lib.hid ((R3.out.keep hb4).keep hal4)
 have V3b := Lib.hid ((V3.out.keep hb4).keep hal4)
 have B4 := Lib.hid (B3.out.trans ((hb4.trans (hal4.mono hb4.size)).mono B3.out.size))
 obtain ⟨g0, g1, g2, g3⟩ := R3b.out
 obtain ⟨g4, g5, g6, g7⟩ := R4.out
 clear hr4 hr4' hal4 hb4 B3 R3 V3
 go_wp2_with fail
 (with_reducible refine (HS.out _ _ _ V3b.out V4.out).out.mono ?_)
 rintro e w5 ⟨v5, rfl, hr5, hb5⟩
 have hr5' := hr5
 obtain ⟨p7, ad7, m7, c7, p8, ad8, m8, c8, rfl⟩ := rat_shape hr5'
 have hal5 : Below w5.heap.size w5 (w5.alloc (.cells #[.bool p7, .slice ad7 m7 c7, .bool p8, .slice ad8 m8 c8] 38)) := (Below.refl _ _).alloc (Nat.le_refl _) _
 have R5 := Lib.hid (RB4.made w5 (.bool p7) (.slice ad7 m7 c7) (.bool p8) (.slice ad8 m8 c8) 38)
 have V5 := Lib.hid (hr5.keep hal5)
 have B5 := Lib.hid (B4.out.trans ((hb5.trans (hal5.mono hb5.size)).mono B4.out.size))
 clear g0 g1 g2 g3 g4 g5 g6 g7 hr5 hr5' hal5 hb5 B4 R3b R4 V3b V4
 obtain ⟨g0, g1, g2, g3⟩ := R5.out
 go_wp2_with fail
 (with_reducible refine (HT2.out _ _ V5.out).out.mono ?_)
 rintro e w6 ⟨rfl, hb6⟩
 have B6 := Lib.hid (B5.out.trans (hb6.mono B5.out.size))
 have hmx := run_max_zero6
 clear hb6 g0 g1 g2 g3 R5 V5 B5
 go_wp2_with fail
 go_ret
 exact ⟨rfl, B6.out⟩
end
end Go.Proofs.YtghgcbedajaldaaGreat
/-  RationalNumbers' walk.  -/
namespace Go.Proofs.YtghgcbedajaldaaGreat
section
open Go.RowKit Digs
structure L8 (pz qz pp qp px : Nat) (z1 z2 z3 z4 y1 y2 y3 y4 a1 a2 a3 a4 b1 b2 b3 b4 x1 x2 x3 x4 : Value) (N D N2 D2 x : Int) (w : World) (W : World) : Prop where
 z : PX pz z1 z2 z3 z4 N D W
 y : QX qz y1 y2 y3 y4 N D W
 a : PX pp a1 a2 a3 a4 N2 D2 W
 b : QX qp b1 b2 b3 b4 N2 D2 W
 x : BR px x1 x2 x3 x4 x W
 below : Below w.heap.size w W
theorem L8.keep {pz qz pp qp px : Nat} {z1 z2 z3 z4 y1 y2 y3 y4 a1 a2 a3 a4 b1 b2 b3 b4 x1 x2 x3 x4 : Value} {N D N2 D2 x : Int} {w W W' : World} (h : L8 pz qz pp qp px z1 z2 z3 z4 y1 y2 y3 y4 a1 a2 a3 a4 b1 b2 b3 b4 x1 x2 x3 x4 N D N2 D2 x w W) (hb : Below W.heap.size W W') : L8 pz qz pp qp px z1 z2 z3 z4 y1 y2 y3 y4 a1 a2 a3 a4 b1 b2 b3 b4 x1 x2 x3 x4 N D N2 D2 x w W' :=
 ⟨h.z.keep hb, h.y.keep hb, h.a.keep hb, h.b.keep hb, h.x.keep hb, h.below.trans (hb.mono h.below.size)⟩
theorem ifq_n {x y x' : Int} {k : Nat} (h : Bd k x) (h' : Bd k x') : Bd k (if y = 0 then x' else qn x y) := by
 split
 ·exact h'
 ·exact bd_qn h
theorem ifq_d {x y : Int} {k : Nat} (h : Bd (k + 1) y) : Bd (k + 1) (if y = 0 then (1 : Int) else qd x y) := by
 split
 ·exact Bd.up (show Bd 1 1 from by unfold Bd; decide) (by omega)
 ·exact bd_qd h
end
end Go.Proofs.YtghgcbedajaldaaGreat
