/-  S9  -/
import Derived.Test.YtghgcbedajaldaaGreatMpbj
import Derived.Test.YtghgcbedajaldaaGreatMpbk
/-  RationalPowers' walk.  -/
namespace Go.Proofs.YtghgcbedajaldaaGreat
section
open Go.RowKit Digs
theorem C4.c4 {p : Nat} {a b c e : Value} {W : World} (h : C4 p a b c e W) : W.cell? ⟨p, 0, none⟩ = some a ∧ W.cell? ⟨p, 1, none⟩ = some b ∧ W.cell? ⟨p, 2, none⟩ = some c ∧ W.cell? ⟨p, 3, none⟩ = some e := ⟨h.c0, h.c1, h.c2, h.c3⟩
theorem C4.stq {p q : Nat} {a b c e : Value} {w w' : World} (h : C4 p a b c e w) (s : St q w w') (hne : p ≠ q) : C4 p a b c e w' :=
 ⟨(s.cell _ hne).trans h.c0, (s.cell _ hne).trans h.c1, (s.cell _ hne).trans h.c2, (s.cell _ hne).trans h.c3⟩
theorem ifq_low {x y : Int} : Low (if y = 0 then x else qn x y) (if y = 0 then (1 : Int) else qd x y) := by
 by_cases h : y = 0
 ·rw [if_pos h, if_pos h]
  exact ⟨by decide, by unfold cop; exact Int.gcd_one⟩
 ·rw [if_neg h, if_neg h]; exact (q_low x y h).1
theorem enterA1 {t : TypeId} (w : World) (x0 x1 x2 x3 : Value) : (C4 (w.heap.size) x0 x1 x2 x3 (w.alloc (.cells #[x0, x1, x2, x3] t)) ∧ Below w.heap.size w (w.alloc (.cells #[x0, x1, x2, x3] t))) := by
 have hal : ∀ (W : World) (o : Obj), Below W.heap.size W (W.alloc o) := fun W o => (Below.refl _ _).alloc (Nat.le_refl _) _
 have h0 := C4.made (w := w) (a := x0) (b := x1) (c := x2) (e := x3) (t := t)
 skip
 exact ⟨h0, (hal w _)⟩
theorem qshort1_3 (b0 b1 : Bool) (a0 a1 : Option Addr) (n0 n1 c0 c1 : Nat) (w : World) (N : Nat) (hN : w.heap.size = N) (m0 : n0 ≤ maxLen) (m1 : n1 ≤ maxLen) :
  Calls Tryz.prog 13 #[.int .i64 3, .slice (some ⟨N, 0, none⟩) 1 1] (w.alloc (.cells #[.bool b0, .slice a0 n0 c0, .bool b1, .slice a1 n1 c1] 26)) (BoolPost (w.alloc (.cells #[.bool b0, .slice a0 n0 c0, .bool b1, .slice a1 n1 c1] 26)) (qsLe [(n0, n1)] 3)) := by
 subst hN
 refine qShort_any w.heap.size 3 1 [(n0, n1)] _ (show 1 ≤ 1000 by decide) ⟨by simp, fun j hj => ?_⟩
 match j, hj with
 | 0, _ => exact ⟨b0, a0, c0, b1, a1, c1, by rw [World.cell?_alloc_at _ _ _ _ rfl]; rfl, by rw [World.cell?_alloc_at _ _ _ _ rfl]; rfl, by rw [World.cell?_alloc_at _ _ _ _ rfl]; rfl, by rw [World.cell?_alloc_at _ _ _ _ rfl]; rfl, m0, m1⟩
theorem qsLe1s {n0 n1 k : Nat} (h : qsLe [(n0, n1)] k = true) : n0 ≤ k ∧ n1 ≤ k := by
 have h' := of_decide_eq_true h
 have g0 := of_decide_eq_true (h' 0 (by simp))
 exact ⟨g0 0 (by simp), g0 1 (by simp)⟩
theorem sty_max3 {ops : Array Oper} {K : Nat} {md : Region.Mode} {F : Nat → Value → World → Prop} {S : World → Prop} {a0 : Act} {i : Nat} {o : Oper} {x y z : Operand} {ts : Array TypeId} {R1 R2 R3 : Value → World → Prop} (hop : o.op = .call { callee := .builtin .max, args := #[x, y, z], argTypes := ts }) (hg : Gd ops md F o) (hx : Arg ops md F S a0 o x R1) (hy : Arg ops md F S a0 o y R2) (hz : Arg ops md F S a0 o z R3)
  (hr1 : ∀ v w, R1 v w → v = .int .i64 0) (hr2 : ∀ v w, R2 v w → v = .int .i64 0) (hr3 : ∀ v w, R3 v w → v = .int .i64 0) (hf : ∀ w, F i (.int .i64 0) w) : StepY Tryz.prog ops K md F S a0 i o :=
 sty_of hg fun a w hs hsm hk => ⟨.int .i64 0, fun w' => by
  have h1 := hr1 _ _ (hx a w hs hsm hk)
  have h2 := hr2 _ _ (hy a w hs hsm hk)
  have h3 := hr3 _ _ (hz a w hs hsm hk)
  unfold execOp
  rw [hop]
  simp only [resolve, invoke, builtin, List.map_toArray, List.map_cons, List.map_nil, h1, h2, h3]
  rfl, hf w⟩
theorem RatRow.one {w : World} {base : Nat} {v : Value} {n d : Int} (h : RatRow w base v [(n, d)]) : ∃ (g cap : Nat) (a b c e : Value), v = .slice (some ⟨g, 0, none⟩) 1 cap ∧ w.cell? ⟨g, 0, none⟩ = some a ∧ w.cell? ⟨g, 1, none⟩ = some b ∧ w.cell? ⟨g, 2, none⟩ = some c ∧ w.cell? ⟨g, 3, none⟩ = some e ∧ RatV w (.agg #[a, b, c, e]) n d := by
 obtain ⟨xs, hown, _, hel⟩ := h
 obtain ⟨a, b, c, e, e1, e2, e3, e4, e5⟩ := hel 0 n d rfl
 rcases hown.2 with ⟨_, h0⟩ | ⟨g, cap, cur, rfl, _⟩
 ·simp at h0
 ·have hc := hown.cells (g := g) rfl
  refine ⟨g, cap, a, b, c, e, rfl, ?_, ?_, ?_, ?_, e5⟩
  ·exact hc 0 a e1
  ·exact hc 1 b e2
  ·exact hc 2 c e3
  ·exact hc 3 e e4
theorem cop_pow {a b : Int} (h : cop a b) (k : Nat) : cop a (b ^ k) := by
 induction k with
 | zero => rw [Int.pow_zero]; unfold cop; exact Int.gcd_one
 | succ k ih => rw [Int.pow_succ]; exact cop_mul ih h
theorem low_pow {n d : Int} (h : Low n d) (k : Nat) : Low (n ^ k) (d ^ k) := ⟨Int.pow_pos h.1, cop_comm (cop_pow (cop_comm (cop_pow h.2 k)) k)⟩
theorem low_sq {n d : Int} (h : Low n d) : qn (n * n) (d * d) = n * n ∧ qd (n * n) (d * d) = d * d := by
 have h2 := low_pow h 2
 have e : ∀ x : Int, x ^ 2 = x * x := fun x => by rw [Int.pow_succ, Int.pow_succ, Int.pow_zero, Int.one_mul]
 rw [e, e] at h2
 exact q_uniq h2 (Int.ne_of_gt h2.1) rfl
theorem power_p (N D i : Int) (hl : Low N D) (hn : N ≠ 0) (bN : Bd 4 N) (bD : Bd 4 D) (hi : i.natAbs ≤ 20) :
  ∃ A B : Int, Low A B ∧ Bd 100 A ∧ Bd 100 B ∧ (∀ a b : Nat, i = (a : Int) - b → A * N ^ b * D ^ a = B * N ^ a * D ^ b) ∧ (∀ W u, RatV W u N D → Calls Tryz.prog 32 #[u, .int .i64 i] W (RatRes W A B 0)) := by
 have u4 : 4 ≤ 100 := by decide
 have bp : ∀ {x : Int} {k : Nat}, Bd 4 x → k ≤ 20 → Bd 100 (x ^ k) := fun hB h => (hB.pow' _).up (by omega)
 by_cases h0 : 0 ≤ i
 ·obtain ⟨k, rfl⟩ : ∃ k : Nat, i = (k : Int) := ⟨i.toNat, by omega⟩
  have hk : k ≤ 20 := by omega
  refine ⟨N ^ k, D ^ k, low_pow hl k, bp bN hk, bp bD hk, fun a b h => ?_, fun W u h => ratPower_pos N D k (by omega) hl.1 (bN.up u4) (bD.up u4) (lenZ_bda (bp bN hk) (by decide)) (lenZ_bda (bp bD hk) (by decide)) u W h⟩
  obtain rfl : a = k + b := by omega
  rw [Int.pow_add, Int.pow_add]
  grind
 ·obtain ⟨k, hk0⟩ : ∃ k : Nat, i = -(k : Int) := ⟨(-i).toNat, by omega⟩
  subst hk0
  have hk : k ≤ 20 := by omega
  obtain ⟨q1, q2⟩ := q_low D N hn
  have a1 : Bd 4 (qn D N) := bd_qn bD
  have a2 : Bd 4 (qd D N) := bd_qd bN
  refine ⟨qn D N ^ k, qd D N ^ k, low_pow q1 k, bp a1 hk, bp a2 hk, fun a b h => ?_, fun W u h => ratPower_neg N D (-(k : Int)) k (by omega) (by omega) (by rw [if_neg (by omega)]; omega) hn hl.1 (bN.up u4) (bD.up u4) (lenZ_bda (bp a1 hk) (by decide)) (lenZ_bda (bp a2 hk) (by decide)) u W h⟩
  obtain rfl : b = a + k := by omega
  have e : qn D N ^ k * N ^ k = D ^ k * qd D N ^ k := by rw [← Int.mul_pow, ← Int.mul_pow, q2]
  rw [Int.pow_add, Int.pow_add]
  generalize qn D N ^ k = x at *
  generalize qd D N ^ k = y at *
  generalize N ^ k = z at *
  generalize D ^ k = t at *
  generalize N ^ a = r at *
  generalize D ^ a = s at *
  have e2 : x * z * r * s = t * y * r * s := by rw [e]
  grind
theorem power_cross {N D A1 B1 A2 B2 A3 B3 : Int} {a1 b1 a2 b2 : Nat} (hN : N ≠ 0) (hD : D ≠ 0) (h1 : A1 * N ^ b1 * D ^ a1 = B1 * N ^ a1 * D ^ b1) (h2 : A2 * N ^ b2 * D ^ a2 = B2 * N ^ a2 * D ^ b2)
  (h3 : A3 * N ^ (b1 + b2) * D ^ (a1 + a2) = B3 * N ^ (a1 + a2) * D ^ (b1 + b2)) : A1 * A2 * B3 = A3 * (B1 * B2) := by
 rw [Int.pow_add, Int.pow_add, Int.pow_add, Int.pow_add] at h3
 have n1 : N ^ a1 ≠ 0 := Int.pow_ne_zero hN
 have n2 : N ^ a2 ≠ 0 := Int.pow_ne_zero hN
 have n3 : D ^ b1 ≠ 0 := Int.pow_ne_zero hD
 have n4 : D ^ b2 ≠ 0 := Int.pow_ne_zero hD
 generalize N ^ a1 = r1 at *
 generalize N ^ a2 = r2 at *
 generalize N ^ b1 = s1 at *
 generalize N ^ b2 = s2 at *
 generalize D ^ a1 = t1 at *
 generalize D ^ a2 = t2 at *
 generalize D ^ b1 = u1 at *
 generalize D ^ b2 = u2 at *
 have hz : r1 * r2 * (u1 * u2) ≠ 0 := Int.mul_ne_zero (Int.mul_ne_zero n1 n2) (Int.mul_ne_zero n3 n4)
 refine Int.eq_of_mul_eq_mul_right hz ?_
 have e12 : (A1 * s1 * t1) * (A2 * s2 * t2) = (B1 * r1 * u1) * (B2 * r2 * u2) := by rw [h1, h2]
 have e3 : A3 * (s1 * s2) * (t1 * t2) = B3 * (r1 * r2) * (u1 * u2) := h3
 have e4 : A1 * A2 * (A3 * (s1 * s2) * (t1 * t2)) = A1 * A2 * (B3 * (r1 * r2) * (u1 * u2)) := by rw [e3]
 have e5 : A3 * ((A1 * s1 * t1) * (A2 * s2 * t2)) = A3 * ((B1 * r1 * u1) * (B2 * r2 * u2)) := by rw [e12]
 grind
theorem enter2pp {w : World} {a b c e a' b' c' e' : Value} {n d n' d' : Int} {t : TypeId} (h1 : RatV w (.agg #[a, b, c, e]) n d) (h3 : RatV w (.agg #[a', b', c', e']) n' d') :
  (PX w.heap.size a b c e n d ((w.alloc (.cells #[a, b, c, e] t)).alloc (.cells #[a', b', c', e'] t)) ∧ PX (w.heap.size + 1) a' b' c' e' n' d' ((w.alloc (.cells #[a, b, c, e] t)).alloc (.cells #[a', b', c', e'] t)) ∧
  Below w.heap.size w ((w.alloc (.cells #[a, b, c, e] t)).alloc (.cells #[a', b', c', e'] t))) := by
 have hal : ∀ (W : World) (o : Obj), Below W.heap.size W (W.alloc o) := fun W o => (Below.refl _ _).alloc (Nat.le_refl _) _
 have hx := (PX.made (t := t) h1).keep (hal _ (.cells #[a', b', c', e'] t))
 have hy := PX.made (w := w.alloc (.cells #[a, b, c, e] t)) (t := t) (h3.keep (hal _ _))
 simp only [World.size_alloc] at hy
 exact ⟨hx, hy, below2 _ _ _⟩
theorem cmpZ_eq0' (x y : Int) : (cmpZ x y == 0) = decide (x = y) := by
 unfold cmpZ
 split
 ·next h => rw [decide_eq_false (by omega)]; rfl
 ·split
  ·next h => rw [decide_eq_false (by omega)]; rfl
  ·rw [decide_eq_true (by omega)]; rfl
set_option maxHeartbeats 8000000 in
set_option maxRecDepth 100000 in
theorem same_any3 (n1 d1 n2 d2 : Int) (v1 v2 : Value) (w : World) (hd1 : 0 < d1) (hd2 : 0 < d2) (l1 : Bd 400 n1) (l2 : Bd 400 d1) (l3 : Bd 400 n2) (l4 : Bd 400 d2) (b : Bool) (hb : b = decide (n1 * d2 = n2 * d1)) (h1 : RatV w v1 n1 d1) (h2 : RatV w v2 n2 d2) :
  Calls Tryz.prog 61 #[v1, v2] w (BoolPost w b) := by
 have HC := Lib.hid fun W u v h h' => Lib.hid (ratCmp_any n1 d1 n2 d2 u v W hd1 hd2 (len_le (by decide) l1) (len_le (by decide) l2) (len_le (by decide) l3) (len_le (by decide) l4) h h')
 have hq := Lib.hid (show b = (cmpZ (n1 * d2) (n2 * d1) == 0) by rw [cmpZ_eq0']; exact hb)
 obtain ⟨p1, ad1, k1, c1, p2, ad2, k2, c2, rfl⟩ := ratv_shape h1
 obtain ⟨p3, ad3, k3, c3, p4, ad4, k4, c4, rfl⟩ := ratv_shape h2
 have HE := Lib.hid (enter2pp (t := 38) h1 h2)
 clear h1 h2
 clear hd1 hd2 l1 l2 l3 l4 hb
 generalize cmpZ (n1 * d2) (n2 * d1) = cz at *
 have E0 := Lib.hid (enters_of Tryz.func26 (by kernel_rfl))
 go_enter Tryz.func61, Tryz.ntmps61
 go_upto_region 1 with fail
 generalize ((w.alloc (.cells #[.bool p1, .slice ad1 k1 c1, .bool p2, .slice ad2 k2 c2] 38)).alloc (.cells #[.bool p3, .slice ad3 k3 c3, .bool p4, .slice ad4 k4 c4] 38)) = W0 at *
 obtain ⟨y2s, y2t, y2u, y2v, y3s, y3t, y3u, y3v, HE⟩ : ∃ y2s y2t y2u y2v y3s y3t y3u y3v : Value, Hid (PX w.heap.size y2s y2t y2u y2v (n1) (d1) W0 ∧ PX (w.heap.size + 1) y3s y3t y3u y3v (n2) (d2) W0 ∧ Below w.heap.size w W0) := ⟨_, _, _, _, _, _, _, _, HE⟩
 go_upto_region 1 with fail
 refine wp_region_fl 5 ((Fct.p (n1) (d1)) :: (Fct.p (n2) (d2)) :: (Fct.v (.int .i64 cz)) :: (Fct.v (.bool (b))) :: (Fct.v (.bool (b))) :: []) (fun W => PX w.heap.size y2s y2t y2u y2v (n1) (d1) W ∧ PX (w.heap.size + 1) y3s y3t y3u y3v (n2) (d2) W ∧ Below W0.heap.size W0 W) (false :: false :: false :: true :: true :: []) (some 5 :: some 6 :: some 7 :: some 8 :: some 4 :: []) (fun _ _ h hb => ⟨h.1.keep hb, h.2.1.keep hb, Below.trans h.2.2 (hb.mono h.2.2.size)⟩) ⟨HE.out.1, HE.out.2.1, Below.refl _ _⟩ ?_ ?_
 ·refine so (step_ldP (p := w.heap.size) rfl (.inl rfl) Arg.od (fun _ h => h.1.c4) (fun _ h => h.1.rv)) ?_
  refine so (step_ldP (p := (w.heap.size + 1)) rfl (.inl rfl) Arg.od (fun _ h => h.2.1.c4) (fun _ h => h.2.1.rv)) ?_
  refine so (step_call2 E0.out rfl (.inl rfl) (Arg.t 0 rfl) (Arg.t 1 rfl) (fun u v w _ h1 h2 => (HC.out _ _ _ h1 h2).out.mono fun e w' h => ⟨_, h.1, rfl, h.2⟩)) ?_
  refine sy (sty_eql (b := (b)) (hq.out) rfl (.inl rfl) (Arg.t 2 rfl) (Arg.const _)) ?_
  refine sy (sty_assign rfl (.inl rfl) (Arg.t 3 rfl)) ?_
  trivial
 intro v1 W1 hk hdf hs
 simp only [putV, Act.put, List.setIfInBounds_toArray, List.set_cons_zero, List.set_cons_succ, Nat.reduceAdd]
 have f_7 : v1 2 = .int .i64 cz := hk 2 _ (by decide) rfl
 have f_8 : v1 3 = .bool (b) := hk 3 _ (by decide) rfl
 have f_4 : v1 4 = .bool (b) := hk 4 _ (by decide) rfl
 clear hk hdf
 simp only [f_7, f_8, f_4]
 have B1_0 := Below.trans HE.out.2.2 (hs.2.2.mono HE.out.2.2.size)
 refine tail_nil ?_
 have HS1 := Lib.hid (And.intro (hs.1) (And.intro (hs.2.1) (B1_0)))
 clear hs HE B1_0 f_7 f_8 f_4
 have HBL := Lib.hid HS1.out.2.2
 clear HS1 hq
 go_wp2_with fail
 go_ret
 exact ⟨rfl, HBL.out⟩
set_option maxHeartbeats 40000000 in
set_option maxRecDepth 100000 in
theorem rpowers_any (b0 b1 : Bool) (a0 a1 : Option Addr) (c0 c1 : Nat) (l0 l1 : List Nat) (m n : Int) (w : World) (h0 : NArg w a0 c0 l0) (h1 : NArg w a1 c1 l1) :
  Calls Tryz.prog 10 #[.agg #[.bool b0, .slice a0 l0.length c0, .bool b1, .slice a1 l1.length c1], .int .i8 m, .int .i8 n] w (BoolPost w true) := by
 have HAW := Lib.hid fun W => Lib.hid (awake3_any W)
 have HA0 := Lib.hid h0
 have HA1 := Lib.hid h1
 clear h0 h1
 go_enter Tryz.func10, Tryz.ntmps10
 have HE0 := Lib.hid (enterA1 (t := 26) w (.bool b0) (.slice a0 l0.length c0) (.bool b1) (.slice a1 l1.length c1))
 have HS1 := Lib.hid (qshort1_3 b0 b1 a0 a1 l0.length l1.length c0 c1 (w.alloc (.cells #[.bool b0, .slice a0 l0.length c0, .bool b1, .slice a1 l1.length c1] 26)) (w.heap.size + 1) (by simp) HA0.out.mx HA1.out.mx)
 go_wp2_with fail
 (with_reducible refine HS1.out.mono ?_)
 rintro e w1 ⟨rfl, hb1⟩
 have hb1' := ((Below.refl _ _).alloc (Nat.le_refl _) (.cells #[.bool b0, .slice a0 l0.length c0, .bool b1, .slice a1 l1.length c1] 26)).trans (hb1.mono (by simp))
 have HE : Hid (C4 (w.heap.size) (.bool b0) (.slice a0 l0.length c0) (.bool b1) (.slice a1 l1.length c1) w1 ∧ Below w.heap.size w w1) := Lib.hid ⟨HE0.out.1.keep hb1', HE0.out.2.trans (hb1'.mono HE0.out.2.size)⟩
 clear hb1 hb1' HE0 HS1
 cases hall : qsLe [(l0.length, l1.length)] 3 with
 | false =>
  clear hall
  go_wp2_with fail
  (with_reducible refine (HAW.out _).out.mono ?_)
  rintro e w2 ⟨rfl, hb2⟩
  go_wp2
  go_ret
  exact ⟨rfl, HE.out.2.trans (hb2.mono HE.out.2.size)⟩
 | true =>
  obtain ⟨hle0, hle1⟩ := qsLe1s hall
  clear hall
  have HOF := Lib.hid (of3_any w1.heap.size 1 [((b0, l0), (b1, l1))] (w1.alloc (.cells #[.bool b0, .slice a0 l0.length c0, .bool b1, .slice a1 l1.length c1] 26)) (show 1 ≤ 1000 by decide) ⟨by simp, fun j hj => by
   match j, hj with
   | 0, _ => exact ⟨b0, b1, l0, l1, a0, a1, c0, c1, rfl, by rw [World.cell?_alloc_at _ _ _ _ rfl]; rfl, by rw [World.cell?_alloc_at _ _ _ _ rfl]; rfl, by rw [World.cell?_alloc_at _ _ _ _ rfl]; rfl, by rw [World.cell?_alloc_at _ _ _ _ rfl]; rfl, (HA0.out.keep HE.out.2).keep ((Below.refl _ _).alloc (Nat.le_refl _) _), (HA1.out.keep HE.out.2).keep ((Below.refl _ _).alloc (Nat.le_refl _) _), by omega, by omega⟩⟩)
  simp only [List.map_cons, List.map_nil, qv, List.length_cons, List.length_nil, Nat.zero_add] at HOF
  have k0 : Bd 3 (nz (b0, l0)) := nz_bdq hle0 HA0.out.lt
  have k1 : Bd 3 (nz (b1, l1)) := nz_bdq hle1 HA1.out.lt
  clear hle0 hle1 HA0 HA1
  generalize nz (b0, l0) = x0 at *
  generalize nz (b1, l1) = x1 at *
  generalize l0.length = o0 at *
  generalize l1.length = o1 at *
  have lw0 : Low (if x1 = 0 then x0 else qn x0 x1) (if x1 = 0 then (1 : Int) else qd x0 x1) := ifq_low
  have bn0 : Bd 3 (if x1 = 0 then x0 else qn x0 x1) := ifq_n k0 k0
  have bd0 : Bd 3 (if x1 = 0 then (1 : Int) else qd x0 x1) := ifq_d k1
  generalize (if x1 = 0 then x0 else qn x0 x1) = N0 at *
  generalize (if x1 = 0 then (1 : Int) else qd x0 x1) = D0 at *
  clear k0 k1
  have G_3 := Lib.hid (show w.heap.size ≤ w.heap.size by omega)
  have E0 := Lib.hid (enters_of Tryz.func61 (by kernel_rfl))
  have E1 := Lib.hid (enters_of Tryz.func14 (by kernel_rfl))
  have E2 := Lib.hid (enters_of Tryz.func44 (by kernel_rfl))
  have E3 := Lib.hid (enters_of Tryz.func34 (by kernel_rfl))
  have E4 := Lib.hid (enters_of Tryz.func38 (by kernel_rfl))
  have E5 := Lib.hid (enters_of Tryz.func24 (by kernel_rfl))
  have E6 := Lib.hid (enters_of Tryz.func32 (by kernel_rfl))
  have hbz : Below w1.heap.size w1 (w1.alloc (.cells #[.bool b0, .slice a0 o0 c0, .bool b1, .slice a1 o1 c1] 26)) := (Below.refl _ _).alloc (Nat.le_refl _) _
  obtain ⟨i0, i1, i2, i3⟩ := HE.out.1
  go_wp2_with fail
  (with_reducible refine HOF.out.mono ?_)
  rintro e w2 ⟨v2, rfl, hrow, hb2⟩
  have hb2' := hbz.trans (hb2.mono hbz.size)
  obtain ⟨g, cap, y1, y2, y3, y4, rfl, z1, z2, z3, z4, hq⟩ := hrow.one
  obtain ⟨f1, ad1, m1, k1, rfl, rfl, _⟩ := hq.ints.1.parts
  obtain ⟨f2, ad2, m2, k2, rfl, rfl, _⟩ := hq.ints.2.parts
  have HB2 := Lib.hid (HE.out.2.trans (hb2'.mono HE.out.2.size))
  have HQ := Lib.hid (PX.made (t := 38) hq)
  clear hrow hb2 hb2' hbz hq HE HOF i0 i1 i2 i3
  go_upto_region 4 with fail
  have HE : Hid (PX w2.heap.size (.bool f1) (.slice ad1 m1 k1) (.bool f2) (.slice ad2 m2 k2) (N0) (D0) (w2.alloc (.cells #[.bool f1, .slice ad1 m1 k1, .bool f2, .slice ad2 m2 k2] 38)) ∧ Below w.heap.size w (w2.alloc (.cells #[.bool f1, .slice ad1 m1 k1, .bool f2, .slice ad2 m2 k2] 38))) := Lib.hid ⟨HQ.out, HB2.out.alloc HB2.out.size _⟩
  have G_7 := Lib.hid HB2.out.size
  clear z1 z2 z3 z4 HB2 HQ
  generalize (w2.alloc (.cells #[.bool f1, .slice ad1 m1 k1, .bool f2, .slice ad2 m2 k2] 38)) = W3 at *
  obtain ⟨y7s, y7t, y7u, y7v, HE⟩ : ∃ y7s y7t y7u y7v : Value, Hid (PX w2.heap.size y7s y7t y7u y7v (N0) (D0) W3 ∧ Below w.heap.size w W3) := ⟨_, _, _, _, HE⟩
  have u3 : 3 ≤ 4 := by decide
  have c0 : Bd 100 N0 := bn0.up (by decide)
  have d0 : Bd 100 D0 := bd0.up (by decide)
  have hsq := low_sq lw0
  have HM1 := Lib.hid fun W u v h h' => Lib.hid (show Calls Tryz.prog 44 #[u, v] W (RatPost W (N0 * N0) (D0 * D0)) from by
   have k := ratMul_any N0 D0 N0 D0 u v W lw0 lw0 c0 d0 c0 d0 h h'
   rwa [hsq.1, hsq.2] at k)
  have hp1 := Int.mul_pos lw0.1 lw0.1
  have sqr : ∀ x : Int, IsRt (x * x).natAbs x.natAbs := fun x => ⟨by rw [Int.natAbs_mul]; exact Nat.le_refl _, by rw [Int.natAbs_mul]; exact Nat.mul_lt_mul'' (by omega) (by omega)⟩
  have hnn : ¬ N0 * N0 < 0 := by rcases Int.le_total 0 N0 with h | h; have := Int.mul_nonneg h h; omega; have := Int.mul_nonneg_of_nonpos_of_nonpos h h; omega
  have HRT := Lib.hid fun W u h => Lib.hid (show Calls Tryz.prog 34 #[u] W (RatRes W ((N0.natAbs : Nat) : Int) D0 0) from by
   have k := ratRoot_any (N0 * N0) (D0 * D0) N0.natAbs D0.natAbs u W hp1 (sqr N0) (sqr D0) (Bd.up (bn0.mul bn0) (by decide)) (Bd.up (bd0.mul bd0) (by decide)) h
   unfold rtN rtD rtC at k
   have hcd : N0.natAbs * N0.natAbs = (N0 * N0).natAbs ∧ D0.natAbs * D0.natAbs = (D0 * D0).natAbs := ⟨(Int.natAbs_mul _ _).symm, (Int.natAbs_mul _ _).symm⟩
   rw [if_neg hnn, if_neg hnn, if_neg hnn, if_pos hcd, if_pos hcd, if_pos hcd, show ((D0.natAbs : Nat) : Int) = D0 from by have := lw0.1; omega] at k
   exact k)
  have HBS := Lib.hid fun W u h => Lib.hid (ratAbs_any N0 D0 u W (len_le (by decide) bn0) h)
  have ba : Bd 400 ((N0.natAbs : Nat) : Int) := by have h := bn0.up (show 3 ≤ 400 by decide); unfold Bd at *; omega
  have HSM := Lib.hid fun W u v h h' => Lib.hid (same_any3 ((N0.natAbs : Nat) : Int) D0 ((N0.natAbs : Nat) : Int) D0 u v W lw0.1 lw0.1 ba (bd0.up (by decide)) ba (bd0.up (by decide)) true (decide_eq_true rfl).symm h h')
  have HSG := Lib.hid fun W u h => Lib.hid (ratSign_any N0 D0 u W (len_le (by decide) bn0) h)
  clear hsq hp1 sqr hnn ba
  go_upto_region 4 with fail
  have L4 := Lib.hid (And.intro (HE.out.1.lt) (trivial))
  refine wp_region_fl 8 ((Fct.p (N0) (D0)) :: (Fct.p (N0) (D0)) :: (Fct.p (N0 * N0) (D0 * D0)) :: (Fct.t2 (Fct.p (((N0.natAbs : Nat) : Int)) (D0)) (Fct.v (.int .i64 0))) :: (Fct.t2 (Fct.p (((N0.natAbs : Nat) : Int)) (D0)) (Fct.v (.int .i64 0))) :: (Fct.p (((N0.natAbs : Nat) : Int)) (D0)) :: (Fct.v (.int .i64 0)) :: (Fct.pb W3.heap.size) :: []) (fun W => PX w2.heap.size y7s y7t y7u y7v (N0) (D0) W ∧ Below W3.heap.size W3 W) (false :: false :: false :: false :: true :: true :: true :: false :: []) (some 28 :: some 29 :: some 30 :: some 31 :: some 27 :: some 32 :: some 33 :: some 8 :: []) (fun _ _ h hb => ⟨h.1.keep hb, Below.trans h.2 (hb.mono h.2.size)⟩) ⟨HE.out.1, Below.refl _ _⟩ ?_ ?_
  ·refine so (step_ldP (p := w2.heap.size) rfl (.inl rfl) Arg.od (fun _ h => h.1.c4) (fun _ h => h.1.rv)) ?_
   refine so (step_ldP (p := w2.heap.size) rfl (.inl rfl) Arg.od (fun _ h => h.1.c4) (fun _ h => h.1.rv)) ?_
   refine so (step_call2 E2.out rfl (.inl rfl) (Arg.t 0 rfl) (Arg.t 1 rfl) (fun u v w _ h1 h2 => (HM1.out _ _ _ h1 h2).out)) ?_
   refine so (step_call1 E3.out rfl (.inl rfl) (Arg.t 2 rfl) (fun u w _ h1 => (HRT.out _ _ h1).out.mono fun e w' ⟨x0, he, hi, hb⟩ => ⟨_, he, ⟨_, _, rfl, hi, rfl⟩, hb⟩)) ?_
   refine sy (sty_move rfl (.inl rfl) (Arg.t 3 rfl)) ?_
   refine sy (sty_ex20 (f := Fct.p (((N0.natAbs : Nat) : Int)) (D0)) (g := Fct.v (.int .i64 0)) rfl (.inl rfl) (Arg.t 4 rfl)) ?_
   refine sy (sty_ex21 (f := Fct.p (((N0.natAbs : Nat) : Int)) (D0)) (g := Fct.v (.int .i64 0)) rfl (.inl rfl) (Arg.t 4 rfl)) ?_
   refine sa (step_alP (B := W3.heap.size) rfl (.inl rfl) (fun _ h => h.2.size) (fun _ _ h => h)) ?_
   trivial
  intro v4 W4 hk hdf hs
  simp only [putV, Act.put, List.setIfInBounds_toArray, List.set_cons_zero, List.set_cons_succ, Nat.reduceAdd]
  have a_8 : (Fct.pb W3.heap.size).R (v4 7) W4 := hk 7 _ (by decide) rfl
  refine Fct.pb_elim a_8 ?_
  intro q_8 e_8 g_8 k_8
  have k_32 : (Fct.p (((N0.natAbs : Nat) : Int)) (D0)).R (v4 5) W4 := hk 5 _ (by decide) rfl
  have f_33 : v4 6 = .int .i64 0 := hk 6 _ (by decide) rfl
  clear hk hdf
  simp only [e_8, f_33]
  have B4_0 := Below.trans HE.out.2 (hs.2.mono HE.out.2.size)
  have N_7_8 := Lib.hid (Nat.ne_of_lt (Nat.lt_of_lt_of_le L4.out.1 g_8))
  have G_8 := Lib.hid (show w.heap.size ≤ q_8 from Nat.le_trans HE.out.2.size g_8)
  refine tail_stP (q := q_8) rfl rfl rfl rfl k_8 k_32 ?_
  intro W4_1 x8es x8et x8eu x8ev n_8_1 s_8_1
  have m_7_1 := (hs.1).stq s_8_1 N_7_8.out
  have B4_1 := s_8_1.below w.heap.size w G_8.out B4_0
  refine tail_assign rfl rfl ?_
  simp only [Act.put, List.setIfInBounds_toArray, List.set_cons_zero, List.set_cons_succ]
  refine tail_nil ?_
  have HS4 := Lib.hid (And.intro (m_7_1) (And.intro (n_8_1) (B4_1)))
  clear hs L4 HE B4_0 B4_1 k_32 f_33 n_8_1 s_8_1 m_7_1 e_8 g_8 k_8 a_8
  go_upto_region 5 with fail
  refine wp_region_fl 9 ((Fct.v (.int .i64 0)) :: (Fct.v (.bool (false))) :: (Fct.v (.bool (false))) :: (Fct.p (((N0.natAbs : Nat) : Int)) (D0)) :: (Fct.p (N0) (D0)) :: (Fct.p (((N0.natAbs : Nat) : Int)) (D0)) :: (Fct.v (.bool (true))) :: (Fct.v (.bool (false))) :: (Fct.v (.bool (false))) :: []) (fun W => PX w2.heap.size y7s y7t y7u y7v (N0) (D0) W ∧ PX q_8 x8es x8et x8eu x8ev (((N0.natAbs : Nat) : Int)) (D0) W ∧ Below W4_1.heap.size W4_1 W) (true :: true :: true :: false :: false :: false :: false :: true :: true :: []) (some 34 :: some 35 :: some 36 :: some 37 :: some 38 :: some 39 :: some 40 :: some 41 :: some 42 :: []) (fun _ _ h hb => ⟨h.1.keep hb, h.2.1.keep hb, Below.trans h.2.2 (hb.mono h.2.2.size)⟩) ⟨HS4.out.1, HS4.out.2.1, Below.refl _ _⟩ ?_ ?_
  ·refine sy (sty_move rfl (.inl rfl) Arg.od) ?_
   refine sy (sty_neqE (b := (false)) (rfl) rfl (.inl rfl) (Arg.t 0 rfl) (Arg.const _)) ?_
   refine sy (sty_move rfl (.inl rfl) (Arg.t 1 rfl)) ?_
   refine so (step_ldP (p := q_8) rfl (.inr ⟨2, false, _, rfl, rfl, by kernel_rfl, fun _ _ h => h⟩) Arg.od (fun _ h => h.2.1.c4) (fun _ h => h.2.1.rv)) ?_
   refine so (step_ldP (p := w2.heap.size) rfl (.inr ⟨2, false, _, rfl, rfl, by kernel_rfl, fun _ _ h => h⟩) Arg.od (fun _ h => h.1.c4) (fun _ h => h.1.rv)) ?_
   refine so (step_call1 E4.out rfl (.inr ⟨2, false, _, rfl, rfl, by kernel_rfl, fun _ _ h => h⟩) (Arg.t 4 rfl) (fun u w _ h1 => (HBS.out _ _ h1).out)) ?_
   refine so (step_call2 E0.out rfl (.inr ⟨2, false, _, rfl, rfl, by kernel_rfl, fun _ _ h => h⟩) (Arg.t 3 rfl) (Arg.t 5 rfl) (fun u v w _ h1 h2 => (HSM.out _ _ _ h1 h2).out.mono fun e w' h => ⟨_, h.1, rfl, h.2⟩)) ?_
   refine sy (sty_not (b := true) rfl (.inr ⟨2, false, _, rfl, rfl, by kernel_rfl, fun _ _ h => h⟩) (Arg.t 6 rfl)) ?_
   refine sy (sty_pickF rfl (.inl rfl) (Arg.t 2 rfl) (Arg.t 7 rfl)) ?_
   trivial
  intro v5 W5 hk hdf hs
  simp only [putV, Act.put, List.setIfInBounds_toArray, List.set_cons_zero, List.set_cons_succ, Nat.reduceAdd]
  have f_34 : v5 0 = .int .i64 0 := hk 0 _ (by decide) rfl
  have f_35 : v5 1 = .bool (false) := hk 1 _ (by decide) rfl
  have f_36 : v5 2 = .bool (false) := hk 2 _ (by decide) rfl
  have f_40 : v5 6 = .bool (true) := hk 6 _ (by decide) rfl
  have f_41 : v5 7 = .bool (false) := hk 7 _ (by decide) rfl
  have f_42 : v5 8 = .bool (false) := hk 8 _ (by decide) rfl
  clear hk hdf
  simp only [f_34, f_35, f_36, f_40, f_41, f_42]
  have B5_0 := Below.trans HS4.out.2.2 (hs.2.2.mono HS4.out.2.2.size)
  refine tail_nil ?_
  have HS5 := Lib.hid (And.intro (hs.1) (And.intro (hs.2.1) (B5_0)))
  clear hs HS4 B5_0 f_34 f_35 f_36 f_40 f_41 f_42
  clear HM1 HRT HBS HSM
  by_cases hz : N0 = 0
  ·have hzq := Lib.hid (show true = (sgnZ N0 == 0) by rw [sgnZ_z.2 hz]; rfl)
   go_upto_region 7 with fail
   refine wp_region_fl 3 ((Fct.p (N0) (D0)) :: (Fct.v (.int .i64 (sgnZ N0))) :: (Fct.v (.bool (true))) :: []) (fun W => PX w2.heap.size y7s y7t y7u y7v (N0) (D0) W ∧ PX q_8 x8es x8et x8eu x8ev (((N0.natAbs : Nat) : Int)) (D0) W ∧ Below W5.heap.size W5 W) (false :: false :: true :: []) (some 43 :: some 44 :: some 45 :: []) (fun _ _ h hb => ⟨h.1.keep hb, h.2.1.keep hb, Below.trans h.2.2 (hb.mono h.2.2.size)⟩) ⟨HS5.out.1, HS5.out.2.1, Below.refl _ _⟩ ?_ ?_
   ·refine so (step_ldP (p := w2.heap.size) rfl (.inl rfl) Arg.od (fun _ h => h.1.c4) (fun _ h => h.1.rv)) ?_
    refine so (step_call1 E5.out rfl (.inl rfl) (Arg.t 0 rfl) (fun u w _ h1 => (HSG.out _ _ h1).out.mono fun e w' h => ⟨_, h.1, rfl, h.2⟩)) ?_
    refine sy (sty_eql (b := (true)) (hzq.out) rfl (.inl rfl) (Arg.t 1 rfl) (Arg.const _)) ?_
    trivial
   intro v7 W7 hk hdf hs
   simp only [putV, Act.put, List.setIfInBounds_toArray, List.set_cons_zero, List.set_cons_succ, Nat.reduceAdd]
   have f_44 : v7 1 = .int .i64 (sgnZ N0) := hk 1 _ (by decide) rfl
   have f_45 : v7 2 = .bool (true) := hk 2 _ (by decide) rfl
   clear hk hdf
   simp only [f_44, f_45]
   have B7_0 := Below.trans HS5.out.2.2 (hs.2.2.mono HS5.out.2.2.size)
   refine tail_nil ?_
   have HS7 := Lib.hid (And.intro (hs.1) (And.intro (hs.2.1) (B7_0)))
   clear hs HS5 B7_0 f_44 f_45
   go_upto_region 8 with fail
   refine wp_region_fl 2 ((Fct.v (.bool (true))) :: (Fct.v (.bool (true))) :: []) (fun W => PX w2.heap.size y7s y7t y7u y7v (N0) (D0) W ∧ PX q_8 x8es x8et x8eu x8ev (((N0.natAbs : Nat) : Int)) (D0) W ∧ Below W7.heap.size W7 W) (false :: true :: []) (some 46 :: some 6 :: []) (fun _ _ h hb => ⟨h.1.keep hb, h.2.1.keep hb, Below.trans h.2.2 (hb.mono h.2.2.size)⟩) ⟨HS7.out.1, HS7.out.2.1, Below.refl _ _⟩ ?_ ?_
   ·refine so (stp_call0 E1.out rfl (.inl rfl) (fun w _ => (HAW.out _).out.mono fun e w' h => ⟨_, h.1, rfl, h.2⟩)) ?_
    refine sy (sty_assign rfl (.inl rfl) (Arg.t 0 rfl)) ?_
    trivial
   intro v8 W8 hk hdf hs
   simp only [putV, Act.put, List.setIfInBounds_toArray, List.set_cons_zero, List.set_cons_succ, Nat.reduceAdd]
   have f_46 : v8 0 = .bool (true) := hk 0 _ (by decide) rfl
   have f_6 : v8 1 = .bool (true) := hk 1 _ (by decide) rfl
   clear hk hdf
   simp only [f_46, f_6]
   have B8_0 := Below.trans HS7.out.2.2 (hs.2.2.mono HS7.out.2.2.size)
   refine tail_nil ?_
   have HS8 := Lib.hid (And.intro (hs.1) (And.intro (hs.2.1) (B8_0)))
   clear hs HS7 B8_0 f_46 f_6
   have HBL := Lib.hid HS8.out.2.2
   clear HS8
   go_wp2_with fail
   go_ret
   exact ⟨rfl, HBL.out⟩
  ·have hzq := Lib.hid (show false = (sgnZ N0 == 0) by simp [sgnZ_z, hz])
   go_upto_region 7 with fail
   refine wp_region_fl 3 ((Fct.p (N0) (D0)) :: (Fct.v (.int .i64 (sgnZ N0))) :: (Fct.v (.bool (false))) :: []) (fun W => PX w2.heap.size y7s y7t y7u y7v (N0) (D0) W ∧ PX q_8 x8es x8et x8eu x8ev (((N0.natAbs : Nat) : Int)) (D0) W ∧ Below W5.heap.size W5 W) (false :: false :: true :: []) (some 43 :: some 44 :: some 45 :: []) (fun _ _ h hb => ⟨h.1.keep hb, h.2.1.keep hb, Below.trans h.2.2 (hb.mono h.2.2.size)⟩) ⟨HS5.out.1, HS5.out.2.1, Below.refl _ _⟩ ?_ ?_
   ·refine so (step_ldP (p := w2.heap.size) rfl (.inl rfl) Arg.od (fun _ h => h.1.c4) (fun _ h => h.1.rv)) ?_
    refine so (step_call1 E5.out rfl (.inl rfl) (Arg.t 0 rfl) (fun u w _ h1 => (HSG.out _ _ h1).out.mono fun e w' h => ⟨_, h.1, rfl, h.2⟩)) ?_
    refine sy (sty_eql (b := (false)) (hzq.out) rfl (.inl rfl) (Arg.t 1 rfl) (Arg.const _)) ?_
    trivial
   intro v7 W7 hk hdf hs
   simp only [putV, Act.put, List.setIfInBounds_toArray, List.set_cons_zero, List.set_cons_succ, Nat.reduceAdd]
   have f_44 : v7 1 = .int .i64 (sgnZ N0) := hk 1 _ (by decide) rfl
   have f_45 : v7 2 = .bool (false) := hk 2 _ (by decide) rfl
   clear hk hdf
   simp only [f_44, f_45]
   have B7_0 := Below.trans HS5.out.2.2 (hs.2.2.mono HS5.out.2.2.size)
   refine tail_nil ?_
   have HS7 := Lib.hid (And.intro (hs.1) (And.intro (hs.2.1) (B7_0)))
   clear hs HS5 B7_0 f_44 f_45
   have m1 := Int.tmod_lt_of_pos m (show (0 : Int) < 6 by decide)
   have m2 := Int.lt_tmod_of_pos m (show (0 : Int) < 6 by decide)
   have k1 := Int.tmod_lt_of_pos n (show (0 : Int) < 6 by decide)
   have k2 := Int.lt_tmod_of_pos n (show (0 : Int) < 6 by decide)
   have wm : IntKind.i64.wrap (m.tmod 6) = m.tmod 6 := by rw [IntKind.wrap_i64]; omega
   have wn : IntKind.i64.wrap (n.tmod 6) = n.tmod 6 := by rw [IntKind.wrap_i64]; omega
   go_upto_region 10 with fail
   clear wm wn
   generalize m.tmod 6 = i at *
   generalize n.tmod 6 = k at *
   obtain ⟨A1, B1, w1l, a1, b1', x1', pp1⟩ := power_p N0 D0 i lw0 hz (bn0.up u3) (bd0.up u3) (by omega)
   obtain ⟨A2, B2, w2l, a2, b2', x2', pp2⟩ := power_p N0 D0 k lw0 hz (bn0.up u3) (bd0.up u3) (by omega)
   obtain ⟨A3, B3, w3l, a3, b3', x3', pp3⟩ := power_p N0 D0 (i + k) lw0 hz (bn0.up u3) (bd0.up u3) (by omega)
   have hcr := power_cross hz (Int.ne_of_gt lw0.1) (x1' i.toNat (-i).toNat (by omega)) (x2' k.toNat (-k).toNat (by omega)) (x3' (i.toNat + k.toNat) ((-i).toNat + (-k).toNat) (by omega))
   have hbb : B1 * B2 ≠ 0 := Int.ne_of_gt (Int.mul_pos w1l.1 w2l.1)
   obtain ⟨q1, q2⟩ := q_low (A1 * A2) (B1 * B2) hbb
   have hsm : qn (A1 * A2) (B1 * B2) * B3 = A3 * qd (A1 * A2) (B1 * B2) := by
    refine Int.eq_of_mul_eq_mul_right hbb ?_
    generalize qn (A1 * A2) (B1 * B2) = x at *
    generalize qd (A1 * A2) (B1 * B2) = y at *
    have e1 : x * (B1 * B2) * B3 = (A1 * A2) * y * B3 := by rw [q2]
    have e2 : (A1 * A2 * B3) * y = A3 * (B1 * B2) * y := by rw [hcr]
    grind
   have HP1 := Lib.hid fun W u h => Lib.hid (pp1 W u h)
   have HP2 := Lib.hid fun W u h => Lib.hid (pp2 W u h)
   have HP3 := Lib.hid fun W u h => Lib.hid (pp3 W u h)
   have HMU := Lib.hid fun W u v h h' => Lib.hid (ratMul_any A1 B1 A2 B2 u v W w1l w2l a1 b1' a2 b2' h h')
   have HSS := Lib.hid fun W u v h h' => Lib.hid (same_any3 (qn (A1 * A2) (B1 * B2)) (qd (A1 * A2) (B1 * B2)) A3 B3 u v W q1.1 w3l.1 (bd_qn (Bd.up (a1.mul a2) (by decide))) (bd_qd (Bd.up (b1'.mul b2') (by decide))) (a3.up (by decide)) (b3'.up (by decide)) true (decide_eq_true hsm).symm h h')
   have had := Lib.hid (show i + k = IntKind.i64.wrap (i + k) by rw [IntKind.wrap_i64]; omega)
   clear hcr hbb q1 q2 hsm pp1 pp2 pp3 w1l w2l w3l a1 a2 a3 b1' b2' b3' x1' x2' x3' m1 m2 k1 k2 lw0 bn0 bd0 c0 d0 u3 hz
   generalize qn (A1 * A2) (B1 * B2) = QN at *
   generalize qd (A1 * A2) (B1 * B2) = QD at *
   go_upto_region 10 with fail
   have L10 := Lib.hid (And.intro (HS7.out.1.lt) (And.intro (HS7.out.2.1.lt) (trivial)))
   refine wp_region_fl 7 ((Fct.p (N0) (D0)) :: (Fct.v (.int .i64 i)) :: (Fct.t2 (Fct.p (A1) (B1)) (Fct.v (.int .i64 0))) :: (Fct.t2 (Fct.p (A1) (B1)) (Fct.v (.int .i64 0))) :: (Fct.p (A1) (B1)) :: (Fct.v (.int .i64 0)) :: (Fct.pb W7.heap.size) :: []) (fun W => PX w2.heap.size y7s y7t y7u y7v (N0) (D0) W ∧ PX q_8 x8es x8et x8eu x8ev (((N0.natAbs : Nat) : Int)) (D0) W ∧ Below W7.heap.size W7 W) (false :: true :: false :: true :: true :: true :: false :: []) (some 54 :: some 55 :: some 56 :: some 53 :: some 57 :: some 58 :: some 12 :: []) (fun _ _ h hb => ⟨h.1.keep hb, h.2.1.keep hb, Below.trans h.2.2 (hb.mono h.2.2.size)⟩) ⟨HS7.out.1, HS7.out.2.1, Below.refl _ _⟩ ?_ ?_
   ·refine so (step_ldP (p := w2.heap.size) rfl (.inl rfl) Arg.od (fun _ h => h.1.c4) (fun _ h => h.1.rv)) ?_
    refine sy (sty_move rfl (.inl rfl) Arg.od) ?_
    refine so (step_call2 E6.out rfl (.inl rfl) (Arg.t 0 rfl) (Arg.t 1 rfl) (fun u v w _ h1 h2 => (by obtain rfl := (show _ = _ from h2); exact (HP1.out _ _ h1).out.mono fun e w' ⟨x0, he, hi, hb⟩ => ⟨_, he, ⟨_, _, rfl, hi, rfl⟩, hb⟩))) ?_
    refine sy (sty_move rfl (.inl rfl) (Arg.t 2 rfl)) ?_
    refine sy (sty_ex20 (f := Fct.p (A1) (B1)) (g := Fct.v (.int .i64 0)) rfl (.inl rfl) (Arg.t 3 rfl)) ?_
    refine sy (sty_ex21 (f := Fct.p (A1) (B1)) (g := Fct.v (.int .i64 0)) rfl (.inl rfl) (Arg.t 3 rfl)) ?_
    refine sa (step_alP (B := W7.heap.size) rfl (.inl rfl) (fun _ h => h.2.2.size) (fun _ _ h => h)) ?_
    trivial
   intro v10 W10 hk hdf hs
   simp only [putV, Act.put, List.setIfInBounds_toArray, List.set_cons_zero, List.set_cons_succ, Nat.reduceAdd]
   have a_12 : (Fct.pb W7.heap.size).R (v10 6) W10 := hk 6 _ (by decide) rfl
   refine Fct.pb_elim a_12 ?_
   intro q_12 e_12 g_12 k_12
   have f_55 : v10 1 = .int .i64 i := hk 1 _ (by decide) rfl
   have k_57 : (Fct.p (A1) (B1)).R (v10 4) W10 := hk 4 _ (by decide) rfl
   have f_58 : v10 5 = .int .i64 0 := hk 5 _ (by decide) rfl
   clear hk hdf
   simp only [e_12, f_55, f_58]
   have B10_0 := Below.trans HS7.out.2.2 (hs.2.2.mono HS7.out.2.2.size)
   have N_7_12 := Lib.hid (Nat.ne_of_lt (Nat.lt_of_lt_of_le L10.out.1 g_12))
   have N_8_12 := Lib.hid (Nat.ne_of_lt (Nat.lt_of_lt_of_le L10.out.2.1 g_12))
   have G_12 := Lib.hid (show w.heap.size ≤ q_12 from Nat.le_trans HS7.out.2.2.size g_12)
   refine tail_stP (q := q_12) rfl rfl rfl rfl k_12 k_57 ?_
   intro W10_1 x12ks x12kt x12ku x12kv n_12_1 s_12_1
   have m_7_1 := (hs.1).stq s_12_1 N_7_12.out
   have m_8_1 := (hs.2.1).stq s_12_1 N_8_12.out
   have B10_1 := s_12_1.below w.heap.size w G_12.out B10_0
   refine tail_assign rfl rfl ?_
   simp only [Act.put, List.setIfInBounds_toArray, List.set_cons_zero, List.set_cons_succ]
   refine tail_nil ?_
   have HS10 := Lib.hid (And.intro (m_7_1) (And.intro (m_8_1) (And.intro (n_12_1) (B10_1))))
   clear hs L10 HS7 B10_0 B10_1 f_55 k_57 f_58 n_12_1 s_12_1 m_7_1 m_8_1 e_12 g_12 k_12 a_12
   go_upto_region 11 with fail
   have L11 := Lib.hid (And.intro (HS10.out.1.lt) (And.intro (HS10.out.2.1.lt) (And.intro (HS10.out.2.2.1.lt) (trivial))))
   refine wp_region_fl 7 ((Fct.p (N0) (D0)) :: (Fct.v (.int .i64 k)) :: (Fct.t2 (Fct.p (A2) (B2)) (Fct.v (.int .i64 0))) :: (Fct.t2 (Fct.p (A2) (B2)) (Fct.v (.int .i64 0))) :: (Fct.p (A2) (B2)) :: (Fct.v (.int .i64 0)) :: (Fct.pb W10_1.heap.size) :: []) (fun W => PX w2.heap.size y7s y7t y7u y7v (N0) (D0) W ∧ PX q_8 x8es x8et x8eu x8ev (((N0.natAbs : Nat) : Int)) (D0) W ∧ PX q_12 x12ks x12kt x12ku x12kv (A1) (B1) W ∧ Below W10_1.heap.size W10_1 W) (false :: true :: false :: true :: true :: true :: false :: []) (some 60 :: some 61 :: some 62 :: some 59 :: some 63 :: some 64 :: some 13 :: []) (fun _ _ h hb => ⟨h.1.keep hb, h.2.1.keep hb, h.2.2.1.keep hb, Below.trans h.2.2.2 (hb.mono h.2.2.2.size)⟩) ⟨HS10.out.1, HS10.out.2.1, HS10.out.2.2.1, Below.refl _ _⟩ ?_ ?_
   ·refine so (step_ldP (p := w2.heap.size) rfl (.inl rfl) Arg.od (fun _ h => h.1.c4) (fun _ h => h.1.rv)) ?_
    refine sy (sty_move rfl (.inl rfl) Arg.od) ?_
    refine so (step_call2 E6.out rfl (.inl rfl) (Arg.t 0 rfl) (Arg.t 1 rfl) (fun u v w _ h1 h2 => (by obtain rfl := (show _ = _ from h2); exact (HP2.out _ _ h1).out.mono fun e w' ⟨x0, he, hi, hb⟩ => ⟨_, he, ⟨_, _, rfl, hi, rfl⟩, hb⟩))) ?_
    refine sy (sty_move rfl (.inl rfl) (Arg.t 2 rfl)) ?_
    refine sy (sty_ex20 (f := Fct.p (A2) (B2)) (g := Fct.v (.int .i64 0)) rfl (.inl rfl) (Arg.t 3 rfl)) ?_
    refine sy (sty_ex21 (f := Fct.p (A2) (B2)) (g := Fct.v (.int .i64 0)) rfl (.inl rfl) (Arg.t 3 rfl)) ?_
    refine sa (step_alP (B := W10_1.heap.size) rfl (.inl rfl) (fun _ h => h.2.2.2.size) (fun _ _ h => h)) ?_
    trivial
   intro v11 W11 hk hdf hs
   simp only [putV, Act.put, List.setIfInBounds_toArray, List.set_cons_zero, List.set_cons_succ, Nat.reduceAdd]
   have a_13 : (Fct.pb W10_1.heap.size).R (v11 6) W11 := hk 6 _ (by decide) rfl
   refine Fct.pb_elim a_13 ?_
   intro q_13 e_13 g_13 k_13
   have f_61 : v11 1 = .int .i64 k := hk 1 _ (by decide) rfl
   have k_63 : (Fct.p (A2) (B2)).R (v11 4) W11 := hk 4 _ (by decide) rfl
   have f_64 : v11 5 = .int .i64 0 := hk 5 _ (by decide) rfl
   clear hk hdf
   simp only [e_13, f_61, f_64]
   have B11_0 := Below.trans HS10.out.2.2.2 (hs.2.2.2.mono HS10.out.2.2.2.size)
   have N_7_13 := Lib.hid (Nat.ne_of_lt (Nat.lt_of_lt_of_le L11.out.1 g_13))
   have N_8_13 := Lib.hid (Nat.ne_of_lt (Nat.lt_of_lt_of_le L11.out.2.1 g_13))
   have N_12_13 := Lib.hid (Nat.ne_of_lt (Nat.lt_of_lt_of_le L11.out.2.2.1 g_13))
   have G_13 := Lib.hid (show w.heap.size ≤ q_13 from Nat.le_trans HS10.out.2.2.2.size g_13)
   refine tail_stP (q := q_13) rfl rfl rfl rfl k_13 k_63 ?_
   intro W11_1 x13ls x13lt x13lu x13lv n_13_1 s_13_1
   have m_7_1 := (hs.1).stq s_13_1 N_7_13.out
   have m_8_1 := (hs.2.1).stq s_13_1 N_8_13.out
   have m_12_1 := (hs.2.2.1).stq s_13_1 N_12_13.out
   have B11_1 := s_13_1.below w.heap.size w G_13.out B11_0
   refine tail_assign rfl rfl ?_
   simp only [Act.put, List.setIfInBounds_toArray, List.set_cons_zero, List.set_cons_succ]
   refine tail_nil ?_
   have HS11 := Lib.hid (And.intro (m_7_1) (And.intro (m_8_1) (And.intro (m_12_1) (And.intro (n_13_1) (B11_1)))))
   clear hs L11 HS10 B11_0 B11_1 f_61 k_63 f_64 n_13_1 s_13_1 m_7_1 m_8_1 m_12_1 e_13 g_13 k_13 a_13
   go_upto_region 12 with fail
   have L12 := Lib.hid (And.intro (HS11.out.1.lt) (And.intro (HS11.out.2.1.lt) (And.intro (HS11.out.2.2.1.lt) (And.intro (HS11.out.2.2.2.1.lt) (trivial)))))
   refine wp_region_fl 9 ((Fct.p (N0) (D0)) :: (Fct.v (.int .i64 i)) :: (Fct.v (.int .i64 k)) :: (Fct.v (.int .i64 (i + k))) :: (Fct.t2 (Fct.p (A3) (B3)) (Fct.v (.int .i64 0))) :: (Fct.t2 (Fct.p (A3) (B3)) (Fct.v (.int .i64 0))) :: (Fct.p (A3) (B3)) :: (Fct.v (.int .i64 0)) :: (Fct.pb W11_1.heap.size) :: []) (fun W => PX w2.heap.size y7s y7t y7u y7v (N0) (D0) W ∧ PX q_8 x8es x8et x8eu x8ev (((N0.natAbs : Nat) : Int)) (D0) W ∧ PX q_12 x12ks x12kt x12ku x12kv (A1) (B1) W ∧ PX q_13 x13ls x13lt x13lu x13lv (A2) (B2) W ∧ Below W11_1.heap.size W11_1 W) (false :: true :: true :: true :: false :: true :: true :: true :: false :: []) (some 66 :: some 67 :: some 68 :: some 69 :: some 70 :: some 65 :: some 71 :: some 72 :: some 15 :: []) (fun _ _ h hb => ⟨h.1.keep hb, h.2.1.keep hb, h.2.2.1.keep hb, h.2.2.2.1.keep hb, Below.trans h.2.2.2.2 (hb.mono h.2.2.2.2.size)⟩) ⟨HS11.out.1, HS11.out.2.1, HS11.out.2.2.1, HS11.out.2.2.2.1, Below.refl _ _⟩ ?_ ?_
   ·refine so (step_ldP (p := w2.heap.size) rfl (.inl rfl) Arg.od (fun _ h => h.1.c4) (fun _ h => h.1.rv)) ?_
    refine sy (sty_move rfl (.inl rfl) Arg.od) ?_
    refine sy (sty_move rfl (.inl rfl) Arg.od) ?_
    refine sy (sty_add (had.out) rfl (.inl rfl) (Arg.t 1 rfl) (Arg.t 2 rfl)) ?_
    refine so (step_call2 E6.out rfl (.inl rfl) (Arg.t 0 rfl) (Arg.t 3 rfl) (fun u v w _ h1 h2 => (by obtain rfl := (show _ = _ from h2); exact (HP3.out _ _ h1).out.mono fun e w' ⟨x0, he, hi, hb⟩ => ⟨_, he, ⟨_, _, rfl, hi, rfl⟩, hb⟩))) ?_
    refine sy (sty_move rfl (.inl rfl) (Arg.t 4 rfl)) ?_
    refine sy (sty_ex20 (f := Fct.p (A3) (B3)) (g := Fct.v (.int .i64 0)) rfl (.inl rfl) (Arg.t 5 rfl)) ?_
    refine sy (sty_ex21 (f := Fct.p (A3) (B3)) (g := Fct.v (.int .i64 0)) rfl (.inl rfl) (Arg.t 5 rfl)) ?_
    refine sa (step_alP (B := W11_1.heap.size) rfl (.inl rfl) (fun _ h => h.2.2.2.2.size) (fun _ _ h => h)) ?_
    trivial
   intro v12 W12 hk hdf hs
   simp only [putV, Act.put, List.setIfInBounds_toArray, List.set_cons_zero, List.set_cons_succ, Nat.reduceAdd]
   have a_15 : (Fct.pb W11_1.heap.size).R (v12 8) W12 := hk 8 _ (by decide) rfl
   refine Fct.pb_elim a_15 ?_
   intro q_15 e_15 g_15 k_15
   have f_67 : v12 1 = .int .i64 i := hk 1 _ (by decide) rfl
   have f_68 : v12 2 = .int .i64 k := hk 2 _ (by decide) rfl
   have f_69 : v12 3 = .int .i64 (i + k) := hk 3 _ (by decide) rfl
   have k_71 : (Fct.p (A3) (B3)).R (v12 6) W12 := hk 6 _ (by decide) rfl
   have f_72 : v12 7 = .int .i64 0 := hk 7 _ (by decide) rfl
   clear hk hdf
   simp only [e_15, f_67, f_68, f_69, f_72]
   have B12_0 := Below.trans HS11.out.2.2.2.2 (hs.2.2.2.2.mono HS11.out.2.2.2.2.size)
   have N_7_15 := Lib.hid (Nat.ne_of_lt (Nat.lt_of_lt_of_le L12.out.1 g_15))
   have N_8_15 := Lib.hid (Nat.ne_of_lt (Nat.lt_of_lt_of_le L12.out.2.1 g_15))
   have N_12_15 := Lib.hid (Nat.ne_of_lt (Nat.lt_of_lt_of_le L12.out.2.2.1 g_15))
   have N_13_15 := Lib.hid (Nat.ne_of_lt (Nat.lt_of_lt_of_le L12.out.2.2.2.1 g_15))
   have G_15 := Lib.hid (show w.heap.size ≤ q_15 from Nat.le_trans HS11.out.2.2.2.2.size g_15)
   refine tail_stP (q := q_15) rfl rfl rfl rfl k_15 k_71 ?_
   intro W12_1 x15ms x15mt x15mu x15mv n_15_1 s_15_1
   have m_7_1 := (hs.1).stq s_15_1 N_7_15.out
   have m_8_1 := (hs.2.1).stq s_15_1 N_8_15.out
   have m_12_1 := (hs.2.2.1).stq s_15_1 N_12_15.out
   have m_13_1 := (hs.2.2.2.1).stq s_15_1 N_13_15.out
   have B12_1 := s_15_1.below w.heap.size w G_15.out B12_0
   refine tail_assign rfl rfl ?_
   simp only [Act.put, List.setIfInBounds_toArray, List.set_cons_zero, List.set_cons_succ]
   refine tail_nil ?_
   have HS12 := Lib.hid (And.intro (m_7_1) (And.intro (m_8_1) (And.intro (m_12_1) (And.intro (m_13_1) (And.intro (n_15_1) (B12_1))))))
   clear hs L12 HS11 B12_0 B12_1 f_67 f_68 f_69 k_71 f_72 n_15_1 s_15_1 m_7_1 m_8_1 m_12_1 m_13_1 e_15 g_15 k_15 a_15
   go_upto_region 13 with fail
   refine wp_region_fl 16 ((Fct.v (.int .i64 0)) :: (Fct.v (.int .i64 0)) :: (Fct.v (.int .i64 0)) :: (Fct.v (.int .i64 0)) :: (Fct.v (.bool (true))) :: (Fct.v (.bool (true))) :: (Fct.p (A1) (B1)) :: (Fct.p (A2) (B2)) :: (Fct.p (QN) (QD)) :: (Fct.p (A3) (B3)) :: (Fct.v (.bool (true))) :: (Fct.v (.bool (true))) :: (Fct.v (.bool (true))) :: (Fct.v (.bool (true))) :: (Fct.v (.bool (true))) :: (Fct.v (.bool (true))) :: []) (fun W => PX w2.heap.size y7s y7t y7u y7v (N0) (D0) W ∧ PX q_8 x8es x8et x8eu x8ev (((N0.natAbs : Nat) : Int)) (D0) W ∧ PX q_12 x12ks x12kt x12ku x12kv (A1) (B1) W ∧ PX q_13 x13ls x13lt x13lu x13lv (A2) (B2) W ∧ PX q_15 x15ms x15mt x15mu x15mv (A3) (B3) W ∧ Below W12_1.heap.size W12_1 W) (true :: true :: true :: true :: true :: true :: false :: false :: false :: false :: false :: true :: true :: false :: true :: true :: []) (some 73 :: some 74 :: some 75 :: some 76 :: some 77 :: some 78 :: some 79 :: some 80 :: some 81 :: some 82 :: some 83 :: some 84 :: some 85 :: some 86 :: some 87 :: some 6 :: []) (fun _ _ h hb => ⟨h.1.keep hb, h.2.1.keep hb, h.2.2.1.keep hb, h.2.2.2.1.keep hb, h.2.2.2.2.1.keep hb, Below.trans h.2.2.2.2.2 (hb.mono h.2.2.2.2.2.size)⟩) ⟨HS12.out.1, HS12.out.2.1, HS12.out.2.2.1, HS12.out.2.2.2.1, HS12.out.2.2.2.2.1, Below.refl _ _⟩ ?_ ?_
   ·refine sy (sty_move rfl (.inl rfl) Arg.od) ?_
    refine sy (sty_move rfl (.inl rfl) Arg.od) ?_
    refine sy (sty_move rfl (.inl rfl) Arg.od) ?_
    refine sy (sty_max3 rfl (.inl rfl) (Arg.t 0 rfl) (Arg.t 1 rfl) (Arg.t 2 rfl) (fun _ _ h => h) (fun _ _ h => h) (fun _ _ h => h) (fun _ => rfl)) ?_
    refine sy (sty_eqlE (b := (true)) (rfl) rfl (.inl rfl) (Arg.t 3 rfl) (Arg.const _)) ?_
    refine sy (sty_move rfl (.inl rfl) (Arg.t 4 rfl)) ?_
    refine so (step_ldP (p := q_12) rfl (.inr ⟨5, true, _, rfl, rfl, by kernel_rfl, fun _ _ h => h⟩) Arg.od (fun _ h => h.2.2.1.c4) (fun _ h => h.2.2.1.rv)) ?_
    refine so (step_ldP (p := q_13) rfl (.inr ⟨5, true, _, rfl, rfl, by kernel_rfl, fun _ _ h => h⟩) Arg.od (fun _ h => h.2.2.2.1.c4) (fun _ h => h.2.2.2.1.rv)) ?_
    refine so (step_call2 E2.out rfl (.inr ⟨5, true, _, rfl, rfl, by kernel_rfl, fun _ _ h => h⟩) (Arg.t 6 rfl) (Arg.t 7 rfl) (fun u v w _ h1 h2 => (HMU.out _ _ _ h1 h2).out)) ?_
    refine so (step_ldP (p := q_15) rfl (.inr ⟨5, true, _, rfl, rfl, by kernel_rfl, fun _ _ h => h⟩) Arg.od (fun _ h => h.2.2.2.2.1.c4) (fun _ h => h.2.2.2.2.1.rv)) ?_
    refine so (step_call2 E0.out rfl (.inr ⟨5, true, _, rfl, rfl, by kernel_rfl, fun _ _ h => h⟩) (Arg.t 8 rfl) (Arg.t 9 rfl) (fun u v w _ h1 h2 => (HSS.out _ _ _ h1 h2).out.mono fun e w' h => ⟨_, h.1, rfl, h.2⟩)) ?_
    refine sy (sty_pickT rfl (.inl rfl) (Arg.t 5 rfl) (Arg.t 10 rfl)) ?_
    refine sy (sty_move rfl (.inl rfl) (Arg.t 11 rfl)) ?_
    refine so (stp_call0 E1.out rfl (.inr ⟨12, true, _, rfl, rfl, by kernel_rfl, fun _ _ h => h⟩) (fun w _ => (HAW.out _).out.mono fun e w' h => ⟨_, h.1, rfl, h.2⟩)) ?_
    refine sy (sty_pickT rfl (.inl rfl) (Arg.t 12 rfl) (Arg.t 13 rfl)) ?_
    refine sy (sty_assign rfl (.inl rfl) (Arg.t 14 rfl)) ?_
    trivial
   intro v13 W13 hk hdf hs
   simp only [putV, Act.put, List.setIfInBounds_toArray, List.set_cons_zero, List.set_cons_succ, Nat.reduceAdd]
   have f_73 : v13 0 = .int .i64 0 := hk 0 _ (by decide) rfl
   have f_74 : v13 1 = .int .i64 0 := hk 1 _ (by decide) rfl
   have f_75 : v13 2 = .int .i64 0 := hk 2 _ (by decide) rfl
   have f_76 : v13 3 = .int .i64 0 := hk 3 _ (by decide) rfl
   have f_77 : v13 4 = .bool (true) := hk 4 _ (by decide) rfl
   have f_78 : v13 5 = .bool (true) := hk 5 _ (by decide) rfl
   have f_83 : v13 10 = .bool (true) := hk 10 _ (by decide) rfl
   have f_84 : v13 11 = .bool (true) := hk 11 _ (by decide) rfl
   have f_85 : v13 12 = .bool (true) := hk 12 _ (by decide) rfl
   have f_86 : v13 13 = .bool (true) := hk 13 _ (by decide) rfl
   have f_87 : v13 14 = .bool (true) := hk 14 _ (by decide) rfl
   have f_6 : v13 15 = .bool (true) := hk 15 _ (by decide) rfl
   clear hk hdf
   simp only [f_73, f_74, f_75, f_76, f_77, f_78, f_83, f_84, f_85, f_86, f_87, f_6]
   have B13_0 := Below.trans HS12.out.2.2.2.2.2 (hs.2.2.2.2.2.mono HS12.out.2.2.2.2.2.size)
   refine tail_nil ?_
   have HS13 := Lib.hid (And.intro (hs.1) (And.intro (hs.2.1) (And.intro (hs.2.2.1) (And.intro (hs.2.2.2.1) (And.intro (hs.2.2.2.2.1) (B13_0))))))
   clear hs HS12 B13_0 f_73 f_74 f_75 f_76 f_77 f_78 f_83 f_84 f_85 f_86 f_87 f_6
   have HBL := Lib.hid HS13.out.2.2.2.2.2
   clear HS13
   go_wp2_with fail
   go_ret
   exact ⟨rfl, HBL.out⟩
end
end Go.Proofs.YtghgcbedajaldaaGreat
