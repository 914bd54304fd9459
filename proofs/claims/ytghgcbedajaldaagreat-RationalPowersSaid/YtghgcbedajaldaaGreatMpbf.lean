/-  S1 Fx1  -/
import Derived.Test.YtghgcbedajaldaaGreatMpbe
import Derived.Test.YtghgcbedajaldaaGreatMpal
/-  The program's Div and Sub of fractions (Sub as Add says).  -/
namespace Go.Proofs.YtghgcbedajaldaaGreat
section
open Go.RowKit Digs
structure H3 (w : World) (a b c e : Value) (n d : Int) (a' b' c' e' : Value) (n' d' : Int) (W : World) : Prop where
 x : PX w.heap.size a b c e n d W
 y : PX (w.heap.size + 1) a' b' c' e' n' d' W
 z : Z4b (w.heap.size + 1 + 1) W
 below : Below w.heap.size w W
theorem H3.keep {w : World} {a b c e a' b' c' e' : Value} {n d n' d' : Int} {W W' : World} (h : H3 w a b c e n d a' b' c' e' n' d' W) (hb : Below W.heap.size W W') : H3 w a b c e n d a' b' c' e' n' d' W' :=
 ⟨h.x.keep hb, h.y.keep hb, h.z.keep hb, h.below.trans (hb.mono h.below.size)⟩
theorem H3.made {w : World} {a b c e a' b' c' e' : Value} {n d n' d' : Int} {t : TypeId} (h1 : RatV w (.agg #[a, b, c, e]) n d) (h3 : RatV w (.agg #[a', b', c', e']) n' d') :
  H3 w a b c e n d a' b' c' e' n' d' (((w.alloc (.cells #[a, b, c, e] t)).alloc (.cells #[a', b', c', e'] t)).alloc (.cells #[.bool false, .slice none 0 0, .bool false, .slice none 0 0] t)) := by
 have hal : ∀ (W : World) (o : Obj), Below W.heap.size W (W.alloc o) := fun W o => (Below.refl _ _).alloc (Nat.le_refl _) _
 have hx := (PX.made (t := t) h1).keep (hal _ (.cells #[a', b', c', e'] t))
 have hy := PX.made (w := w.alloc (.cells #[a, b, c, e] t)) (t := t) (h3.keep (hal _ _))
 have hz := Z4b.made (w := (w.alloc (.cells #[a, b, c, e] t)).alloc (.cells #[a', b', c', e'] t)) (t := t)
 simp only [World.size_alloc] at hy hz
 exact ⟨hx.keep (hal _ _), hy.keep (hal _ _), hz, below3w _ _ _ _⟩
theorem H3.c8 {w : World} {a b c e a' b' c' e' : Value} {n d n' d' : Int} {W : World} (h : H3 w a b c e n d a' b' c' e' n' d' W) :
  (W.cell? ⟨w.heap.size, 0, none⟩ = some a ∧ W.cell? ⟨w.heap.size, 1, none⟩ = some b ∧ W.cell? ⟨w.heap.size, 2, none⟩ = some c ∧ W.cell? ⟨w.heap.size, 3, none⟩ = some e) ∧
  W.cell? ⟨w.heap.size + 1, 0, none⟩ = some a' ∧ W.cell? ⟨w.heap.size + 1, 1, none⟩ = some b' ∧ W.cell? ⟨w.heap.size + 1, 2, none⟩ = some c' ∧ W.cell? ⟨w.heap.size + 1, 3, none⟩ = some e' := ⟨h.x.c4, h.y.c4⟩
theorem H3.c8s {w : World} {a b c e a' b' c' e' : Value} {n d n' d' : Int} {W : World} (h : H3 w a b c e n d a' b' c' e' n' d' W) {r0 r1 r2 r3 : Value} :
    (((((W.setCell ⟨w.heap.size + 1 + 1, 0, none⟩ r0).setCell ⟨w.heap.size + 1 + 1, 1, none⟩ r1).setCell ⟨w.heap.size + 1 + 1, 2, none⟩ r2).setCell ⟨w.heap.size + 1 + 1, 3, none⟩ r3).cell? ⟨w.heap.size, 0, none⟩ = some a ∧ ((((W.setCell ⟨w.heap.size + 1 + 1, 0, none⟩ r0).setCell ⟨w.heap.size + 1 + 1, 1, none⟩ r1).setCell ⟨w.heap.size + 1 + 1, 2, none⟩ r2).setCell ⟨w.heap.size + 1 + 1, 3, none⟩ r3).cell? ⟨w.heap.size, 1, none⟩ = some b ∧ ((((W.setCell ⟨w.heap.size + 1 + 1, 0, none⟩ r0).setCell ⟨w.heap.size + 1 + 1, 1, none⟩ r1).setCell ⟨w.heap.size + 1 + 1, 2, none⟩ r2).setCell ⟨w.heap.size + 1 + 1, 3, none⟩ r3).cell? ⟨w.heap.size, 2, none⟩ = some c ∧ ((((W.setCell ⟨w.heap.size + 1 + 1, 0, none⟩ r0).setCell ⟨w.heap.size + 1 + 1, 1, none⟩ r1).setCell ⟨w.heap.size + 1 + 1, 2, none⟩ r2).setCell ⟨w.heap.size + 1 + 1, 3, none⟩ r3).cell? ⟨w.heap.size, 3, none⟩ = some e) ∧
    ((((W.setCell ⟨w.heap.size + 1 + 1, 0, none⟩ r0).setCell ⟨w.heap.size + 1 + 1, 1, none⟩ r1).setCell ⟨w.heap.size + 1 + 1, 2, none⟩ r2).setCell ⟨w.heap.size + 1 + 1, 3, none⟩ r3).cell? ⟨w.heap.size + 1, 0, none⟩ = some a' ∧ ((((W.setCell ⟨w.heap.size + 1 + 1, 0, none⟩ r0).setCell ⟨w.heap.size + 1 + 1, 1, none⟩ r1).setCell ⟨w.heap.size + 1 + 1, 2, none⟩ r2).setCell ⟨w.heap.size + 1 + 1, 3, none⟩ r3).cell? ⟨w.heap.size + 1, 1, none⟩ = some b' ∧ ((((W.setCell ⟨w.heap.size + 1 + 1, 0, none⟩ r0).setCell ⟨w.heap.size + 1 + 1, 1, none⟩ r1).setCell ⟨w.heap.size + 1 + 1, 2, none⟩ r2).setCell ⟨w.heap.size + 1 + 1, 3, none⟩ r3).cell? ⟨w.heap.size + 1, 2, none⟩ = some c' ∧ ((((W.setCell ⟨w.heap.size + 1 + 1, 0, none⟩ r0).setCell ⟨w.heap.size + 1 + 1, 1, none⟩ r1).setCell ⟨w.heap.size + 1 + 1, 2, none⟩ r2).setCell ⟨w.heap.size + 1 + 1, 3, none⟩ r3).cell? ⟨w.heap.size + 1, 3, none⟩ = some e' := by
  have n1 : w.heap.size ≠ w.heap.size + 1 + 1 := by omega
  have n2 : w.heap.size + 1 ≠ w.heap.size + 1 + 1 := by omega
  exact ⟨⟨(cell_store4 n1).trans h.x.c0, (cell_store4 n1).trans h.x.c1, (cell_store4 n1).trans h.x.c2, (cell_store4 n1).trans h.x.c3⟩, (cell_store4 n2).trans h.y.c0, (cell_store4 n2).trans h.y.c1, (cell_store4 n2).trans h.y.c2, (cell_store4 n2).trans h.y.c3⟩

theorem PX.num {p : Nat} {a b c e : Value} {n d : Int} {W : World} (h : PX p a b c e n d W) : IntV W (.agg #[a, b]) n := by
 obtain ⟨a', b', c', e', he, h1, _⟩ := h.rv
 injection he with he
 injection he with he
 injection he with h2 he
 injection he with h3 he
 subst h2 h3
 exact h1
theorem rat4 {P1 : Nat} {W : World} {v : Value} {n d : Int} (z1 : Z4b P1 W) (h : RatV W v n d) (a b c e : Value) :
  RatV ((((W.setCell ⟨P1, 0, none⟩ a).setCell ⟨P1, 1, none⟩ b).setCell ⟨P1, 2, none⟩ c).setCell ⟨P1, 3, none⟩ e) v n d := by
 obtain ⟨q, r, s, t, rfl, h1, h2⟩ := h
 exact ⟨_, _, _, _, rfl, z1.putI h1 _ _ _ _, z1.putI h2 _ _ _ _⟩
set_option maxHeartbeats 16000000 in
set_option maxRecDepth 100000 in
theorem ratDiv_any (n1 d1 n2 d2 : Int) (v1 v2 : Value) (w : World) (hd1 : 0 < d1) (hd2 : 0 < d2) (l1 : Bd 100 n1) (l2 : Bd 100 d1) (l3 : Bd 100 n2) (l4 : Bd 100 d2) (h1 : RatV w v1 n1 d1) (h2 : RatV w v2 n2 d2) :
  Calls Tryz.prog 30 #[v1, v2] w (RatRes w (if n2 = 0 then 0 else qn (n1 * d2) (d1 * n2)) (if n2 = 0 then 1 else qd (n1 * d2) (d1 * n2)) (if n2 = 0 then 6 else 0)) := by
 have ez : (d1 * n2 = 0) = (n2 = 0) := propext ⟨fun h => (Int.mul_eq_zero.1 h).resolve_left (by omega), fun h => by rw [h, Int.mul_zero]⟩
 have HN := Lib.hid fun W u v h h' => Lib.hid (show Calls Tryz.prog 16 #[u, v] W (RatRes W (if n2 = 0 then 0 else qn (n1 * d2) (d1 * n2)) (if n2 = 0 then 1 else qd (n1 * d2) (d1 * n2)) (if n2 = 0 then 6 else 0)) from by
  have := ratNew_any (n1 * d2) (d1 * n2) u v W (len_le (by decide) (Bd.mul l1 l4)) (len_le (by decide) (Bd.mul l2 l3)) h h'
  simp only [ez] at this
  exact this)
 have HD1 := Lib.hid fun W u h => Lib.hid (den_any n1 d1 u W hd1 (len_le (by decide) l2) h)
 have HD2 := Lib.hid fun W u h => Lib.hid (den_any n2 d2 u W hd2 (len_le (by decide) l4) h)
 have HM1 := Lib.hid fun W u v h h' => Lib.hid (Mul_any n1 d2 u v W (len_le (by decide) l1) (len_le (by decide) l4) h h')
 have HM2 := Lib.hid fun W u v h h' => Lib.hid (Mul_any d1 n2 u v W (len_le (by decide) l2) (len_le (by decide) l3) h h')
 obtain ⟨p1, ad1, k1, c1, p2, ad2, k2, c2, rfl⟩ := ratv_shape h1
 obtain ⟨p3, ad3, k3, c3, p4, ad4, k4, c4, rfl⟩ := ratv_shape h2
 have HX0 := Lib.hid ((H3.made (t := 38) h1 h2).keep (Below.refl _ _).drew)
 clear hd1 hd2 l1 l2 l3 l4 h1 h2 ez
 generalize (if n2 = 0 then 0 else qn (n1 * d2) (d1 * n2)) = N at *
 generalize (if n2 = 0 then 1 else qd (n1 * d2) (d1 * n2)) = D at *
 generalize (if n2 = 0 then (6 : Int) else 0) = C at *
 generalize n1 * d2 = m1 at *
 generalize d1 * n2 = m2 at *
 go_enter Tryz.func30, Tryz.ntmps30
 go_upto_region 1 with fail
 have hx0 := HX0.out
 clear HX0
 go_region_held3 (fun w' => (w'.cell? ⟨w.heap.size, 0, none⟩ = some (.bool p1) ∧ w'.cell? ⟨w.heap.size, 1, none⟩ = some (.slice ad1 k1 c1) ∧ w'.cell? ⟨w.heap.size, 2, none⟩ = some (.bool p2) ∧ w'.cell? ⟨w.heap.size, 3, none⟩ = some (.slice ad2 k2 c2)) ∧ w'.cell? ⟨w.heap.size + 1, 0, none⟩ = some (.bool p3) ∧ w'.cell? ⟨w.heap.size + 1, 1, none⟩ = some (.slice ad3 k3 c3) ∧ w'.cell? ⟨w.heap.size + 1, 2, none⟩ = some (.bool p4) ∧ w'.cell? ⟨w.heap.size + 1, 3, none⟩ = some (.slice ad4 k4 c4))
  (first | with_reducible exact hx5.c8 | with_reducible exact hx4.c8 | with_reducible exact hx3.c8 | with_reducible exact hx2.c8 | with_reducible exact hx1.c8 | with_reducible exact hx0.c8 | with_reducible exact hx5.c8s | go_keep)
  (first
  | (go_at_call 67; (with_reducible refine (HD2.out _ _ hx0.y.rv).out.mono ?_); rintro e wA ⟨vA, rfl, hiA, hbA⟩; have hx1 := hx0.keep hbA)
  | (go_at_call 84; (with_reducible refine (HM1.out _ _ _ hx1.x.num hiA).out.mono ?_); rintro e wB ⟨vB, rfl, hiB, hbB⟩; have hx2 := hx1.keep hbB)
  | (go_at_call 67; (with_reducible refine (HD1.out _ _ hx2.x.rv).out.mono ?_); rintro e wC ⟨vC, rfl, hiC, hbC⟩; have hx3 := hx2.keep hbC; have hiB3 := hiB.keep hbC)
  | (go_at_call 84; (with_reducible refine (HM2.out _ _ _ hiC hx3.y.num).out.mono ?_); rintro e wD ⟨vD, rfl, hiD, hbD⟩; have hx4 := hx3.keep hbD; have hiB4 := hiB3.keep hbD)
  | (go_at_call 16; (with_reducible refine (HN.out _ _ _ hiB4 hiD).out.mono ?_); rintro e wE ⟨vE, rfl, hqE, hbE⟩; have hx5 := hx4.keep hbE; obtain ⟨p5, ad5, k5, c5, p6, ad6, k6, c6, rfl⟩ := ratv_shape hqE; have r0 := hx5.z.r0; have r1 := hx5.z.r1; have r2 := hx5.z.r2; have r3 := hx5.z.r3; have f0 := hx5.z.f0; have f1 := hx5.z.f1; have f2 := hx5.z.f2; have f3 := hx5.z.f3))
 all_goals
  have g1 := Lib.hid (rat4 hx5.z hqE)
  have HBL := Lib.hid hx5.below
  clear hqE hx0 hx1 hx2 hx3 hx4 hx5 hiA hiB hiB3 hiB4 hiC hiD hbA hbB hbC hbD hbE HM1 HM2 HD1 HD2 HN
  go_wp2_with fail
  refine bodyPost_ret (v := .tuple #[.agg #[.bool p5, .slice ad5 k5 c5, .bool p6, .slice ad6 k6 c6], .int .i64 C]) (by simp [results, Tryz.results30, go_sem, r0, r1, r2, r3]) rfl ⟨_, rfl, g1.out _ _ _ _, ?_⟩
  exact (((HBL.out.setCell (by simp; omega) _).setCell (by simp; omega) _).setCell (by simp; omega) _).setCell (by simp; omega) _
end
end Go.Proofs.YtghgcbedajaldaaGreat
/-  A region that draws its order, by facts: new boxes are different ones, and the stores come behind everything else.  -/
namespace Go.Proofs.YtghgcbedajaldaaGreat
section
open Go.RowKit Digs
section
variable {P : Program} {ops : Array Oper} {Q : Exit → Act → World → Prop} {md : Region.Mode} {F : Nat → Value → World → Prop} {S : World → Prop} {D : Nat → Bool} {U : Nat → Bool} {a0 : Act}
def StepD (P : Program) (ops : Array Oper) (md : Region.Mode) (F : Nat → Value → World → Prop) (S : World → Prop) (D : Nat → Bool) (a0 : Act) (Q : Exit → Act → World → Prop) (i : Nat) (o : Oper) : Prop :=
 ∀ a w, S w → Same ops a0 a → Know ops md F o a w →
  if Region.wanted o (yielded ops a.tmps) = true then o.wp P a w (fun a' w' => ∃ v, a' = a.put o.dst v ∧ F i v w' ∧ Below w.heap.size w w' ∧ (D i = true → v = .pointer (some ⟨w.heap.size, 0, none⟩))) Q else F i undef w ∧ D i = false
theorem StepOK.d {i : Nat} {o : Oper} (h : StepOK P ops md F S a0 Q i o) (hd : D i = false) : StepD P ops md F S D a0 Q i o := fun a w hs hsm hk => by
 have h1 := h a w hs hsm hk
 split at h1
 ·next hw => rw [if_pos hw]; exact Oper.wp_mono (fun a' w' ⟨v, e, hf, hb⟩ => ⟨v, e, hf, hb, fun hD => by rw [hd] at hD; cases hD⟩) h1
 ·next hw => rw [if_neg hw]; exact ⟨h1, hd⟩
def tailWp (P : Program) (Q : Exit → Act → World → Prop) : List Oper → Act → World → Prop
 | [], a, w => Q .normal a w
 | o :: r, a, w => o.wp P a w (tailWp P Q r) Q
def StepY (P : Program) (ops : Array Oper) (K : Nat) (md : Region.Mode) (F : Nat → Value → World → Prop) (S : World → Prop) (a0 : Act) (i : Nat) (o : Oper) : Prop :=
 ∀ a w, S w → Same ops a0 a → (∀ t, (∀ j, j < K → dstOf ops j ≠ some t) → a.tmps[t]? = a0.tmps[t]?) → Know ops md F o a w → ∃ v, Yields P ops o v a ∧ F i v w
def lateB (md : Region.Mode) (U : Nat → Bool) (ops : Array Oper) (k : Nat) : Bool :=
 (List.range k).all fun j => U j || (List.range (k + 1)).any fun i => decide (j < i) && !U i && match ops[i]? with
  | none => false
  | some o => waits md o j
def freeB (md : Region.Mode) (U : Nat → Bool) (ops : Array Oper) : Bool :=
 (List.range ops.size).all fun i => !U i || match ops[i]? with
  | none => true
  | some oi => oi.dst.isSome && (List.range ops.size).all fun j => j == i || match ops[j]? with
   | none => true
   | some oj => waits md oj i || waits md oi j || oi.apart ops oj
def tailB (md : Region.Mode) (U : Nat → Bool) (ops : Array Oper) (k : Nat) : Bool :=
 Region.noSelect ops && freeB md U ops && (List.range ops.size).all fun i => decide (i < k) || (!U i && lateB md U ops i && match ops[i]? with
  | none => false
  | some o => o.guard.isNone)
structure Inv2 (ops : Array Oper) (md : Region.Mode) (F : Nat → Value → World → Prop) (S : World → Prop) (D : Nat → Bool) (a0 : Act) (listed : Array Bool) (a : Act) (w : World) : Prop where
 i : Inv ops F S a0 listed a w
 cl : ∀ i o, listed.getD i false = true → ops[i]? = some o → ∀ e ∈ o.after, Region.binds md e = true → listed.getD e.on false = true
 df : ∀ i j d e, i ≠ j → D i = true → D j = true → listed.getD i false = true → listed.getD j false = true → dstOf ops i = some d → dstOf ops j = some e → a.tmps[d]? ≠ a.tmps[e]?
 un : ∀ t, (∀ i, listed.getD i false = true → dstOf ops i ≠ some t) → a.tmps[t]? = a0.tmps[t]?
theorem all_before {listed : Array Bool} {k : Nat} (hUk : U k = false) (hl : lateB md U ops k = true) (cl : ∀ i o, listed.getD i false = true → ops[i]? = some o → ∀ e ∈ o.after, Region.binds md e = true → listed.getD e.on false = true)
  (hk : ∀ o, ops[k]? = some o → ∀ e ∈ o.after, Region.binds md e = true → listed.getD e.on false = true) : ∀ m j, j + m + 1 = k → U j = false → listed.getD j false = true := by
 intro m
 induction m using Nat.strongRecOn with
 | _ m ih =>
  intro j hj hUj
  unfold lateB at hl
  rw [List.all_eq_true] at hl
  have h1 := hl j (List.mem_range.2 (by omega))
  rw [hUj, Bool.false_or, List.any_eq_true] at h1
  obtain ⟨i, hi, h2⟩ := h1
  have hik := List.mem_range.1 hi
  rw [Bool.and_eq_true, Bool.and_eq_true, decide_eq_true_eq, Bool.not_eq_true'] at h2
  obtain ⟨⟨hji, hUi⟩, h3⟩ := h2
  cases ho : ops[i]? with
  | none => rw [ho] at h3; cases h3
  | some o =>
   rw [ho] at h3
   have h4 : waits md o j = true := h3
   unfold waits at h4
   rw [Array.any_eq_true'] at h4
   obtain ⟨e, he, h5⟩ := h4
   simp only [Bool.and_eq_true, beq_iff_eq] at h5
   obtain ⟨rfl, hb⟩ := h5
   by_cases hik' : i = k
   ·subst hik'; exact hk o ho e he hb
   ·exact cl i o (ih (k - i - 1) (by omega) i (by omega) hUi) ho e he hb
theorem wpAny_tail {k : Nat} (hsh : Shape ops md a0.tmps.size) (hlate : ∀ i, k ≤ i → i < ops.size → U i = false ∧ lateB md U ops i = true) (hgd : ∀ i o, k ≤ i → ops[i]? = some o → o.guard = none) :
  ∀ (fuel i : Nat) (listed : Array Bool) (a : Act) (w : World), k ≤ i → listed.size = ops.size → listed.toList.countP (fun b => !b) = fuel → (∀ j, j < ops.size → listed.getD j false = decide (j < i)) → i ≤ ops.size →
   tailWp P Q (ops.toList.drop i) a w → wpAny P md ops Q fuel listed a w := by
 intro fuel
 induction fuel with
 | zero =>
  intro i listed a w hki hs hc hl hi ht
  have hin : i = ops.size := by
   rcases Nat.lt_or_ge i ops.size with h | h
   ·exfalso
    rw [List.countP_eq_zero] at hc
    have hil : i < listed.size := by omega
    have h1 := hc (listed[i]) (by simp)
    have h2 := hl i h
    simp [hil] at h1 h2
    rw [h2] at h1
    simp at h1
   ·omega
  subst hin
  refine ⟨?_, ?_⟩
  ·rw [List.eq_nil_iff_forall_not_mem]
   intro j hj
   obtain ⟨h0, o, ho, _⟩ := mem_ready.1 hj
   have hj' : j < ops.size := (Array.getElem?_eq_some_iff.1 ho).1
   have hjl : j < listed.size := by omega
   have h2 := hl j hj'
   simp [hjl, hj'] at h0 h2
   rw [h0] at h2; cases h2
  ·rw [List.drop_of_length_le (by simp)] at ht
   exact ht
 | succ fuel ih =>
  intro i listed a w hki hs hc hl hi ht
  have hin : i < ops.size := by
   rcases Nat.lt_or_ge i ops.size with h | h
   ·exact h
   ·exfalso
    have : listed.toList.countP (fun b => !b) = 0 := by
     rw [List.countP_eq_zero]
     intro b hb
     obtain ⟨j, hj, rfl⟩ := List.mem_iff_getElem.1 hb
     have hj' : j < listed.size := by simpa using hj
     have h2 := hl j (by omega)
     simp [hj', show j < i by omega] at h2
     simp [h2]
    omega
  have ho : ops[i]? = some ops[i] := Array.getElem?_eq_getElem hin
  have hil : i < listed.size := by omega
  have hready : i ∈ Region.ready md ops listed := mem_ready.2 ⟨by have h2 := hl i hin; simp [hil] at h2 ⊢; exact h2, ops[i], ho, fun e he hb => by
   have h3 := hsh.back i _ ho e he hb
   rw [hl e.on (by omega), decide_eq_true h3]⟩
  refine ⟨fun h => absurd hready (by rw [h]; exact List.not_mem_nil), fun j hj => ?_⟩
  have hji : j = i := by
   obtain ⟨h0, o, hoj, hall⟩ := mem_ready.1 hj
   have hj' : j < ops.size := (Array.getElem?_eq_some_iff.1 hoj).1
   have hjl : j < listed.size := by omega
   have h2 := hl j hj'
   simp [hjl] at h0 h2
   rw [h0] at h2
   have h3 : ¬ j < i := of_decide_eq_false h2.symm
   rcases Nat.lt_or_ge i j with h4 | h4
   ·exfalso
    have hcl : ∀ i' o, listed.getD i' false = true → ops[i']? = some o → ∀ e ∈ o.after, Region.binds md e = true → listed.getD e.on false = true := fun i' o' hl' ho' e he hb => by
     have h5 := hsh.back i' _ ho' e he hb
     have h6 : i' < ops.size := (Array.getElem?_eq_some_iff.1 ho').1
     rw [hl i' h6] at hl'
     rw [hl e.on (by omega)]
     have := of_decide_eq_true hl'
     exact decide_eq_true (by omega)
    have h7 := all_before (U := U) (listed := listed) (hlate j (by omega) hj').1 (hlate j (by omega) hj').2 hcl (fun o' ho' => by rw [hoj] at ho'; cases ho'; exact hall) (j - i - 1) i (by omega) (hlate i hki hin).1
    rw [hl i hin] at h7
    have := of_decide_eq_true h7
    omega
   ·omega
  subst hji
  have hdrop : ops.toList.drop j = ops[j] :: ops.toList.drop (j + 1) := by
   rw [List.drop_eq_getElem_cons (by simpa using hin)]
   simp
  rw [hdrop] at ht
  refine wpOp_step ho fun K hK => ?_
  have hg := hgd j _ hki ho
  rw [if_pos (by unfold Region.wanted; rw [hg])]
  refine Oper.wp_mono (fun a' w' h => hK _ _ (ih (j + 1) _ a' w' (by omega) (by simp [hs]) ?_ (fun m hm => ?_) (by omega) h)) ht
  ·rw [Array.toList_setIfInBounds, List.countP_set (by simpa using hil)]
   have hc' : listed.countP (fun b => !b) = fuel + 1 := by simpa using hc
   have h2 := hl j hin
   simp [hil] at h2
   simp [h2]
   omega
  ·by_cases hmj : j = m
   ·subst hmj
    rw [decide_eq_true (show j < j + 1 by omega)]
    simp [hil]
   ·rw [Go.getD_set_ne false hmj, hl m hm]
    by_cases h : m < j
    ·rw [decide_eq_true h, decide_eq_true (by omega)]
    ·rw [decide_eq_false h, decide_eq_false (by omega)]
theorem Inv2.step {listed : Array Bool} {a : Act} {w w' : World} {i : Nat} {o : Oper} {v : Value} (hsh : Shape ops md a0.tmps.size) (hF : ∀ i v w w', F i v w → Below w.heap.size w w' → F i v w') (hS : ∀ w w', S w → Below w.heap.size w w' → S w') (hD : ∀ j v w, D j = true → F j v w → ∃ q, v = .pointer (some ⟨q, 0, none⟩) ∧ q < w.heap.size)
  (h : Inv2 ops md F S D a0 listed a w) (ho : ops[i]? = some o) (hf : F i v w') (hb : Below w.heap.size w w') (hdi : D i = true → v = .pointer (some ⟨w.heap.size, 0, none⟩)) (hal : ∀ e ∈ o.after, Region.binds md e = true → listed.getD e.on false = true) (hil : i < listed.size) :
  Inv2 ops md F S D a0 (listed.setIfInBounds i true) (a.put o.dst v) w' := by
 refine ⟨h.i.step hsh hF hS ho hf hb, fun i' o' hl' ho' e he hbi => ?_, fun i1 j1 d e hij h1 h2 h3 h4 h5 h6 => ?_, fun t ht => ?_⟩
 ·have hold : listed.getD e.on false = true := by
   by_cases hii : i = i'
   ·subst hii
    rw [ho] at ho'; cases ho'
    exact hal e he hbi
   ·rw [Go.getD_set_ne false hii] at hl'
    exact h.cl i' o' hl' ho' e he hbi
  by_cases hie : i = e.on
  ·rw [← hie]; simp [hil]
  ·rw [Go.getD_set_ne false hie]; exact hold
 ·have hnew : ∀ (m : Nat) (t : Tmp), m ≠ i → dstOf ops m = some t → (a.put o.dst v).tmps[t]? = a.tmps[t]? := fun m t hm ht => by
   cases hdo : o.dst with
   | none => rfl
   | some u =>
    have hiu : dstOf ops i = some u := by unfold dstOf; rw [ho]; exact hdo
    have hut : u ≠ t := fun e => hm (hsh.inj m i t ht (by rw [hiu, e]))
    simp only [Act.put, Array.getElem?_setIfInBounds_ne hut]
  have hown : ∀ (t : Tmp), dstOf ops i = some t → (a.put o.dst v).tmps[t]? = some v := fun t ht => by
   have hdo : o.dst = some t := by unfold dstOf at ht; rw [ho] at ht; exact ht
   have htl : t < a.tmps.size := by rw [h.i.same.2.1]; exact hsh.lt _ _ ht
   rw [hdo]
   simp [Act.put, htl]
  by_cases h7 : i1 = i
  ·subst h7
   have hj1 : j1 ≠ i1 := fun e => hij e.symm
   rw [hown d h5, hnew j1 e hj1 h6]
   rw [Go.getD_set_ne false hij] at h4
   obtain ⟨u, hu, hfu⟩ := h.i.fact j1 e h6 h4
   obtain ⟨q, hq, hql⟩ := hD j1 u w h2 hfu
   rw [hu, hq, hdi h1]
   intro heq
   injection heq with heq
   injection heq with heq
   injection heq with heq
   injection heq with heq
   omega
  ·by_cases h8 : j1 = i
   ·subst h8
    rw [hown e h6, hnew i1 d h7 h5]
    rw [Go.getD_set_ne false (fun e => h7 e.symm)] at h3
    obtain ⟨u, hu, hfu⟩ := h.i.fact i1 d h5 h3
    obtain ⟨q, hq, hql⟩ := hD i1 u w h1 hfu
    rw [hu, hq, hdi h2]
    intro heq
    injection heq with heq
    injection heq with heq
    injection heq with heq
    injection heq with heq
    omega
   ·rw [hnew i1 d h7 h5, hnew j1 e h8 h6]
    rw [Go.getD_set_ne false (fun e => h7 e.symm)] at h3
    rw [Go.getD_set_ne false (fun e => h8 e.symm)] at h4
    exact h.df i1 j1 d e hij h1 h2 h3 h4 h5 h6
 ·have hold : a.tmps[t]? = a0.tmps[t]? := h.un t fun j hj => by
   refine ht j ?_
   by_cases hij : i = j
   ·subst hij; simp [hil]
   ·rw [Go.getD_set_ne false hij]; exact hj
  have hit : dstOf ops i ≠ some t := ht i (by simp [hil])
  rw [← hold]
  cases hdo : o.dst with
  | none => rfl
  | some u =>
   have hut : u ≠ t := fun e => hit (by unfold dstOf; rw [ho, ← e]; exact hdo)
   simp only [Act.put, Array.getElem?_setIfInBounds_ne hut]
theorem wpAny_fx {k : Nat} (hk : k ≤ ops.size) (hsh : Shape ops md a0.tmps.size) (hsel : ∀ (j : Nat) (o : Oper) cs b, ops[j]? = some o → o.op ≠ .select cs b) (hfree : ∀ i oi, U i = true → ops[i]? = some oi → oi.dst.isSome = true ∧ ∀ j oj, ops[j]? = some oj → j ≠ i → waits md oj i = true ∨ waits md oi j = true ∨ oi.apart ops oj = true)
  (hQ : ∀ (d : Tmp) v c a w, Q (.panic c) (a.put (some d) v) w → Q (.panic c) a w) (hlate : ∀ i, k ≤ i → i < ops.size → U i = false ∧ lateB md U ops i = true) (hgd : ∀ i o, k ≤ i → ops[i]? = some o → o.guard = none)
  (hF : ∀ i v w w', F i v w → Below w.heap.size w w' → F i v w') (hS : ∀ w w', S w → Below w.heap.size w w' → S w') (hD : ∀ j v w, D j = true → F j v w → ∃ q, v = .pointer (some ⟨q, 0, none⟩) ∧ q < w.heap.size)
  (hstep : ∀ i o, i < k → ops[i]? = some o → (U i = false ∧ StepD P ops md F S D a0 Q i o) ∨ (U i = true ∧ D i = false ∧ StepY P ops k md F S a0 i o))
  (hfin : ∀ a w, (∀ i d, i < k → dstOf ops i = some d → ∃ v, a.tmps[d]? = some v ∧ F i v w) → (∀ i j d e, i < k → j < k → i ≠ j → D i = true → D j = true → dstOf ops i = some d → dstOf ops j = some e → a.tmps[d]? ≠ a.tmps[e]?) → Same ops a0 a → (∀ t, (∀ i, i < k → dstOf ops i ≠ some t) → a.tmps[t]? = a0.tmps[t]?) → S w → tailWp P Q (ops.toList.drop k) a w) :
  ∀ (fuel : Nat) (listed : Array Bool) (a : Act) (w : World), listed.size = ops.size → listed.toList.countP (fun b => !b) = fuel → (∀ j, k ≤ j → listed.getD j false = false) → Inv2 ops md F S D a0 listed a w → wpAny P md ops Q fuel listed a w := by
 intro fuel
 induction fuel with
 | zero =>
  intro listed a w hs hc hno h
  have hall : ∀ j, j < ops.size → listed.getD j false = true := fun j hj => by
   rw [List.countP_eq_zero] at hc
   have hjl : j < listed.size := by omega
   have h1 := hc (listed[j]) (by simp)
   simp [hjl] at h1 ⊢
   exact h1
  have hkn : k = ops.size := by
   rcases Nat.lt_or_ge k ops.size with h1 | h1
   ·have := hall k h1; rw [hno k (Nat.le_refl _)] at this; cases this
   ·omega
  refine wpAny_tail (a0 := a0) (U := U) hsh hlate hgd 0 k listed a w (Nat.le_refl _) hs hc (fun j hj => by rw [hall j hj, decide_eq_true (by omega)]) hk ?_
  refine hfin a w (fun i d _ hd => h.i.fact i d hd (hall i (dstOf_lt hd))) (fun i j d e _ _ hij h1 h2 h3 h4 => h.df i j d e hij h1 h2 (hall i (dstOf_lt h3)) (hall j (dstOf_lt h4)) h3 h4) h.i.same (fun t ht => h.un t fun i _ hi => ht i (by have := dstOf_lt hi; omega) hi) h.i.s
 | succ fuel ih =>
  intro listed a w hs hc hno h
  by_cases hu : ∃ u, U u = true ∧ u ∈ Region.ready md ops listed
  ·obtain ⟨u, hU, hr⟩ := hu
   obtain ⟨h0, o, ho, hal⟩ := mem_ready.1 hr
   have hin : u < ops.size := (Array.getElem?_eq_some_iff.1 ho).1
   have hil : u < listed.size := by omega
   have huk : u < k := by
    rcases Nat.lt_or_ge u k with h1 | h1
    ·exact h1
    ·have := (hlate u h1 hin).1; rw [hU] at this; cases this
   rcases hstep u o huk ho with ⟨h1, _⟩ | ⟨_, hDu, hy⟩
   ·rw [hU] at h1; cases h1
   obtain ⟨v, hyv, hf⟩ := hy a w h.i.s h.i.same (fun t ht => h.un t fun i hl hi => ht i (by rcases Nat.lt_or_ge i k with h1 | h1; exact h1; rw [hno i h1] at hl; cases hl) hi) (fun e he hb d hd => h.i.fact e.on d hd (hal e he hb))
   obtain ⟨hds, hfr⟩ := hfree u o hU ho
   obtain ⟨d, hd⟩ := Option.isSome_iff_exists.1 hds
   refine wpAny_first ho hsel (fun c a w hq => by rw [hd] at hq; exact hQ d v c a w hq) fuel listed a w (fun j oj hoj hji hun hno => ?_) hr hyv ?_
   ·rcases hfr j oj hoj hji with h2 | h2 | h2
    ·exfalso
     unfold waits at h2
     rw [Array.any_eq_true'] at h2
     obtain ⟨e, he, h3⟩ := h2
     simp only [Bool.and_eq_true, beq_iff_eq] at h3
     exact hno e he h3.2 h3.1
    ·exfalso
     unfold waits at h2
     rw [Array.any_eq_true'] at h2
     obtain ⟨e, he, h3⟩ := h2
     simp only [Bool.and_eq_true, beq_iff_eq] at h3
     have h4 := hal e he h3.2
     rw [h3.1] at h4
     have hjl : j < listed.size := by rw [hs]; exact (Array.getElem?_eq_some_iff.1 hoj).1
     simp [hjl] at h4 hun
     rw [h4] at hun; cases hun
    ·exact h2
   ·exact ih _ _ _ (by simp [hs]) (by
     rw [Array.toList_setIfInBounds, List.countP_set (by simpa using hil)]
     have hc' : listed.countP (fun b => !b) = fuel + 1 := by simpa using hc
     simp [hil] at h0
     simp [h0]
     omega) (fun j hj => by rw [Go.getD_set_ne false (by omega)]; exact hno j hj) (h.step hsh hF hS (fun j v w h1 h2 => hD j v w h1 h2) ho hf (Below.refl _ _) (fun hd => by rw [hDu] at hd; cases hd) hal hil)
  by_cases hall : ∀ j, j < k → listed.getD j false = true
  ·refine wpAny_tail (a0 := a0) (U := U) hsh hlate hgd (fuel + 1) k listed a w (Nat.le_refl _) hs hc (fun j hj => ?_) hk ?_
   ·by_cases h1 : j < k
    ·rw [hall j h1, decide_eq_true h1]
    ·rw [hno j (by omega), decide_eq_false h1]
   ·exact hfin a w (fun i d hik hd => h.i.fact i d hd (hall i hik)) (fun i j d e hik hjk hij h1 h2 h3 h4 => h.df i j d e hij h1 h2 (hall i hik) (hall j hjk) h3 h4) h.i.same
     (fun t ht => h.un t fun i hl hi => ht i (by rcases Nat.lt_or_ge i k with h1 | h1; exact h1; rw [hno i h1] at hl; cases hl) hi) h.i.s
  ·refine ⟨fun hr => ?_, fun i hi => ?_⟩
   ·exfalso
    refine hall fun j hj => ready_nil hsh.back hs hr j (by omega)
   obtain ⟨h0, o, ho, hal⟩ := mem_ready.1 hi
   have hin : i < ops.size := (Array.getElem?_eq_some_iff.1 ho).1
   have hil : i < listed.size := by omega
   have hik : i < k := by
    rcases Nat.lt_or_ge i k with h1 | h1
    ·exact h1
    ·exfalso
     have hnU : ∀ j, j < k → U j = false → listed.getD j false = true := fun j hj hUj => all_before (U := U) (hlate i h1 hin).1 (hlate i h1 hin).2 h.cl (fun o' ho' => by rw [ho] at ho'; cases ho'; exact hal) (i - j - 1) j (by omega) hUj
     refine hall fun j => ?_
     induction j using Nat.strongRecOn with
     | _ j ihj =>
      intro hj
      cases hUj : U j with
      | false => exact hnU j hj hUj
      | true =>
       cases hlj : listed.getD j false with
       | true => rfl
       | false =>
        exfalso
        have hjn : j < ops.size := by omega
        have hjl : j < listed.size := by omega
        refine hu ⟨j, hUj, mem_ready.2 ⟨by simp [hjl] at hlj ⊢; exact hlj, ops[j], Array.getElem?_eq_getElem hjn, fun e he hb => ?_⟩⟩
        have := hsh.back j _ (Array.getElem?_eq_getElem hjn) e he hb
        exact ihj e.on this (by omega)
   have hst0 : StepD P ops md F S D a0 Q i o := by
    rcases hstep i o hik ho with ⟨_, h1⟩ | ⟨h1, _⟩
    ·exact h1
    ·exact absurd ⟨i, h1, hi⟩ hu
   have hst := hst0 a w h.i.s h.i.same (fun e he hb d hd => h.i.fact e.on d hd (hal e he hb))
   have hnext : ∀ v w', F i v w' → Below w.heap.size w w' → (D i = true → v = .pointer (some ⟨w.heap.size, 0, none⟩)) → wpAny P md ops Q fuel (listed.setIfInBounds i true) (a.put o.dst v) w' := fun v w' hf hb hdi => by
    refine ih _ _ _ (by simp [hs]) ?_ (fun j hj => by rw [Go.getD_set_ne false (by omega)]; exact hno j hj) (h.step hsh hF hS (fun j v w h1 h2 => hD j v w h1 h2) ho hf hb hdi hal hil)
    rw [Array.toList_setIfInBounds, List.countP_set (by simpa using hil)]
    have hc' : listed.countP (fun b => !b) = fuel + 1 := by simpa using hc
    simp [hil] at h0
    simp [h0]
    omega
   refine wpOp_step ho fun K hK => ?_
   by_cases hw : Region.wanted o (yielded ops a.tmps) = true
   ·rw [if_pos hw] at hst ⊢
    exact Oper.wp_mono (fun a' w' ⟨v, he, hf, hb, hd⟩ => by subst he; exact hK _ _ (hnext v w' hf hb hd)) hst
   ·rw [if_neg hw] at hst ⊢
    exact hK _ _ (hnext _ _ hst.1 (Below.refl _ _) (fun hd => by rw [hst.2] at hd; cases hd))
def AllStepsD (P : Program) (ops : Array Oper) (K : Nat) (md : Region.Mode) (F : Nat → Value → World → Prop) (S : World → Prop) (D U : Nat → Bool) (a0 : Act) (Q : Exit → Act → World → Prop) : Nat → List Oper → Prop
 | _, [] => True
 | k, o :: r => ((U k = false ∧ StepD P ops md F S D a0 Q k o) ∨ (U k = true ∧ D k = false ∧ StepY P ops K md F S a0 k o)) ∧ AllStepsD P ops K md F S D U a0 Q (k + 1) r
theorem AllStepsD.get {K : Nat} : ∀ (l : List Oper) (k : Nat), AllStepsD P ops K md F S D U a0 Q k l → ∀ j o, l[j]? = some o → (U (k + j) = false ∧ StepD P ops md F S D a0 Q (k + j) o) ∨ (U (k + j) = true ∧ D (k + j) = false ∧ StepY P ops K md F S a0 (k + j) o)
 | [], _, _, j, o, h => by cases h
 | p :: r, k, h, 0, o, ho => by cases ho; exact h.1
 | p :: r, k, h, j + 1, o, ho => by
  have := AllStepsD.get r (k + 1) h.2 j o ho
  rwa [show k + (j + 1) = k + 1 + j by omega]
theorem ready_first (hb : ∀ i o, ops[i]? = some o → ∀ e ∈ o.after, Region.binds md e = true → e.on < i) {i : Nat} {listed : Array Bool} (hin : i < ops.size) (hs : listed.size = ops.size) (hl : ∀ j, j < ops.size → listed.getD j false = decide (j < i)) :
  ∃ r, Region.ready md ops listed = i :: r := by
 have hsplit : List.range ops.size = List.range i ++ i :: (List.range' (i + 1) (ops.size - i - 1)) := by
  have h1 : List.range ops.size = List.range' 0 i ++ List.range' i (ops.size - i) := by
   have h := List.range'_append_1 (s := 0) (m := i) (n := ops.size - i)
   rw [Nat.zero_add, show i + (ops.size - i) = ops.size by omega] at h
   rw [List.range_eq_range', h]
  have h2 : ops.size - i = (ops.size - i - 1) + 1 := by omega
  rw [h1, List.range_eq_range', h2, List.range'_succ]
  simp
 unfold Region.ready
 rw [hsplit, List.filter_append]
 have h0 : (List.range i).filter (fun i => !listed.getD i true && ((ops[i]?).map (·.after.all fun e => !Region.binds md e || listed.getD e.on false)).getD false) = [] := by
  rw [List.filter_eq_nil_iff]
  intro j hj
  have hj' := List.mem_range.1 hj
  have h3 := hl j (by omega)
  have hjl : j < listed.size := by omega
  simp [hjl] at h3 ⊢
  rw [h3, decide_eq_true hj']
  simp
 rw [h0, List.nil_append, List.filter_cons_of_pos]
 ·exact ⟨_, rfl⟩
 ·have h3 := hl i hin
  have hil : i < listed.size := by omega
  have hoi : ops[i]? = some ops[i] := Array.getElem?_eq_getElem hin
  rw [hoi]
  simp [hil] at h3 ⊢
  rw [h3]
  refine ⟨by simp, fun j hj => ?_⟩
  cases hbi : Region.binds md ops[i].after[j] with
  | false => exact .inl rfl
  | true =>
   have h4 := hb i _ hoi _ (Array.getElem_mem hj) hbi
   have h5 := hl (ops[i].after[j]).on (by omega)
   rw [decide_eq_true h4] at h5
   refine .inr ?_
   rw [← h5]
   simp [Array.getD_eq_getD_getElem?]
theorem linearise_text (hb : ∀ i o, ops[i]? = some o → ∀ e ∈ o.after, Region.binds md e = true → e.on < i) : ∀ (fuel i : Nat) (listed : Array Bool), i + fuel = ops.size → listed.size = ops.size → (∀ j, j < ops.size → listed.getD j false = decide (j < i)) →
  Region.linearise.go md ops fuel 0 listed [] = List.range' i fuel := by
 intro fuel
 induction fuel with
 | zero => intro i listed _ _ _; rfl
 | succ fuel ih =>
  intro i listed hi hs hl
  obtain ⟨r, hr⟩ := ready_first hb (by omega) hs hl
  simp only [Region.linearise.go]
  change (match (Region.ready md ops listed)[0 % (Region.ready md ops listed).length]? with
   | some i => Region.linearise.go md ops fuel (0 / (Region.ready md ops listed).length) (listed.setIfInBounds i true) [i]
   | none => [].reverse) = _
  rw [hr]
  simp only [Nat.zero_mod, Nat.zero_div, List.getElem?_cons_zero]
  rw [linearise_go_acc, List.reverse_singleton, List.singleton_append, List.range'_succ, ih (i + 1) _ (by omega) (by simp [hs]) (fun m hm => ?_)]
  by_cases him : i = m
  ·subst him
   rw [decide_eq_true (show i < i + 1 by omega)]
   have hil : i < listed.size := by omega
   simp [hil]
  ·rw [Go.getD_set_ne false him, hl m hm]
   by_cases h : m < i
   ·rw [decide_eq_true h, decide_eq_true (by omega)]
   ·rw [decide_eq_false h, decide_eq_false (by omega)]
theorem wp_region_fx {id : Nat} {draw : Bool} {w : World} (k : Nat) (F : Nat → Value → World → Prop) (S : World → Prop) (D U : Nat → Bool) (hm : P.follows .mixedOrders = true) (hsh : shapeB ops .any a0.tmps.size = true) (hk : decide (k ≤ ops.size) = true) (htl : tailB .any U ops k = true) (hQ : ∀ (d : Tmp) v c a w, Q (.panic c) (a.put (some d) v) w → Q (.panic c) a w)
  (hF : ∀ i v w w', F i v w → Below w.heap.size w w' → F i v w') (hS : ∀ w w', S w → Below w.heap.size w w' → S w') (hD : ∀ j v w, D j = true → F j v w → ∃ q, v = .pointer (some ⟨q, 0, none⟩) ∧ q < w.heap.size) (hS0 : S w)
  (hstep : AllStepsD P ops k .any F S D U a0 Q 0 (ops.toList.take k)) (ds : List (Option Tmp)) (hds : (ops.toList.take k).map (·.dst) = ds)
  (hfin : ∀ (v : Nat → Value) w, (∀ i d, i < k → dstOf ops i = some d → F i (v i) w) → (∀ i j d e, i < k → j < k → i ≠ j → D i = true → D j = true → dstOf ops i = some d → dstOf ops j = some e → v i ≠ v j) → S w → tailWp P Q (ops.toList.drop k) (putV a0 v 0 ds) w) : (Code.region id ops draw).wp P Q a0 w := by
 subst hds
 have hk' := of_decide_eq_true hk
 have hshp := shape_of hsh
 unfold tailB at htl
 rw [Bool.and_eq_true, Bool.and_eq_true] at htl
 obtain ⟨⟨hns, hfb⟩, htl⟩ := htl
 have htl' : ∀ i o, k ≤ i → ops[i]? = some o → U i = false ∧ lateB .any U ops i = true ∧ o.guard = none := fun i o hi ho => by
  rw [List.all_eq_true] at htl
  have h1 := htl i (List.mem_range.2 (Array.getElem?_eq_some_iff.1 ho).1)
  rw [ho] at h1
  simp only [Bool.or_eq_true, decide_eq_true_eq, Bool.and_eq_true, Option.isNone_iff_eq_none, Bool.not_eq_true'] at h1
  rcases h1 with h1 | h1
  ·omega
  ·exact ⟨h1.1.1, h1.1.2, h1.2⟩
 have hfree : ∀ i oi, U i = true → ops[i]? = some oi → oi.dst.isSome = true ∧ ∀ j oj, ops[j]? = some oj → j ≠ i → waits .any oj i = true ∨ waits .any oi j = true ∨ oi.apart ops oj = true := fun i oi hU ho => by
  unfold freeB at hfb
  rw [List.all_eq_true] at hfb
  have h1 := hfb i (List.mem_range.2 (Array.getElem?_eq_some_iff.1 ho).1)
  rw [ho, hU] at h1
  simp only [Bool.not_true, Bool.false_or, Bool.and_eq_true, List.all_eq_true, List.mem_range] at h1
  refine ⟨h1.1, fun j oj hj hne => ?_⟩
  have h2 := h1.2 j (Array.getElem?_eq_some_iff.1 hj).1
  rw [hj] at h2
  simp only [Bool.or_eq_true, beq_iff_eq] at h2
  rcases h2 with h2 | (h2 | h2) | h2
  ·exact absurd h2 hne
  ·exact .inl h2
  ·exact .inr (.inl h2)
  ·exact .inr (.inr h2)
 have main : ∀ w, S w → wpAny P .any ops Q ops.size (Array.replicate ops.size false) a0 w := fun w hS0 => by
  refine wpAny_fx (a0 := a0) (F := F) (S := S) (D := D) (U := U) (k := k) hk' hshp (Region.noSelect_spec hns) hfree hQ (fun i h1 h2 => ⟨(htl' i _ h1 (Array.getElem?_eq_getElem h2)).1, (htl' i _ h1 (Array.getElem?_eq_getElem h2)).2.1⟩) (fun i o h1 h2 => (htl' i o h1 h2).2.2) hF hS hD (fun i o hik ho => ?_) (fun a w hk0 hdf hsm hun hs => ?_) _ _ _ _ (by simp) ?_ (fun j _ => ?_)
   ⟨⟨hS0, ⟨rfl, rfl, fun _ _ => rfl⟩, fun i d _ hl => ?_⟩, fun i o hl => ?_, fun i j d e _ _ _ hl => ?_, fun _ _ => rfl⟩
  ·have := AllStepsD.get _ _ hstep i o (by rw [List.getElem?_take_of_lt hik]; simpa using ho)
   rwa [Nat.zero_add] at this
  ·have hex : ∀ i, ∃ v, i < k → ∀ d, dstOf ops i = some d → a.tmps[d]? = some v ∧ F i v w := fun i => by
    cases hd : dstOf ops i with
    | none => exact ⟨undef, fun _ d h => by cases h⟩
    | some d =>
     by_cases hik : i < k
     ·obtain ⟨v, h1, h2⟩ := hk0 i d hik hd; exact ⟨v, fun _ e he => by cases he; exact ⟨h1, h2⟩⟩
     ·exact ⟨undef, fun h => absurd h hik⟩
   obtain ⟨v, hv⟩ := Classical.axiomOfChoice hex
   have hl : ∀ j : Nat, j < k → ((ops.toList.take k).map (fun o : Oper => o.dst))[j]? = (ops[j]?).map (fun o : Oper => o.dst) := fun j hj => by rw [List.getElem?_map, List.getElem?_take_of_lt hj, Array.getElem?_toList]
   have e : putV a0 v 0 ((ops.toList.take k).map (·.dst)) = a := by
    refine putV_eq a v _ 0 a0 hsm.2.1.symm hsm.1.symm (fun j d hj => ?_) (fun t ht => (hun t fun i hik hi => ht i ?_).symm)
    ·have hjk : j < k := by
      rcases Nat.lt_or_ge j k with h1 | h1
      ·exact h1
      ·rw [List.getElem?_map, List.getElem?_eq_none (by simp; omega)] at hj; cases hj
     rw [hl j hjk] at hj
     rw [Nat.zero_add]
     refine (hv j hjk d ?_).1
     unfold dstOf
     cases ho : ops[j]? with
     | none => rw [ho] at hj; cases hj
     | some o => rw [ho] at hj; simpa using hj
    ·rw [hl i hik]
     unfold dstOf at hi
     cases ho : ops[i]? with
     | none => rw [ho] at hi; cases hi
     | some o => rw [ho] at hi; simpa using hi
   have h9 := hfin v w (fun i d hik hd => (hv i hik d hd).2) (fun i j d e hik hjk hij h1 h2 h3 h4 heq => hdf i j d e hik hjk hij h1 h2 h3 h4 (by rw [(hv i hik d h3).1, (hv j hjk e h4).1, heq])) hs
   rw [e] at h9
   exact h9
  ·rw [Array.toList_replicate, List.countP_replicate]; rfl
  ·simp only [Array.getD_eq_getD_getElem?, Array.getElem?_replicate]
   split <;> rfl
  ·simp [Array.getElem?_replicate] at hl
   split at hl <;> simp at hl
  ·simp [Array.getElem?_replicate] at hl
   split at hl <;> simp at hl
  ·simp [Array.getElem?_replicate] at hl
   split at hl <;> simp at hl
 cases draw with
 | true => exact wp_region_any hm (main _ (hS _ _ hS0 (Below.refl _ _).drew))
 | false =>
  refine wp_region ?_
  have h1 := wpAny_sound ops.size 0 _ a0 w (main w hS0)
  rw [linearise_text hshp.back ops.size 0 _ (by omega) (by simp) (fun j _ => by simp only [Array.getD_eq_getD_getElem?, Array.getElem?_replicate]; split <;> rfl)] at h1
  rw [List.range_eq_range']
  exact h1
end
end
end Go.Proofs.YtghgcbedajaldaaGreat
