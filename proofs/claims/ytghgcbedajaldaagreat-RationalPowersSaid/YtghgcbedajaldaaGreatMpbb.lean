/-  Qd Qb  -/
import Derived.Test.YtghgcbedajaldaaGreatMpaw
import Derived.Test.YtghgcbedajaldaaGreatMpba
/-  Fractions: the floor of n/d, for a d above 0.  -/
namespace Go.Proofs.YtghgcbedajaldaaGreat
section
open Go.RowKit Digs
theorem BX.set {p : Nat} {u v x y : Value} {z z' : Int} {W : World} (h : BX p u v z W) (hz : IntV W (.agg #[x, y]) z') : BX p x y z' ((W.setCell ⟨p, 0, none⟩ x).setCell ⟨p, 1, none⟩ y) := by
 obtain ⟨_, _, _, _, rfl, rfl, _⟩ := h.iv.parts
 have e1 : (W.setCell ⟨p, 0, none⟩ x).cell? ⟨p, 1, none⟩ = W.cell? ⟨p, 1, none⟩ := World.cell?_setCell_other _ _ _ _ (by simp)
 refine ⟨?_, World.cell?_setCell_same _ _ _ (e1.trans h.c1), by simpa using h.f0, by simpa using h.f1, hz.st2 h.c0 h.c1 (by intro n h; cases h) (by intro n h; cases h) _ _⟩
 rw [World.cell?_setCell_other _ _ _ _ (by simp)]
 exact World.cell?_setCell_same _ _ _ h.c0
theorem BX.oth {p q : Nat} {u v u' v' : Value} {z z' : Int} {W : World} (h : BX p u v z W) (hq : BX q u' v' z' W) (hne : p ≠ q) (x y : Value) : BX p u v z ((W.setCell ⟨q, 0, none⟩ x).setCell ⟨q, 1, none⟩ y) := by
 obtain ⟨_, _, _, _, rfl, rfl, _⟩ := hq.iv.parts
 refine ⟨?_, ?_, by simpa using h.f0, by simpa using h.f1, h.iv.st2 hq.c0 hq.c1 (by intro n h; cases h) (by intro n h; cases h) _ _⟩
 ·rw [World.cell?_setCell_other _ _ _ _ (by simp <;> omega), World.cell?_setCell_other _ _ _ _ (by simp <;> omega)]; exact h.c0
 ·rw [World.cell?_setCell_other _ _ _ _ (by simp <;> omega), World.cell?_setCell_other _ _ _ _ (by simp <;> omega)]; exact h.c1
theorem IntV.other {v u' v' : Value} {q : Nat} {z z' : Int} {W : World} (h : IntV W v z) (hq : BX q u' v' z' W) (x y : Value) : IntV ((W.setCell ⟨q, 0, none⟩ x).setCell ⟨q, 1, none⟩ y) v z := by
 obtain ⟨_, _, _, _, rfl, rfl, _⟩ := hq.iv.parts
 exact h.st2 hq.c0 hq.c1 (by intro n h; cases h) (by intro n h; cases h) _ _
theorem Kept.store {S : Nat → Prop} {q : Nat} {u' v' : Value} {z' : Int} {W : World} (hq : BX q u' v' z' W) (hs : ¬ S q) (x y : Value) : Kept S W ((W.setCell ⟨q, 0, none⟩ x).setCell ⟨q, 1, none⟩ y) := by
 obtain ⟨_, _, _, _, rfl, rfl, _⟩ := hq.iv.parts
 exact (Kept.setCell hq.c0 (NI.bool _) hs x).trans (Kept.setCell (u := .slice _ _ _) (by rw [World.cell?_setCell_other _ _ _ _ (by simp)]; exact hq.c1) (NI.slice _ _ _) hs y)
theorem BX.ku {p : Nat} {u v : Value} {z : Int} {A C : World} (h : BX p u v z A) (hk : KU A C) (hs : A.heap.size ≤ C.heap.size) (hb : C.heap[p]? = A.heap[p]?) : BX p u v z C :=
 ⟨(World.cell?_of_block (a := ⟨p, 0, none⟩) hb).trans h.c0, (World.cell?_of_block (a := ⟨p, 1, none⟩) hb).trans h.c1, (World.frozen?_of_block (a := ⟨p, 0, none⟩) hb).trans h.f0, (World.frozen?_of_block (a := ⟨p, 1, none⟩) hb).trans h.f1, h.iv.ku hk hs⟩
theorem lenle {x y : Int} {k : Nat} (h : x.natAbs ≤ y.natAbs) (hy : len y ≤ k) : len x ≤ k := by
 unfold len at *
 exact Nat.le_trans (digs_length_mono (by decide) h) hy
theorem tdiv_len {x y : Int} {k : Nat} (hx : len x ≤ k) : len (x.tdiv y) ≤ k   := lenle (by rw [Int.natAbs_tdiv]; exact Nat.div_le_self _ _) hx
theorem tmod_len {x y : Int} {k : Nat} (hx : len x ≤ k) : len (x.tmod y) ≤ k   := lenle (by rw [Int.natAbs_tmod]; exact Nat.mod_le _ _) hx
theorem one_len : len 1 ≤ 1000000 := by
 unfold len
 rw [show Int.natAbs 1 = 1 from rfl, digs_pos (by decide) (by decide)]
 simp [digs_zero]
theorem floor_t (n d : Int) (hd : 0 < d) : (n.tmod d < 0 → n / d = n.tdiv d - 1 ∧ n % d = n.tmod d + d) ∧ (¬ n.tmod d < 0 → n / d = n.tdiv d ∧ n % d = n.tmod d) := by
 have h1 := Int.mul_tdiv_add_tmod n d
 have h5 : (n.tmod d).natAbs < d.natAbs := by rw [Int.natAbs_tmod]; exact Nat.mod_lt _ (by omega)
 refine ⟨fun h => (Int.ediv_emod_unique hd).2 ⟨?_, by omega, by omega⟩, fun h => (Int.ediv_emod_unique hd).2 ⟨by omega, by omega, by omega⟩⟩
 have : d * (n.tdiv d - 1) = d * n.tdiv d - d := by grind
 omega
def FlPost (w : World) (q r : Int) (e : Ending) (w' : World) : Prop := ∃ vq vr, e = .returned (.tuple #[vq, vr]) ∧ IntV w' vq q ∧ IntV w' vr r ∧ Below w.heap.size w w'
structure FB (w : World) (n d q r : Int) (a b c e x y x' y' : Value) (W : World) : Prop where
 nb : BX w.heap.size a b n W
 db : BX (w.heap.size + 1) c e d W
 qb : BX (w.heap.size + 1 + 1) x y q W
 rb : BX (w.heap.size + 1 + 1 + 1) x' y' r W
 below : Below w.heap.size w W
theorem FB.keep {w : World} {n d q r : Int} {a b c e x y x' y' : Value} {W W' : World} (h : FB w n d q r a b c e x y x' y' W) (hb : Below W.heap.size W W') : FB w n d q r a b c e x y x' y' W' := by
 obtain ⟨h1, h2, h3, h4, h5⟩ := h
 exact ⟨h1.keep hb, h2.keep hb, h3.keep hb, h4.keep hb, h5.trans (hb.mono h5.size)⟩
theorem FB.made {w : World} {n d : Int} {a b c e : Value} {t : TypeId} {W : World} (h1 : IntV w (.agg #[a, b]) n) (h2 : IntV w (.agg #[c, e]) d)
    (h : Below ((((w.alloc (.cells #[a, b] t)).alloc (.cells #[c, e] t)).alloc (.cells #[.bool false, .slice none 0 0] t)).alloc (.cells #[.bool false, .slice none 0 0] t)).heap.size
      ((((w.alloc (.cells #[a, b] t)).alloc (.cells #[c, e] t)).alloc (.cells #[.bool false, .slice none 0 0] t)).alloc (.cells #[.bool false, .slice none 0 0] t)) W) : FB w n d 0 0 a b c e (.bool false) (.slice none 0 0) (.bool false) (.slice none 0 0) W := by
  have al : ∀ (A : World) (o : Obj), Below A.heap.size A (A.alloc o) := fun A o => (Below.refl _ _).alloc (Nat.le_refl _) _
  have b1 : BX w.heap.size a b n (w.alloc (.cells #[a, b] t)) := BX.made h1
  have b2 : BX (w.heap.size + 1) c e d ((w.alloc (.cells #[a, b] t)).alloc (.cells #[c, e] t)) := by
    have := BX.made (t := t) (h2.keep (al w (.cells #[a, b] t)))
    rwa [World.size_alloc] at this
  have b3 : BX (w.heap.size + 1 + 1) (.bool false) (.slice none 0 0) 0 (((w.alloc (.cells #[a, b] t)).alloc (.cells #[c, e] t)).alloc (.cells #[.bool false, .slice none 0 0] t)) := by
    have := BX.made (t := t) (IntV.nil0 ((w.alloc (.cells #[a, b] t)).alloc (.cells #[c, e] t)))
    rwa [World.size_alloc, World.size_alloc] at this
  have b4 := BX.made (t := t) (IntV.nil0 (((w.alloc (.cells #[a, b] t)).alloc (.cells #[c, e] t)).alloc (.cells #[.bool false, .slice none 0 0] t)))
  rw [World.size_alloc, World.size_alloc, World.size_alloc] at b4
  exact ⟨(((b1.keep (al _ _)).keep (al _ _)).keep (al _ _)).keep h, ((b2.keep (al _ _)).keep (al _ _)).keep h, (b3.keep (al _ _)).keep h, b4.keep h,
    ((((Below.refl w.heap.size w).alloc (Nat.le_refl _) _).alloc (by simp) _).alloc (by simp; omega) _).alloc (by simp; omega) _ |>.trans (h.mono (by simp; omega))⟩
theorem FB.stored {w W : World} {n d q r q' r' : Int} {a b c e x0 y0 x1 y1 x y x' y' : Value} (h : FB w n d q r a b c e x0 y0 x1 y1 W) (h1 : IntV W (.agg #[x, y]) q') (h2 : IntV W (.agg #[x', y']) r') :
    FB w n d q' r' a b c e x y x' y' ((((W.setCell ⟨w.heap.size + 1 + 1, 0, none⟩ x).setCell ⟨w.heap.size + 1 + 1, 1, none⟩ y).setCell ⟨w.heap.size + 1 + 1 + 1, 0, none⟩ x').setCell ⟨w.heap.size + 1 + 1 + 1, 1, none⟩ y') := by
  obtain ⟨g1, g2, g3, g4, g5⟩ := h
  have k4 := g4.oth g3 (by omega) x y
  exact ⟨(g1.oth g3 (by omega) _ _).oth k4 (by omega) _ _, (g2.oth g3 (by omega) _ _).oth k4 (by omega) _ _, (g3.set h1).oth k4 (by omega) _ _, k4.set (h2.other g3 _ _),
    (((g5.setCell (by simp; omega) _).setCell (by simp; omega) _).setCell (by simp; omega) _).setCell (by simp; omega) _⟩

set_option maxHeartbeats 4000000 in
set_option maxRecDepth 100000 in
theorem floor_any (n d : Int) (vn vd : Value) (w : World) (hd0 : 0 < d) (hn : len n ≤ 900000) (hd : len d ≤ 900000) (h1 : IntV w vn n) (h2 : IntV w vd d) :
  Calls Tryz.prog 100 #[vn, vd] w (FlPost w (n / d) (n % d)) := by
 obtain ⟨p1, ad1, n1, c1, rfl⟩ := intv_shape h1
 obtain ⟨p2, ad2, n2, c2, rfl⟩ := intv_shape h2
 have hn' : len n ≤ 1000000 := by omega
 have hd' : len d ≤ 1000000 := by omega
 have HD := Lib.hid fun W hw => Lib.hid (show Calls Tryz.prog 139 _ W (DivR W (n.tdiv d) (n.tmod d) 0) from by
  have := Divide_all n d _ _ W hn' hd' (h1.keep (w' := W) hw) (h2.keep hw)
  rwa [dvq_tdiv, show dvr n d = n.tmod d from by unfold dvr; rw [if_neg (by omega)], show dvc d = 0 from by unfold dvc; rw [if_neg (by omega)]] at this)
 have HS := Lib.hid fun W u h => Lib.hid (sign_any (n.tmod d) u W (tmod_len hn') h)
 have hft := floor_t n d hd0
 have HO := Lib.hid fun W => Lib.hid (one_any W)
 have HSB := Lib.hid fun W u v h h' => Lib.hid (Sub_any (n.tdiv d) 1 u v W (tdiv_len hn') one_len h h')
 have HAD := Lib.hid fun W u v h h' => Lib.hid (Add_any (n.tmod d) d u v W (tmod_len hn') hd' h h')
 have H1 := Lib.hid h1
 have H2 := Lib.hid h2
 have hsg : sgnZ (n.tmod d) < 0 ↔ n.tmod d < 0 := by unfold sgnZ; split <;> (try split) <;> omega
 clear h1 h2 hn hd hn' hd' hd0
 generalize n / d = fq at *
 generalize n % d = fr at *
 generalize n.tdiv d = tq at *
 generalize n.tmod d = tr at *
 generalize sgnZ tr = st at *
 go_enter Tryz.func100, Tryz.ntmps100
 have HB0 := Lib.hid (fun W h => FB.made (w := w) (t := 31) (W := W) H1.out H2.out h)
 go_wp2_with fail
 (with_reducible refine (HD.out _ (HB0.out _ (Below.refl _ _)).below).out.mono ?_)
 rintro e w1 ⟨vq, vr, rfl, hq, hr, hb⟩
 obtain ⟨p3, ad3, n3, c3, rfl⟩ := intv_shape hq
 obtain ⟨p4, ad4, n4, c4, rfl⟩ := intv_shape hr
 have F1 := Lib.hid (HB0.out _ hb)
 have F2 := Lib.hid (F1.out.stored hq hr)
 have HQ := Lib.hid hq
 have HR := Lib.hid hr
 obtain ⟨x0, x1, x2, x3, _⟩ := F1.out.qb
 obtain ⟨y0, y1, y2, y3, _⟩ := F1.out.rb
 clear hq hr hb HB0
 go_wp2_with fail
 (with_reducible refine (HS.out _ _ F2.out.rb.iv).out.mono ?_)
 rintro e w2 ⟨rfl, hb2⟩
 have F3 := Lib.hid (F2.out.keep hb2)
 clear x0 x1 x2 x3 y0 y1 y2 y3 hb2 F1 F2 HQ HR
 obtain ⟨s0, s1, _, _, _⟩ := F3.out.db
 obtain ⟨x0, x1, x2, x3, _⟩ := F3.out.qb
 obtain ⟨y0, y1, y2, y3, _⟩ := F3.out.rb
 have hn1 : w.heap.size + 1 ≠ w.heap.size + 1 + 1 := by omega
 have hn2 : w.heap.size + 1 ≠ w.heap.size + 1 + 1 + 1 := by omega
 by_cases hneg : tr < 0
 ·obtain ⟨e1, e2⟩ := hft.1 hneg
  have hst := hsg.2 hneg
  clear hft hsg
  clear x0 x1 x2 x3 y0 y1 y2 y3 s0 s1
  go_upto_region 3 with fail
  go_cut [] from 16 to 22 (fun wx => ∃ p5 ad5 n5 c5 p6 ad6 n6 c6, FB w n d fq fr (.bool p1) (.slice ad1 n1 c1) (.bool p2) (.slice ad2 n2 c2) (.bool p5) (.slice ad5 n5 c5) (.bool p6) (.slice ad6 n6 c6) wx)
  case first =>
   have hR0 := F3.out.keep ((Below.refl _ _).drew)
   obtain ⟨s0, s1, _, _, _⟩ := hR0.db
   obtain ⟨x0, x1, x2, x3, _⟩ := hR0.qb
   obtain ⟨y0, y1, y2, y3, _⟩ := hR0.rb
   clear H1 H2 HD HS F3
   go_region_with
    (first
    | (go_at_call 90; (with_reducible refine (HO.out _).out.mono ?_); rintro e wA ⟨vA, rfl, hiA, hbA⟩; have hR1 := hR0.keep hbA; obtain ⟨s0, s1, _, _, _⟩ := hR1.db; obtain ⟨x0, x1, x2, x3, _⟩ := hR1.qb; obtain ⟨y0, y1, y2, y3, _⟩ := hR1.rb; clear hbA)
    | (go_at_call 142; (with_reducible refine (HSB.out _ _ _ hR1.qb.iv hiA).out.mono ?_); rintro e wB ⟨vB, rfl, hiB, hbB⟩; have hR2 := hR1.keep hbB; obtain ⟨s0, s1, _, _, _⟩ := hR2.db; obtain ⟨x0, x1, x2, x3, _⟩ := hR2.qb; obtain ⟨y0, y1, y2, y3, _⟩ := hR2.rb; clear hbB hiA)
    | (go_at_call 99; (with_reducible refine (HAD.out _ _ _ hR2.rb.iv hR2.db.iv).out.mono ?_); rintro e wC ⟨vC, rfl, hiC, hbC⟩; have hR3 := hR2.keep hbC; have hiB3 := hiB.keep hbC; obtain ⟨p5, ad5, n5, c5, rfl⟩ := intv_shape hiB3; obtain ⟨p6, ad6, n6, c6, rfl⟩ := intv_shape hiC; obtain ⟨x0, x1, x2, x3, _⟩ := hR3.qb; obtain ⟨y0, y1, y2, y3, _⟩ := hR3.rb; clear hbC hiB))
   all_goals
    have F5 := Lib.hid (hR3.stored hiB3 hiC)
    go_wp2_with fail
    go_meet
    rw [e1, e2]
    exact ⟨_, _, _, _, _, _, _, _, F5.out⟩
  case rest =>
   obtain ⟨p5, ad5, n5, c5, p6, ad6, n6, c6, F5⟩ := hcut
   obtain ⟨q0, q1, _⟩ := F5.qb
   obtain ⟨r0, r1, _⟩ := F5.rb
   go_wp2_with fail
   refine bodyPost_ret (v := .tuple #[.agg #[.bool p5, .slice ad5 n5 c5], .agg #[.bool p6, .slice ad6 n6 c6]]) (by simp [results, Tryz.results100, go_sem, q0, q1, r0, r1]) rfl ⟨_, _, rfl, F5.qb.iv, F5.rb.iv, F5.below⟩
 ·obtain ⟨e1, e2⟩ := hft.2 (by omega)
  have hst : ¬ st < 0 := fun h => hneg (hsg.1 h)
  clear hft hsg
  subst e1
  subst e2
  have F4 := Lib.hid (F3.out.keep ((Below.refl _ _).drew))
  go_upto_region 4 with fail
  have F5 := Lib.hid (F4.out.stored F4.out.qb.iv F4.out.rb.iv)
  go_region
  all_goals
   go_wp2_with fail
   refine bodyPost_ret (v := .tuple #[.agg #[.bool p3, .slice ad3 n3 c3], .agg #[.bool p4, .slice ad4 n4 c4]]) (by simp [results, Tryz.results100, go_sem, x0, x1, y0, y1]) rfl ⟨_, _, rfl, F5.out.qb.iv, F5.out.rb.iv, F5.out.below⟩
end
end Go.Proofs.YtghgcbedajaldaaGreat
/-  A loop over an iterator that yields numbers of the program, each of which reads where it comes: what the two owe one another, and the law.  -/
namespace Go.Proofs.YtghgcbedajaldaaGreat
section
open Go.RowKit Digs
variable {α β : Type}
structure Host (P : Program) (key : α → β) (encs : α → Array Value) (Rd : α → World → Prop) (Cap : Nat → Prop) (l b : Nat) (T : List β) (J : List β → Nat → Nat → World → Prop) : Prop where
 keep : ∀ zs lo m A C, J zs lo m A → Kept (fun i => i < b ∨ lo ≤ i ∧ i < m) A C → J zs lo m C
 take : ∀ n zs lo m x A, J zs lo m A → zs ++ [key x] <+: T → b ≤ lo → lo ≤ A.heap.size → m ≤ A.heap.size → Rd x A →
  YieldAt Fence.wide n P l (encs x) A fun e C => e = .returned (.bool true) ∧ J (zs ++ [key x]) lo C.heap.size C ∧ Kept (fun i => Cap i ∨ b ≤ i ∧ i < lo ∨ m ≤ i) A C
def Gives (P : Program) (key : α → β) (encs : α → Array Value) (Rd : α → World → Prop) (Cap : Nat → Prop) (g : Nat) (lb : Array Value) (T : List β) (w : World) : Prop :=
 ∀ (W : World) (l : Nat) (J : List β → Nat → Nat → World → Prop), Below w.heap.size w W → Host P key encs Rd Cap l W.heap.size T J → (∀ lo, W.heap.size ≤ lo → J [] lo lo W) →
  CallsIn Fence.wide 20 P g (#[.func (.yield l) #[] #[]] ++ lb) W fun e C => (∃ v, e = .returned v) ∧ ∃ lo m, J T lo m C
theorem Kept.turn {A : World} {l : Nat} {o : Obj} (o' : Obj) (hl : A.heap[l]? = some o) (ho : o.isCells = false) : Kept (fun i => i ≠ l) A (A.putObj l o') :=
 ⟨rfl, rfl, rfl, by simp, fun _ _ h => World.putObj_heap_other h, KU.putObj hl ho⟩
theorem wpIn_rangeFunc_host {P : Program} {g : Operand} {ps : Array Tmp} {assign body : Code} {Q : Exit → Act → World → Prop} {a : Act} {w : World} {gf : Nat} {lb : Array Value} {T : List β} {key : α → β} {encs : α → Array Value} {Rd : α → World → Prop} {Cap : Nat → Prop}
  (hg : a.eval g = .func (.func gf) #[] lb) (eg : ∀ args w, (callFunc gf args).run P w = .ok (.enter gf args) w) (hps : ∀ x, (encs x).size = ps.size) (hCap : ∀ i, Cap i → i < w.heap.size) (hseq : Gives P key encs Rd Cap gf lb T w)
  (I : List β → Nat → Nat → World → Prop)
  (hI : ∀ zs lo m A C, I zs lo m A → Kept (fun i => i < w.heap.size ∨ lo ≤ i ∧ i < m) A C → I zs lo m C)
  (h0 : ∀ lo, w.heap.size + 2 ≤ lo → I [] lo lo w)
  (hround : ∀ (l n : Nat) (zs : List β) (lo m : Nat) (x : α) (A : World), l = w.heap.size + 1 → I zs lo m A → zs ++ [key x] <+: T → w.heap.size + 2 ≤ lo → lo ≤ A.heap.size → lo ≤ m → m ≤ A.heap.size → Rd x A →
   assign.wpIn (Fence.wide.inRound l) n P (Exit.then (fun a₁ w₁ => Kept (fun i => Cap i ∨ w.heap.size ≤ i ∧ i < lo ∨ m ≤ i) A w₁ ∧ ∀ w₂, w₂.heap.size = w₁.heap.size → Kept (fun i => i ≠ l) w₁ w₂ →
    body.wpIn (Fence.wide.inRound l) n P (fun ex _ C => ex = .normal ∧ Kept (fun i => Cap i ∨ w.heap.size ≤ i ∧ i < lo ∨ m ≤ i) w₂ C ∧ I (zs ++ [key x]) lo C.heap.size C) a₁ w₂) (fun _ _ _ => False))
    { tmps := (ps.zip (encs x)).foldl (fun t (p, v) => t.setIfInBounds p v) a.tmps, defers := [] } A)
  (hdone : ∀ (lo m : Nat) (C : World), I T lo m C → C.heap[w.heap.size]? = some (.deferred (some [])) → Q .normal { a with defers := { target := .collected w.heap.size, args := #[] } :: a.defers } C) :
  (Code.rangeFunc g ps assign body).wpIn Fence.wide 21 P Q a w := by
 refine wpIn_rangeFunc fun fn hfn => ?_
 obtain ⟨R, hR⟩ : ∃ R : LoopState → Loop, R = fun st => { state := st, pending := none, fn, tmps := a.tmps, params := ps, assign, body, defers := w.heap.size } := ⟨_, rfl⟩
 obtain ⟨V, hV⟩ : ∃ V, (w.alloc (.deferred (some []))).alloc (.loop (R .ready)) = V := ⟨_, rfl⟩
 have hsz : V.heap.size = w.heap.size + 2 := by rw [← hV]; simp
 have hVb : Below w.heap.size w V := by rw [← hV]; exact ((Below.refl _ w).alloc (Nat.le_refl _) _).alloc (by simp) _
 have hVl : V.heap[w.heap.size + 1]? = some (.loop (R .ready)) := by
  have := World.alloc_heap_new (w.alloc (.deferred (some []))) (.loop (R .ready))
  rwa [World.size_alloc, hV] at this
 have hVd : V.heap[w.heap.size]? = some (.deferred (some [])) := by
  rw [← hV, Below.heap_alloc _ _ _ (by simp)]
  exact World.alloc_heap_new w _
 have hk0 : ∀ S, Kept S w V := fun S => Kept.below hVb
 refine ⟨w.heap.size + 1, [{ target := .collected w.heap.size, args := #[] }], V, { target := .fn (.func gf) lb, args := #[.func (.yield (w.heap.size + 1)) #[] #[]] }, V, gf, #[.func (.yield (w.heap.size + 1)) #[] #[]] ++ lb, V, ?_, ?_, fun _ _ => trivial, ?_, fun _ => by omega, ?_⟩
 ·rw [← hV, hR]; exact run_enterLoop_outer _ _ _ _ _
 ·simp only [resolve, hg]
  simp [go_sem]
 ·simp [invoke, go_sem, eg]
 refine (hseq V (w.heap.size + 1) (fun zs lo m A => I zs lo m A ∧ A.heap[w.heap.size + 1]? = some (.loop (R .ready)) ∧ A.heap[w.heap.size]? = some (.deferred (some [])) ∧ w.heap.size + 2 ≤ lo ∧ lo ≤ m) hVb ⟨?_, ?_⟩ ?_).mono ?_
 ·rintro zs lo m A C ⟨hi, hl, hd, hlo, hlm⟩ hk
  rw [hsz] at hk
  have e1 := (Array.getElem?_eq_some_iff.1 hl).1
  refine ⟨hI zs lo m A C hi (hk.mono fun k _ h => ?_), (hk.blk _ e1 (.inl (by omega))).trans hl, (hk.blk _ (by omega) (.inl (by omega))).trans hd, hlo, hlm⟩
  rcases h with h | h
  ·exact .inl (by omega)
  ·exact .inr h
 ·rintro n zs lo m x A ⟨hi, hl, hd, _, hlm⟩ hlen hlo hloA hmA hz
  rw [hsz] at hlo
  have hy := run_yield (P := P) (args := encs x) hl (by rw [hR]; exact hps x)
  rw [hR] at hy
  refine ⟨fn, _, assign, body, hy, roundIn_of_wpIn hfn (wpIn_mono (hround _ n zs lo m x A rfl hi hlen hlo hloA hlm hmA hz) ?_)⟩
  rintro ex a₁ w₁ hx
  cases ex with
  | normal =>
   obtain ⟨k1, hb⟩ := hx
   have e1 := (Array.getElem?_eq_some_iff.1 hl).1
   have hl1 : w₁.heap[w.heap.size + 1]? = some (.loop (R .ready)) := (k1.blk _ e1 (.inr (.inl ⟨by omega, by omega⟩))).trans hl
   have hd1 : w₁.heap[w.heap.size]? = some (.deferred (some [])) := (k1.blk _ (by omega) (.inr (.inl ⟨by omega, by omega⟩))).trans hd
   have e2 := (Array.getElem?_eq_some_iff.1 hl1).1
   have kt := Kept.turn (.loop (R .busy)) hl1 rfl
   refine ⟨w₁.putObj (w.heap.size + 1) (.loop (R .busy)), by have := run_beginRound (P := P) hl1 (by rw [hR]); rw [hR] at this ⊢; exact this, wpIn_mono (hb _ (by simp) kt) ?_⟩
   rintro ex a₂ C ⟨rfl, k2, hi2⟩
   have hl2 : C.heap[w.heap.size + 1]? = some (.loop (R .busy)) := (k2.blk _ (by simpa using e2) (.inr (.inl ⟨by omega, by omega⟩))).trans (World.putObj_heap_same e2)
   have hd2 : C.heap[w.heap.size]? = some (.deferred (some [])) := (k2.blk _ (by simp; omega) (.inr (.inl ⟨by omega, by omega⟩))).trans ((World.putObj_heap_other (by omega)).trans hd1)
   have e3 := (Array.getElem?_eq_some_iff.1 hl2).1
   have kt2 := Kept.turn (.loop (R .ready)) hl2 rfl
   have hre : (Instr.endRound (w.heap.size + 1) none).run P C = .ok (.bool true) (C.putObj (w.heap.size + 1) (.loop (R .ready))) := by
    have := run_endRound (P := P) none hl2
    rw [hR] at this ⊢
    exact this
   refine ⟨_, _, hre, rfl, ⟨?_, ?_, ?_, hlo, by have q1 := k1.size; have q2 := k2.size; simp only [World.putObj_size] at q2 ⊢; omega⟩, ?_⟩
   ·rw [World.putObj_size]
    refine hI _ _ _ _ _ hi2 (kt2.mono fun k _ h => ?_)
    rcases h with h | h <;> omega
   ·exact World.putObj_heap_same e3
   ·exact (World.putObj_heap_other (by omega)).trans hd2
   ·rw [hsz]
    refine ((k1.mono fun k _ h => ?_).trans ((kt.mono fun k _ h => ?_).trans (k2.mono fun k _ h => ?_))).trans (kt2.mono fun k _ h => ?_)
    all_goals (first | (rcases h with h | h | h; exact .inl h; exact .inr (by omega); exact .inr (by omega)) | (rcases h with h | h | h <;> (first | (have := hCap _ h; omega) | omega)))
  | _ => exact hx.elim
 ·intro lo hlo
  rw [hsz] at hlo
  exact ⟨hI _ _ _ _ _ (h0 lo hlo) (hk0 _), hVl, hVd, hlo, Nat.le_refl _⟩
 ·rintro e C ⟨⟨v, rfl⟩, lo, m, hi, hl, hd, hlo, _⟩
  have kt := Kept.turn (.loop (R .exhausted)) hl rfl
  have hre : (Instr.endLoop (w.heap.size + 1)).run P C = .ok none (C.putObj (w.heap.size + 1) (.loop (R .exhausted))) := by
   have := run_endLoop (P := P) hl (by rw [hR]; simp)
   rw [hR] at this ⊢
   exact this
  refine ⟨none, _, hre, ?_⟩
  refine hdone lo m _ (hI _ _ _ _ _ hi (kt.mono fun k hk h => ?_)) ((World.putObj_heap_other (by omega)).trans hd)
  rcases h with h | h <;> omega
end
end Go.Proofs.YtghgcbedajaldaaGreat
