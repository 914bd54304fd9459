/-  Qh Qi  -/
import Derived.Test.YtghgcbedajaldaaGreatMpbc
/-  slices.Backward over a slice of the program's numbers.  -/
namespace Go.Proofs.YtghgcbedajaldaaGreat
section
open Go.RowKit Go.Shelf Digs
attribute [local go_sem] Oper.semAt_some
def ElAt (w : World) (g : Nat) (zs : List Int) : Prop := ∀ j, j < zs.length → ∃ (p : Bool) (ad : Option Addr) (n c : Nat), w.cell? ⟨g, j * 2, none⟩ = some (.bool p) ∧ w.cell? ⟨g, j * 2 + 1, none⟩ = some (.slice ad n c) ∧ IntV w (.agg #[.bool p, .slice ad n c]) (zs[j]?.getD 0)
theorem ElAt.kept {A C : World} {S : Nat → Prop} {g : Nat} {zs : List Int} (h : ElAt A g zs) (hk : Kept S A C) (hg : g < A.heap.size) (hS : S g) : ElAt C g zs := fun j hj => by
 obtain ⟨p, ad, n, c, h1, h2, h3⟩ := h j hj
 have e := hk.blk g hg hS
 exact ⟨p, ad, n, c, (World.cell?_of_block (a := ⟨g, j * 2, none⟩) e).trans h1, (World.cell?_of_block (a := ⟨g, j * 2 + 1, none⟩) e).trans h2, h3.ku hk.ku hk.size⟩
abbrev GivesB (bx g : Nat) (T : List Int) (w : World) : Prop :=
 Gives Tryz.prog (fun x : Nat × Int × Value => x.2.1) (fun x => #[.int .i64 (x.1 : Int), x.2.2]) (fun x A => IntV A x.2.2 x.2.1) (fun i => i = bx ∨ i = g) 151 #[.pointer (some ⟨bx, 0, none⟩)] T w
theorem bw_take {zs : List Int} {q : Nat} (h1 : q < zs.length) : zs.reverse.take (zs.length - q) = zs.reverse.take (zs.length - (q + 1)) ++ [zs[q]?.getD 0] := by
 rw [show zs.length - q = zs.length - (q + 1) + 1 from by omega, List.take_add_one]
 have e2 : (zs.reverse[zs.length - (q + 1)]?).toList = [zs[q]?.getD 0] := by
  rw [List.getElem?_reverse (by omega), show zs.length - 1 - (zs.length - (q + 1)) = q from by omega, List.getElem?_eq_getElem h1]
  rfl
 rw [e2]
structure BWR (W : World) (J : List Int → Nat → Nat → World → Prop) (bx g : Nat) (zs : List Int) (j m : Nat) (wr : World) : Prop where
 le : j ≤ zs.length
 jj : J (zs.reverse.take (zs.length - j)) W.heap.size m wr
 lm : W.heap.size ≤ m
 mw : m ≤ wr.heap.size
 kp : Kept (fun i => i = bx ∨ i = g) W wr
set_option maxHeartbeats 4000000 in
set_option maxRecDepth 100000 in
theorem backward_gives (bx g cap : Nat) (zs : List Int) (w : World) (hn : zs.length ≤ 1000000) (hc : w.cell? ⟨bx, 0, none⟩ = some (.slice (some ⟨g, 0, none⟩) zs.length cap)) (hel : ElAt w g zs) (hg : g < w.heap.size) (hb : bx < w.heap.size) :
  GivesB bx g zs.reverse w := by
 intro W l J hW hH hJ0
 refine callsIn_wide.2 ?_
 have hWk : Kept (fun _ => True) w W := Kept.below hW
 have HE := Lib.hid (hel.kept hWk hg trivial)
 have hcW := (hW.cell (p := ⟨bx, 0, none⟩) hb).trans hc
 have HH := Lib.hid hH
 have HGW := Lib.hid (And.intro (Nat.lt_of_lt_of_le hg hW.size) (Nat.lt_of_lt_of_le hb hW.size))
 have HC := Lib.hid hcW
 obtain ⟨n, hnn⟩ : ∃ n, zs.length = n := ⟨_, rfl⟩
 have HN := Lib.hid hnn
 have HS : Hid (BWR W J bx g zs n W.heap.size W) := Lib.hid ⟨by omega, by rw [hnn, Nat.sub_self]; exact hJ0 _ (Nat.le_refl _), Nat.le_refl _, Nat.le_refl _, Kept.refl _ _⟩
 rw [hnn] at hcW hn HC
 clear hW hH hJ0 hWk hel hg hb hc hnn
 have hw : IntKind.i64.wrap ((n : Int) - 1) = (n : Int) - 1 := by rw [IntKind.wrap_i64]; omega
 go_enter Tryz.func151, Tryz.ntmps151
 go_wp2_with fail
 go_loopw [3] (fun i wr => ∃ (x : Int) (j m : Nat), i = .int .i64 x ∧ x = (j : Int) - 1 ∧ BWR W J bx g zs j m wr) (fun i _ => (intOf i + 1).toNat)
 case atStart => exact ⟨_, n, _, rfl, rfl, HS.out⟩
 case round =>
  obtain ⟨x, j, m, rfl, hx, hR⟩ := hrel
  have HR := Lib.hid hR
  clear hR hcW hw
  cases j with
  | zero =>
   have hx1 : ¬ (0 : Int) ≤ x := by omega
   have HX := Lib.hid hx
   clear hx
   go_wp2_with fail
   go_end0
   refine ⟨⟨_, rfl⟩, W.heap.size, m, ?_⟩
   have h := HR.out.jj
   rw [Nat.sub_zero, List.take_of_length_le (by rw [List.length_reverse]; exact Nat.le_refl _)] at h
   exact h
  | succ q =>
   obtain rfl : x = (q : Int) := by omega
   clear hx
   have hq : q < zs.length := HR.out.le
   obtain ⟨p, ad, k, c, e0, e1, hz⟩ := (HE.out.kept HR.out.kp HGW.out.1 (.inr rfl)) q hq
   have hcw := (World.cell?_of_block (a := ⟨bx, 0, none⟩) (HR.out.kp.blk bx HGW.out.2 (.inl rfl))).trans HC.out
   have hqn : (q : Int) < (n : Int) := by have := HN.out; omega
   have hq0 : (0 : Int) ≤ (q : Int) := by omega
   have hqq : q < n := by have := HN.out; omega
   have hw : IntKind.i64.wrap ((q : Int) - 1) = (q : Int) - 1 := by rw [IntKind.wrap_i64]; omega
   obtain ⟨fn, tmps, assign, body, hy, hRR⟩ := HH.out.take (20 - 1) _ W.heap.size m (q, zs[q]?.getD 0, .agg #[.bool p, .slice ad k c]) wr HR.out.jj (by rw [← bw_take hq]; exact List.take_prefix _ _) (Nat.le_refl _) (Nat.le_trans HR.out.lm HR.out.mw) HR.out.mw hz
   have HQ := Lib.hid hq
   clear hq hz
   go_upto_region 3 with fail
   refine (wpIn_wide (n := 20)).1 ?_
   gi_wp2
   refine hRR.mono ?_
   rintro e C ⟨rfl, hJ, hk⟩
   have hk2 := HR.out.kp.trans (hk.mono fun i _ h => .inl h)
   have hB : Hid (BWR W J bx g zs q C.heap.size C) := Lib.hid ⟨by have := HQ.out; omega, by
    have e := hJ
    rw [bw_take HQ.out]
    exact e, Nat.le_trans (Nat.le_trans HR.out.lm HR.out.mw) hk.size, Nat.le_refl _, hk2⟩
   clear hJ hk hk2 e0 e1 hcw
   gi_wp2
   go_wp2
   go_roundw
   case rel => exact ⟨_, q, _, rfl, rfl, hB.out⟩
   case measure => simp [intOf]
end
end Go.Proofs.YtghgcbedajaldaaGreat
/-  Contract, for elements whose fractions stay above 0.  -/
namespace Go.Proofs.YtghgcbedajaldaaGreat
section
open Go.RowKit Go.Shelf Digs
attribute [local go_sem] Oper.semAt_some
def cs (s : Int × Int) (t : Int) : Int × Int := (t * s.1 + s.2, s.1)
theorem len_bdq {z : Int} {k : Nat} (h : len z ≤ k) : Bd k z := by
 unfold Bd len at *
 exact Nat.lt_of_lt_of_le (digs_lt_pow (by decide) _) (Nat.pow_le_pow_right (by decide) h)
theorem cell_put {X : World} {r : Nat} {o : Obj} {a : Addr} {u : Value} (h : X.cell? a = some u) (hne : a.block ≠ r) : (X.putObj r o).cell? a = some u :=
 (World.cell?_of_block (World.putObj_heap_other hne)).trans h
theorem RatV.ku {A C : World} {v : Value} {n d : Int} (h : RatV A v n d) (hk : KU A C) (hs : A.heap.size ≤ C.heap.size) : RatV C v n d := by
 obtain ⟨a, b, c, e, he, h1, h2⟩ := h
 exact ⟨a, b, c, e, he, h1.ku hk hs, h2.ku hk hs⟩
theorem con_end {w6 : World} {R D0 : Nat} {x y s t u : Value} {n d : Int} {N : Nat} {w : World} (hz : Z4 R w6) (he : w6.cell? ⟨R + 1, 0, none⟩ = some u) (hu : NI u) (hr : RatV w6 (.agg #[x, y, s, t]) n d)
  (hd : w6.heap[D0]? = some (.deferred (some []))) (hne : R + 1 < D0) (hb : Below N w w6) (hN : N ≤ R) (e0 : Value) :
  let X := ((((w6.setCell ⟨R, 0, none⟩ x).setCell ⟨R, 1, none⟩ y).setCell ⟨R, 2, none⟩ s).setCell ⟨R, 3, none⟩ t).setCell ⟨R + 1, 0, none⟩ e0
  X.heap[D0]? = some (.deferred (some [])) ∧ (∀ o, (X.putObj D0 o).cell? ⟨R, 0, none⟩ = some x ∧ (X.putObj D0 o).cell? ⟨R, 1, none⟩ = some y ∧ (X.putObj D0 o).cell? ⟨R, 2, none⟩ = some s ∧ (X.putObj D0 o).cell? ⟨R, 3, none⟩ = some t ∧ (X.putObj D0 o).cell? ⟨R + 1, 0, none⟩ = some e0 ∧
   RatV (X.putObj D0 o) (.agg #[x, y, s, t]) n d ∧ Below N w (X.putObj D0 o)) := by
 intro X
 have hE : ((((w6.setCell ⟨R, 0, none⟩ x).setCell ⟨R, 1, none⟩ y).setCell ⟨R, 2, none⟩ s).setCell ⟨R, 3, none⟩ t).cell? ⟨R + 1, 0, none⟩ = some u := (cell_store4 (by omega)).trans he
 have hX : X.heap[D0]? = some (.deferred (some [])) := by
  rw [show X.heap[D0]? = w6.heap[D0]? from by
   show (World.setCell _ _ _).heap[D0]? = _
   rw [Below.heap_setCell _ _ _ _ (by simp; omega), Below.heap_setCell _ _ _ _ (by simp; omega), Below.heap_setCell _ _ _ _ (by simp; omega), Below.heap_setCell _ _ _ _ (by simp; omega), Below.heap_setCell _ _ _ _ (by simp; omega)]]
  exact hd
 have c0 : X.cell? ⟨R, 0, none⟩ = some x := by
  show (World.setCell _ _ _).cell? _ = _
  rw [World.cell?_setCell_other _ _ _ _ (by simp), World.cell?_setCell_other _ _ _ _ (by simp), World.cell?_setCell_other _ _ _ _ (by simp), World.cell?_setCell_other _ _ _ _ (by simp)]
  exact World.cell?_setCell_same _ _ _ hz.r0
 have c1 : X.cell? ⟨R, 1, none⟩ = some y := by
  show (World.setCell _ _ _).cell? _ = _
  rw [World.cell?_setCell_other _ _ _ _ (by simp), World.cell?_setCell_other _ _ _ _ (by simp), World.cell?_setCell_other _ _ _ _ (by simp)]
  exact World.cell?_setCell_same _ _ _ (by rw [World.cell?_setCell_other _ _ _ _ (by simp)]; exact hz.r1)
 have c2 : X.cell? ⟨R, 2, none⟩ = some s := by
  show (World.setCell _ _ _).cell? _ = _
  rw [World.cell?_setCell_other _ _ _ _ (by simp), World.cell?_setCell_other _ _ _ _ (by simp)]
  exact World.cell?_setCell_same _ _ _ (by rw [World.cell?_setCell_other _ _ _ _ (by simp), World.cell?_setCell_other _ _ _ _ (by simp)]; exact hz.r2)
 have c3 : X.cell? ⟨R, 3, none⟩ = some t := by
  show (World.setCell _ _ _).cell? _ = _
  rw [World.cell?_setCell_other _ _ _ _ (by simp)]
  exact World.cell?_setCell_same _ _ _ (by rw [World.cell?_setCell_other _ _ _ _ (by simp), World.cell?_setCell_other _ _ _ _ (by simp), World.cell?_setCell_other _ _ _ _ (by simp)]; exact hz.r3)
 have c4 : X.cell? ⟨R + 1, 0, none⟩ = some e0 := World.cell?_setCell_same _ _ _ hE
 have hr4 := (hz.set hr rfl).ku (KU.setCell hE hu e0) (by simp [World.setCell])
 have hbX : Below N w X := ((((hb.setCell (by simp; omega) _).setCell (by simp; omega) _).setCell (by simp; omega) _).setCell (by simp; omega) _).setCell (by simp; omega) _
 refine ⟨hX, fun o => ⟨cell_put c0 (by simp; omega), cell_put c1 (by simp; omega), cell_put c2 (by simp; omega), cell_put c3 (by simp; omega), cell_put c4 (by simp; omega), hr4.ku (KU.putObj hX rfl) (Nat.le_of_eq World.putObj_size.symm), ?_⟩⟩
 exact ⟨hbX.os, hbX.tape, hbX.output, by simpa using hbX.size, fun k hk => (World.putObj_heap_other (by omega)).trans (hbX.block k hk)⟩
theorem Z4.blk {R : Nat} {A C : World} (h : Z4 R A) (e : C.heap[R]? = A.heap[R]?) : Z4 R C :=
 ⟨(World.cell?_of_block (a := ⟨R, 0, none⟩) e).trans h.r0, (World.cell?_of_block (a := ⟨R, 1, none⟩) e).trans h.r1, (World.cell?_of_block (a := ⟨R, 2, none⟩) e).trans h.r2, (World.cell?_of_block (a := ⟨R, 3, none⟩) e).trans h.r3,
  (World.frozen?_of_block (a := ⟨R, 0, none⟩) e).trans h.f0, (World.frozen?_of_block (a := ⟨R, 1, none⟩) e).trans h.f1, (World.frozen?_of_block (a := ⟨R, 2, none⟩) e).trans h.f2, (World.frozen?_of_block (a := ⟨R, 3, none⟩) e).trans h.f3⟩
theorem Z4.lt {R : Nat} {A : World} (h : Z4 R A) : R < A.heap.size := World.block_lt_of_cell? A _ h.r0
structure ConI (w : World) (a5 a6 : Nat) (T : List Int) (z : Int) (zs : List Int) (A : World) : Prop where
 b5 : ∃ x y, BX a5 x y (zs.foldl cs (z, 1)).1 A
 b6 : ∃ x y, BX a6 x y (zs.foldl cs (z, 1)).2 A
 zr : Z4 w.heap.size A
 er : Boxed A (w.heap.size + 1) 39 (.int .i64 0)
 bl : Below w.heap.size w A
 pf : zs <+: T
theorem ConI.kept {w : World} {a5 a6 : Nat} {T : List Int} {z : Int} {zs : List Int} {A C : World} {S : Nat → Prop} (h : ConI w a5 a6 T z zs A) (hk : Kept S A C) (s5 : S a5) (s6 : S a6) (sr : S w.heap.size) (se : S (w.heap.size + 1)) (sl : ∀ k, k < w.heap.size → S k) : ConI w a5 a6 T z zs C := by
 obtain ⟨⟨_, _, h5⟩, ⟨_, _, h6⟩, h1, h2, h3, h4⟩ := h
 exact ⟨⟨_, _, h5.ku hk.ku hk.size (hk.blk _ h5.lt s5)⟩, ⟨_, _, h6.ku hk.ku hk.size (hk.blk _ h6.lt s6)⟩, h1.blk (hk.blk _ h1.lt sr), (hk.blk _ h2.lt se).trans h2, below_kept h3 hk h3.size sl, h4⟩
set_option maxRecDepth 100000 in
theorem backward_any (a : Option Addr) (k c : Nat) (w : World) : Calls Tryz.prog 108 #[.slice a k c] w fun e w' => e = .returned (.func (.func 151) #[] #[.pointer (some ⟨w.heap.size, 0, none⟩)]) ∧ w' = w.alloc (.cells #[.slice a k c] 78) := by
 go_enter Tryz.func108, Tryz.ntmps108
 go_wp2
 go_ret
 exact ⟨rfl, rfl⟩
set_option maxHeartbeats 4000000 in
set_option maxRecDepth 100000 in
theorem contract_any (g cap : Nat) (zs : List Int) (z : Int) (w : World) (hn : zs.length ≤ 100000) (hcap : zs.length + 1 ≤ cap) (hel : ElAt w g (zs ++ [z])) (hg : g < w.heap.size)
  (hst : ∀ k, k ≤ zs.length → 0 < ((zs.reverse.take k).foldl cs (z, 1)).1 ∧ len ((zs.reverse.take k).foldl cs (z, 1)).1 ≤ 400000 ∧ len ((zs.reverse.take k).foldl cs (z, 1)).2 ≤ 400000) (hl : ∀ t ∈ zs, len t ≤ 400000)
  (hd0 : (zs.reverse.foldl cs (z, 1)).2 ≠ 0) :
  Calls Tryz.prog 52 #[.slice (some ⟨g, 0, none⟩) (zs.length + 1) cap] w (RatRes w (qn (zs.reverse.foldl cs (z, 1)).1 (zs.reverse.foldl cs (z, 1)).2) (qd (zs.reverse.foldl cs (z, 1)).1 (zs.reverse.foldl cs (z, 1)).2) 0) := by
 refine (callsIn_wide (n := 21)).1 ?_
 obtain ⟨n, hnn⟩ : ∃ n, zs.length = n := ⟨_, rfl⟩
 have HEL := Lib.hid hel
 obtain ⟨p1, ad1, m1, c1, A0, A1, i1⟩ := hel n (by rw [List.length_append, List.length_singleton]; omega)
 rw [← hnn, List.getElem?_append_right (Nat.le_refl _), Nat.sub_self] at i1
 have I1 : Hid (IntV w (.agg #[.bool p1, .slice ad1 m1 c1]) z) := Lib.hid i1
 have HN := Lib.hid hnn
 have HST := Lib.hid hst
 have HLT := Lib.hid hl
 have HD := Lib.hid hd0
 rw [hnn] at hn hcap
 have h5 : (n : Int) ≤ (cap : Int) := by omega
 rw [show zs.length + 1 = n + 1 from by rw [hnn]]
 obtain ⟨N, hN⟩ : ∃ N, (zs.reverse.foldl cs (z, 1)).1 = N := ⟨_, rfl⟩
 obtain ⟨D, hD⟩ : ∃ D, (zs.reverse.foldl cs (z, 1)).2 = D := ⟨_, rfl⟩
 rw [hN, hD]
 have HND := Lib.hid (And.intro hN hD)
 clear hel i1 hnn hst hl hd0 hN hD
 have hw : IntKind.i64.wrap ((n : Int) + 1 - 1) = (n : Int) := by rw [IntKind.wrap_i64]; omega
 have hw1 : IntKind.i64.wrap (n : Int) = (n : Int) := by rw [IntKind.wrap_i64]; omega
 have h1 : ((n : Int) + 1 == 0) = false := by rw [beq_eq_false_iff_ne]; omega
 have h2 : (0 : Int) ≤ (n : Int) := by omega
 have h3 : (n : Int) < (n : Int) + 1 := by omega
 have h4 : (n : Int) ≤ (n : Int) + 1 := by omega
 refine callsIn_of_wp_marks Tryz.func52 rfl trivial ?_
 simp only [Tryz.ntmps52, List.size_toArray, List.length_cons, List.length_nil, Nat.reduceAdd, Nat.reduceSub, Array.replicate_succ, Array.replicate_zero, List.push_toArray, List.append_toArray, List.nil_append, List.cons_append]
 refine (wpIn_wide (n := 21)).2 ?_
 go_upto_region 4 with fail
 have HO := Lib.hid fun W => Lib.hid (one_any W)
 have al : ∀ (A : World) (o : Obj), Below A.heap.size A (A.alloc o) := fun A o => (Below.refl _ _).alloc (Nat.le_refl _) _
 have hB0 := below2 w (.cells #[.bool false, .slice none 0 0, .bool false, .slice none 0 0] 38) (.cells #[.int .i64 0] 39)
 have hZ0 := (Z4.made w 38).keep (al _ (.cells #[.int .i64 0] 39))
 have hE0 := Boxed.new (w.alloc (.cells #[.bool false, .slice none 0 0, .bool false, .slice none 0 0] 38)) 39 (.int .i64 0)
 rw [World.size_alloc] at hE0
 generalize hV : (w.alloc (.cells #[.bool false, .slice none 0 0, .bool false, .slice none 0 0] 38)).alloc (.cells #[.int .i64 0] 39) = V at *
 clear hV al
 have HB0 := Lib.hid hB0
 have HZ0 := Lib.hid hZ0
 have HE0 := Lib.hid hE0
 have B0' := (hB0.cell (p := ⟨g, n * 2, none⟩) hg).trans A0
 have B1' := (hB0.cell (p := ⟨g, n * 2 + 1, none⟩) hg).trans A1
 have HEV := Lib.hid (HEL.out.kept (S := fun _ => True) (Kept.below hB0) hg trivial)
 have hgV := Nat.lt_of_lt_of_le hg hB0.size
 have NHv : g < V.heap.size := hgV
 have I2v := Lib.hid (I1.out.keep hB0)
 have E3 : V.heap.size ≠ g := by omega
 have E4 : V.heap.size + 1 ≠ g := by omega
 clear hB0 hZ0 hE0
 go_cut [5, 6] from 16 to 20 (fun u6 u7 wx => ∃ a4 a5 v4 v5 b4 b5, u6 = .pointer (some ⟨a4, 0, none⟩) ∧ u7 = .pointer (some ⟨a5, 0, none⟩) ∧ a4 ≠ a5 ∧ V.heap.size ≤ a4 ∧ V.heap.size ≤ a5 ∧ BX a4 v4 b4 z wx ∧ BX a5 v5 b5 1 wx ∧ Below V.heap.size V wx)
 case first =>
  clear HEL HN HST HLT HD HND hw hw1 h1 h4 hn HE0 HZ0 HB0 I1 HEV hgV A0 A1
  go_region_held3 (fun w' => w'.cell? ⟨g, n * 2, none⟩ = some (.bool p1) ∧ w'.cell? ⟨g, n * 2 + 1, none⟩ = some (.slice ad1 m1 c1))
   (first | with_reducible exact ⟨B0', B1'⟩ | with_reducible exact ⟨s0, s1⟩ | go_keep)
   (go_loud (first
   | (go_at_call 90; (with_reducible refine (HO.out _).out.mono ?_); rintro e wA ⟨vA, rfl, hiA, hbA⟩; have hbW : Below V.heap.size V wA := (by first | with_reducible exact (bD _).trans (hbA.mono (bD _).size) | with_reducible exact (bA _ _).trans (hbA.mono (bA _ _).size) | with_reducible exact (bAA _ _ _).trans (hbA.mono (bAA _ _ _).size)); obtain ⟨r1, ag, m3, cc3, rfl⟩ := intv_shape hiA; have s0 := (hbW.cell (p := ⟨g, n * 2, none⟩) NHv).trans B0'; have s1 := (hbW.cell (p := ⟨g, n * 2 + 1, none⟩) NHv).trans B1'; have hsz := hbW.size; have e1 : wA.heap.size ≠ g := (by omega); have e2 : wA.heap.size + 1 ≠ g := (by omega); clear hsz; first | (with_reducible have hz := zz2 V hbA; obtain ⟨⟨zc0, zc1, zf0, zf1, _⟩, zc2, zc3, zf2, zf3, _⟩ := hz; with_reducible have hz := zz2 V hbA) | (with_reducible have hz := zz1 V hbA; obtain ⟨zc0, zc1, zf0, zf1, _⟩ := hz; have zg0 := alc zc0; have zg1 := alc zc1; have zk0 := alf zc0 zf0; have zk1 := alf zc1 zf1; have e3 : wA.heap.size ≠ V.heap.size := Nat.ne_of_gt (World.block_lt_of_cell? wA _ zc0); have e4 := Ne.symm e3; with_reducible have hz := zz1 V hbA) | skip)))
  all_goals
   go_wp2_with fail
   go_meet
   have hsz := hbW.size
   have j1 := I2v.out.keep hbW
   have bal := fun (X : World) (h : Below V.heap.size V X) (o : Obj) => h.alloc h.size o
  ·exact ⟨_, _, _, _, _, _, rfl, rfl, by omega, by omega, by omega, (finA j1 hiA).1, (finA j1 hiA).2, bal _ (bal _ hbW _) _⟩
  ·exact ⟨_, _, _, _, _, _, rfl, rfl, by omega, by omega, by omega, (finA hiA j1).2, (finA hiA j1).1, bal _ (bal _ hbW _) _⟩
  ·exact ⟨_, _, _, _, _, _, rfl, rfl, by omega, by omega, by omega, (two_stored (hz.keep ((Below.refl _ _).alloc (Nat.le_refl _) _)) (BX.made (IntV.nil0 _)) e4 (j1.keep ((Below.refl _ _).alloc (Nat.le_refl _) _)) (hiA.keep ((Below.refl _ _).alloc (Nat.le_refl _) _))).1, (two_stored (hz.keep ((Below.refl _ _).alloc (Nat.le_refl _) _)) (BX.made (IntV.nil0 _)) e4 (j1.keep ((Below.refl _ _).alloc (Nat.le_refl _) _)) (hiA.keep ((Below.refl _ _).alloc (Nat.le_refl _) _))).2, bel4 (bal _ hbW _) (Nat.le_refl _) hsz _ _ _ _⟩
  ·exact ⟨_, _, _, _, _, _, rfl, rfl, by omega, by omega, by omega, (two_stored hz.1 hz.2 (by omega) j1 hiA).1, (two_stored hz.1 hz.2 (by omega) j1 hiA).2, bel4 hbW (by omega) (by omega) _ _ _ _⟩
  ·exact ⟨_, _, _, _, _, _, rfl, rfl, by omega, by omega, by omega, (finB hz j1 hiA).1, (finB hz j1 hiA).2, below_s2 (bal _ hbW _) (Nat.le_refl _) _ _⟩
  ·exact ⟨_, _, _, _, _, _, rfl, rfl, by omega, by omega, by omega, (two_stored hz.2 hz.1 (by omega) j1 hiA).1, (two_stored hz.2 hz.1 (by omega) j1 hiA).2, bel4 hbW (by omega) (by omega) _ _ _ _⟩
 case rest =>
  obtain ⟨a5, a6, v5, v6, b5, b6, rfl, rfl, hne, ha5, ha6, X5, X6, hbU⟩ := hcut
  generalize wc = U at *
  have al : ∀ (A : World) (o : Obj), Below A.heap.size A (A.alloc o) := fun A o => (Below.refl _ _).alloc (Nat.le_refl _) _
  have HBa := Lib.hid (backward_any (some ⟨g, 0, none⟩) n cap U)
  have hVU := HB0.out.size
  have hVU2 := HE0.out.lt
  have hBX := al U (.cells #[.slice (some ⟨g, 0, none⟩) n cap] 78)
  have Y5 := Lib.hid (X5.keep hBX)
  have Y6 := Lib.hid (X6.keep hBX)
  have HZ1 := Lib.hid ((HZ0.out.keep hbU).keep hBX)
  have HE1 : Hid (Boxed (U.alloc (.cells #[.slice (some ⟨g, 0, none⟩) n cap] 78)) (w.heap.size + 1) 39 (.int .i64 0)) := Lib.hid (Boxed.alloc ((hbU.block _ HE0.out.lt).trans HE0.out) _)
  have HBB := Lib.hid ((HB0.out.trans (hbU.mono HB0.out.size)).trans (hBX.mono (Nat.le_trans HB0.out.size hbU.size)))
  have hgU := Nat.lt_of_lt_of_le hgV hbU.size
  have HEU := Lib.hid ((HEV.out.kept (S := fun _ => True) (Kept.below hbU) hgV trivial).kept (S := fun _ => True) (Kept.below hBX) hgU trivial)
  have HGB := Lib.hid (backward_gives U.heap.size g cap zs (U.alloc (.cells #[.slice (some ⟨g, 0, none⟩) n cap] 78)) (by have := HN.out; omega) (by rw [HN.out]; exact (Boxed.new U 78 (.slice (some ⟨g, 0, none⟩) n cap)).cell) (fun j hj => by
   have h := HEU.out j (by rw [List.length_append]; omega)
   rwa [List.getElem?_append_left hj] at h) (by simp; omega) (by simp))
  have HS := Lib.hid (And.intro hne (And.intro ha5 (And.intro ha6 (And.intro X5.lt (And.intro X6.lt hgU)))))
  clear X5 X6 hbU hBX al HEV HB0 HZ0 HE0 I1 I2v B0' B1' A0 A1 hne ha5 ha6 HEU NHv E3 E4
  go_wp2_with fail
  refine HBa.out.mono ?_
  rintro e w1 ⟨rfl, rfl⟩
  go_wp2_with fail
  refine (wpIn_wide (n := 21)).1 ?_
  generalize hW0 : U.alloc (.cells #[.slice (some ⟨g, 0, none⟩) n cap] 78) = W0 at *
  have hsz0 : W0.heap.size = U.heap.size + 1 := by rw [← hW0]; simp
  refine wpIn_rangeFunc_host (T := zs.reverse) (gf := 151) (lb := #[.pointer (some ⟨U.heap.size, 0, none⟩)]) rfl (enters_of Tryz.func151 (by kernel_rfl)) (fun _ => rfl) ?hCap HGB.out (fun zs' _ _ A => ConI w a5 a6 zs.reverse z zs' A) ?hI ?h0 ?round ?done
  case hCap =>
   have := HS.out
   rintro i (rfl | rfl) <;> omega
  case hI =>
   intro zs' lo m A C hi hk
   have h7 := HS.out
   have h8 := HBB.out.size
   have h9 := HE1.out.lt
   exact hi.kept hk (.inl (by omega)) (.inl (by omega)) (.inl (by omega)) (.inl (by omega)) (fun k hk => .inl (by omega))
  case h0 =>
   intro lo _
   exact ⟨⟨_, _, Y5.out⟩, ⟨_, _, Y6.out⟩, HZ1.out, HE1.out, HBB.out, List.nil_prefix⟩
  case round =>
   rintro l k zs' lo m ⟨j, t, v⟩ A hl hC hpre hlo hloA hlm hmA hzv
   have hzv' : IntV A v t := hzv
   have HLL := Lib.hid hl
   have HS0 := Lib.hid hsz0
   clear hzv hl hsz0
   obtain ⟨⟨_, _, Z5⟩, ⟨_, _, Z6⟩, hzr, her, hbl, hpf⟩ := hC
   obtain ⟨r, hr⟩ := hpre
   have htk : zs' = zs.reverse.take zs'.length := by rw [← hr, List.append_assoc, List.take_left']; rfl
   have hle : zs'.length + 1 ≤ zs.length := by have := congrArg List.length hr; rw [List.length_append, List.length_append, List.length_reverse, List.length_singleton] at this; omega
   have hmem : t ∈ zs := by
    have : t ∈ zs.reverse := by rw [← hr]; simp
    simpa using this
   have hst := HST.out zs'.length (by omega)
   rw [← htk] at hst
   have hlt := HLT.out t hmem
   obtain ⟨s, hs⟩ : ∃ s, zs'.foldl cs (z, 1) = s := ⟨_, rfl⟩
   rw [hs] at hst Z5 Z6
   obtain ⟨N', D'⟩ := s
   obtain ⟨q5, ae5, me5, ce5, e1, e2, _⟩ := Z5.iv.parts
   obtain ⟨_, _, _, _, e3, e4, _⟩ := Z6.iv.parts
   obtain ⟨pv, av, nv, cv, rfl⟩ := intv_shape hzv'
   subst e1 e2 e3 e4
   simp only at hst Z5 Z6
   have hne : (sgnZ N' == 0) = false := by rw [beq_eq_false_iff_ne]; intro h; have := sgnZ_z.1 h; omega
   have HTT := Lib.hid hzv'
   have HPR : Hid (zs' ++ [t] <+: zs.reverse) := Lib.hid ⟨r, hr⟩
   have HSS := Lib.hid hs
   have HZ5 := Lib.hid Z5
   have HZ6 := Lib.hid Z6
   have HZR := Lib.hid hzr
   have HER := Lib.hid her
   have HBL := Lib.hid hbl
   have HL1 := Lib.hid hst
   have HL2 := Lib.hid hlt
   have HSG := Lib.hid fun W u h => Lib.hid (sign_any N' u W (Nat.le_trans hst.2.1 (by decide)) h)
   have HMU := Lib.hid fun W u v h h' => Lib.hid (Mul_any t N' u v W (Nat.le_trans hlt (by decide)) (Nat.le_trans hst.2.1 (by decide)) h h')
   have HAD := Lib.hid fun W u v h h' => Lib.hid (Add_any (t * N') D' u v W (len_le (by decide) (((len_bdq hlt).mul (len_bdq hst.2.1)).up (show 400000 + 400000 ≤ 1000000 by decide))) (Nat.le_trans hst.2.2 (by decide)) h h')
   clear hs hst hlt hmem htk hle hr hzv' Z5 Z6 hzr her hbl hpf
   gi_wp2
   have hal : Below A.heap.size A (A.alloc (.cells #[.bool pv, .slice av nv cv] 31)) := (Below.refl _ _).alloc (Nat.le_refl _) _
   refine ⟨Kept.below hal, fun w2 hw2 kw2 => ?_⟩
   have kA : Kept (fun i => i ≠ l) A w2 := (Kept.below hal).trans kw2
   have hl := HLL.out
   have hsz0 := HS0.out
   have hS := HS.out
   have hb8 := HBB.out.size
   have h9 := HER.out.lt
   have h10 := HE1.out.lt
   have hlA : l < A.heap.size := by omega
   have X5 := HZ5.out.ku kA.ku kA.size (kA.blk a5 HZ5.out.lt (by omega))
   have X6 := HZ6.out.ku kA.ku kA.size (kA.blk a6 HZ6.out.lt (by omega))
   have X8 : BX A.heap.size (.bool pv) (.slice av nv cv) t w2 := (BX.made (t := 31) HTT.out).ku kw2.ku kw2.size (kw2.blk _ (by simp) (by omega))
   have ZR2 := Lib.hid (HZR.out.blk (kA.blk _ HZR.out.lt (by omega)))
   have ER2 : Hid (Boxed w2 (w.heap.size + 1) 39 (.int .i64 0)) := Lib.hid ((kA.blk _ HER.out.lt (by omega)).trans HER.out)
   have BL2 := Lib.hid (below_kept HBL.out kA HBL.out.size (fun k hk => by omega))
   have HX5 := Lib.hid X5
   have HX6 := Lib.hid X6
   have HX8 := Lib.hid X8
   have HLA := Lib.hid hlA
   have HMA := Lib.hid (And.intro hmA (And.intro hlm (And.intro hlo hloA)))
   have HW2 := Lib.hid hw2
   obtain ⟨g0, g1⟩ := X5.cells
   clear hl hsz0 X5 X6 X8 kA kw2 hal hS hb8 h9 h10 hlA hmA hlm hlo hloA hw2 HZ5 HZ6 HZR HER HBL HTT
   gi_wp2_with fail
   refine ⟨trivial, fun h => by simp [Fence.wide] at h, (CallsIn.inRound l (callsIn_wide.2 (HSG.out _ _ HX5.out.iv).out)).mono ?_⟩
   rintro e w3 ⟨rfl, hb3⟩
   have HY5 := Lib.hid (HX5.out.keep hb3)
   have HY6 := Lib.hid (HX6.out.keep hb3)
   have HY8 := Lib.hid (HX8.out.keep hb3)
   have HB3 := Lib.hid hb3
   clear g0 g1 hb3 HX5 HX6 HX8
   gi_wp2_with fail
   have J5 := HY5.out.keep (bD _)
   have J6 := HY6.out.keep (bD _)
   have J8 := HY8.out.keep (bD _)
   obtain ⟨g0, g1⟩ := HY5.out.cells
   obtain ⟨g2, g3⟩ := HY6.out.cells
   obtain ⟨g4, g5⟩ := HY8.out.cells
   have hmix : Tryz.prog.follows .mixedOrders = true := by kernel_rfl
   clear hw hw1 h1 h2 h3 h4 h5 hn hcap hne
   have n56 := HS.out.1
   have n65 := Ne.symm n56
   have HFIN := Lib.hid (fun (wB : World) (x y : Value) (hb : Below w3.heap.size w3 wB) (hi : IntV wB (.agg #[x, y]) (t * N' + D')) => show Kept (fun i => (i = U.heap.size ∨ i = g) ∨ W0.heap.size ≤ i ∧ i < lo ∨ m ≤ i) w2 ((((wB.setCell ⟨a5, 0, none⟩ x).setCell ⟨a5, 1, none⟩ y).setCell ⟨a6, 0, none⟩ (.bool q5)).setCell ⟨a6, 1, none⟩ (.slice ae5 me5 ce5)) ∧
     ConI w a5 a6 zs.reverse z (zs' ++ [t]) ((((wB.setCell ⟨a5, 0, none⟩ x).setCell ⟨a5, 1, none⟩ y).setCell ⟨a6, 0, none⟩ (.bool q5)).setCell ⟨a6, 1, none⟩ (.slice ae5 me5 ce5)) from by
    have k5 := HY5.out.keep hb
    have k6 := HY6.out.keep hb
    obtain ⟨f5, f6⟩ := two_stored k5 k6 n56 hi k5.iv
    have hS := HS.out
    have hM := HMA.out
    have h0 := HS0.out
    have hbb := HBB.out.size
    have kk : ∀ S : Nat → Prop, ¬ S a5 → ¬ S a6 → Kept S wB _ := fun S s5 s6 => (Kept.store k5 s5 x y).trans (Kept.store (k6.oth k5 n65 x y) s6 (.bool q5) (.slice ae5 me5 ce5))
    have kB : ∀ S : Nat → Prop, Kept S w2 wB := fun S => (Kept.below HB3.out).trans (Kept.below hb)
    have her : Boxed wB (w.heap.size + 1) 39 (.int .i64 0) := (hb.block _ (Nat.lt_of_lt_of_le ER2.out.lt HB3.out.size)).trans ((HB3.out.block _ ER2.out.lt).trans ER2.out)
    have hzr := (ZR2.out.keep HB3.out).keep hb
    have hbl := (BL2.out.trans (HB3.out.mono BL2.out.size)).trans (hb.mono (Nat.le_trans BL2.out.size HB3.out.size))
    refine ⟨(kB _).trans (kk (fun i => (i = U.heap.size ∨ i = g) ∨ W0.heap.size ≤ i ∧ i < lo ∨ m ≤ i) (by intro hh; rcases hh with (hh | hh) | hh | hh <;> omega) (by intro hh; rcases hh with (hh | hh) | hh | hh <;> omega)), ⟨x, y, ?_⟩, ⟨.bool q5, .slice ae5 me5 ce5, ?_⟩, hzr.blk ((kk (fun i => i = w.heap.size) (by omega) (by omega)).blk _ hzr.lt rfl), ((kk (fun i => i = w.heap.size + 1) (by omega) (by omega)).blk _ her.lt rfl).trans her, below_kept hbl (kk (fun i => i < w.heap.size) (by omega) (by omega)) hbl.size (fun _ h => h), HPR.out⟩
    ·rw [List.foldl_append, HSS.out]; exact f5
    ·rw [List.foldl_append, HSS.out]; exact f6)
   gi_region_with_o
    (first
    | (refine ⟨trivial, fun h => (by simp [Fence.wide] at h), ?_⟩; gi_at_call 84; refine (CallsIn.inRound l (callsIn_wide.2 (HMU.out _ _ _ J8.iv J5.iv).out)).mono ?_; rintro e wA ⟨vA, rfl, hiA, hbA⟩; have J5a := J5.keep hbA; have J6a := J6.keep hbA; obtain ⟨g0, g1⟩ := J5a.cells; obtain ⟨g2, g3⟩ := J6a.cells)
    | (refine ⟨trivial, fun h => (by simp [Fence.wide] at h), ?_⟩; gi_at_call 99; refine (CallsIn.inRound l (callsIn_wide.2 (HAD.out _ _ _ hiA J6a.iv).out)).mono ?_; rintro e wB ⟨vB, rfl, hiB, hbB⟩; have J5b := J5a.keep hbB; have J6b := J6a.keep hbB; obtain ⟨pb, ab, nb, cb, rfl⟩ := intv_shape hiB; obtain ⟨g0, g1, k0, k1, _⟩ := J5b; obtain ⟨g2, g3, k2, k3, _⟩ := J6b; have HF2 := HFIN.out wB _ _ (((bD w3).trans (hbA.mono (bD w3).size)).trans (hbB.mono (Nat.le_trans (bD w3).size hbA.size))) hiB))
   all_goals
    gi_wp2
  case done =>
   rintro lo m C hC hd
   obtain ⟨⟨_, _, Z5⟩, ⟨_, _, Z6⟩, hzr, her, hbl, _⟩ := hC
   have hND := HND.out
   rw [hND.1] at Z5
   rw [hND.2] at Z6
   obtain ⟨q5, ae5, me5, ce5, e1, e2, _⟩ := Z5.iv.parts
   obtain ⟨q6, ae6, me6, ce6, e3, e4, _⟩ := Z6.iv.parts
   subst e1 e2 e3 e4
   have hs := HST.out zs.length (Nat.le_refl _)
   rw [List.take_of_length_le (by rw [List.length_reverse]; exact Nat.le_refl _), hND.1, hND.2] at hs
   have hD0 : D ≠ 0 := by have := HD.out; rwa [hND.2] at this
   have HNW := Lib.hid (show Calls Tryz.prog 16 _ C (RatRes C (qn N D) (qd N D) 0) from by
    have := ratNew_any N D _ _ C (Nat.le_trans hs.2.1 (by decide)) (Nat.le_trans hs.2.2 (by decide)) Z5.iv Z6.iv
    rwa [if_neg hD0, if_neg hD0, if_neg hD0] at this)
   have HDF := Lib.hid hd
   have HBL := Lib.hid hbl
   have HZR := Lib.hid hzr
   have HER := Lib.hid her
   have HW0 := Lib.hid hsz0
   obtain ⟨g0, g1⟩ := Z5.cells
   obtain ⟨g2, g3⟩ := Z6.cells
   clear Z5 Z6 hd hbl hzr her hND hs hD0 hw hw1 h1 h2 h3 h4 h5 hn hcap hsz0 HST HLT HD HND HGB HEL hW0
   generalize qn N D = qN at *
   generalize qd N D = qD at *
   gi_wp2_with fail
   go_wp2_with fail
   (with_reducible refine HNW.out.mono ?_)
   rintro e w6 ⟨v6, rfl, hr6, hb6⟩
   have hr6' := hr6
   obtain ⟨p6, ad6, n6, c6, p7, ad7, n7, c7, rfl⟩ := rat_shape hr6'
   have hZ6 := Lib.hid (HZR.out.keep hb6)
   have hR6 := Lib.hid hr6
   have hE6 : Hid (Boxed w6 (w.heap.size + 1) 39 (.int .i64 0)) := Lib.hid ((hb6.block _ HER.out.lt).trans HER.out)
   have hD6 := Lib.hid ((hb6.block _ (Array.getElem?_eq_some_iff.1 HDF.out).1).trans HDF.out)
   have hB6 := Lib.hid (HBL.out.trans (hb6.mono HBL.out.size))
   obtain ⟨r0, r1, r2, r3, f0, f1, f2, f3⟩ := hZ6.out
   have ge := hE6.out.cell
   have fe := hE6.out.frozen
   clear hb6 hr6 hr6' g0 g1 g2 g3
   go_wp2_with fail
   obtain ⟨hX, hY⟩ := con_end hZ6.out ge (by intro k h; cases h) hR6.out hD6.out HE1.out.lt hB6.out (Nat.le_refl _) (.int .i64 0)
   obtain ⟨c0, c1, c2, c3, c4, hrr, hbb⟩ := hY (.deferred none)
   refine ⟨by simp, .inl ⟨_, _, rfl, run_takeDeferred hX, ?_⟩⟩
   refine ⟨.tuple #[.agg #[.bool p6, .slice ad6 n6 c6, .bool p7, .slice ad7 n7 c7], .int .i64 0], by simp [results, Tryz.results52, go_sem, c0, c1, c2, c3, c4], ?_⟩
   exact ⟨_, rfl, hrr, hbb⟩
end
end Go.Proofs.YtghgcbedajaldaaGreat
