/-  Contract, for elements whose fractions stay above 0.  -/
import Derived.Test.YtiegkjfpdiohkaaGreatQg
import Derived.Test.YtiegkjfpdiohkaaGreatQc
import Derived.Test.YtiegkjfpdiohkaaGreatQf
namespace Go.Proofs.YtiegkjfpdiohkaaGreat
section
open Go.RowKit Go.Shelf Digs
attribute [local go_sem] Oper.semAt_some

/-- One step of Contract: t + 1/(n/d). -/
def cs (s : Int × Int) (t : Int) : Int × Int := (t * s.1 + s.2, s.1)

theorem len_bdq {z : Int} {k : Nat} (h : len z ≤ k) : Bd k z := by
  unfold Bd len at *
  exact Nat.lt_of_lt_of_le (digs_lt_pow (by decide) _) (Nat.pow_le_pow_right (by decide) h)
theorem cell_put {X : World} {r : Nat} {o : Obj} {a : Addr} {u : Value} (h : X.cell? a = some u) (hne : a.block ≠ r) : (X.putObj r o).cell? a = some u :=
  (World.cell?_of_block (World.putObj_heap_other hne)).trans h
theorem RatV.ku {A C : World} {v : Value} {n d : Int} (h : RatV A v n d) (hk : KU A C) (hs : A.heap.size ≤ C.heap.size) : RatV C v n d := by
  obtain ⟨a, b, c, e, he, h1, h2⟩ := h
  exact ⟨a, b, c, e, he, h1.ku hk hs, h2.ku hk hs⟩
/-- What lies behind the stores of both results and the end of the loop's block. -/
theorem con_end {w6 : World} {R D0 : Nat} {x y s t u : Value} {n d : Int} {N : Nat} {w : World} (hz : Z4 R w6) (he : w6.cell? ⟨R + 1, 0, none⟩ = some u) (hu : NI u) (hr : RatV w6 (.agg #[x, y, s, t]) n d)
    (hd : w6.heap[D0]? = some (.deferred (some []))) (hne : R + 1 < D0) (hb : Below N w w6) (hN : N ≤ R) (e0 : Value) :
    let X := ((((w6.setCell ⟨R, 0, none⟩ x).setCell ⟨R, 1, none⟩ y).setCell ⟨R, 2, none⟩ s).setCell ⟨R, 3, none⟩ t).setCell ⟨R + 1, 0, none⟩ e0
    X.heap[D0]? = some (.deferred (some [])) ∧ (∀ o, (X.putObj D0 o).cell? ⟨R, 0, none⟩ = some x ∧ (X.putObj D0 o).cell? ⟨R, 1, none⟩ = some y ∧ (X.putObj D0 o).cell? ⟨R, 2, none⟩ = some s ∧ (X.putObj D0 o).cell? ⟨R, 3, none⟩ = some t ∧ (X.putObj D0 o).cell? ⟨R + 1, 0, none⟩ = some e0 ∧
      RatV (X.putObj D0 o) (.agg #[x, y, s, t]) n d ∧ Below N w (X.putObj D0 o)) := by
  intro X
  have hE : ((((w6.setCell ⟨R, 0, none⟩ x).setCell ⟨R, 1, none⟩ y).setCell ⟨R, 2, none⟩ s).setCell ⟨R, 3, none⟩ t).cell? ⟨R + 1, 0, none⟩ = some u := (cell_store4 (by omega)).trans he
  have hX : X.heap[D0]? = some (.deferred (some [])) := by
    rw [show X.heap[D0]? = w6.heap[D0]? from by
      show (World.setCell _ _ _).heap[D0]? = _
      rw [Below.heap_setCell _ _ _ _ (by simp; omega), Below.heap_setCell _ _ _ _ (by simp; omega), Below.heap_setCell _ _ _ _ (by simp; omega), Below.heap_setCell _ _ _ _ (by simp; omega), Below.heap_setCell _ _ _ _ (by simp; omega)]]
    exact hd
  have c0 : X.cell? ⟨R, 0, none⟩ = some x := by
    show (World.setCell _ _ _).cell? _ = _
    rw [World.cell?_setCell_other _ _ _ _ (by simp), World.cell?_setCell_other _ _ _ _ (by simp), World.cell?_setCell_other _ _ _ _ (by simp), World.cell?_setCell_other _ _ _ _ (by simp)]
    exact World.cell?_setCell_same _ _ _ hz.r0
  have c1 : X.cell? ⟨R, 1, none⟩ = some y := by
    show (World.setCell _ _ _).cell? _ = _
    rw [World.cell?_setCell_other _ _ _ _ (by simp), World.cell?_setCell_other _ _ _ _ (by simp), World.cell?_setCell_other _ _ _ _ (by simp)]
    exact World.cell?_setCell_same _ _ _ (by rw [World.cell?_setCell_other _ _ _ _ (by simp)]; exact hz.r1)
  have c2 : X.cell? ⟨R, 2, none⟩ = some s := by
    show (World.setCell _ _ _).cell? _ = _
    rw [World.cell?_setCell_other _ _ _ _ (by simp), World.cell?_setCell_other _ _ _ _ (by simp)]
    exact World.cell?_setCell_same _ _ _ (by rw [World.cell?_setCell_other _ _ _ _ (by simp), World.cell?_setCell_other _ _ _ _ (by simp)]; exact hz.r2)
  have c3 : X.cell? ⟨R, 3, none⟩ = some t := by
    show (World.setCell _ _ _).cell? _ = _
    rw [World.cell?_setCell_other _ _ _ _ (by simp)]
    exact World.cell?_setCell_same _ _ _ (by rw [World.cell?_setCell_other _ _ _ _ (by simp), World.cell?_setCell_other _ _ _ _ (by simp), World.cell?_setCell_other _ _ _ _ (by simp)]; exact hz.r3)
  have c4 : X.cell? ⟨R + 1, 0, none⟩ = some e0 := World.cell?_setCell_same _ _ _ hE
  have hr4 := (hz.set hr rfl).ku (KU.setCell hE hu e0) (by simp [World.setCell])
  have hbX : Below N w X := ((((hb.setCell (by simp; omega) _).setCell (by simp; omega) _).setCell (by simp; omega) _).setCell (by simp; omega) _).setCell (by simp; omega) _
  refine ⟨hX, fun o => ⟨cell_put c0 (by simp; omega), cell_put c1 (by simp; omega), cell_put c2 (by simp; omega), cell_put c3 (by simp; omega), cell_put c4 (by simp; omega), hr4.ku (KU.putObj hX rfl) (Nat.le_of_eq World.putObj_size.symm), ?_⟩⟩
  exact ⟨hbX.os, hbX.tape, hbX.output, by simpa using hbX.size, fun k hk => (World.putObj_heap_other (by omega)).trans (hbX.block k hk)⟩
theorem Z4.blk {R : Nat} {A C : World} (h : Z4 R A) (e : C.heap[R]? = A.heap[R]?) : Z4 R C :=
  ⟨(World.cell?_of_block (a := ⟨R, 0, none⟩) e).trans h.r0, (World.cell?_of_block (a := ⟨R, 1, none⟩) e).trans h.r1, (World.cell?_of_block (a := ⟨R, 2, none⟩) e).trans h.r2, (World.cell?_of_block (a := ⟨R, 3, none⟩) e).trans h.r3,
    (World.frozen?_of_block (a := ⟨R, 0, none⟩) e).trans h.f0, (World.frozen?_of_block (a := ⟨R, 1, none⟩) e).trans h.f1, (World.frozen?_of_block (a := ⟨R, 2, none⟩) e).trans h.f2, (World.frozen?_of_block (a := ⟨R, 3, none⟩) e).trans h.f3⟩
theorem Z4.lt {R : Nat} {A : World} (h : Z4 R A) : R < A.heap.size := World.block_lt_of_cell? A _ h.r0
/-- Contract's variables, between two rounds. -/
structure ConI (w : World) (a5 a6 : Nat) (T : List Int) (z : Int) (zs : List Int) (A : World) : Prop where
  b5 : ∃ x y, BX a5 x y (zs.foldl cs (z, 1)).1 A
  b6 : ∃ x y, BX a6 x y (zs.foldl cs (z, 1)).2 A
  zr : Z4 w.heap.size A
  er : Boxed A (w.heap.size + 1) 39 (.int .i64 0)
  bl : Below w.heap.size w A
  pf : zs <+: T
theorem ConI.kept {w : World} {a5 a6 : Nat} {T : List Int} {z : Int} {zs : List Int} {A C : World} {S : Nat → Prop} (h : ConI w a5 a6 T z zs A) (hk : Kept S A C) (s5 : S a5) (s6 : S a6) (sr : S w.heap.size) (se : S (w.heap.size + 1)) (sl : ∀ k, k < w.heap.size → S k) : ConI w a5 a6 T z zs C := by
  obtain ⟨⟨_, _, h5⟩, ⟨_, _, h6⟩, h1, h2, h3, h4⟩ := h
  exact ⟨⟨_, _, h5.ku hk.ku hk.size (hk.blk _ h5.lt s5)⟩, ⟨_, _, h6.ku hk.ku hk.size (hk.blk _ h6.lt s6)⟩, h1.blk (hk.blk _ h1.lt sr), (hk.blk _ h2.lt se).trans h2, below_kept h3 hk h3.size sl, h4⟩

set_option maxRecDepth 100000 in
theorem backward_any (a : Option Addr) (k c : Nat) (w : World) : Calls Tryz.prog 108 #[.slice a k c] w fun e w' => e = .returned (.func (.func 151) #[] #[.pointer (some ⟨w.heap.size, 0, none⟩)]) ∧ w' = w.alloc (.cells #[.slice a k c] 78) := by
  go_enter Tryz.func108, Tryz.ntmps108
  go_wp2
  go_ret
  exact ⟨rfl, rfl⟩

set_option maxHeartbeats 4000000 in
set_option maxRecDepth 100000 in
theorem contract_any (g cap : Nat) (zs : List Int) (z : Int) (w : World) (hn : zs.length ≤ 100000) (hcap : zs.length + 1 ≤ cap) (hel : ElAt w g (zs ++ [z])) (hg : g < w.heap.size)
    (hst : ∀ k, k ≤ zs.length → 0 < ((zs.reverse.take k).foldl cs (z, 1)).1 ∧ len ((zs.reverse.take k).foldl cs (z, 1)).1 ≤ 400000 ∧ len ((zs.reverse.take k).foldl cs (z, 1)).2 ≤ 400000) (hl : ∀ t ∈ zs, len t ≤ 400000)
    (hd0 : (zs.reverse.foldl cs (z, 1)).2 ≠ 0) :
    Calls Tryz.prog 52 #[.slice (some ⟨g, 0, none⟩) (zs.length + 1) cap] w (RatRes w (qn (zs.reverse.foldl cs (z, 1)).1 (zs.reverse.foldl cs (z, 1)).2) (qd (zs.reverse.foldl cs (z, 1)).1 (zs.reverse.foldl cs (z, 1)).2) 0) := by
  refine (callsIn_wide (n := 21)).1 ?_
  obtain ⟨n, hnn⟩ : ∃ n, zs.length = n := ⟨_, rfl⟩
  have HEL := Lib.hid hel
  obtain ⟨p1, ad1, m1, c1, A0, A1, i1⟩ := hel n (by rw [List.length_append, List.length_singleton]; omega)
  rw [← hnn, List.getElem?_append_right (Nat.le_refl _), Nat.sub_self] at i1
  have I1 : Hid (IntV w (.agg #[.bool p1, .slice ad1 m1 c1]) z) := Lib.hid i1
  have HN := Lib.hid hnn
  have HST := Lib.hid hst
  have HLT := Lib.hid hl
  have HD := Lib.hid hd0
  rw [hnn] at hn hcap
  have h5 : (n : Int) ≤ (cap : Int) := by omega
  rw [show zs.length + 1 = n + 1 from by rw [hnn]]
  obtain ⟨N, hN⟩ : ∃ N, (zs.reverse.foldl cs (z, 1)).1 = N := ⟨_, rfl⟩
  obtain ⟨D, hD⟩ : ∃ D, (zs.reverse.foldl cs (z, 1)).2 = D := ⟨_, rfl⟩
  rw [hN, hD]
  have HND := Lib.hid (And.intro hN hD)
  clear hel i1 hnn hst hl hd0 hN hD
  have hw : IntKind.i64.wrap ((n : Int) + 1 - 1) = (n : Int) := by rw [IntKind.wrap_i64]; omega
  have hw1 : IntKind.i64.wrap (n : Int) = (n : Int) := by rw [IntKind.wrap_i64]; omega
  have h1 : ((n : Int) + 1 == 0) = false := by rw [beq_eq_false_iff_ne]; omega
  have h2 : (0 : Int) ≤ (n : Int) := by omega
  have h3 : (n : Int) < (n : Int) + 1 := by omega
  have h4 : (n : Int) ≤ (n : Int) + 1 := by omega
  refine callsIn_of_wp_marks Tryz.func52 rfl trivial ?_
  simp only [Tryz.ntmps52, List.size_toArray, List.length_cons, List.length_nil, Nat.reduceAdd, Nat.reduceSub, Array.replicate_succ, Array.replicate_zero, List.push_toArray, List.append_toArray, List.nil_append, List.cons_append]
  refine (wpIn_wide (n := 21)).2 ?_
  go_upto_region 4 with fail
  have HO := Lib.hid fun W => Lib.hid (one_any W)
  have al : ∀ (A : World) (o : Obj), Below A.heap.size A (A.alloc o) := fun A o => (Below.refl _ _).alloc (Nat.le_refl _) _
  have hB0 := below2 w (.cells #[.bool false, .slice none 0 0, .bool false, .slice none 0 0] 38) (.cells #[.int .i64 0] 39)
  have hZ0 := (Z4.made w 38).keep (al _ (.cells #[.int .i64 0] 39))
  have hE0 := Boxed.new (w.alloc (.cells #[.bool false, .slice none 0 0, .bool false, .slice none 0 0] 38)) 39 (.int .i64 0)
  rw [World.size_alloc] at hE0
  generalize hV : (w.alloc (.cells #[.bool false, .slice none 0 0, .bool false, .slice none 0 0] 38)).alloc (.cells #[.int .i64 0] 39) = V at *
  clear hV al
  have HB0 := Lib.hid hB0
  have HZ0 := Lib.hid hZ0
  have HE0 := Lib.hid hE0
  have B0' := (hB0.cell (p := ⟨g, n * 2, none⟩) hg).trans A0
  have B1' := (hB0.cell (p := ⟨g, n * 2 + 1, none⟩) hg).trans A1
  have HEV := Lib.hid (HEL.out.kept (S := fun _ => True) (Kept.below hB0) hg trivial)
  have hgV := Nat.lt_of_lt_of_le hg hB0.size
  have NHv : g < V.heap.size := hgV
  have I2v := Lib.hid (I1.out.keep hB0)
  have E3 : V.heap.size ≠ g := by omega
  have E4 : V.heap.size + 1 ≠ g := by omega
  clear hB0 hZ0 hE0
  go_cut [5, 6] from 16 to 20 (fun u6 u7 wx => ∃ a4 a5 v4 v5 b4 b5, u6 = .pointer (some ⟨a4, 0, none⟩) ∧ u7 = .pointer (some ⟨a5, 0, none⟩) ∧ a4 ≠ a5 ∧ V.heap.size ≤ a4 ∧ V.heap.size ≤ a5 ∧ BX a4 v4 b4 z wx ∧ BX a5 v5 b5 1 wx ∧ Below V.heap.size V wx)
  case first =>
    clear HEL HN HST HLT HD HND hw hw1 h1 h4 hn HE0 HZ0 HB0 I1 HEV hgV A0 A1
    go_region_held3 (fun w' => w'.cell? ⟨g, n * 2, none⟩ = some (.bool p1) ∧ w'.cell? ⟨g, n * 2 + 1, none⟩ = some (.slice ad1 m1 c1))
      (first | with_reducible exact ⟨B0', B1'⟩ | with_reducible exact ⟨s0, s1⟩ | go_keep)
      (go_loud (first
      | (go_at_call 90; (with_reducible refine (HO.out _).out.mono ?_); rintro e wA ⟨vA, rfl, hiA, hbA⟩; have hbW : Below V.heap.size V wA := (by first | with_reducible exact (bD _).trans (hbA.mono (bD _).size) | with_reducible exact (bA _ _).trans (hbA.mono (bA _ _).size) | with_reducible exact (bAA _ _ _).trans (hbA.mono (bAA _ _ _).size)); obtain ⟨r1, ag, m3, cc3, rfl⟩ := intv_shape hiA; have s0 := (hbW.cell (p := ⟨g, n * 2, none⟩) NHv).trans B0'; have s1 := (hbW.cell (p := ⟨g, n * 2 + 1, none⟩) NHv).trans B1'; have hsz := hbW.size; have e1 : wA.heap.size ≠ g := (by omega); have e2 : wA.heap.size + 1 ≠ g := (by omega); clear hsz; first | (with_reducible have hz := zz2 V hbA; obtain ⟨⟨zc0, zc1, zf0, zf1, _⟩, zc2, zc3, zf2, zf3, _⟩ := hz; with_reducible have hz := zz2 V hbA) | (with_reducible have hz := zz1 V hbA; obtain ⟨zc0, zc1, zf0, zf1, _⟩ := hz; have zg0 := alc zc0; have zg1 := alc zc1; have zk0 := alf zc0 zf0; have zk1 := alf zc1 zf1; have e3 : wA.heap.size ≠ V.heap.size := Nat.ne_of_gt (World.block_lt_of_cell? wA _ zc0); have e4 := Ne.symm e3; with_reducible have hz := zz1 V hbA) | skip)))
    all_goals
      go_wp2_with fail
      go_meet
      have hsz := hbW.size
      have j1 := I2v.out.keep hbW
      have bal := fun (X : World) (h : Below V.heap.size V X) (o : Obj) => h.alloc h.size o
    · exact ⟨_, _, _, _, _, _, rfl, rfl, by omega, by omega, by omega, (finA j1 hiA).1, (finA j1 hiA).2, bal _ (bal _ hbW _) _⟩
    · exact ⟨_, _, _, _, _, _, rfl, rfl, by omega, by omega, by omega, (finA hiA j1).2, (finA hiA j1).1, bal _ (bal _ hbW _) _⟩
    · exact ⟨_, _, _, _, _, _, rfl, rfl, by omega, by omega, by omega, (two_stored (hz.keep ((Below.refl _ _).alloc (Nat.le_refl _) _)) (BX.made (IntV.nil0 _)) e4 (j1.keep ((Below.refl _ _).alloc (Nat.le_refl _) _)) (hiA.keep ((Below.refl _ _).alloc (Nat.le_refl _) _))).1, (two_stored (hz.keep ((Below.refl _ _).alloc (Nat.le_refl _) _)) (BX.made (IntV.nil0 _)) e4 (j1.keep ((Below.refl _ _).alloc (Nat.le_refl _) _)) (hiA.keep ((Below.refl _ _).alloc (Nat.le_refl _) _))).2, bel4 (bal _ hbW _) (Nat.le_refl _) hsz _ _ _ _⟩
    · exact ⟨_, _, _, _, _, _, rfl, rfl, by omega, by omega, by omega, (two_stored hz.1 hz.2 (by omega) j1 hiA).1, (two_stored hz.1 hz.2 (by omega) j1 hiA).2, bel4 hbW (by omega) (by omega) _ _ _ _⟩
    · exact ⟨_, _, _, _, _, _, rfl, rfl, by omega, by omega, by omega, (finB hz j1 hiA).1, (finB hz j1 hiA).2, below_s2 (bal _ hbW _) (Nat.le_refl _) _ _⟩
    · exact ⟨_, _, _, _, _, _, rfl, rfl, by omega, by omega, by omega, (two_stored hz.2 hz.1 (by omega) j1 hiA).1, (two_stored hz.2 hz.1 (by omega) j1 hiA).2, bel4 hbW (by omega) (by omega) _ _ _ _⟩
  case rest =>
    obtain ⟨a5, a6, v5, v6, b5, b6, rfl, rfl, hne, ha5, ha6, X5, X6, hbU⟩ := hcut
    generalize wc = U at *
    have al : ∀ (A : World) (o : Obj), Below A.heap.size A (A.alloc o) := fun A o => (Below.refl _ _).alloc (Nat.le_refl _) _
    have HBa := Lib.hid (backward_any (some ⟨g, 0, none⟩) n cap U)
    have hVU := HB0.out.size
    have hVU2 := HE0.out.lt
    have hBX := al U (.cells #[.slice (some ⟨g, 0, none⟩) n cap] 78)
    have Y5 := Lib.hid (X5.keep hBX)
    have Y6 := Lib.hid (X6.keep hBX)
    have HZ1 := Lib.hid ((HZ0.out.keep hbU).keep hBX)
    have HE1 : Hid (Boxed (U.alloc (.cells #[.slice (some ⟨g, 0, none⟩) n cap] 78)) (w.heap.size + 1) 39 (.int .i64 0)) := Lib.hid (Boxed.alloc ((hbU.block _ HE0.out.lt).trans HE0.out) _)
    have HBB := Lib.hid ((HB0.out.trans (hbU.mono HB0.out.size)).trans (hBX.mono (Nat.le_trans HB0.out.size hbU.size)))
    have hgU := Nat.lt_of_lt_of_le hgV hbU.size
    have HEU := Lib.hid ((HEV.out.kept (S := fun _ => True) (Kept.below hbU) hgV trivial).kept (S := fun _ => True) (Kept.below hBX) hgU trivial)
    have HGB := Lib.hid (backward_gives U.heap.size g cap zs (U.alloc (.cells #[.slice (some ⟨g, 0, none⟩) n cap] 78)) (by have := HN.out; omega) (by rw [HN.out]; exact (Boxed.new U 78 (.slice (some ⟨g, 0, none⟩) n cap)).cell) (fun j hj => by
      have h := HEU.out j (by rw [List.length_append]; omega)
      rwa [List.getElem?_append_left hj] at h) (by simp; omega) (by simp))
    have HS := Lib.hid (And.intro hne (And.intro ha5 (And.intro ha6 (And.intro X5.lt (And.intro X6.lt hgU)))))
    clear X5 X6 hbU hBX al HEV HB0 HZ0 HE0 I1 I2v B0' B1' A0 A1 hne ha5 ha6 HEU NHv E3 E4
    go_wp2_with fail
    refine HBa.out.mono ?_
    rintro e w1 ⟨rfl, rfl⟩
    go_wp2_with fail
    refine (wpIn_wide (n := 21)).1 ?_
    generalize hW0 : U.alloc (.cells #[.slice (some ⟨g, 0, none⟩) n cap] 78) = W0 at *
    have hsz0 : W0.heap.size = U.heap.size + 1 := by rw [← hW0]; simp
    refine wpIn_rangeFunc_host (T := zs.reverse) (gf := 151) (lb := #[.pointer (some ⟨U.heap.size, 0, none⟩)]) rfl (enters_of Tryz.func151 (by kernel_rfl)) (fun _ => rfl) ?hCap HGB.out (fun zs' _ _ A => ConI w a5 a6 zs.reverse z zs' A) ?hI ?h0 ?round ?done
    case hCap =>
      have := HS.out
      rintro i (rfl | rfl) <;> omega
    case hI =>
      intro zs' lo m A C hi hk
      have h7 := HS.out
      have h8 := HBB.out.size
      have h9 := HE1.out.lt
      exact hi.kept hk (.inl (by omega)) (.inl (by omega)) (.inl (by omega)) (.inl (by omega)) (fun k hk => .inl (by omega))
    case h0 =>
      intro lo _
      exact ⟨⟨_, _, Y5.out⟩, ⟨_, _, Y6.out⟩, HZ1.out, HE1.out, HBB.out, List.nil_prefix⟩
    case round =>
      rintro l k zs' lo m ⟨j, t, v⟩ A hl hC hpre hlo hloA hlm hmA hzv
      have hzv' : IntV A v t := hzv
      have HLL := Lib.hid hl
      have HS0 := Lib.hid hsz0
      clear hzv hl hsz0
      obtain ⟨⟨_, _, Z5⟩, ⟨_, _, Z6⟩, hzr, her, hbl, hpf⟩ := hC
      obtain ⟨r, hr⟩ := hpre
      have htk : zs' = zs.reverse.take zs'.length := by rw [← hr, List.append_assoc, List.take_left']; rfl
      have hle : zs'.length + 1 ≤ zs.length := by have := congrArg List.length hr; rw [List.length_append, List.length_append, List.length_reverse, List.length_singleton] at this; omega
      have hmem : t ∈ zs := by
        have : t ∈ zs.reverse := by rw [← hr]; simp
        simpa using this
      have hst := HST.out zs'.length (by omega)
      rw [← htk] at hst
      have hlt := HLT.out t hmem
      obtain ⟨s, hs⟩ : ∃ s, zs'.foldl cs (z, 1) = s := ⟨_, rfl⟩
      rw [hs] at hst Z5 Z6
      obtain ⟨N', D'⟩ := s
      obtain ⟨q5, ae5, me5, ce5, e1, e2, _⟩ := Z5.iv.parts
      obtain ⟨_, _, _, _, e3, e4, _⟩ := Z6.iv.parts
      obtain ⟨pv, av, nv, cv, rfl⟩ := intv_shape hzv'
      subst e1 e2 e3 e4
      simp only at hst Z5 Z6
      have hne : (sgnZ N' == 0) = false := by rw [beq_eq_false_iff_ne]; intro h; have := sgnZ_z.1 h; omega
      have HTT := Lib.hid hzv'
      have HPR : Hid (zs' ++ [t] <+: zs.reverse) := Lib.hid ⟨r, hr⟩
      have HSS := Lib.hid hs
      have HZ5 := Lib.hid Z5
      have HZ6 := Lib.hid Z6
      have HZR := Lib.hid hzr
      have HER := Lib.hid her
      have HBL := Lib.hid hbl
      have HL1 := Lib.hid hst
      have HL2 := Lib.hid hlt
      have HSG := Lib.hid fun W u h => Lib.hid (sign_any N' u W (Nat.le_trans hst.2.1 (by decide)) h)
      have HMU := Lib.hid fun W u v h h' => Lib.hid (Mul_any t N' u v W (Nat.le_trans hlt (by decide)) (Nat.le_trans hst.2.1 (by decide)) h h')
      have HAD := Lib.hid fun W u v h h' => Lib.hid (Add_any (t * N') D' u v W (len_le (by decide) (((len_bdq hlt).mul (len_bdq hst.2.1)).up (show 400000 + 400000 ≤ 1000000 by decide))) (Nat.le_trans hst.2.2 (by decide)) h h')
      clear hs hst hlt hmem htk hle hr hzv' Z5 Z6 hzr her hbl hpf
      gi_wp2
      have hal : Below A.heap.size A (A.alloc (.cells #[.bool pv, .slice av nv cv] 31)) := (Below.refl _ _).alloc (Nat.le_refl _) _
      refine ⟨Kept.below hal, fun w2 hw2 kw2 => ?_⟩
      have kA : Kept (fun i => i ≠ l) A w2 := (Kept.below hal).trans kw2
      have hl := HLL.out
      have hsz0 := HS0.out
      have hS := HS.out
      have hb8 := HBB.out.size
      have h9 := HER.out.lt
      have h10 := HE1.out.lt
      have hlA : l < A.heap.size := by omega
      have X5 := HZ5.out.ku kA.ku kA.size (kA.blk a5 HZ5.out.lt (by omega))
      have X6 := HZ6.out.ku kA.ku kA.size (kA.blk a6 HZ6.out.lt (by omega))
      have X8 : BX A.heap.size (.bool pv) (.slice av nv cv) t w2 := (BX.made (t := 31) HTT.out).ku kw2.ku kw2.size (kw2.blk _ (by simp) (by omega))
      have ZR2 := Lib.hid (HZR.out.blk (kA.blk _ HZR.out.lt (by omega)))
      have ER2 : Hid (Boxed w2 (w.heap.size + 1) 39 (.int .i64 0)) := Lib.hid ((kA.blk _ HER.out.lt (by omega)).trans HER.out)
      have BL2 := Lib.hid (below_kept HBL.out kA HBL.out.size (fun k hk => by omega))
      have HX5 := Lib.hid X5
      have HX6 := Lib.hid X6
      have HX8 := Lib.hid X8
      have HLA := Lib.hid hlA
      have HMA := Lib.hid (And.intro hmA (And.intro hlm (And.intro hlo hloA)))
      have HW2 := Lib.hid hw2
      obtain ⟨g0, g1⟩ := X5.cells
      clear hl hsz0 X5 X6 X8 kA kw2 hal hS hb8 h9 h10 hlA hmA hlm hlo hloA hw2 HZ5 HZ6 HZR HER HBL HTT
      gi_wp2_with fail
      refine ⟨trivial, fun h => by simp [Fence.wide] at h, (CallsIn.inRound l (callsIn_wide.2 (HSG.out _ _ HX5.out.iv).out)).mono ?_⟩
      rintro e w3 ⟨rfl, hb3⟩
      have HY5 := Lib.hid (HX5.out.keep hb3)
      have HY6 := Lib.hid (HX6.out.keep hb3)
      have HY8 := Lib.hid (HX8.out.keep hb3)
      have HB3 := Lib.hid hb3
      clear g0 g1 hb3 HX5 HX6 HX8
      gi_wp2_with fail
      have J5 := HY5.out.keep (bD _)
      have J6 := HY6.out.keep (bD _)
      have J8 := HY8.out.keep (bD _)
      obtain ⟨g0, g1⟩ := HY5.out.cells
      obtain ⟨g2, g3⟩ := HY6.out.cells
      obtain ⟨g4, g5⟩ := HY8.out.cells
      have hmix : Tryz.prog.follows .mixedOrders = true := by kernel_rfl
      clear hw hw1 h1 h2 h3 h4 h5 hn hcap hne
      have n56 := HS.out.1
      have n65 := Ne.symm n56
      have HFIN := Lib.hid (fun (wB : World) (x y : Value) (hb : Below w3.heap.size w3 wB) (hi : IntV wB (.agg #[x, y]) (t * N' + D')) => show Kept (fun i => (i = U.heap.size ∨ i = g) ∨ W0.heap.size ≤ i ∧ i < lo ∨ m ≤ i) w2 ((((wB.setCell ⟨a5, 0, none⟩ x).setCell ⟨a5, 1, none⟩ y).setCell ⟨a6, 0, none⟩ (.bool q5)).setCell ⟨a6, 1, none⟩ (.slice ae5 me5 ce5)) ∧
          ConI w a5 a6 zs.reverse z (zs' ++ [t]) ((((wB.setCell ⟨a5, 0, none⟩ x).setCell ⟨a5, 1, none⟩ y).setCell ⟨a6, 0, none⟩ (.bool q5)).setCell ⟨a6, 1, none⟩ (.slice ae5 me5 ce5)) from by
        have k5 := HY5.out.keep hb
        have k6 := HY6.out.keep hb
        obtain ⟨f5, f6⟩ := two_stored k5 k6 n56 hi k5.iv
        have hS := HS.out
        have hM := HMA.out
        have h0 := HS0.out
        have hbb := HBB.out.size
        have kk : ∀ S : Nat → Prop, ¬ S a5 → ¬ S a6 → Kept S wB _ := fun S s5 s6 => (Kept.store k5 s5 x y).trans (Kept.store (k6.oth k5 n65 x y) s6 (.bool q5) (.slice ae5 me5 ce5))
        have kB : ∀ S : Nat → Prop, Kept S w2 wB := fun S => (Kept.below HB3.out).trans (Kept.below hb)
        have her : Boxed wB (w.heap.size + 1) 39 (.int .i64 0) := (hb.block _ (Nat.lt_of_lt_of_le ER2.out.lt HB3.out.size)).trans ((HB3.out.block _ ER2.out.lt).trans ER2.out)
        have hzr := (ZR2.out.keep HB3.out).keep hb
        have hbl := (BL2.out.trans (HB3.out.mono BL2.out.size)).trans (hb.mono (Nat.le_trans BL2.out.size HB3.out.size))
        refine ⟨(kB _).trans (kk (fun i => (i = U.heap.size ∨ i = g) ∨ W0.heap.size ≤ i ∧ i < lo ∨ m ≤ i) (by intro hh; rcases hh with (hh | hh) | hh | hh <;> omega) (by intro hh; rcases hh with (hh | hh) | hh | hh <;> omega)), ⟨x, y, ?_⟩, ⟨.bool q5, .slice ae5 me5 ce5, ?_⟩, hzr.blk ((kk (fun i => i = w.heap.size) (by omega) (by omega)).blk _ hzr.lt rfl), ((kk (fun i => i = w.heap.size + 1) (by omega) (by omega)).blk _ her.lt rfl).trans her, below_kept hbl (kk (fun i => i < w.heap.size) (by omega) (by omega)) hbl.size (fun _ h => h), HPR.out⟩
        · rw [List.foldl_append, HSS.out]; exact f5
        · rw [List.foldl_append, HSS.out]; exact f6)
      gi_region_with_o
        (first
        | (refine ⟨trivial, fun h => (by simp [Fence.wide] at h), ?_⟩; gi_at_call 84; refine (CallsIn.inRound l (callsIn_wide.2 (HMU.out _ _ _ J8.iv J5.iv).out)).mono ?_; rintro e wA ⟨vA, rfl, hiA, hbA⟩; have J5a := J5.keep hbA; have J6a := J6.keep hbA; obtain ⟨g0, g1⟩ := J5a.cells; obtain ⟨g2, g3⟩ := J6a.cells)
        | (refine ⟨trivial, fun h => (by simp [Fence.wide] at h), ?_⟩; gi_at_call 99; refine (CallsIn.inRound l (callsIn_wide.2 (HAD.out _ _ _ hiA J6a.iv).out)).mono ?_; rintro e wB ⟨vB, rfl, hiB, hbB⟩; have J5b := J5a.keep hbB; have J6b := J6a.keep hbB; obtain ⟨pb, ab, nb, cb, rfl⟩ := intv_shape hiB; obtain ⟨g0, g1, k0, k1, _⟩ := J5b; obtain ⟨g2, g3, k2, k3, _⟩ := J6b; have HF2 := HFIN.out wB _ _ (((bD w3).trans (hbA.mono (bD w3).size)).trans (hbB.mono (Nat.le_trans (bD w3).size hbA.size))) hiB))
      all_goals
        gi_wp2
    case done =>
      rintro lo m C hC hd
      obtain ⟨⟨_, _, Z5⟩, ⟨_, _, Z6⟩, hzr, her, hbl, _⟩ := hC
      have hND := HND.out
      rw [hND.1] at Z5
      rw [hND.2] at Z6
      obtain ⟨q5, ae5, me5, ce5, e1, e2, _⟩ := Z5.iv.parts
      obtain ⟨q6, ae6, me6, ce6, e3, e4, _⟩ := Z6.iv.parts
      subst e1 e2 e3 e4
      have hs := HST.out zs.length (Nat.le_refl _)
      rw [List.take_of_length_le (by rw [List.length_reverse]; exact Nat.le_refl _), hND.1, hND.2] at hs
      have hD0 : D ≠ 0 := by have := HD.out; rwa [hND.2] at this
      have HNW := Lib.hid (show Calls Tryz.prog 16 _ C (RatRes C (qn N D) (qd N D) 0) from by
        have := ratNew_any N D _ _ C (Nat.le_trans hs.2.1 (by decide)) (Nat.le_trans hs.2.2 (by decide)) Z5.iv Z6.iv
        rwa [if_neg hD0, if_neg hD0, if_neg hD0] at this)
      have HDF := Lib.hid hd
      have HBL := Lib.hid hbl
      have HZR := Lib.hid hzr
      have HER := Lib.hid her
      have HW0 := Lib.hid hsz0
      obtain ⟨g0, g1⟩ := Z5.cells
      obtain ⟨g2, g3⟩ := Z6.cells
      clear Z5 Z6 hd hbl hzr her hND hs hD0 hw hw1 h1 h2 h3 h4 h5 hn hcap hsz0 HST HLT HD HND HGB HEL hW0
      generalize qn N D = qN at *
      generalize qd N D = qD at *
      gi_wp2_with fail
      go_wp2_with fail
      (with_reducible refine HNW.out.mono ?_)
      rintro e w6 ⟨v6, rfl, hr6, hb6⟩
      have hr6' := hr6
      obtain ⟨p6, ad6, n6, c6, p7, ad7, n7, c7, rfl⟩ := rat_shape hr6'
      have hZ6 := Lib.hid (HZR.out.keep hb6)
      have hR6 := Lib.hid hr6
      have hE6 : Hid (Boxed w6 (w.heap.size + 1) 39 (.int .i64 0)) := Lib.hid ((hb6.block _ HER.out.lt).trans HER.out)
      have hD6 := Lib.hid ((hb6.block _ (Array.getElem?_eq_some_iff.1 HDF.out).1).trans HDF.out)
      have hB6 := Lib.hid (HBL.out.trans (hb6.mono HBL.out.size))
      obtain ⟨r0, r1, r2, r3, f0, f1, f2, f3⟩ := hZ6.out
      have ge := hE6.out.cell
      have fe := hE6.out.frozen
      clear hb6 hr6 hr6' g0 g1 g2 g3
      go_wp2_with fail
      obtain ⟨hX, hY⟩ := con_end hZ6.out ge (by intro k h; cases h) hR6.out hD6.out HE1.out.lt hB6.out (Nat.le_refl _) (.int .i64 0)
      obtain ⟨c0, c1, c2, c3, c4, hrr, hbb⟩ := hY (.deferred none)
      refine ⟨by simp, .inl ⟨_, _, rfl, run_takeDeferred hX, ?_⟩⟩
      refine ⟨.tuple #[.agg #[.bool p6, .slice ad6 n6 c6, .bool p7, .slice ad7 n7 c7], .int .i64 0], by simp [results, Tryz.results52, go_sem, c0, c1, c2, c3, c4], ?_⟩
      exact ⟨_, rfl, hrr, hbb⟩
end
end Go.Proofs.YtiegkjfpdiohkaaGreat

namespace Go.Proofs.YtiegkjfpdiohkaaGreat
section
open Go.RowKit Go.Shelf Digs

/-- Where the fraction's box lies. -/
structure RB4 (R : Nat) (x y s t : Value) (W : World) : Prop where
  c0 : W.cell? ⟨R, 0, none⟩ = some x
  c1 : W.cell? ⟨R, 1, none⟩ = some y
  c2 : W.cell? ⟨R, 2, none⟩ = some s
  c3 : W.cell? ⟨R, 3, none⟩ = some t
theorem RB4.keep {R : Nat} {x y s t : Value} {W W' : World} (h : RB4 R x y s t W) (hb : Below W.heap.size W W') : RB4 R x y s t W' := by
  have l := World.block_lt_of_cell? W _ h.c0
  exact ⟨(hb.cell (p := ⟨R, 0, none⟩) l).trans h.c0, (hb.cell (p := ⟨R, 1, none⟩) l).trans h.c1, (hb.cell (p := ⟨R, 2, none⟩) l).trans h.c2, (hb.cell (p := ⟨R, 3, none⟩) l).trans h.c3⟩
theorem RB4.made (w : World) (x y s t : Value) (u : TypeId) : RB4 w.heap.size x y s t (w.alloc (.cells #[x, y, s, t] u)) := by
  obtain ⟨h1, h2, h3, h4, _⟩ := cells4 (Below.refl (w.alloc (.cells #[x, y, s, t] u)).heap.size (w.alloc (.cells #[x, y, s, t] u)))
  exact ⟨h1, h2, h3, h4⟩
theorem RB4.lt {R : Nat} {x y s t : Value} {W : World} (h : RB4 R x y s t W) : R < W.heap.size := World.block_lt_of_cell? W _ h.c0

/-- What the elements must be, that Contract may be called for them. -/
structure CTok (T : List Int) (N D : Int) : Prop where
  ok : ∃ zs z, T = zs ++ [z] ∧ zs.length ≤ 100000 ∧ (∀ k, k ≤ zs.length → 0 < ((zs.reverse.take k).foldl cs (z, 1)).1 ∧ len ((zs.reverse.take k).foldl cs (z, 1)).1 ≤ 400000 ∧ len ((zs.reverse.take k).foldl cs (z, 1)).2 ≤ 400000) ∧
    (∀ t ∈ zs, len t ≤ 400000) ∧ (zs.reverse.foldl cs (z, 1)).2 ≠ 0 ∧ (zs.reverse.foldl cs (z, 1)).1 = N ∧ (zs.reverse.foldl cs (z, 1)).2 = D

/-- commonTerms: both ends in boxes, and the closure over them. -/
def CTPost (w : World) (n1 d1 n2 d2 : Int) (k : Nat) (e : Ending) (w' : World) : Prop :=
  ∃ b1 b2, e = .returned (.func (.func 173) #[] #[.pointer (some ⟨b1, 0, none⟩), .pointer (some ⟨b2, 0, none⟩)]) ∧ GivesZ 173 #[.pointer (some ⟨b1, 0, none⟩), .pointer (some ⟨b2, 0, none⟩)] (ct k n1 d1 n2 d2) w' ∧ Below w.heap.size w w'

set_option maxRecDepth 100000 in
theorem commonTerms_any (k : Nat) (n1 d1 n2 d2 : Int) (v1 v2 : Value) (w : World) (h1 : RatV w v1 n1 d1) (h2 : RatV w v2 n2 d2) (hd1 : 0 < d1) (hd2 : 0 < d2) (hle : n1 * d2 ≤ n2 * d1) (hk : d1 + d2 ≤ (k : Int)) (l1 : len n1 ≤ 900000) (l2 : len d1 ≤ 900000) (l3 : len n2 ≤ 900000) (l4 : len d2 ≤ 900000) :
    Calls Tryz.prog 153 #[v1, v2] w (CTPost w n1 d1 n2 d2 k) := by
  obtain ⟨p1, ad1, m1, c1, p2, ad2, m2, c2, e1⟩ := rat_shape h1
  obtain ⟨q1, ae1, o1, f1, q2, ae2, o2, f2, e2⟩ := rat_shape h2
  subst e1 e2
  have al : ∀ (A : World) (o : Obj), Below A.heap.size A (A.alloc o) := fun A o => (Below.refl _ _).alloc (Nat.le_refl _) _
  have r1 := (RB4.made w (.bool p1) (.slice ad1 m1 c1) (.bool p2) (.slice ad2 m2 c2) 38).keep (al _ (.cells #[.bool q1, .slice ae1 o1 f1, .bool q2, .slice ae2 o2 f2] 38))
  have r2 := RB4.made (w.alloc (.cells #[.bool p1, .slice ad1 m1 c1, .bool p2, .slice ad2 m2 c2] 38)) (.bool q1) (.slice ae1 o1 f1) (.bool q2) (.slice ae2 o2 f2) 38
  rw [World.size_alloc] at r2
  have hb := below2 w (.cells #[.bool p1, .slice ad1 m1 c1, .bool p2, .slice ad2 m2 c2] 38) (.cells #[.bool q1, .slice ae1 o1 f1, .bool q2, .slice ae2 o2 f2] 38)
  have HG := Lib.hid (commonTerms_gives w.heap.size (w.heap.size + 1) k n1 d1 n2 d2 _ _ _ _ _ _ _ _ _ _ _ r1.lt r2.lt rfl rfl r1.c0 r1.c1 r1.c2 r1.c3 r2.c0 r2.c1 r2.c2 r2.c3 (h1.keep hb) (h2.keep hb) hd1 hd2 hle hk l1 l2 l3 l4)
  have HB := Lib.hid hb
  clear al r1 r2 hb h1 h2 hd1 hd2 hle hk l1 l2 l3 l4
  go_enter Tryz.func153, Tryz.ntmps153
  go_wp2
  go_ret
  exact ⟨_, _, rfl, HG.out, HB.out⟩

/-- A row of numbers, made by the call, as Contract takes it. -/
theorem ZRow.el {w : World} {base : Nat} {v : Value} {T : List Int} (h : ZRow w base v T) (hT : 0 < T.length) : ∃ g cap, v = .slice (some ⟨g, 0, none⟩) T.length cap ∧ T.length ≤ cap ∧ g < w.heap.size ∧ ElAt w g T := by
  obtain ⟨xs, ho, _, hel⟩ := h
  have ho' := ho
  obtain ⟨_, ⟨_, h0⟩ | ⟨g, cap, cur, rfl, _, hg, hc, _⟩⟩ := ho
  · omega
  · refine ⟨g, cap, rfl, hc, (Array.getElem?_eq_some_iff.1 hg).1, fun j hj => ?_⟩
    obtain ⟨ad, n, c, e1, e2, e3⟩ := hel j hj
    exact ⟨_, ad, n, c, by rw [ho'.cellAt _ (by omega)]; exact e1, by rw [ho'.cellAt _ (by omega)]; exact e2, e3⟩

set_option maxHeartbeats 1000000 in
set_option maxRecDepth 100000 in
theorem simplest_any (k : Nat) (n1 d1 n2 d2 N D : Int) (v1 v2 : Value) (w : World) (h1 : RatV w v1 n1 d1) (h2 : RatV w v2 n2 d2) (hd1 : 0 < d1) (hd2 : 0 < d2) (hle : n1 * d2 ≤ n2 * d1) (hk : d1 + d2 ≤ (k : Int)) (l1 : len n1 ≤ 900000) (l2 : len d1 ≤ 900000) (l3 : len n2 ≤ 900000) (l4 : len d2 ≤ 900000)
    (hT : (ct k n1 d1 n2 d2).length ≤ 1000000) (hok : CTok (ct k n1 d1 n2 d2) N D) :
    Calls Tryz.prog 109 #[v1, v2] w (RatPost w (qn N D) (qd N D)) := by
  have HC := Lib.hid fun W (hW : Below w.heap.size w W) => Lib.hid (show Calls Tryz.prog 153 #[v1, v2] W (fun e w' => ∃ b1 b2, e = .returned (.func (.func 173) #[] #[.pointer (some ⟨b1, 0, none⟩), .pointer (some ⟨b2, 0, none⟩)]) ∧ GivesZ 173 #[.pointer (some ⟨b1, 0, none⟩), .pointer (some ⟨b2, 0, none⟩)] (ct k n1 d1 n2 d2) w' ∧ Below W.heap.size W w') from commonTerms_any k n1 d1 n2 d2 v1 v2 W (h1.keep hW) (h2.keep hW) hd1 hd2 hle hk l1 l2 l3 l4)
  obtain ⟨p1, ad1, m1, c1, p2, ad2, m2, c2, e1⟩ := rat_shape h1
  obtain ⟨q1, ae1, o1, f1, q2, ae2, o2, f2, e2⟩ := rat_shape h2
  subst e1 e2
  have HT := Lib.hid hT
  have HOK := Lib.hid hok
  clear h1 h2 hd1 hd2 hle hk l1 l2 l3 l4 hT hok
  generalize ct k n1 d1 n2 d2 = T at *
  have al : ∀ (A : World) (o : Obj), Below A.heap.size A (A.alloc o) := fun A o => (Below.refl _ _).alloc (Nat.le_refl _) _
  obtain ⟨X0, hX0⟩ : ∃ X0, ((w.alloc (.cells #[.bool p1, .slice ad1 m1 c1, .bool p2, .slice ad2 m2 c2] 38)).alloc (.cells #[.bool q1, .slice ae1 o1 f1, .bool q2, .slice ae2 o2 f2] 38)).alloc (.cells #[.bool false, .slice none 0 0, .bool false, .slice none 0 0] 38) = X0 := ⟨_, rfl⟩
  have hZ := Z4.made ((w.alloc (.cells #[.bool p1, .slice ad1 m1 c1, .bool p2, .slice ad2 m2 c2] 38)).alloc (.cells #[.bool q1, .slice ae1 o1 f1, .bool q2, .slice ae2 o2 f2] 38)) 38
  have hB := below3w w (.cells #[.bool p1, .slice ad1 m1 c1, .bool p2, .slice ad2 m2 c2] 38) (.cells #[.bool q1, .slice ae1 o1 f1, .bool q2, .slice ae2 o2 f2] 38) (.cells #[.bool false, .slice none 0 0, .bool false, .slice none 0 0] 38)
  rw [World.size_alloc, World.size_alloc, hX0] at hZ
  rw [hX0] at hB
  have HZ := Lib.hid hZ
  have HB := Lib.hid hB
  have HX := Lib.hid hX0
  have HCC := Lib.hid (HC.out X0 hB)
  rw [← hX0] at HCC
  clear hX0 hZ hB al HC
  go_enter Tryz.func109, Tryz.ntmps109
  go_wp2_with fail
  (with_reducible refine HCC.out.out.mono ?_)
  rintro e w1 ⟨b1, b2, rfl, hG, hb1⟩
  rw [HX.out] at hb1
  have HZ1 := Lib.hid (HZ.out.keep hb1)
  have HB1 := Lib.hid (HB.out.trans (hb1.mono HB.out.size))
  have HCO := Lib.hid (collect_any _ _ T w1 HT.out (enters_of Tryz.func173 (by kernel_rfl)) hG)
  clear hb1 hG HCC HX HZ HB
  go_wp2_with fail
  (with_reducible refine HCO.out.mono ?_)
  rintro e w2 ⟨v, rfl, hz, hb2⟩
  have HZ2 := Lib.hid (HZ1.out.keep hb2)
  have HB2 := Lib.hid (HB1.out.trans (hb2.mono HB1.out.size))
  obtain ⟨zs, z, hTT, hl, hst, hlt, hD, hN1, hD1⟩ := HOK.out.ok
  subst hTT
  obtain ⟨g, cap, rfl, hcap, hg, hel⟩ := hz.el (by rw [List.length_append, List.length_singleton]; omega)
  rw [List.length_append, List.length_singleton] at hcap ⊢
  have HCT := Lib.hid (contract_any g cap zs z w2 hl hcap hel hg hst hlt hD)
  rw [hN1, hD1] at HCT
  clear hz hb2 HZ1 HB1 HCO HT HOK hl hst hlt hD hN1 hD1 hel hcap hg
  generalize qn N D = qN at *
  generalize qd N D = qD at *
  go_wp2_with fail
  (with_reducible refine HCT.out.mono ?_)
  rintro e w3 ⟨v3, rfl, hr3, hb3⟩
  have hr3' := hr3
  obtain ⟨p6, ad6, n6, c6, p7, ad7, n7, c7, rfl⟩ := rat_shape hr3'
  have hal : Below w3.heap.size w3 (w3.alloc (.cells #[.bool p6, .slice ad6 n6 c6, .bool p7, .slice ad7 n7 c7] 38)) := (Below.refl _ _).alloc (Nat.le_refl _) _
  have hRB := RB4.made w3 (.bool p6) (.slice ad6 n6 c6) (.bool p7) (.slice ad7 n7 c7) 38
  obtain ⟨g0, g1, g2, g3⟩ := hRB
  have HZ4 := Lib.hid ((HZ2.out.keep hb3).keep hal)
  have HR4 := Lib.hid (hr3.keep hal)
  have HB4 := Lib.hid ((HB2.out.trans (hb3.mono HB2.out.size)).trans (hal.mono (Nat.le_trans HB2.out.size hb3.size)))
  obtain ⟨r0, r1, r2, r3, f0, f1, f2, f3⟩ := HZ4.out
  clear hr3 hr3' hb3 hal HCT HZ2 HB2
  go_wp2_with fail
  refine bodyPost_ret (v := .agg #[.bool p6, .slice ad6 n6 c6, .bool p7, .slice ad7 n7 c7]) (by simp [results, Tryz.results109, go_sem, r0, r1, r2, r3]) rfl ⟨_, rfl, HZ4.out.set HR4.out rfl, ?_⟩
  exact (((HB4.out.setCell (by simp; omega) _).setCell (by simp; omega) _).setCell (by simp; omega) _).setCell (by simp; omega) _

set_option maxHeartbeats 1000000 in
set_option maxRecDepth 100000 in
theorem Simplest_pos (k : Nat) (n1 d1 n2 d2 N D : Int) (v1 v2 : Value) (w : World) (h1 : RatV w v1 n1 d1) (h2 : RatV w v2 n2 d2) (hn1 : 0 < n1) (hd1 : 0 < d1) (hd2 : 0 < d2) (hle : n1 * d2 ≤ n2 * d1) (hk : d1 + d2 ≤ (k : Int)) (l1 : len n1 ≤ 900000) (l2 : len d1 ≤ 900000) (l3 : len n2 ≤ 900000) (l4 : len d2 ≤ 900000)
    (hT : (ct k n1 d1 n2 d2).length ≤ 1000000) (hok : CTok (ct k n1 d1 n2 d2) N D) :
    Calls Tryz.prog 54 #[v1, v2] w (RatRes w (qn N D) (qd N D) 0) := by
  have HS := Lib.hid fun W (hW : Below w.heap.size w W) => Lib.hid (simplest_any k n1 d1 n2 d2 N D v1 v2 W (h1.keep hW) (h2.keep hW) hd1 hd2 hle hk l1 l2 l3 l4 hT hok)
  have HC := Lib.hid fun W (hW : Below w.heap.size w W) => Lib.hid (ratCmp_any n1 d1 n2 d2 v1 v2 W hd1 hd2 (by omega) (by omega) (by omega) (by omega) (h1.keep hW) (h2.keep hW))
  have HG := Lib.hid fun W (hW : Below w.heap.size w W) => Lib.hid (ratSign_any n1 d1 v1 W (by omega) (h1.keep hW))
  have hc : ¬ 0 < cmpZ (n1 * d2) (n2 * d1) := by have := (cmpZ_le (n1 * d2) (n2 * d1)).2 hle; omega
  have hg : 0 < sgnZ n1 := by unfold sgnZ; rw [if_neg (by omega), if_neg (by omega)]; decide
  obtain ⟨p1, ad1, m1, c1, p2, ad2, m2, c2, e1⟩ := rat_shape h1
  obtain ⟨q1, ae1, o1, f1, q2, ae2, o2, f2, e2⟩ := rat_shape h2
  subst e1 e2
  clear h1 h2 hn1 hd1 hd2 hle hk l1 l2 l3 l4 hT hok
  generalize cmpZ (n1 * d2) (n2 * d1) = cz at *
  generalize sgnZ n1 = sz at *
  generalize qn N D = qN at *
  generalize qd N D = qD at *
  have al : ∀ (A : World) (o : Obj), Below A.heap.size A (A.alloc o) := fun A o => (Below.refl _ _).alloc (Nat.le_refl _) _
  have r1 := ((RB4.made w (.bool p1) (.slice ad1 m1 c1) (.bool p2) (.slice ad2 m2 c2) 38).keep (al _ (.cells #[.bool q1, .slice ae1 o1 f1, .bool q2, .slice ae2 o2 f2] 38))).keep (al _ (.cells #[.bool false, .slice none 0 0, .bool false, .slice none 0 0] 38))
  have r2 := (RB4.made (w.alloc (.cells #[.bool p1, .slice ad1 m1 c1, .bool p2, .slice ad2 m2 c2] 38)) (.bool q1) (.slice ae1 o1 f1) (.bool q2) (.slice ae2 o2 f2) 38).keep (al _ (.cells #[.bool false, .slice none 0 0, .bool false, .slice none 0 0] 38))
  have hZ := Z4.made ((w.alloc (.cells #[.bool p1, .slice ad1 m1 c1, .bool p2, .slice ad2 m2 c2] 38)).alloc (.cells #[.bool q1, .slice ae1 o1 f1, .bool q2, .slice ae2 o2 f2] 38)) 38
  have hB := below3w w (.cells #[.bool p1, .slice ad1 m1 c1, .bool p2, .slice ad2 m2 c2] 38) (.cells #[.bool q1, .slice ae1 o1 f1, .bool q2, .slice ae2 o2 f2] 38) (.cells #[.bool false, .slice none 0 0, .bool false, .slice none 0 0] 38)
  rw [World.size_alloc] at r2
  rw [World.size_alloc, World.size_alloc] at hZ
  have R1 := Lib.hid r1
  have R2 := Lib.hid r2
  have HZ := Lib.hid hZ
  have HB := Lib.hid hB
  clear r1 r2 hZ hB al
  go_enter Tryz.func54, Tryz.ntmps54
  go_wp2_with fail
  (with_reducible refine (HC.out _ HB.out).out.mono ?_)
  rintro e w1 ⟨rfl, hb1⟩
  have R1a := Lib.hid (R1.out.keep hb1)
  have R2a := Lib.hid (R2.out.keep hb1)
  have HZa := Lib.hid (HZ.out.keep hb1)
  have HBa := Lib.hid (HB.out.trans (hb1.mono HB.out.size))
  obtain ⟨g0, g1, g2, g3⟩ := R1a.out
  clear hb1 R1 R2 HZ HB
  go_wp2_with fail
  (with_reducible refine (HG.out _ HBa.out).out.mono ?_)
  rintro e w2 ⟨rfl, hb2⟩
  have R1b := Lib.hid (R1a.out.keep hb2)
  have R2b := Lib.hid (R2a.out.keep hb2)
  have HZb := Lib.hid (HZa.out.keep hb2)
  have HBb := Lib.hid (HBa.out.trans (hb2.mono HBa.out.size))
  clear g0 g1 g2 g3 hb2 R1a R2a HZa HBa
  obtain ⟨g0, g1, g2, g3⟩ := R1b.out
  obtain ⟨g4, g5, g6, g7⟩ := R2b.out
  go_wp2_with fail
  (with_reducible refine (HS.out _ HBb.out).out.mono ?_)
  rintro e w3 ⟨v3, rfl, hr3, hb3⟩
  have hr3' := hr3
  obtain ⟨p6, ad6, n6, c6, p7, ad7, n7, c7, rfl⟩ := rat_shape hr3'
  have HZ4 := Lib.hid (HZb.out.keep hb3)
  have HR4 := Lib.hid hr3
  have HB4 := Lib.hid (HBb.out.trans (hb3.mono HBb.out.size))
  obtain ⟨r0, r1, r2, r3, f0, f1, f2, f3⟩ := HZ4.out
  clear hr3 hr3' hb3 g0 g1 g2 g3 g4 g5 g6 g7 R1b R2b HZb HBb
  go_wp2_with fail
  refine bodyPost_ret (v := .tuple #[.agg #[.bool p6, .slice ad6 n6 c6, .bool p7, .slice ad7 n7 c7], .int .i64 0]) (by simp [results, Tryz.results54, go_sem, r0, r1, r2, r3]) rfl ⟨_, rfl, HZ4.out.set HR4.out rfl, ?_⟩
  exact (((HB4.out.setCell (by simp; omega) _).setCell (by simp; omega) _).setCell (by simp; omega) _).setCell (by simp; omega) _
end
end Go.Proofs.YtiegkjfpdiohkaaGreat

namespace Go.Proofs.YtiegkjfpdiohkaaGreat
section
open Go.RowKit Digs

theorem len_sm {z : Int} (h : z.natAbs < 4294967296) : len z ≤ 1 := by
  unfold len
  by_cases h0 : z.natAbs = 0
  · rw [h0, digs_zero]; exact Nat.zero_le _
  · rw [digs_pos (by decide) (by omega), Nat.div_eq_of_lt h, digs_zero]; exact Nat.le_refl _
theorem ct_ex : ct 125 31 100 8 25 = [0, 3, 5] := by rfl
theorem ctok_ex : CTok [0, 3, 5] 5 16 := by
  refine ⟨[0, 3], 5, rfl, by decide, fun k hk => ?_, fun t ht => ?_, by decide, by decide, by decide⟩
  · match k, hk with
    | 0, _ => exact ⟨by decide, Nat.le_trans (len_sm (by decide)) (by decide), Nat.le_trans (len_sm (by decide)) (by decide)⟩
    | 1, _ => exact ⟨by decide, Nat.le_trans (len_sm (by decide)) (by decide), Nat.le_trans (len_sm (by decide)) (by decide)⟩
    | 2, _ => exact ⟨by decide, Nat.le_trans (len_sm (by decide)) (by decide), Nat.le_trans (len_sm (by decide)) (by decide)⟩
  · simp only [List.mem_cons, List.not_mem_nil, or_false] at ht
    rcases ht with rfl | rfl <;> exact Nat.le_trans (len_sm (by decide)) (by decide)
theorem run_max_zero6 (w : World) (ts : Array TypeId) (t : TypeId) : (Builtin.max_ ts t #[.int .i64 0, .int .i64 0, .int .i64 0, .int .i64 0, .int .i64 0, .int .i64 0]).run Tryz.prog w = .ok (.int .i64 0) w := rfl
theorem lens {z : Int} (h : z.natAbs < 4294967296) : len z ≤ 900000 := Nat.le_trans (len_sm h) (by decide)
theorem lens' {z : Int} (h : z.natAbs < 4294967296) : len z ≤ 1000000 := Nat.le_trans (len_sm h) (by decide)

theorem parse_1 (w : World) : Calls Tryz.prog 58 #[.string ⟨#[43, 48, 54, 47, 52]⟩, .int .i64 10] w (RatRes w 3 2 0) := by
  have h := ratParse_ok 10 [43, 48, 54] [52] 6 4 w (by decide) (by decide) (by decide) (by decide) (by decide) prs_a prs_b (by decide) (by decide) (by decide) (lens' (by decide)) (lens' (by decide))
  rwa [q_a.1, q_a.2] at h
theorem parse_2 (w : World) : Calls Tryz.prog 58 #[.string ⟨#[51, 49, 47, 49, 48, 48]⟩, .int .i64 10] w (RatRes w 31 100 0) := by
  have h := ratParse_ok 10 [51, 49] [49, 48, 48] 31 100 w (by decide) (by decide) (by decide) (by decide) (by decide) prs_c prs_e (by decide) (by decide) (by decide) (lens' (by decide)) (lens' (by decide))
  rwa [q_b.1, q_b.2] at h
theorem parse_3 (w : World) : Calls Tryz.prog 58 #[.string ⟨#[51, 50, 47, 49, 48, 48]⟩, .int .i64 10] w (RatRes w 8 25 0) := by
  have h := ratParse_ok 10 [51, 50] [49, 48, 48] 32 100 w (by decide) (by decide) (by decide) (by decide) (by decide) prs_d prs_e (by decide) (by decide) (by decide) (lens' (by decide)) (lens' (by decide))
  rwa [q_c.1, q_c.2] at h
theorem text_1 (v : Value) (w : World) (h : RatV w v 3 2) : Calls Tryz.prog 56 #[v, .int .i64 10] w (fun e w' => e = .returned (.tuple #[.string ⟨#[51, 47, 50]⟩, .int .i64 0]) ∧ Below w.heap.size w w') :=
  ratText_any 10 3 2 [51] [50] v w h (by decide) (by decide) (lens' (by decide)) (lens' (by decide)) txt_a txt_b (by decide) (by decide)
theorem text_2 (v : Value) (w : World) (h : RatV w v 5 16) : Calls Tryz.prog 56 #[v, .int .i64 10] w (fun e w' => e = .returned (.tuple #[.string ⟨#[53, 47, 49, 54]⟩, .int .i64 0]) ∧ Below w.heap.size w w') :=
  ratText_any 10 5 16 [53] [49, 54] v w h (by decide) (by decide) (lens' (by decide)) (lens' (by decide)) txt_c txt_d (by decide) (by decide)
theorem simplest_1 (v1 v2 : Value) (w : World) (h1 : RatV w v1 31 100) (h2 : RatV w v2 8 25) : Calls Tryz.prog 54 #[v1, v2] w (RatRes w 5 16 0) := by
  have h := Simplest_pos 125 31 100 8 25 5 16 v1 v2 w h1 h2 (by decide) (by decide) (by decide) (by decide) (by decide) (lens (by decide)) (lens (by decide)) (lens (by decide)) (lens (by decide)) (by rw [ct_ex]; decide) (by rw [ct_ex]; exact ctok_ex)
  rwa [q_d.1, q_d.2] at h

set_option maxHeartbeats 1000000 in
set_option maxRecDepth 100000 in
theorem awake3_any (w : World) : Calls Tryz.prog 14 #[] w (BoolPost w true) := by
  have HP1 := Lib.hid fun W => Lib.hid (parse_1 W)
  have HP2 := Lib.hid fun W => Lib.hid (parse_2 W)
  have HP3 := Lib.hid fun W => Lib.hid (parse_3 W)
  have HT1 := Lib.hid fun v W h => Lib.hid (text_1 v W h)
  have HT2 := Lib.hid fun v W h => Lib.hid (text_2 v W h)
  have HS := Lib.hid fun u v W h h' => Lib.hid (simplest_1 u v W h h')
  go_enter Tryz.func14, Tryz.ntmps14
  go_wp2_with fail
  (with_reducible refine (HP1.out _).out.mono ?_)
  rintro e w1 ⟨v1, rfl, hr1, hb1⟩
  have hr1' := hr1
  obtain ⟨p1, ad1, m1, c1, p2, ad2, m2, c2, rfl⟩ := rat_shape hr1'
  have hal1 : Below w1.heap.size w1 (w1.alloc (.cells #[.bool p1, .slice ad1 m1 c1, .bool p2, .slice ad2 m2 c2] 38)) := (Below.refl _ _).alloc (Nat.le_refl _) _
  have R1 := Lib.hid (RB4.made w1 (.bool p1) (.slice ad1 m1 c1) (.bool p2) (.slice ad2 m2 c2) 38)
  have V1 := Lib.hid (hr1.keep hal1)
  have B1 := Lib.hid (hb1.trans (hal1.mono hb1.size))
  obtain ⟨g0, g1, g2, g3⟩ := R1.out
  clear hr1 hr1' hal1 hb1
  go_wp2_with fail
  (with_reducible refine (HT1.out _ _ V1.out).out.mono ?_)
  rintro e w2 ⟨rfl, hb2⟩
  have B2 := Lib.hid (B1.out.trans (hb2.mono B1.out.size))
  clear hb2 g0 g1 g2 g3 R1 V1 B1
  go_wp2_with fail
  (with_reducible refine (HP2.out _).out.mono ?_)
  rintro e w3 ⟨v3, rfl, hr3, hb3⟩
  have hr3' := hr3
  obtain ⟨p3, ad3, m3, c3, p4, ad4, m4, c4, rfl⟩ := rat_shape hr3'
  have hal3 : Below w3.heap.size w3 (w3.alloc (.cells #[.bool p3, .slice ad3 m3 c3, .bool p4, .slice ad4 m4 c4] 38)) := (Below.refl _ _).alloc (Nat.le_refl _) _
  have R3 := Lib.hid (RB4.made w3 (.bool p3) (.slice ad3 m3 c3) (.bool p4) (.slice ad4 m4 c4) 38)
  have V3 := Lib.hid (hr3.keep hal3)
  have B3 := Lib.hid (B2.out.trans ((hb3.trans (hal3.mono hb3.size)).mono B2.out.size))
  clear hr3 hr3' hal3 hb3 B2
  go_wp2_with fail
  (with_reducible refine (HP3.out _).out.mono ?_)
  rintro e w4 ⟨v4, rfl, hr4, hb4⟩
  have hr4' := hr4
  obtain ⟨p5, ad5, m5, c5, p6, ad6, m6, c6, rfl⟩ := rat_shape hr4'
  have hal4 : Below w4.heap.size w4 (w4.alloc (.cells #[.bool p5, .slice ad5 m5 c5, .bool p6, .slice ad6 m6 c6] 38)) := (Below.refl _ _).alloc (Nat.le_refl _) _
  have R4 := Lib.hid (RB4.made w4 (.bool p5) (.slice ad5 m5 c5) (.bool p6) (.slice ad6 m6 c6) 38)
  have V4 := Lib.hid (hr4.keep hal4)
  have R3b := Lib.hid ((R3.out.keep hb4).keep hal4)
  have V3b := Lib.hid ((V3.out.keep hb4).keep hal4)
  have B4 := Lib.hid (B3.out.trans ((hb4.trans (hal4.mono hb4.size)).mono B3.out.size))
  obtain ⟨g0, g1, g2, g3⟩ := R3b.out
  obtain ⟨g4, g5, g6, g7⟩ := R4.out
  clear hr4 hr4' hal4 hb4 B3 R3 V3
  go_wp2_with fail
  (with_reducible refine (HS.out _ _ _ V3b.out V4.out).out.mono ?_)
  rintro e w5 ⟨v5, rfl, hr5, hb5⟩
  have hr5' := hr5
  obtain ⟨p7, ad7, m7, c7, p8, ad8, m8, c8, rfl⟩ := rat_shape hr5'
  have hal5 : Below w5.heap.size w5 (w5.alloc (.cells #[.bool p7, .slice ad7 m7 c7, .bool p8, .slice ad8 m8 c8] 38)) := (Below.refl _ _).alloc (Nat.le_refl _) _
  have R5 := Lib.hid (RB4.made w5 (.bool p7) (.slice ad7 m7 c7) (.bool p8) (.slice ad8 m8 c8) 38)
  have V5 := Lib.hid (hr5.keep hal5)
  have B5 := Lib.hid (B4.out.trans ((hb5.trans (hal5.mono hb5.size)).mono B4.out.size))
  clear g0 g1 g2 g3 g4 g5 g6 g7 hr5 hr5' hal5 hb5 B4 R3b R4 V3b V4
  obtain ⟨g0, g1, g2, g3⟩ := R5.out
  go_wp2_with fail
  (with_reducible refine (HT2.out _ _ V5.out).out.mono ?_)
  rintro e w6 ⟨rfl, hb6⟩
  have B6 := Lib.hid (B5.out.trans (hb6.mono B5.out.size))
  have hmx := run_max_zero6
  clear hb6 g0 g1 g2 g3 R5 V5 B5
  go_wp2_with fail
  go_ret
  exact ⟨rfl, B6.out⟩
end
end Go.Proofs.YtiegkjfpdiohkaaGreat
