/-  IntegerDivides' walk.  -/
import Derived.Test.YtgepnkdnenjogaaActs
import Derived.Test.YtgepnkdnenjogaaRingA
namespace Go.Proofs.Ytgepnkdnenjogaa
section
open Go.RowKit Digs

/-- A box that is only read. -/
structure CX (p : Nat) (u v : Value) (z : Int) (w : World) : Prop where
  c0 : w.cell? ⟨p, 0, none⟩ = some u
  c1 : w.cell? ⟨p, 1, none⟩ = some v
  iv : IntV w (.agg #[u, v]) z
theorem CX.keep {p : Nat} {u v : Value} {z : Int} {w w' : World} (h : CX p u v z w) (hb : Below w.heap.size w w') : CX p u v z w' :=
  ⟨(hb.cell (p := ⟨p, 0, none⟩) (World.block_lt_of_cell? w _ h.c0)).trans h.c0, (hb.cell (p := ⟨p, 1, none⟩) (World.block_lt_of_cell? w _ h.c1)).trans h.c1, h.iv.keep hb⟩
theorem CX.made {u v : Value} {z : Int} {w : World} {t : TypeId} (h : IntV w (.agg #[u, v]) z) : CX w.heap.size u v z (w.alloc (.cells #[u, v] t)) :=
  have k := BX.made (t := t) h
  ⟨k.c0, k.c1, k.iv⟩
theorem CX.cells {p : Nat} {u v : Value} {z : Int} {w : World} (h : CX p u v z w) : w.cell? ⟨p, 0, none⟩ = some u ∧ w.cell? ⟨p, 1, none⟩ = some v := ⟨h.c0, h.c1⟩

theorem short36 (b1 b2 b3 : Bool) (a1 a2 a3 : Option Addr) (c1 c2 c3 : Nat) (l1 l2 l3 : List Nat) (w : World) (N : Nat) (hN : w.heap.size = N) (h1 : NArg w a1 c1 l1) (h2 : NArg w a2 c2 l2) (h3 : NArg w a3 c3 l3) :
    Calls Try.prog 14 #[.int .i64 6, .slice (some ⟨N, 0, none⟩) 3 3] (w.alloc (row3 b1 b2 b3 a1 a2 a3 c1 c2 c3 l1 l2 l3)) (BoolPost (w.alloc (row3 b1 b2 b3 a1 a2 a3 c1 c2 c3 l1 l2 l3)) (allLe [l1.length, l2.length, l3.length] 6)) := by
  subst hN
  exact Short_any w.heap.size 6 3 [l1.length, l2.length, l3.length] _ (show 3 ≤ 1000 by decide) (nrow3 b1 b2 b3 a1 a2 a3 c1 c2 c3 l1 l2 l3 w h1 h2 h3)

section
variable {ops : Array Oper} {Q : Exit → Act → World → Prop} {md : Region.Mode} {F : Nat → Value → World → Prop} {S : World → Prop} {a0 : Act} {i : Nat} {o : Oper}
theorem step_neqE {x y : Operand} {R1 R2 : Value → World → Prop} {z1 z2 : Int} {b : Bool} (hb : b = !(z1 == z2)) (hop : o.op = .binOp .neq 44 x y 44) (hg : Gd ops md F o) (hx : Arg ops md F S a0 o x R1) (hr1 : ∀ v w, R1 v w → v = .int .i64 z1) (hy : Arg ops md F S a0 o y R2) (hr2 : ∀ v w, R2 v w → v = .int .i64 z2) (hf : ∀ w, F i (.bool b) w) : StepOK Try.prog ops md F S a0 Q i o :=
  step_of hg fun a w hs hsm hk => by
    subst hb
    have h1 := hr1 _ _ (hx a w hs hsm hk)
    have h2 := hr2 _ _ (hy a w hs hsm hk)
    have h3 := hf w
    unfold Oper.wp execOp
    rw [hop]
    simp only [h1, h2]
    go_simp
    exact ⟨_, rfl, h3, Below.refl _ _⟩
theorem step_geq {x y : Operand} {R1 R2 : Value → World → Prop} {z1 z2 : Int} {b : Bool} (hb : b = decide (z1 ≥ z2)) (hop : o.op = .binOp .geq 3 x y 3) (hg : Gd ops md F o) (hx : Arg ops md F S a0 o x R1) (hr1 : ∀ v w, R1 v w → v = .int .i64 z1) (hy : Arg ops md F S a0 o y R2) (hr2 : ∀ v w, R2 v w → v = .int .i64 z2) (hf : ∀ w, F i (.bool b) w) : StepOK Try.prog ops md F S a0 Q i o :=
  step_of hg fun a w hs hsm hk => by
    subst hb
    have h1 := hr1 _ _ (hx a w hs hsm hk)
    have h2 := hr2 _ _ (hy a w hs hsm hk)
    have h3 := hf w
    unfold Oper.wp execOp
    rw [hop]
    simp only [h1, h2]
    go_simp
    exact ⟨_, rfl, h3, Below.refl _ _⟩
end

theorem sgnZ_zero_iff {x : Int} : sgnZ x = 0 ↔ x = 0 := by
  unfold sgnZ
  split <;> (try split) <;> constructor <;> intro h <;> first | omega | (exfalso; omega)
theorem dvr_sgn {x y : Int} (hr : dvr x y ≠ 0) : sgnZ (dvr x y) = sgnZ x := by
  unfold dvr at hr ⊢
  by_cases hy : y = 0
  · rw [if_pos hy] at hr; exact absurd rfl hr
  · rw [if_neg hy] at hr ⊢
    have h0 : x ≠ 0 := by rintro rfl; exact hr (Int.zero_tmod _)
    unfold sgnZ
    rcases Int.lt_or_gt_of_ne h0 with h | h
    · have h1 : x.tmod y ≤ 0 := by have h2 : 0 ≤ (-x).tmod y := Int.tmod_nonneg y (by omega); rw [Int.neg_tmod] at h2; omega
      rw [if_pos (by omega), if_pos h]
    · have h1 : 0 ≤ x.tmod y := Int.tmod_nonneg y (by omega)
      rw [if_neg (by omega), if_neg (by omega), if_neg (by omega), if_neg (by omega)]
theorem dv_eq (x : Int) {y : Int} (hy : y ≠ 0) : y * dvq x y + dvr x y = x := by
  unfold dvq dvr
  rw [if_neg hy, if_neg hy]
  exact Int.mul_tdiv_add_tmod x y
theorem dv_less (x : Int) {y : Int} (hy : y ≠ 0) : decide (cmpZ ((dvr x y).natAbs : Int) (y.natAbs : Int) ≥ 0) = false := by
  have h : (dvr x y).natAbs < y.natAbs := by
    unfold dvr
    rw [if_neg hy, Int.natAbs_tmod]
    exact Nat.mod_lt _ (by omega)
  unfold cmpZ
  rw [if_pos (by omega)]
  rfl
theorem dvr_zero {x y : Int} (hy : y ≠ 0) : dvr x y = 0 ↔ y ∣ x := by
  unfold dvr
  rw [if_neg hy]
  exact ⟨Int.dvd_of_tmod_eq_zero, Int.tmod_eq_zero_of_dvd⟩
theorem gcd_ne {x y : Int} (hy : y ≠ 0) : ((Int.gcd x y : Nat) : Int) ≠ 0 := by
  intro h
  have := (Int.gcd_eq_zero_iff.1 (by omega : Int.gcd x y = 0)).2
  exact hy this
theorem gcd_sgn {x y : Int} (hy : y ≠ 0) : sgnZ ((Int.gcd x y : Nat) : Int) = 1 := by
  have := gcd_ne (x := x) hy
  unfold sgnZ
  rw [if_neg (by omega), if_neg (by omega)]
theorem gcd_scale (x y z : Int) : ((Int.gcd x y : Nat) : Int) * (z.natAbs : Int) = ((Int.gcd (x * z) (y * z) : Nat) : Int) := by
  rw [Int.gcd_mul_right, Int.natCast_mul]
theorem third (x y : Int) {z : Int} (hz : z ≠ 0) (h1 : sgnZ (dvr x z) = 0) (h2 : sgnZ (dvr y z) = 0) : sgnZ (dvr ((Int.gcd x y : Nat) : Int) z) = 0 := by
  rw [sgnZ_zero_iff] at *
  rw [dvr_zero hz] at *
  exact Int.dvd_coe_gcd h1 h2
theorem abs_bd {k : Nat} {x : Int} (h : Bd k x) : Bd k ((x.natAbs : Nat) : Int) := h.of_le (by rw [Int.natAbs_natCast]; exact Nat.le_refl _)

set_option maxHeartbeats 16000000 in
set_option maxRecDepth 100000 in
theorem divs_any (b1 b2 b3 : Bool) (a1 a2 a3 : Option Addr) (c1 c2 c3 : Nat) (l1 l2 l3 : List Nat) (w : World) (h1 : NArg w a1 c1 l1) (h2 : NArg w a2 c2 l2) (h3 : NArg w a3 c3 l3) :
    Calls Try.prog 11 #[.agg #[.bool b1, .slice a1 l1.length c1], .agg #[.bool b2, .slice a2 l2.length c2], .agg #[.bool b3, .slice a3 l3.length c3]] w (BoolPost w true) := by
  have HA := Lib.hid (And.intro h1 (And.intro h2 h3))
  have HAW := Lib.hid fun W => Lib.hid (awake_any W)
  clear h1 h2 h3
  go_enter Try.func11, Try.ntmps11
  have HB3 := Lib.hid ((((Below.refl w.heap.size w).alloc (Nat.le_refl _) (.cells #[.bool b1, .slice a1 l1.length c1] 24)).alloc (by simp) (.cells #[.bool b2, .slice a2 l2.length c2] 24)).alloc (by simp; omega) (.cells #[.bool b3, .slice a3 l3.length c3] 24))
  have HSH := Lib.hid (short36 b1 b2 b3 a1 a2 a3 c1 c2 c3 l1 l2 l3 _ (w.heap.size + 1 + 1 + 1) (by simp) (HA.out.1.keep HB3.out) (HA.out.2.1.keep HB3.out) (HA.out.2.2.keep HB3.out))
  go_wp2_with fail
  refine HSH.out.mono ?_
  rintro e w1 ⟨rfl, hb1⟩
  cases hall : allLe [l1.length, l2.length, l3.length] 6 with
  | false =>
    have HX := Lib.hid (awake_any w1)
    have HB1 := Lib.hid hb1
    clear hb1 hall
    go_wp2_with fail
    refine HX.out.mono ?_
    rintro e w2 ⟨rfl, hb2⟩
    go_wp2
    go_ret
    refine ⟨rfl, ?_⟩
    have hx := HB3.out.trans (((Below.refl _ _).alloc (Nat.le_refl _) (row3 b1 b2 b3 a1 a2 a3 c1 c2 c3 l1 l2 l3)).mono (by simp; omega))
    exact (hx.trans (HB1.out.mono (by simp; omega))).trans (hb2.mono (by have := HB1.out.size; simp at this; omega))
  | true =>
    obtain ⟨k1, k2, k3, k4, k5, k6⟩ := box3cells hb1 (by simp)
    have HB1 := Lib.hid ((HB3.out.trans (((Below.refl _ _).alloc (Nat.le_refl _) (row3 b1 b2 b3 a1 a2 a3 c1 c2 c3 l1 l2 l3)).mono (by simp; omega))).trans (hb1.mono (by simp; omega)))
    have HL8 : l1.length ≤ 8 ∧ l2.length ≤ 8 ∧ l3.length ≤ 8 := by have := allLe3 hall; omega
    have HM := Lib.hid (made3 b1 b2 b3 a1 a2 a3 c1 c2 c3 l1 l2 l3 w1 _ rfl (HA.out.1.keep HB1.out) (HA.out.2.1.keep HB1.out) (HA.out.2.2.keep HB1.out) HL8)
    clear hb1
    go_wp2_with fail
    refine HM.out.mono ?_
    rintro e w2 ⟨v, rfl, hrow, hb2⟩
    obtain ⟨g, cap, dA, nA, eA, dB, nB, eB, dC, nC, eC, rfl, hg, hgb, q1, q2, q3, q4, q5, q6, i1, i2, i3⟩ := irow3 hrow
    have HB2 := Lib.hid (HB1.out.trans (hb2.mono HB1.out.size))
    have HI := Lib.hid (And.intro i1 (And.intro i2 i3))
    clear i1 i2 i3 hb2 hrow k1 k2 k3 k4 k5 k6
    go_upto_region 4 with fail
    go_cut [8, 9, 10] from 41 to 49 (fun s8 s9 s10 wx => ∃ p q r, s8 = .pointer (some ⟨p, 0, none⟩) ∧ s9 = .pointer (some ⟨q, 0, none⟩) ∧ s10 = .pointer (some ⟨r, 0, none⟩) ∧ XS w p q r (.bool (decide (nz (b1, l1) < 0))) (.slice dA nA eA) (.bool (decide (nz (b2, l2) < 0))) (.slice dB nB eB) (.bool (decide (nz (b3, l3) < 0))) (.slice dC nC eC) (nz (b1, l1)) (nz (b2, l2)) (nz (b3, l3)) wx)
    case first =>
      have HQ : Hid (Six g (.bool (decide (nz (b1, l1) < 0))) (.slice dA nA eA) (.bool (decide (nz (b2, l2) < 0))) (.slice dB nB eB) (.bool (decide (nz (b3, l3) < 0))) (.slice dC nC eC) w2) := Lib.hid ⟨q1, q2, q3, q4, q5, q6⟩
      go_region_held3 (fun w' => w'.cell? ⟨g, 0, none⟩ = some (.bool (decide (nz (b1, l1) < 0))) ∧ w'.cell? ⟨g, 1, none⟩ = some (.slice dA nA eA) ∧ w'.cell? ⟨g, 2, none⟩ = some (.bool (decide (nz (b2, l2) < 0))) ∧ w'.cell? ⟨g, 3, none⟩ = some (.slice dB nB eB) ∧ w'.cell? ⟨g, 4, none⟩ = some (.bool (decide (nz (b3, l3) < 0))) ∧ w'.cell? ⟨g, 5, none⟩ = some (.slice dC nC eC))
        (first | exact HQ.out.a0 | exact HQ.out.a1 _ | exact HQ.out.a2 _ _ | exact HQ.out.a3 _ _ _) (first | fail)
      all_goals
        go_wp2_with fail
        go_meet
        refine ⟨_, _, _, rfl, rfl, rfl, xs_of HB2.out HI.out.1 HI.out.2.1 HI.out.2.2 ?_⟩
        first | exact three _ _ _ _ _ _ _ _ | exact three132 _ _ _ _ _ _ _ _ | exact three213 _ _ _ _ _ _ _ _ | exact three231 _ _ _ _ _ _ _ _ | exact three312 _ _ _ _ _ _ _ _ | exact three321 _ _ _ _ _ _ _ _
    case rest =>
      obtain ⟨p, q, r, rfl, rfl, rfl, hxs⟩ := hcut
      have hBX : Bd 8 (nz (b1, l1)) := nz_bd HL8.1 HA.out.1.lt
      have hBY : Bd 8 (nz (b2, l2)) := nz_bd HL8.2.1 HA.out.2.1.lt
      have hBZ : Bd 8 (nz (b3, l3)) := nz_bd HL8.2.2 HA.out.2.2.lt
      obtain ⟨x1, x2, x3, x4, x5, x6, x7, x8, x9, x10⟩ := hxs
      have KA0 := Lib.hid (CX.mk x1 x2 x7)
      have KB0 := Lib.hid (CX.mk x3 x4 x8)
      have KC0 := Lib.hid (CX.mk x5 x6 x9)
      have HD0 := Lib.hid x10
      clear x1 x2 x3 x4 x5 x6 x7 x8 x9 x10 HB1 HB2 HB3 HI HM HSH HA q1 q2 q3 q4 q5 q6 hall HL8 hg hgb
      generalize nz (b1, l1) = x at *
      generalize nz (b2, l2) = y at *
      generalize nz (b3, l3) = z at *
      generalize decide (x < 0) = bA at *
      generalize decide (y < 0) = bB at *
      generalize decide (z < 0) = bC at *
      generalize wc = w0 at *
      have HDV : Hid (∀ a b : Int, Bd 20 a → Bd 20 b → ∀ W u v, IntV W u a → IntV W v b → Hid (Calls Try.prog 30 #[u, v] W (DivR W (dvq a b) (dvr a b) (dvc b)))) := Lib.hid fun a b ha hb W u v h h' => Lib.hid (Divide_all a b u v W (len_le (by decide) ha) (len_le (by decide) hb) h h')
      have HSG : Hid (∀ a : Int, Bd 20 a → ∀ W u, IntV W u a → Hid (Calls Try.prog 22 #[u] W (fun e w' => e = .returned (.int .i64 (sgnZ a)) ∧ Below W.heap.size W w'))) := Lib.hid fun a ha W u h => Lib.hid (sign_any a u W (len_le (by decide) ha) h)
      by_cases hy0 : y = 0
      · have D1 := Lib.hid (HDV.out x y (hBX.up (by decide)) (hBY.up (by decide)))
        have S1 := Lib.hid (HSG.out y (hBY.up (by decide)))
        rw [show dvc y = 6 from if_pos hy0] at D1
        rw [sgnZ_zero_iff.2 hy0] at S1
        generalize dvq x y = zq at *
        generalize dvr x y = zr at *
        clear hBX hBY hBZ hy0
        obtain ⟨ga0, gb0⟩ := KA0.out.cells
        obtain ⟨ga1, gb1⟩ := KB0.out.cells
        go_wp2_with fail
        (with_reducible refine ((D1.out _ _ _ KA0.out.iv KB0.out.iv).out).mono ?_)
        rintro e w1 ⟨vQ, vS, rfl, ⟨dQ, nQ, eQ, rfl, hrQ⟩, ⟨dS, nS, eS, rfl, hrS⟩, hb1⟩
        have HIQ : Hid (IntV w1 (.agg #[.bool (decide (zq < 0)), .slice dQ nQ eQ]) zq) := Lib.hid ⟨_, _, _, rfl, hrQ⟩
        have HIS : Hid (IntV w1 (.agg #[.bool (decide (zr < 0)), .slice dS nS eS]) zr) := Lib.hid ⟨_, _, _, rfl, hrS⟩
        have HD1 := Lib.hid (HD0.out.trans (hb1.mono HD0.out.size))
        have KA1 := Lib.hid (KA0.out.keep hb1)
        have KB1 := Lib.hid (KB0.out.keep hb1)
        have KC1 := Lib.hid (KC0.out.keep hb1)
        clear KA0 KB0 KC0
        clear hb1 HD0 hrQ hrS ga0 gb0 ga1 gb1
        generalize decide (zq < 0) = bQ at *
        generalize decide (zr < 0) = bS at *
        have hal : Below w1.heap.size w1 ((w1.alloc (.cells #[.bool bQ, .slice dQ nQ eQ] 28)).alloc (.cells #[.bool bS, .slice dS nS eS] 28)) := below2 _ _ _
        have HD2 := Lib.hid (HD1.out.trans (hal.mono HD1.out.size))
        have KA2 := Lib.hid (KA1.out.keep hal)
        have KB2 := Lib.hid (KB1.out.keep hal)
        have KC2 := Lib.hid (KC1.out.keep hal)
        clear KA1 KB1 KC1
        have KQ2 : Hid (CX (w1.heap.size) (.bool bQ) (.slice dQ nQ eQ) zq ((w1.alloc (.cells #[.bool bQ, .slice dQ nQ eQ] 28)).alloc (.cells #[.bool bS, .slice dS nS eS] 28))) := Lib.hid ((CX.made HIQ.out).keep ((Below.refl _ _).alloc (Nat.le_refl _) _))
        have KS2 : Hid (CX (w1.heap.size + 1) (.bool bS) (.slice dS nS eS) zr ((w1.alloc (.cells #[.bool bQ, .slice dQ nQ eQ] 28)).alloc (.cells #[.bool bS, .slice dS nS eS] 28))) := Lib.hid (by have h := CX.made (t := 28) (HIS.out.keep ((Below.refl w1.heap.size w1).alloc (Nat.le_refl _) (.cells #[.bool bQ, .slice dQ nQ eQ] 28))); rw [World.size_alloc] at h; exact h)
        clear hal HD1 HIQ HIS
        obtain ⟨ga0, gb0⟩ := KB2.out.cells
        go_wp2_with fail
        (with_reducible refine ((S1.out _ _ KB2.out.iv).out).mono ?_)
        rintro e w3 ⟨rfl, hb3⟩
        have HD3 := Lib.hid (HD2.out.trans (hb3.mono HD2.out.size))
        have KA3 := Lib.hid (KA2.out.keep hb3)
        have KB3 := Lib.hid (KB2.out.keep hb3)
        have KC3 := Lib.hid (KC2.out.keep hb3)
        have KQ3 := Lib.hid (KQ2.out.keep hb3)
        have KS3 := Lib.hid (KS2.out.keep hb3)
        clear KA2 KB2 KC2 KQ2 KS2
        clear hb3 HD2  ga0 gb0
        go_wp2_with fail
        (with_reducible refine (HAW.out _).out.mono ?_)
        rintro e w4 ⟨rfl, hbz⟩
        go_wp2
        go_ret
        exact ⟨rfl, HD3.out.trans (hbz.mono HD3.out.size)⟩
      · skip
        have E__commonform_integer_Int__Abs := Lib.hid (enters_of Try.func36 (by kernel_rfl))
        have E__commonform_integer_Int__Add := Lib.hid (enters_of Try.func38 (by kernel_rfl))
        have E__commonform_integer_Int__Cmp := Lib.hid (enters_of Try.func32 (by kernel_rfl))
        have E__commonform_integer_Int__Gcd := Lib.hid (enters_of Try.func44 (by kernel_rfl))
        have E__commonform_integer_Int__Mul := Lib.hid (enters_of Try.func42 (by kernel_rfl))
        have E__commonform_integer_Int__Sign := Lib.hid (enters_of Try.func22 (by kernel_rfl))
        have E_commonform_commonformlaw02_same := Lib.hid (enters_of Try.func65 (by kernel_rfl))
        have hgn : ((Int.gcd x y : Nat) : Int) ≠ 0 := gcd_ne hy0
        have hBG : Bd 8 ((Int.gcd x y : Nat) : Int) := gcd_bd hBX hBY
        have hBQ : Bd 8 (dvq x y) := dvq_bd hBX
        have hBR : Bd 8 (dvr x y) := dvr_bd hBX
        have hBM : Bd 16 (y * dvq x y) := hBY.mul hBQ
        have HL : ∀ (k : Nat) (a : Int), k ≤ 30 → Bd k a → len a ≤ 1000000 := fun k a hk ha => len_le (by omega) ha
        have D1 := Lib.hid (HDV.out x y (hBX.up (by decide)) (hBY.up (by decide)))
        have S1 := Lib.hid (HSG.out y (hBY.up (by decide)))
        have HSY : Hid ((sgnZ y == 0) = false) := Lib.hid (by have : sgnZ y ≠ 0 := fun h => hy0 (sgnZ_zero_iff.1 h); simp [this])
        have M1 := Lib.hid fun W u v h h' => Lib.hid (Mul_any y (dvq x y) u v W (HL 8 _ (by decide) hBY) (HL 8 _ (by decide) hBQ) h h')
        have P1 := Lib.hid fun W u v h h' => Lib.hid (Add_any (y * dvq x y) (dvr x y) u v W (HL 16 _ (by decide) hBM) (HL 8 _ (by decide) hBR) h h')
        rw [dv_eq x hy0] at P1
        have AB1 := Lib.hid fun W u h => Lib.hid (Abs_any (dvr x y) u W (HL 8 _ (by decide) hBR) h)
        have AB2 := Lib.hid fun W u h => Lib.hid (Abs_any y u W (HL 8 _ (by decide) hBY) h)
        have CM := Lib.hid fun W u v h h' => Lib.hid (Cmp_any ((dvr x y).natAbs : Int) (y.natAbs : Int) u v W h h')
        have HCM := Lib.hid (dv_less x hy0)
        have SX := Lib.hid (HSG.out x (hBX.up (by decide)))
        have SR := Lib.hid (HSG.out (dvr x y) (hBR.up (by decide)))
        have HSR : Hid (sgnZ (dvr x y) ≠ 0 → sgnZ (dvr x y) = sgnZ x) := Lib.hid fun h => dvr_sgn fun h' => h (sgnZ_zero_iff.2 h')
        have GC := Lib.hid fun W u v h h' => Lib.hid (Gcd_any x y u v W (HL 8 _ (by decide) hBX) (HL 8 _ (by decide) hBY) h h')
        have D2 := Lib.hid (HDV.out x ((Int.gcd x y : Nat) : Int) (hBX.up (by decide)) (hBG.up (by decide)))
        have D3 := Lib.hid (HDV.out y ((Int.gcd x y : Nat) : Int) (hBY.up (by decide)) (hBG.up (by decide)))
        have hm0 : dvr x ((Int.gcd x y : Nat) : Int) = 0 := (dvr_zero hgn).2 (Int.gcd_dvd_left ..)
        have hn0 : dvr y ((Int.gcd x y : Nat) : Int) = 0 := (dvr_zero hgn).2 (Int.gcd_dvd_right ..)
        have S2 := Lib.hid (HSG.out (dvr x ((Int.gcd x y : Nat) : Int)) ((dvr_bd hBX).up (by decide)))
        have S3 := Lib.hid (HSG.out (dvr y ((Int.gcd x y : Nat) : Int)) ((dvr_bd hBY).up (by decide)))
        rw [sgnZ_zero_iff.2 hm0] at S2
        rw [sgnZ_zero_iff.2 hn0] at S3
        rw [show dvc ((Int.gcd x y : Nat) : Int) = 0 from if_neg hgn] at D2 D3
        rw [show dvc y = 0 from if_neg hy0] at D1
        have SGg := Lib.hid (HSG.out ((Int.gcd x y : Nat) : Int) (hBG.up (by decide)))
        rw [gcd_sgn hy0] at SGg
        have hBXZ : Bd 16 (x * z) := hBX.mul hBZ
        have hBYZ : Bd 16 (y * z) := hBY.mul hBZ
        have M2 := Lib.hid fun W u v h h' => Lib.hid (Mul_any x z u v W (HL 8 _ (by decide) hBX) (HL 8 _ (by decide) hBZ) h h')
        have M3 := Lib.hid fun W u v h h' => Lib.hid (Mul_any y z u v W (HL 8 _ (by decide) hBY) (HL 8 _ (by decide) hBZ) h h')
        have G2 := Lib.hid fun W u v h h' => Lib.hid (Gcd_any (x * z) (y * z) u v W (HL 16 _ (by decide) hBXZ) (HL 16 _ (by decide) hBYZ) h h')
        have AB3 := Lib.hid fun W u h => Lib.hid (Abs_any z u W (HL 8 _ (by decide) hBZ) h)
        have M4 := Lib.hid fun W u v h h' => Lib.hid (Mul_any ((Int.gcd x y : Nat) : Int) ((z.natAbs : Nat) : Int) u v W (HL 8 _ (by decide) hBG) (HL 8 _ (by decide) (abs_bd hBZ)) h h')
        rw [gcd_scale] at M4
        have SM : Hid (∀ (a : Int) W u v, IntV W u a → IntV W v a → Hid (Calls Try.prog 65 #[u, v] W (BoolPost W true))) := Lib.hid fun a W u v h h' => Lib.hid (same_eq a a rfl u v W h h')
        have D4 := Lib.hid (HDV.out x z (hBX.up (by decide)) (hBZ.up (by decide)))
        have D5 := Lib.hid (HDV.out y z (hBY.up (by decide)) (hBZ.up (by decide)))
        have D6 := Lib.hid (HDV.out ((Int.gcd x y : Nat) : Int) z (hBG.up (by decide)) (hBZ.up (by decide)))
        have S4 := Lib.hid (HSG.out (dvr x z) ((dvr_bd hBX).up (by decide)))
        have S5 := Lib.hid (HSG.out (dvr y z) ((dvr_bd hBY).up (by decide)))
        have S6 := Lib.hid (HSG.out (dvr ((Int.gcd x y : Nat) : Int) z) ((dvr_bd hBG).up (by decide)))
        have HZZ : Hid (dvc z = 6 ∨ dvc z = 0 ∧ (sgnZ (dvr x z) = 0 → sgnZ (dvr y z) = 0 → sgnZ (dvr ((Int.gcd x y : Nat) : Int) z) = 0)) := Lib.hid (by
          by_cases hz : z = 0
          · exact .inl (if_pos hz)
          · exact .inr ⟨if_neg hz, third x y hz⟩)
        clear hBX hBY hBZ hBG hBQ hBR hBM hBXZ hBYZ HL hgn hm0 hn0 hy0 HDV HSG
        generalize y * dvq x y = zm at *
        generalize dvq x ((Int.gcd x y : Nat) : Int) = q2 at *
        generalize dvr x ((Int.gcd x y : Nat) : Int) = r2 at *
        generalize dvq y ((Int.gcd x y : Nat) : Int) = q3 at *
        generalize dvr y ((Int.gcd x y : Nat) : Int) = r3 at *
        generalize sgnZ (dvr ((Int.gcd x y : Nat) : Int) z) = s6 at *
        generalize sgnZ (dvr y z) = s5 at *
        generalize sgnZ (dvr x z) = s4 at *
        generalize dvq ((Int.gcd x y : Nat) : Int) z = q6 at *
        generalize dvr ((Int.gcd x y : Nat) : Int) z = r6 at *
        generalize dvq x z = q4 at *
        generalize dvr x z = r4 at *
        generalize dvq y z = q5 at *
        generalize dvr y z = r5 at *
        generalize dvc z = dz at *
        generalize ((Int.gcd (x * z) (y * z) : Nat) : Int) = zh at *
        generalize x * z = xz at *
        generalize y * z = yz at *
        generalize ((Int.gcd x y : Nat) : Int) = zg at *
        generalize ((z.natAbs : Nat) : Int) = zz at *
        generalize cmpZ ((dvr x y).natAbs : Int) (y.natAbs : Int) = cz at *
        generalize ((y.natAbs : Nat) : Int) = ya at *
        generalize sgnZ (dvr x y) = sr at *
        generalize sgnZ x = sx at *
        generalize sgnZ y = sy at *
        generalize (((dvr x y).natAbs : Nat) : Int) = ra at *
        generalize dvq x y = zq at *
        generalize dvr x y = zr at *
        obtain ⟨ga0, gb0⟩ := KA0.out.cells
        obtain ⟨ga1, gb1⟩ := KB0.out.cells
        go_wp2_with fail
        (with_reducible refine ((D1.out _ _ _ KA0.out.iv KB0.out.iv).out).mono ?_)
        rintro e w1 ⟨vQ, vS, rfl, ⟨dQ, nQ, eQ, rfl, hrQ⟩, ⟨dS, nS, eS, rfl, hrS⟩, hb1⟩
        have HIQ : Hid (IntV w1 (.agg #[.bool (decide (zq < 0)), .slice dQ nQ eQ]) zq) := Lib.hid ⟨_, _, _, rfl, hrQ⟩
        have HIS : Hid (IntV w1 (.agg #[.bool (decide (zr < 0)), .slice dS nS eS]) zr) := Lib.hid ⟨_, _, _, rfl, hrS⟩
        have HD1 := Lib.hid (HD0.out.trans (hb1.mono HD0.out.size))
        have KA1 := Lib.hid (KA0.out.keep hb1)
        have KB1 := Lib.hid (KB0.out.keep hb1)
        have KC1 := Lib.hid (KC0.out.keep hb1)
        clear KA0 KB0 KC0
        clear hb1 HD0 hrQ hrS ga0 gb0 ga1 gb1
        generalize decide (zq < 0) = bQ at *
        generalize decide (zr < 0) = bS at *
        have hal : Below w1.heap.size w1 ((w1.alloc (.cells #[.bool bQ, .slice dQ nQ eQ] 28)).alloc (.cells #[.bool bS, .slice dS nS eS] 28)) := below2 _ _ _
        have HD2 := Lib.hid (HD1.out.trans (hal.mono HD1.out.size))
        have KA2 := Lib.hid (KA1.out.keep hal)
        have KB2 := Lib.hid (KB1.out.keep hal)
        have KC2 := Lib.hid (KC1.out.keep hal)
        clear KA1 KB1 KC1
        have KQ2 : Hid (CX (w1.heap.size) (.bool bQ) (.slice dQ nQ eQ) zq ((w1.alloc (.cells #[.bool bQ, .slice dQ nQ eQ] 28)).alloc (.cells #[.bool bS, .slice dS nS eS] 28))) := Lib.hid ((CX.made HIQ.out).keep ((Below.refl _ _).alloc (Nat.le_refl _) _))
        have KS2 : Hid (CX (w1.heap.size + 1) (.bool bS) (.slice dS nS eS) zr ((w1.alloc (.cells #[.bool bQ, .slice dQ nQ eQ] 28)).alloc (.cells #[.bool bS, .slice dS nS eS] 28))) := Lib.hid (by have h := CX.made (t := 28) (HIS.out.keep ((Below.refl w1.heap.size w1).alloc (Nat.le_refl _) (.cells #[.bool bQ, .slice dQ nQ eQ] 28))); rw [World.size_alloc] at h; exact h)
        clear hal HD1 HIQ HIS
        have hsy := HSY.out
        obtain ⟨ga0, gb0⟩ := KB2.out.cells
        go_wp2_with fail
        (with_reducible refine ((S1.out _ _ KB2.out.iv).out).mono ?_)
        rintro e w3 ⟨rfl, hb3⟩
        have HD3 := Lib.hid (HD2.out.trans (hb3.mono HD2.out.size))
        have KA3 := Lib.hid (KA2.out.keep hb3)
        have KB3 := Lib.hid (KB2.out.keep hb3)
        have KC3 := Lib.hid (KC2.out.keep hb3)
        have KQ3 := Lib.hid (KQ2.out.keep hb3)
        have KS3 := Lib.hid (KS2.out.keep hb3)
        clear KA2 KB2 KC2 KQ2 KS2
        clear hb3 HD2  ga0 gb0
        have HSB : Hid (CX (p) (.bool bA) (.slice dA nA eA) x w3 ∧ CX (q) (.bool bB) (.slice dB nB eB) y w3 ∧ CX (r) (.bool bC) (.slice dC nC eC) z w3 ∧ CX (w1.heap.size) (.bool bQ) (.slice dQ nQ eQ) zq w3 ∧ CX (w1.heap.size + 1) (.bool bS) (.slice dS nS eS) zr w3 ∧ Below w.heap.size w w3) := Lib.hid ⟨KA3.out, KB3.out, KC3.out, KQ3.out, KS3.out, HD3.out⟩
        clear KA3 KB3 KC3 KQ3 KS3
        go_upto_region 8 with fail
        go_cut [96] from 65 to 95 (fun s wx => s = .bool false ∧ CX (p) (.bool bA) (.slice dA nA eA) x wx ∧ CX (q) (.bool bB) (.slice dB nB eB) y wx ∧ CX (r) (.bool bC) (.slice dC nC eC) z wx ∧ CX (w1.heap.size) (.bool bQ) (.slice dQ nQ eQ) zq wx ∧ CX (w1.heap.size + 1) (.bool bS) (.slice dS nS eS) zr wx ∧ Below w.heap.size w wx)
        case first =>
          by_cases hsr : sr = 0
          · skip
            refine wp_region_facts (falR (FaR.v (.int .i64 0) :: FaR.v (.bool false) :: FaR.v (.bool false) :: FaR.z y :: FaR.z zq :: FaR.z zm :: FaR.z zr :: FaR.z x :: FaR.z x :: FaR.v (.bool true) :: FaR.v (.bool false) :: FaR.v (.bool false) :: FaR.v (.bool false) :: FaR.z zr :: FaR.z ra :: FaR.z y :: FaR.z ya :: FaR.v (.int .i64 cz) :: FaR.v (.bool false) :: FaR.v (.bool false) :: FaR.v (.bool false) :: FaR.z zr :: FaR.v (.int .i64 sr) :: FaR.v (.bool false) :: FaR.v (.bool false) :: FaR.v undef :: FaR.v undef :: FaR.v undef :: FaR.v undef :: FaR.v undef :: FaR.v (.bool false) :: FaR.v (.bool false) :: [])) (fun W => CX (p) (.bool bA) (.slice dA nA eA) x W ∧ CX (q) (.bool bB) (.slice dB nB eB) y W ∧ CX (r) (.bool bC) (.slice dC nC eC) z W ∧ CX (w1.heap.size) (.bool bQ) (.slice dQ nQ eQ) zq W ∧ CX (w1.heap.size + 1) (.bool bS) (.slice dS nS eS) zr W ∧ Below w.heap.size w W) (by kernel_rfl) (by kernel_rfl) (falR_mono _) (fun _ _ h hb => ⟨h.1.keep hb, h.2.1.keep hb, h.2.2.1.keep hb, h.2.2.2.1.keep hb, h.2.2.2.2.1.keep hb, Below.trans h.2.2.2.2.2 (hb.mono h.2.2.2.2.2.size)⟩) ?_ ?_ (some 65 :: some 66 :: some 67 :: some 68 :: some 69 :: some 70 :: some 71 :: some 72 :: some 73 :: some 74 :: some 75 :: some 76 :: some 77 :: some 78 :: some 79 :: some 80 :: some 81 :: some 82 :: some 83 :: some 84 :: some 85 :: some 86 :: some 87 :: some 88 :: some 89 :: some 90 :: some 91 :: some 92 :: some 93 :: some 94 :: some 95 :: some 96 :: []) (by rfl) ?_
            · have h := HSB.out
              have hb : Below w3.heap.size w3 w3.drew := (Below.refl _ _).drew
              exact ⟨h.1.keep hb, h.2.1.keep hb, h.2.2.1.keep hb, h.2.2.2.1.keep hb, h.2.2.2.2.1.keep hb, Below.trans h.2.2.2.2.2 (hb.mono h.2.2.2.2.2.size)⟩
            · refine And.intro (step_move rfl (.inl rfl) (Arg.old (by kernel_rfl)) (fun _ _ h => h)) ?_
              refine And.intro (step_neqE (b := false) rfl rfl (.inl rfl) (Arg.tmp (j := 0) (by kernel_rfl) rfl) (fun _ _ h => h) (Arg.const _) (fun _ _ h => h) (fun _ => rfl)) ?_
              refine And.intro (step_move rfl (.inl rfl) (Arg.tmp (j := 1) (by kernel_rfl) rfl) (fun _ _ h => h)) ?_
              refine And.intro (step_load (b := q) rfl (.inr ⟨2, false, _, rfl, rfl, by kernel_rfl, fun _ _ h => h⟩) (Arg.old (by kernel_rfl)) (fun _ h => h.2.1.cells) (fun _ h => h.2.1.iv)) ?_
              refine And.intro (step_load (b := w1.heap.size) rfl (.inr ⟨2, false, _, rfl, rfl, by kernel_rfl, fun _ _ h => h⟩) (Arg.old (by kernel_rfl)) (fun _ h => h.2.2.2.1.cells) (fun _ h => h.2.2.2.1.iv)) ?_
              refine And.intro (step_call2 E__commonform_integer_Int__Mul.out rfl (.inr ⟨2, false, _, rfl, rfl, by kernel_rfl, fun _ _ h => h⟩) (Arg.tmp (j := 3) (by kernel_rfl) rfl) (Arg.tmp (j := 4) (by kernel_rfl) rfl) (fun u v w _ h1 h2 => (M1.out _ _ _ h1 h2).out)) ?_
              refine And.intro (step_load (b := w1.heap.size + 1) rfl (.inr ⟨2, false, _, rfl, rfl, by kernel_rfl, fun _ _ h => h⟩) (Arg.old (by kernel_rfl)) (fun _ h => h.2.2.2.2.1.cells) (fun _ h => h.2.2.2.2.1.iv)) ?_
              refine And.intro (step_call2 E__commonform_integer_Int__Add.out rfl (.inr ⟨2, false, _, rfl, rfl, by kernel_rfl, fun _ _ h => h⟩) (Arg.tmp (j := 5) (by kernel_rfl) rfl) (Arg.tmp (j := 6) (by kernel_rfl) rfl) (fun u v w _ h1 h2 => (P1.out _ _ _ h1 h2).out)) ?_
              refine And.intro (step_load (b := p) rfl (.inr ⟨2, false, _, rfl, rfl, by kernel_rfl, fun _ _ h => h⟩) (Arg.old (by kernel_rfl)) (fun _ h => h.1.cells) (fun _ h => h.1.iv)) ?_
              refine And.intro (step_call2 E_commonform_commonformlaw02_same.out rfl (.inr ⟨2, false, _, rfl, rfl, by kernel_rfl, fun _ _ h => h⟩) (Arg.tmp (j := 7) (by kernel_rfl) rfl) (Arg.tmp (j := 8) (by kernel_rfl) rfl) (fun u v w _ h1 h2 => (SM.out _ _ _ _ h1 h2).out.mono fun e w' h => ⟨_, h.1, rfl, h.2⟩)) ?_
              refine And.intro (step_not rfl (.inr ⟨2, false, _, rfl, rfl, by kernel_rfl, fun _ _ h => h⟩) (Arg.tmp (j := 9) (by kernel_rfl) rfl) (fun _ _ h => h) (fun _ => rfl)) ?_
              refine And.intro (step_pickF rfl (.inl rfl) (Arg.tmp (j := 2) (by kernel_rfl) rfl) (fun _ _ h => h) (Arg.tmp (j := 10) (by kernel_rfl) rfl) (fun _ _ h => h)) ?_
              refine And.intro (step_move rfl (.inl rfl) (Arg.tmp (j := 11) (by kernel_rfl) rfl) (fun _ _ h => h)) ?_
              refine And.intro (step_load (b := w1.heap.size + 1) rfl (.inr ⟨12, false, _, rfl, rfl, by kernel_rfl, fun _ _ h => h⟩) (Arg.old (by kernel_rfl)) (fun _ h => h.2.2.2.2.1.cells) (fun _ h => h.2.2.2.2.1.iv)) ?_
              refine And.intro (step_call1 E__commonform_integer_Int__Abs.out rfl (.inr ⟨12, false, _, rfl, rfl, by kernel_rfl, fun _ _ h => h⟩) (Arg.tmp (j := 13) (by kernel_rfl) rfl) (fun u w _ h1 => (AB1.out _ _ h1).out)) ?_
              refine And.intro (step_load (b := q) rfl (.inr ⟨12, false, _, rfl, rfl, by kernel_rfl, fun _ _ h => h⟩) (Arg.old (by kernel_rfl)) (fun _ h => h.2.1.cells) (fun _ h => h.2.1.iv)) ?_
              refine And.intro (step_call1 E__commonform_integer_Int__Abs.out rfl (.inr ⟨12, false, _, rfl, rfl, by kernel_rfl, fun _ _ h => h⟩) (Arg.tmp (j := 15) (by kernel_rfl) rfl) (fun u w _ h1 => (AB2.out _ _ h1).out)) ?_
              refine And.intro (step_call2 E__commonform_integer_Int__Cmp.out rfl (.inr ⟨12, false, _, rfl, rfl, by kernel_rfl, fun _ _ h => h⟩) (Arg.tmp (j := 14) (by kernel_rfl) rfl) (Arg.tmp (j := 16) (by kernel_rfl) rfl) (fun u v w _ h1 h2 => (CM.out _ _ _ h1 h2).out.mono fun e w' h => ⟨_, h.1, rfl, h.2⟩)) ?_
              refine And.intro (step_geq (b := false) HCM.out.symm rfl (.inr ⟨12, false, _, rfl, rfl, by kernel_rfl, fun _ _ h => h⟩) (Arg.tmp (j := 17) (by kernel_rfl) rfl) (fun _ _ h => h) (Arg.const _) (fun _ _ h => h) (fun _ => rfl)) ?_
              refine And.intro (step_pickF rfl (.inl rfl) (Arg.tmp (j := 12) (by kernel_rfl) rfl) (fun _ _ h => h) (Arg.tmp (j := 18) (by kernel_rfl) rfl) (fun _ _ h => h)) ?_
              refine And.intro (step_move rfl (.inl rfl) (Arg.tmp (j := 19) (by kernel_rfl) rfl) (fun _ _ h => h)) ?_
              refine And.intro (step_load (b := w1.heap.size + 1) rfl (.inr ⟨20, false, _, rfl, rfl, by kernel_rfl, fun _ _ h => h⟩) (Arg.old (by kernel_rfl)) (fun _ h => h.2.2.2.2.1.cells) (fun _ h => h.2.2.2.2.1.iv)) ?_
              refine And.intro (step_call1 E__commonform_integer_Int__Sign.out rfl (.inr ⟨20, false, _, rfl, rfl, by kernel_rfl, fun _ _ h => h⟩) (Arg.tmp (j := 21) (by kernel_rfl) rfl) (fun u w _ h1 => (SR.out _ _ h1).out.mono fun e w' h => ⟨_, h.1, rfl, h.2⟩)) ?_
              refine And.intro (step_neq (b := false) (by simp [hsr]) rfl (.inr ⟨20, false, _, rfl, rfl, by kernel_rfl, fun _ _ h => h⟩) (Arg.tmp (j := 22) (by kernel_rfl) rfl) (fun _ _ h => h) (Arg.const _) (fun _ _ h => h) (fun _ => rfl)) ?_
              refine And.intro (step_move rfl (.inr ⟨20, false, _, rfl, rfl, by kernel_rfl, fun _ _ h => h⟩) (Arg.tmp (j := 23) (by kernel_rfl) rfl) (fun _ _ h => h)) ?_
              refine And.intro (step_un (g := 24) rfl rfl (by kernel_rfl) (fun _ _ h => h) (fun _ => rfl)) ?_
              refine And.intro (step_un (g := 24) rfl rfl (by kernel_rfl) (fun _ _ h => h) (fun _ => rfl)) ?_
              refine And.intro (step_un (g := 24) rfl rfl (by kernel_rfl) (fun _ _ h => h) (fun _ => rfl)) ?_
              refine And.intro (step_un (g := 24) rfl rfl (by kernel_rfl) (fun _ _ h => h) (fun _ => rfl)) ?_
              refine And.intro (step_un (g := 24) rfl rfl (by kernel_rfl) (fun _ _ h => h) (fun _ => rfl)) ?_
              refine And.intro (step_pickF rfl (.inr ⟨20, false, _, rfl, rfl, by kernel_rfl, fun _ _ h => h⟩) (Arg.tmp (j := 24) (by kernel_rfl) rfl) (fun _ _ h => h) (Arg.const _) (fun _ _ h => h)) ?_
              refine And.intro (step_pickF rfl (.inl rfl) (Arg.tmp (j := 20) (by kernel_rfl) rfl) (fun _ _ h => h) (Arg.tmp (j := 30) (by kernel_rfl) rfl) (fun _ _ h => h)) ?_
              trivial
            · intro v5 wv5 hk hs
              have hv : v5 31 = .bool false := hk 31 _ rfl
              clear hk
              simp only [putV, Act.put, List.setIfInBounds_toArray, List.set_cons_zero, List.set_cons_succ, Nat.reduceAdd, hv]
              clear hv
              have HSV := Lib.hid hs
              clear hs
              go_wp2_with fail
              go_meet
              exact ⟨rfl, HSV.out⟩
          · have hsx := HSR.out hsr
            refine wp_region_facts (falR (FaR.v (.int .i64 0) :: FaR.v (.bool false) :: FaR.v (.bool false) :: FaR.z y :: FaR.z zq :: FaR.z zm :: FaR.z zr :: FaR.z x :: FaR.z x :: FaR.v (.bool true) :: FaR.v (.bool false) :: FaR.v (.bool false) :: FaR.v (.bool false) :: FaR.z zr :: FaR.z ra :: FaR.z y :: FaR.z ya :: FaR.v (.int .i64 cz) :: FaR.v (.bool false) :: FaR.v (.bool false) :: FaR.v (.bool false) :: FaR.z zr :: FaR.v (.int .i64 sr) :: FaR.v (.bool true) :: FaR.v (.bool true) :: FaR.z zr :: FaR.v (.int .i64 sr) :: FaR.z x :: FaR.v (.int .i64 sx) :: FaR.v (.bool false) :: FaR.v (.bool false) :: FaR.v (.bool false) :: [])) (fun W => CX (p) (.bool bA) (.slice dA nA eA) x W ∧ CX (q) (.bool bB) (.slice dB nB eB) y W ∧ CX (r) (.bool bC) (.slice dC nC eC) z W ∧ CX (w1.heap.size) (.bool bQ) (.slice dQ nQ eQ) zq W ∧ CX (w1.heap.size + 1) (.bool bS) (.slice dS nS eS) zr W ∧ Below w.heap.size w W) (by kernel_rfl) (by kernel_rfl) (falR_mono _) (fun _ _ h hb => ⟨h.1.keep hb, h.2.1.keep hb, h.2.2.1.keep hb, h.2.2.2.1.keep hb, h.2.2.2.2.1.keep hb, Below.trans h.2.2.2.2.2 (hb.mono h.2.2.2.2.2.size)⟩) ?_ ?_ (some 65 :: some 66 :: some 67 :: some 68 :: some 69 :: some 70 :: some 71 :: some 72 :: some 73 :: some 74 :: some 75 :: some 76 :: some 77 :: some 78 :: some 79 :: some 80 :: some 81 :: some 82 :: some 83 :: some 84 :: some 85 :: some 86 :: some 87 :: some 88 :: some 89 :: some 90 :: some 91 :: some 92 :: some 93 :: some 94 :: some 95 :: some 96 :: []) (by rfl) ?_
            · have h := HSB.out
              have hb : Below w3.heap.size w3 w3.drew := (Below.refl _ _).drew
              exact ⟨h.1.keep hb, h.2.1.keep hb, h.2.2.1.keep hb, h.2.2.2.1.keep hb, h.2.2.2.2.1.keep hb, Below.trans h.2.2.2.2.2 (hb.mono h.2.2.2.2.2.size)⟩
            · refine And.intro (step_move rfl (.inl rfl) (Arg.old (by kernel_rfl)) (fun _ _ h => h)) ?_
              refine And.intro (step_neqE (b := false) rfl rfl (.inl rfl) (Arg.tmp (j := 0) (by kernel_rfl) rfl) (fun _ _ h => h) (Arg.const _) (fun _ _ h => h) (fun _ => rfl)) ?_
              refine And.intro (step_move rfl (.inl rfl) (Arg.tmp (j := 1) (by kernel_rfl) rfl) (fun _ _ h => h)) ?_
              refine And.intro (step_load (b := q) rfl (.inr ⟨2, false, _, rfl, rfl, by kernel_rfl, fun _ _ h => h⟩) (Arg.old (by kernel_rfl)) (fun _ h => h.2.1.cells) (fun _ h => h.2.1.iv)) ?_
              refine And.intro (step_load (b := w1.heap.size) rfl (.inr ⟨2, false, _, rfl, rfl, by kernel_rfl, fun _ _ h => h⟩) (Arg.old (by kernel_rfl)) (fun _ h => h.2.2.2.1.cells) (fun _ h => h.2.2.2.1.iv)) ?_
              refine And.intro (step_call2 E__commonform_integer_Int__Mul.out rfl (.inr ⟨2, false, _, rfl, rfl, by kernel_rfl, fun _ _ h => h⟩) (Arg.tmp (j := 3) (by kernel_rfl) rfl) (Arg.tmp (j := 4) (by kernel_rfl) rfl) (fun u v w _ h1 h2 => (M1.out _ _ _ h1 h2).out)) ?_
              refine And.intro (step_load (b := w1.heap.size + 1) rfl (.inr ⟨2, false, _, rfl, rfl, by kernel_rfl, fun _ _ h => h⟩) (Arg.old (by kernel_rfl)) (fun _ h => h.2.2.2.2.1.cells) (fun _ h => h.2.2.2.2.1.iv)) ?_
              refine And.intro (step_call2 E__commonform_integer_Int__Add.out rfl (.inr ⟨2, false, _, rfl, rfl, by kernel_rfl, fun _ _ h => h⟩) (Arg.tmp (j := 5) (by kernel_rfl) rfl) (Arg.tmp (j := 6) (by kernel_rfl) rfl) (fun u v w _ h1 h2 => (P1.out _ _ _ h1 h2).out)) ?_
              refine And.intro (step_load (b := p) rfl (.inr ⟨2, false, _, rfl, rfl, by kernel_rfl, fun _ _ h => h⟩) (Arg.old (by kernel_rfl)) (fun _ h => h.1.cells) (fun _ h => h.1.iv)) ?_
              refine And.intro (step_call2 E_commonform_commonformlaw02_same.out rfl (.inr ⟨2, false, _, rfl, rfl, by kernel_rfl, fun _ _ h => h⟩) (Arg.tmp (j := 7) (by kernel_rfl) rfl) (Arg.tmp (j := 8) (by kernel_rfl) rfl) (fun u v w _ h1 h2 => (SM.out _ _ _ _ h1 h2).out.mono fun e w' h => ⟨_, h.1, rfl, h.2⟩)) ?_
              refine And.intro (step_not rfl (.inr ⟨2, false, _, rfl, rfl, by kernel_rfl, fun _ _ h => h⟩) (Arg.tmp (j := 9) (by kernel_rfl) rfl) (fun _ _ h => h) (fun _ => rfl)) ?_
              refine And.intro (step_pickF rfl (.inl rfl) (Arg.tmp (j := 2) (by kernel_rfl) rfl) (fun _ _ h => h) (Arg.tmp (j := 10) (by kernel_rfl) rfl) (fun _ _ h => h)) ?_
              refine And.intro (step_move rfl (.inl rfl) (Arg.tmp (j := 11) (by kernel_rfl) rfl) (fun _ _ h => h)) ?_
              refine And.intro (step_load (b := w1.heap.size + 1) rfl (.inr ⟨12, false, _, rfl, rfl, by kernel_rfl, fun _ _ h => h⟩) (Arg.old (by kernel_rfl)) (fun _ h => h.2.2.2.2.1.cells) (fun _ h => h.2.2.2.2.1.iv)) ?_
              refine And.intro (step_call1 E__commonform_integer_Int__Abs.out rfl (.inr ⟨12, false, _, rfl, rfl, by kernel_rfl, fun _ _ h => h⟩) (Arg.tmp (j := 13) (by kernel_rfl) rfl) (fun u w _ h1 => (AB1.out _ _ h1).out)) ?_
              refine And.intro (step_load (b := q) rfl (.inr ⟨12, false, _, rfl, rfl, by kernel_rfl, fun _ _ h => h⟩) (Arg.old (by kernel_rfl)) (fun _ h => h.2.1.cells) (fun _ h => h.2.1.iv)) ?_
              refine And.intro (step_call1 E__commonform_integer_Int__Abs.out rfl (.inr ⟨12, false, _, rfl, rfl, by kernel_rfl, fun _ _ h => h⟩) (Arg.tmp (j := 15) (by kernel_rfl) rfl) (fun u w _ h1 => (AB2.out _ _ h1).out)) ?_
              refine And.intro (step_call2 E__commonform_integer_Int__Cmp.out rfl (.inr ⟨12, false, _, rfl, rfl, by kernel_rfl, fun _ _ h => h⟩) (Arg.tmp (j := 14) (by kernel_rfl) rfl) (Arg.tmp (j := 16) (by kernel_rfl) rfl) (fun u v w _ h1 h2 => (CM.out _ _ _ h1 h2).out.mono fun e w' h => ⟨_, h.1, rfl, h.2⟩)) ?_
              refine And.intro (step_geq (b := false) HCM.out.symm rfl (.inr ⟨12, false, _, rfl, rfl, by kernel_rfl, fun _ _ h => h⟩) (Arg.tmp (j := 17) (by kernel_rfl) rfl) (fun _ _ h => h) (Arg.const _) (fun _ _ h => h) (fun _ => rfl)) ?_
              refine And.intro (step_pickF rfl (.inl rfl) (Arg.tmp (j := 12) (by kernel_rfl) rfl) (fun _ _ h => h) (Arg.tmp (j := 18) (by kernel_rfl) rfl) (fun _ _ h => h)) ?_
              refine And.intro (step_move rfl (.inl rfl) (Arg.tmp (j := 19) (by kernel_rfl) rfl) (fun _ _ h => h)) ?_
              refine And.intro (step_load (b := w1.heap.size + 1) rfl (.inr ⟨20, false, _, rfl, rfl, by kernel_rfl, fun _ _ h => h⟩) (Arg.old (by kernel_rfl)) (fun _ h => h.2.2.2.2.1.cells) (fun _ h => h.2.2.2.2.1.iv)) ?_
              refine And.intro (step_call1 E__commonform_integer_Int__Sign.out rfl (.inr ⟨20, false, _, rfl, rfl, by kernel_rfl, fun _ _ h => h⟩) (Arg.tmp (j := 21) (by kernel_rfl) rfl) (fun u w _ h1 => (SR.out _ _ h1).out.mono fun e w' h => ⟨_, h.1, rfl, h.2⟩)) ?_
              refine And.intro (step_neq (b := true) (by simp [hsr]) rfl (.inr ⟨20, false, _, rfl, rfl, by kernel_rfl, fun _ _ h => h⟩) (Arg.tmp (j := 22) (by kernel_rfl) rfl) (fun _ _ h => h) (Arg.const _) (fun _ _ h => h) (fun _ => rfl)) ?_
              refine And.intro (step_move rfl (.inr ⟨20, false, _, rfl, rfl, by kernel_rfl, fun _ _ h => h⟩) (Arg.tmp (j := 23) (by kernel_rfl) rfl) (fun _ _ h => h)) ?_
              refine And.intro (step_load (b := w1.heap.size + 1) rfl (.inr ⟨24, true, _, rfl, rfl, by kernel_rfl, fun _ _ h => h⟩) (Arg.old (by kernel_rfl)) (fun _ h => h.2.2.2.2.1.cells) (fun _ h => h.2.2.2.2.1.iv)) ?_
              refine And.intro (step_call1 E__commonform_integer_Int__Sign.out rfl (.inr ⟨24, true, _, rfl, rfl, by kernel_rfl, fun _ _ h => h⟩) (Arg.tmp (j := 25) (by kernel_rfl) rfl) (fun u w _ h1 => (SR.out _ _ h1).out.mono fun e w' h => ⟨_, h.1, rfl, h.2⟩)) ?_
              refine And.intro (step_load (b := p) rfl (.inr ⟨24, true, _, rfl, rfl, by kernel_rfl, fun _ _ h => h⟩) (Arg.old (by kernel_rfl)) (fun _ h => h.1.cells) (fun _ h => h.1.iv)) ?_
              refine And.intro (step_call1 E__commonform_integer_Int__Sign.out rfl (.inr ⟨24, true, _, rfl, rfl, by kernel_rfl, fun _ _ h => h⟩) (Arg.tmp (j := 27) (by kernel_rfl) rfl) (fun u w _ h1 => (SX.out _ _ h1).out.mono fun e w' h => ⟨_, h.1, rfl, h.2⟩)) ?_
              refine And.intro (step_neq (b := false) (by simp [hsx]) rfl (.inr ⟨24, true, _, rfl, rfl, by kernel_rfl, fun _ _ h => h⟩) (Arg.tmp (j := 26) (by kernel_rfl) rfl) (fun _ _ h => h) (Arg.tmp (j := 28) (by kernel_rfl) rfl) (fun _ _ h => h) (fun _ => rfl)) ?_
              refine And.intro (step_pickT rfl (.inr ⟨20, false, _, rfl, rfl, by kernel_rfl, fun _ _ h => h⟩) (Arg.tmp (j := 24) (by kernel_rfl) rfl) (fun _ _ h => h) (Arg.tmp (j := 29) (by kernel_rfl) rfl) (fun _ _ h => h)) ?_
              refine And.intro (step_pickF rfl (.inl rfl) (Arg.tmp (j := 20) (by kernel_rfl) rfl) (fun _ _ h => h) (Arg.tmp (j := 30) (by kernel_rfl) rfl) (fun _ _ h => h)) ?_
              trivial
            · intro v5 wv5 hk hs
              have hv : v5 31 = .bool false := hk 31 _ rfl
              clear hk
              simp only [putV, Act.put, List.setIfInBounds_toArray, List.set_cons_zero, List.set_cons_succ, Nat.reduceAdd, hv]
              clear hv
              have HSV := Lib.hid hs
              clear hs
              go_wp2_with fail
              go_meet
              exact ⟨rfl, HSV.out⟩
        case rest =>
          obtain ⟨rfl, kA, kB, kC, kQ, kS, hrest⟩ := hcut
          have KA4 := Lib.hid kA
          have KB4 := Lib.hid kB
          have KC4 := Lib.hid kC
          have KQ4 := Lib.hid kQ
          have KS4 := Lib.hid kS
          have HD4 := Lib.hid hrest
          clear HSB hrest kA kB kC kQ kS
          generalize wc = w4 at *
          obtain ⟨ga0, gb0⟩ := KA4.out.cells
          obtain ⟨ga1, gb1⟩ := KB4.out.cells
          go_wp2_with fail
          (with_reducible refine ((GC.out _ _ _ KA4.out.iv KB4.out.iv).out).mono ?_)
          rintro e w5 ⟨vG, rfl, ⟨dG, nG, eG, rfl, hrG⟩, hb5⟩
          have HIG : Hid (IntV w5 (.agg #[.bool (decide (zg < 0)), .slice dG nG eG]) zg) := Lib.hid ⟨_, _, _, rfl, hrG⟩
          have HD5 := Lib.hid (HD4.out.trans (hb5.mono HD4.out.size))
          have KA5 := Lib.hid (KA4.out.keep hb5)
          have KB5 := Lib.hid (KB4.out.keep hb5)
          have KC5 := Lib.hid (KC4.out.keep hb5)
          have KQ5 := Lib.hid (KQ4.out.keep hb5)
          have KS5 := Lib.hid (KS4.out.keep hb5)
          clear KA4 KB4 KC4 KQ4 KS4
          clear hb5 HD4 hrG ga0 gb0 ga1 gb1
          generalize decide (zg < 0) = bG at *
          have hal : Below w5.heap.size w5 (w5.alloc (.cells #[.bool bG, .slice dG nG eG] 28)) := (Below.refl _ _).alloc (Nat.le_refl _) _
          have HD6 := Lib.hid (HD5.out.trans (hal.mono HD5.out.size))
          have KA6 := Lib.hid (KA5.out.keep hal)
          have KB6 := Lib.hid (KB5.out.keep hal)
          have KC6 := Lib.hid (KC5.out.keep hal)
          have KQ6 := Lib.hid (KQ5.out.keep hal)
          have KS6 := Lib.hid (KS5.out.keep hal)
          clear KA5 KB5 KC5 KQ5 KS5
          have KG6 : Hid (CX (w5.heap.size) (.bool bG) (.slice dG nG eG) zg (w5.alloc (.cells #[.bool bG, .slice dG nG eG] 28))) := Lib.hid (CX.made HIG.out)
          clear hal HD5 HIG
          obtain ⟨ga0, gb0⟩ := KA6.out.cells
          obtain ⟨ga1, gb1⟩ := KG6.out.cells
          go_wp2_with fail
          (with_reducible refine ((D2.out _ _ _ KA6.out.iv KG6.out.iv).out).mono ?_)
          rintro e w7 ⟨vH, vM, rfl, ⟨dH, nH, eH, rfl, hrH⟩, ⟨dM, nM, eM, rfl, hrM⟩, hb7⟩
          have HIH : Hid (IntV w7 (.agg #[.bool (decide (q2 < 0)), .slice dH nH eH]) q2) := Lib.hid ⟨_, _, _, rfl, hrH⟩
          have HIM : Hid (IntV w7 (.agg #[.bool (decide (r2 < 0)), .slice dM nM eM]) r2) := Lib.hid ⟨_, _, _, rfl, hrM⟩
          have HD7 := Lib.hid (HD6.out.trans (hb7.mono HD6.out.size))
          have KA7 := Lib.hid (KA6.out.keep hb7)
          have KB7 := Lib.hid (KB6.out.keep hb7)
          have KC7 := Lib.hid (KC6.out.keep hb7)
          have KQ7 := Lib.hid (KQ6.out.keep hb7)
          have KS7 := Lib.hid (KS6.out.keep hb7)
          have KG7 := Lib.hid (KG6.out.keep hb7)
          clear KA6 KB6 KC6 KQ6 KS6 KG6
          clear hb7 HD6 hrH hrM ga0 gb0 ga1 gb1
          generalize decide (q2 < 0) = bH at *
          generalize decide (r2 < 0) = bM at *
          have hal : Below w7.heap.size w7 ((w7.alloc (.cells #[.bool bH, .slice dH nH eH] 28)).alloc (.cells #[.bool bM, .slice dM nM eM] 28)) := below2 _ _ _
          have HD8 := Lib.hid (HD7.out.trans (hal.mono HD7.out.size))
          have KA8 := Lib.hid (KA7.out.keep hal)
          have KB8 := Lib.hid (KB7.out.keep hal)
          have KC8 := Lib.hid (KC7.out.keep hal)
          have KQ8 := Lib.hid (KQ7.out.keep hal)
          have KS8 := Lib.hid (KS7.out.keep hal)
          have KG8 := Lib.hid (KG7.out.keep hal)
          clear KA7 KB7 KC7 KQ7 KS7 KG7
          have KH8 : Hid (CX (w7.heap.size) (.bool bH) (.slice dH nH eH) q2 ((w7.alloc (.cells #[.bool bH, .slice dH nH eH] 28)).alloc (.cells #[.bool bM, .slice dM nM eM] 28))) := Lib.hid ((CX.made HIH.out).keep ((Below.refl _ _).alloc (Nat.le_refl _) _))
          have KM8 : Hid (CX (w7.heap.size + 1) (.bool bM) (.slice dM nM eM) r2 ((w7.alloc (.cells #[.bool bH, .slice dH nH eH] 28)).alloc (.cells #[.bool bM, .slice dM nM eM] 28))) := Lib.hid (by have h := CX.made (t := 28) (HIM.out.keep ((Below.refl w7.heap.size w7).alloc (Nat.le_refl _) (.cells #[.bool bH, .slice dH nH eH] 28))); rw [World.size_alloc] at h; exact h)
          clear hal HD7 HIH HIM
          obtain ⟨ga0, gb0⟩ := KB8.out.cells
          obtain ⟨ga1, gb1⟩ := KG8.out.cells
          go_wp2_with fail
          (with_reducible refine ((D3.out _ _ _ KB8.out.iv KG8.out.iv).out).mono ?_)
          rintro e w9 ⟨vJ, vN, rfl, ⟨dJ, nJ, eJ, rfl, hrJ⟩, ⟨dN, nN, eN, rfl, hrN⟩, hb9⟩
          have HIJ : Hid (IntV w9 (.agg #[.bool (decide (q3 < 0)), .slice dJ nJ eJ]) q3) := Lib.hid ⟨_, _, _, rfl, hrJ⟩
          have HIN : Hid (IntV w9 (.agg #[.bool (decide (r3 < 0)), .slice dN nN eN]) r3) := Lib.hid ⟨_, _, _, rfl, hrN⟩
          have HD9 := Lib.hid (HD8.out.trans (hb9.mono HD8.out.size))
          have KA9 := Lib.hid (KA8.out.keep hb9)
          have KB9 := Lib.hid (KB8.out.keep hb9)
          have KC9 := Lib.hid (KC8.out.keep hb9)
          have KQ9 := Lib.hid (KQ8.out.keep hb9)
          have KS9 := Lib.hid (KS8.out.keep hb9)
          have KG9 := Lib.hid (KG8.out.keep hb9)
          have KH9 := Lib.hid (KH8.out.keep hb9)
          have KM9 := Lib.hid (KM8.out.keep hb9)
          clear KA8 KB8 KC8 KQ8 KS8 KG8 KH8 KM8
          clear hb9 HD8 hrJ hrN ga0 gb0 ga1 gb1
          generalize decide (q3 < 0) = bJ at *
          generalize decide (r3 < 0) = bN at *
          have hal : Below w9.heap.size w9 ((w9.alloc (.cells #[.bool bJ, .slice dJ nJ eJ] 28)).alloc (.cells #[.bool bN, .slice dN nN eN] 28)) := below2 _ _ _
          have HD10 := Lib.hid (HD9.out.trans (hal.mono HD9.out.size))
          have KA10 := Lib.hid (KA9.out.keep hal)
          have KB10 := Lib.hid (KB9.out.keep hal)
          have KC10 := Lib.hid (KC9.out.keep hal)
          have KQ10 := Lib.hid (KQ9.out.keep hal)
          have KS10 := Lib.hid (KS9.out.keep hal)
          have KG10 := Lib.hid (KG9.out.keep hal)
          have KH10 := Lib.hid (KH9.out.keep hal)
          have KM10 := Lib.hid (KM9.out.keep hal)
          clear KA9 KB9 KC9 KQ9 KS9 KG9 KH9 KM9
          have KJ10 : Hid (CX (w9.heap.size) (.bool bJ) (.slice dJ nJ eJ) q3 ((w9.alloc (.cells #[.bool bJ, .slice dJ nJ eJ] 28)).alloc (.cells #[.bool bN, .slice dN nN eN] 28))) := Lib.hid ((CX.made HIJ.out).keep ((Below.refl _ _).alloc (Nat.le_refl _) _))
          have KN10 : Hid (CX (w9.heap.size + 1) (.bool bN) (.slice dN nN eN) r3 ((w9.alloc (.cells #[.bool bJ, .slice dJ nJ eJ] 28)).alloc (.cells #[.bool bN, .slice dN nN eN] 28))) := Lib.hid (by have h := CX.made (t := 28) (HIN.out.keep ((Below.refl w9.heap.size w9).alloc (Nat.le_refl _) (.cells #[.bool bJ, .slice dJ nJ eJ] 28))); rw [World.size_alloc] at h; exact h)
          clear hal HD9 HIJ HIN
          have HSB : Hid (CX (p) (.bool bA) (.slice dA nA eA) x ((w9.alloc (.cells #[.bool bJ, .slice dJ nJ eJ] 28)).alloc (.cells #[.bool bN, .slice dN nN eN] 28)) ∧ CX (q) (.bool bB) (.slice dB nB eB) y ((w9.alloc (.cells #[.bool bJ, .slice dJ nJ eJ] 28)).alloc (.cells #[.bool bN, .slice dN nN eN] 28)) ∧ CX (r) (.bool bC) (.slice dC nC eC) z ((w9.alloc (.cells #[.bool bJ, .slice dJ nJ eJ] 28)).alloc (.cells #[.bool bN, .slice dN nN eN] 28)) ∧ CX (w1.heap.size) (.bool bQ) (.slice dQ nQ eQ) zq ((w9.alloc (.cells #[.bool bJ, .slice dJ nJ eJ] 28)).alloc (.cells #[.bool bN, .slice dN nN eN] 28)) ∧ CX (w1.heap.size + 1) (.bool bS) (.slice dS nS eS) zr ((w9.alloc (.cells #[.bool bJ, .slice dJ nJ eJ] 28)).alloc (.cells #[.bool bN, .slice dN nN eN] 28)) ∧ CX (w5.heap.size) (.bool bG) (.slice dG nG eG) zg ((w9.alloc (.cells #[.bool bJ, .slice dJ nJ eJ] 28)).alloc (.cells #[.bool bN, .slice dN nN eN] 28)) ∧ CX (w7.heap.size) (.bool bH) (.slice dH nH eH) q2 ((w9.alloc (.cells #[.bool bJ, .slice dJ nJ eJ] 28)).alloc (.cells #[.bool bN, .slice dN nN eN] 28)) ∧ CX (w7.heap.size + 1) (.bool bM) (.slice dM nM eM) r2 ((w9.alloc (.cells #[.bool bJ, .slice dJ nJ eJ] 28)).alloc (.cells #[.bool bN, .slice dN nN eN] 28)) ∧ CX (w9.heap.size) (.bool bJ) (.slice dJ nJ eJ) q3 ((w9.alloc (.cells #[.bool bJ, .slice dJ nJ eJ] 28)).alloc (.cells #[.bool bN, .slice dN nN eN] 28)) ∧ CX (w9.heap.size + 1) (.bool bN) (.slice dN nN eN) r3 ((w9.alloc (.cells #[.bool bJ, .slice dJ nJ eJ] 28)).alloc (.cells #[.bool bN, .slice dN nN eN] 28)) ∧ Below w.heap.size w ((w9.alloc (.cells #[.bool bJ, .slice dJ nJ eJ] 28)).alloc (.cells #[.bool bN, .slice dN nN eN] 28))) := Lib.hid ⟨KA10.out, KB10.out, KC10.out, KQ10.out, KS10.out, KG10.out, KH10.out, KM10.out, KJ10.out, KN10.out, HD10.out⟩
          clear KA10 KB10 KC10 KQ10 KS10 KG10 KH10 KM10 KJ10 KN10
          go_upto_region 13 with fail
          go_cut [149] from 114 to 148 (fun s wx => s = .bool false ∧ CX (p) (.bool bA) (.slice dA nA eA) x wx ∧ CX (q) (.bool bB) (.slice dB nB eB) y wx ∧ CX (r) (.bool bC) (.slice dC nC eC) z wx ∧ CX (w1.heap.size) (.bool bQ) (.slice dQ nQ eQ) zq wx ∧ CX (w1.heap.size + 1) (.bool bS) (.slice dS nS eS) zr wx ∧ CX (w5.heap.size) (.bool bG) (.slice dG nG eG) zg wx ∧ CX (w7.heap.size) (.bool bH) (.slice dH nH eH) q2 wx ∧ CX (w7.heap.size + 1) (.bool bM) (.slice dM nM eM) r2 wx ∧ CX (w9.heap.size) (.bool bJ) (.slice dJ nJ eJ) q3 wx ∧ CX (w9.heap.size + 1) (.bool bN) (.slice dN nN eN) r3 wx ∧ Below w.heap.size w wx)
          case first =>
            refine wp_region_facts (falR (FaR.v (.int .i64 0) :: FaR.v (.bool false) :: FaR.v (.bool false) :: FaR.v (.int .i64 0) :: FaR.v (.bool false) :: FaR.v (.bool false) :: FaR.v (.bool false) :: FaR.z r2 :: FaR.v (.int .i64 0) :: FaR.v (.bool false) :: FaR.v (.bool false) :: FaR.v (.bool false) :: FaR.z r3 :: FaR.v (.int .i64 0) :: FaR.v (.bool false) :: FaR.v (.bool false) :: FaR.v (.bool false) :: FaR.z zg :: FaR.v (.int .i64 1) :: FaR.v (.bool false) :: FaR.v (.bool false) :: FaR.v (.bool false) :: FaR.z x :: FaR.z z :: FaR.z xz :: FaR.z y :: FaR.z z :: FaR.z yz :: FaR.z zh :: FaR.z zg :: FaR.z z :: FaR.z zz :: FaR.z zh :: FaR.v (.bool true) :: FaR.v (.bool false) :: FaR.v (.bool false) :: [])) (fun W => CX (p) (.bool bA) (.slice dA nA eA) x W ∧ CX (q) (.bool bB) (.slice dB nB eB) y W ∧ CX (r) (.bool bC) (.slice dC nC eC) z W ∧ CX (w1.heap.size) (.bool bQ) (.slice dQ nQ eQ) zq W ∧ CX (w1.heap.size + 1) (.bool bS) (.slice dS nS eS) zr W ∧ CX (w5.heap.size) (.bool bG) (.slice dG nG eG) zg W ∧ CX (w7.heap.size) (.bool bH) (.slice dH nH eH) q2 W ∧ CX (w7.heap.size + 1) (.bool bM) (.slice dM nM eM) r2 W ∧ CX (w9.heap.size) (.bool bJ) (.slice dJ nJ eJ) q3 W ∧ CX (w9.heap.size + 1) (.bool bN) (.slice dN nN eN) r3 W ∧ Below w.heap.size w W) (by kernel_rfl) (by kernel_rfl) (falR_mono _) (fun _ _ h hb => ⟨h.1.keep hb, h.2.1.keep hb, h.2.2.1.keep hb, h.2.2.2.1.keep hb, h.2.2.2.2.1.keep hb, h.2.2.2.2.2.1.keep hb, h.2.2.2.2.2.2.1.keep hb, h.2.2.2.2.2.2.2.1.keep hb, h.2.2.2.2.2.2.2.2.1.keep hb, h.2.2.2.2.2.2.2.2.2.1.keep hb, Below.trans h.2.2.2.2.2.2.2.2.2.2 (hb.mono h.2.2.2.2.2.2.2.2.2.2.size)⟩) ?_ ?_ (some 114 :: some 115 :: some 116 :: some 117 :: some 118 :: some 119 :: some 120 :: some 121 :: some 122 :: some 123 :: some 124 :: some 125 :: some 126 :: some 127 :: some 128 :: some 129 :: some 130 :: some 131 :: some 132 :: some 133 :: some 134 :: some 135 :: some 136 :: some 137 :: some 138 :: some 139 :: some 140 :: some 141 :: some 142 :: some 143 :: some 144 :: some 145 :: some 146 :: some 147 :: some 148 :: some 149 :: []) (by rfl) ?_
            · have h := HSB.out
              have hb : Below ((w9.alloc (.cells #[.bool bJ, .slice dJ nJ eJ] 28)).alloc (.cells #[.bool bN, .slice dN nN eN] 28)).heap.size ((w9.alloc (.cells #[.bool bJ, .slice dJ nJ eJ] 28)).alloc (.cells #[.bool bN, .slice dN nN eN] 28)) ((w9.alloc (.cells #[.bool bJ, .slice dJ nJ eJ] 28)).alloc (.cells #[.bool bN, .slice dN nN eN] 28)).drew := (Below.refl _ _).drew
              exact ⟨h.1.keep hb, h.2.1.keep hb, h.2.2.1.keep hb, h.2.2.2.1.keep hb, h.2.2.2.2.1.keep hb, h.2.2.2.2.2.1.keep hb, h.2.2.2.2.2.2.1.keep hb, h.2.2.2.2.2.2.2.1.keep hb, h.2.2.2.2.2.2.2.2.1.keep hb, h.2.2.2.2.2.2.2.2.2.1.keep hb, Below.trans h.2.2.2.2.2.2.2.2.2.2 (hb.mono h.2.2.2.2.2.2.2.2.2.2.size)⟩
            · refine And.intro (step_move rfl (.inl rfl) (Arg.old (by kernel_rfl)) (fun _ _ h => h)) ?_
              refine And.intro (step_neqE (b := false) rfl rfl (.inl rfl) (Arg.tmp (j := 0) (by kernel_rfl) rfl) (fun _ _ h => h) (Arg.const _) (fun _ _ h => h) (fun _ => rfl)) ?_
              refine And.intro (step_move rfl (.inl rfl) (Arg.tmp (j := 1) (by kernel_rfl) rfl) (fun _ _ h => h)) ?_
              refine And.intro (step_move rfl (.inr ⟨2, false, _, rfl, rfl, by kernel_rfl, fun _ _ h => h⟩) (Arg.old (by kernel_rfl)) (fun _ _ h => h)) ?_
              refine And.intro (step_neqE (b := false) rfl rfl (.inr ⟨2, false, _, rfl, rfl, by kernel_rfl, fun _ _ h => h⟩) (Arg.tmp (j := 3) (by kernel_rfl) rfl) (fun _ _ h => h) (Arg.const _) (fun _ _ h => h) (fun _ => rfl)) ?_
              refine And.intro (step_pickF rfl (.inl rfl) (Arg.tmp (j := 2) (by kernel_rfl) rfl) (fun _ _ h => h) (Arg.tmp (j := 4) (by kernel_rfl) rfl) (fun _ _ h => h)) ?_
              refine And.intro (step_move rfl (.inl rfl) (Arg.tmp (j := 5) (by kernel_rfl) rfl) (fun _ _ h => h)) ?_
              refine And.intro (step_load (b := w7.heap.size + 1) rfl (.inr ⟨6, false, _, rfl, rfl, by kernel_rfl, fun _ _ h => h⟩) (Arg.old (by kernel_rfl)) (fun _ h => h.2.2.2.2.2.2.2.1.cells) (fun _ h => h.2.2.2.2.2.2.2.1.iv)) ?_
              refine And.intro (step_call1 E__commonform_integer_Int__Sign.out rfl (.inr ⟨6, false, _, rfl, rfl, by kernel_rfl, fun _ _ h => h⟩) (Arg.tmp (j := 7) (by kernel_rfl) rfl) (fun u w _ h1 => (S2.out _ _ h1).out.mono fun e w' h => ⟨_, h.1, rfl, h.2⟩)) ?_
              refine And.intro (step_neq (b := false) rfl rfl (.inr ⟨6, false, _, rfl, rfl, by kernel_rfl, fun _ _ h => h⟩) (Arg.tmp (j := 8) (by kernel_rfl) rfl) (fun _ _ h => h) (Arg.const _) (fun _ _ h => h) (fun _ => rfl)) ?_
              refine And.intro (step_pickF rfl (.inl rfl) (Arg.tmp (j := 6) (by kernel_rfl) rfl) (fun _ _ h => h) (Arg.tmp (j := 9) (by kernel_rfl) rfl) (fun _ _ h => h)) ?_
              refine And.intro (step_move rfl (.inl rfl) (Arg.tmp (j := 10) (by kernel_rfl) rfl) (fun _ _ h => h)) ?_
              refine And.intro (step_load (b := w9.heap.size + 1) rfl (.inr ⟨11, false, _, rfl, rfl, by kernel_rfl, fun _ _ h => h⟩) (Arg.old (by kernel_rfl)) (fun _ h => h.2.2.2.2.2.2.2.2.2.1.cells) (fun _ h => h.2.2.2.2.2.2.2.2.2.1.iv)) ?_
              refine And.intro (step_call1 E__commonform_integer_Int__Sign.out rfl (.inr ⟨11, false, _, rfl, rfl, by kernel_rfl, fun _ _ h => h⟩) (Arg.tmp (j := 12) (by kernel_rfl) rfl) (fun u w _ h1 => (S3.out _ _ h1).out.mono fun e w' h => ⟨_, h.1, rfl, h.2⟩)) ?_
              refine And.intro (step_neq (b := false) rfl rfl (.inr ⟨11, false, _, rfl, rfl, by kernel_rfl, fun _ _ h => h⟩) (Arg.tmp (j := 13) (by kernel_rfl) rfl) (fun _ _ h => h) (Arg.const _) (fun _ _ h => h) (fun _ => rfl)) ?_
              refine And.intro (step_pickF rfl (.inl rfl) (Arg.tmp (j := 11) (by kernel_rfl) rfl) (fun _ _ h => h) (Arg.tmp (j := 14) (by kernel_rfl) rfl) (fun _ _ h => h)) ?_
              refine And.intro (step_move rfl (.inl rfl) (Arg.tmp (j := 15) (by kernel_rfl) rfl) (fun _ _ h => h)) ?_
              refine And.intro (step_load (b := w5.heap.size) rfl (.inr ⟨16, false, _, rfl, rfl, by kernel_rfl, fun _ _ h => h⟩) (Arg.old (by kernel_rfl)) (fun _ h => h.2.2.2.2.2.1.cells) (fun _ h => h.2.2.2.2.2.1.iv)) ?_
              refine And.intro (step_call1 E__commonform_integer_Int__Sign.out rfl (.inr ⟨16, false, _, rfl, rfl, by kernel_rfl, fun _ _ h => h⟩) (Arg.tmp (j := 17) (by kernel_rfl) rfl) (fun u w _ h1 => (SGg.out _ _ h1).out.mono fun e w' h => ⟨_, h.1, rfl, h.2⟩)) ?_
              refine And.intro (step_leq (b := false) (by decide) rfl (.inr ⟨16, false, _, rfl, rfl, by kernel_rfl, fun _ _ h => h⟩) (Arg.tmp (j := 18) (by kernel_rfl) rfl) (fun _ _ h => h) (Arg.const _) (fun _ _ h => h) (fun _ => rfl)) ?_
              refine And.intro (step_pickF rfl (.inl rfl) (Arg.tmp (j := 16) (by kernel_rfl) rfl) (fun _ _ h => h) (Arg.tmp (j := 19) (by kernel_rfl) rfl) (fun _ _ h => h)) ?_
              refine And.intro (step_move rfl (.inl rfl) (Arg.tmp (j := 20) (by kernel_rfl) rfl) (fun _ _ h => h)) ?_
              refine And.intro (step_load (b := p) rfl (.inr ⟨21, false, _, rfl, rfl, by kernel_rfl, fun _ _ h => h⟩) (Arg.old (by kernel_rfl)) (fun _ h => h.1.cells) (fun _ h => h.1.iv)) ?_
              refine And.intro (step_load (b := r) rfl (.inr ⟨21, false, _, rfl, rfl, by kernel_rfl, fun _ _ h => h⟩) (Arg.old (by kernel_rfl)) (fun _ h => h.2.2.1.cells) (fun _ h => h.2.2.1.iv)) ?_
              refine And.intro (step_call2 E__commonform_integer_Int__Mul.out rfl (.inr ⟨21, false, _, rfl, rfl, by kernel_rfl, fun _ _ h => h⟩) (Arg.tmp (j := 22) (by kernel_rfl) rfl) (Arg.tmp (j := 23) (by kernel_rfl) rfl) (fun u v w _ h1 h2 => (M2.out _ _ _ h1 h2).out)) ?_
              refine And.intro (step_load (b := q) rfl (.inr ⟨21, false, _, rfl, rfl, by kernel_rfl, fun _ _ h => h⟩) (Arg.old (by kernel_rfl)) (fun _ h => h.2.1.cells) (fun _ h => h.2.1.iv)) ?_
              refine And.intro (step_load (b := r) rfl (.inr ⟨21, false, _, rfl, rfl, by kernel_rfl, fun _ _ h => h⟩) (Arg.old (by kernel_rfl)) (fun _ h => h.2.2.1.cells) (fun _ h => h.2.2.1.iv)) ?_
              refine And.intro (step_call2 E__commonform_integer_Int__Mul.out rfl (.inr ⟨21, false, _, rfl, rfl, by kernel_rfl, fun _ _ h => h⟩) (Arg.tmp (j := 25) (by kernel_rfl) rfl) (Arg.tmp (j := 26) (by kernel_rfl) rfl) (fun u v w _ h1 h2 => (M3.out _ _ _ h1 h2).out)) ?_
              refine And.intro (step_call2 E__commonform_integer_Int__Gcd.out rfl (.inr ⟨21, false, _, rfl, rfl, by kernel_rfl, fun _ _ h => h⟩) (Arg.tmp (j := 24) (by kernel_rfl) rfl) (Arg.tmp (j := 27) (by kernel_rfl) rfl) (fun u v w _ h1 h2 => (G2.out _ _ _ h1 h2).out)) ?_
              refine And.intro (step_load (b := w5.heap.size) rfl (.inr ⟨21, false, _, rfl, rfl, by kernel_rfl, fun _ _ h => h⟩) (Arg.old (by kernel_rfl)) (fun _ h => h.2.2.2.2.2.1.cells) (fun _ h => h.2.2.2.2.2.1.iv)) ?_
              refine And.intro (step_load (b := r) rfl (.inr ⟨21, false, _, rfl, rfl, by kernel_rfl, fun _ _ h => h⟩) (Arg.old (by kernel_rfl)) (fun _ h => h.2.2.1.cells) (fun _ h => h.2.2.1.iv)) ?_
              refine And.intro (step_call1 E__commonform_integer_Int__Abs.out rfl (.inr ⟨21, false, _, rfl, rfl, by kernel_rfl, fun _ _ h => h⟩) (Arg.tmp (j := 30) (by kernel_rfl) rfl) (fun u w _ h1 => (AB3.out _ _ h1).out)) ?_
              refine And.intro (step_call2 E__commonform_integer_Int__Mul.out rfl (.inr ⟨21, false, _, rfl, rfl, by kernel_rfl, fun _ _ h => h⟩) (Arg.tmp (j := 29) (by kernel_rfl) rfl) (Arg.tmp (j := 31) (by kernel_rfl) rfl) (fun u v w _ h1 h2 => (M4.out _ _ _ h1 h2).out)) ?_
              refine And.intro (step_call2 E_commonform_commonformlaw02_same.out rfl (.inr ⟨21, false, _, rfl, rfl, by kernel_rfl, fun _ _ h => h⟩) (Arg.tmp (j := 28) (by kernel_rfl) rfl) (Arg.tmp (j := 32) (by kernel_rfl) rfl) (fun u v w _ h1 h2 => (SM.out _ _ _ _ h1 h2).out.mono fun e w' h => ⟨_, h.1, rfl, h.2⟩)) ?_
              refine And.intro (step_not rfl (.inr ⟨21, false, _, rfl, rfl, by kernel_rfl, fun _ _ h => h⟩) (Arg.tmp (j := 33) (by kernel_rfl) rfl) (fun _ _ h => h) (fun _ => rfl)) ?_
              refine And.intro (step_pickF rfl (.inl rfl) (Arg.tmp (j := 21) (by kernel_rfl) rfl) (fun _ _ h => h) (Arg.tmp (j := 34) (by kernel_rfl) rfl) (fun _ _ h => h)) ?_
              trivial
            · intro v5 wv5 hk hs
              have hv : v5 35 = .bool false := hk 35 _ rfl
              clear hk
              simp only [putV, Act.put, List.setIfInBounds_toArray, List.set_cons_zero, List.set_cons_succ, Nat.reduceAdd, hv]
              clear hv
              have HSV := Lib.hid hs
              clear hs
              go_wp2_with fail
              go_meet
              exact ⟨rfl, HSV.out⟩
          case rest =>
            obtain ⟨rfl, kA, kB, kC, kQ, kS, kG, kH, kM, kJ, kN, hrest⟩ := hcut
            have KA11 := Lib.hid kA
            have KB11 := Lib.hid kB
            have KC11 := Lib.hid kC
            have KQ11 := Lib.hid kQ
            have KS11 := Lib.hid kS
            have KG11 := Lib.hid kG
            have KH11 := Lib.hid kH
            have KM11 := Lib.hid kM
            have KJ11 := Lib.hid kJ
            have KN11 := Lib.hid kN
            have HD11 := Lib.hid hrest
            clear HSB hrest kA kB kC kQ kS kG kH kM kJ kN
            generalize wc = w11 at *
            rcases HZZ.out with rfl | ⟨rfl, him⟩
            · skip
              obtain ⟨ga0, gb0⟩ := KA11.out.cells
              obtain ⟨ga1, gb1⟩ := KC11.out.cells
              go_wp2_with fail
              (with_reducible refine ((D4.out _ _ _ KA11.out.iv KC11.out.iv).out).mono ?_)
              rintro e w12 ⟨vO, vP, rfl, ⟨dO, nO, eO, rfl, hrO⟩, ⟨dP, nP, eP, rfl, hrP⟩, hb12⟩
              have HIO : Hid (IntV w12 (.agg #[.bool (decide (q4 < 0)), .slice dO nO eO]) q4) := Lib.hid ⟨_, _, _, rfl, hrO⟩
              have HIP : Hid (IntV w12 (.agg #[.bool (decide (r4 < 0)), .slice dP nP eP]) r4) := Lib.hid ⟨_, _, _, rfl, hrP⟩
              have HD12 := Lib.hid (HD11.out.trans (hb12.mono HD11.out.size))
              have KA12 := Lib.hid (KA11.out.keep hb12)
              have KB12 := Lib.hid (KB11.out.keep hb12)
              have KC12 := Lib.hid (KC11.out.keep hb12)
              have KQ12 := Lib.hid (KQ11.out.keep hb12)
              have KS12 := Lib.hid (KS11.out.keep hb12)
              have KG12 := Lib.hid (KG11.out.keep hb12)
              have KH12 := Lib.hid (KH11.out.keep hb12)
              have KM12 := Lib.hid (KM11.out.keep hb12)
              have KJ12 := Lib.hid (KJ11.out.keep hb12)
              have KN12 := Lib.hid (KN11.out.keep hb12)
              clear KA11 KB11 KC11 KQ11 KS11 KG11 KH11 KM11 KJ11 KN11
              clear hb12 HD11 hrO hrP ga0 gb0 ga1 gb1
              generalize decide (q4 < 0) = bO at *
              generalize decide (r4 < 0) = bP at *
              have hal : Below w12.heap.size w12 ((w12.alloc (.cells #[.bool bO, .slice dO nO eO] 28)).alloc (.cells #[.bool bP, .slice dP nP eP] 28)) := below2 _ _ _
              have HD13 := Lib.hid (HD12.out.trans (hal.mono HD12.out.size))
              have KA13 := Lib.hid (KA12.out.keep hal)
              have KB13 := Lib.hid (KB12.out.keep hal)
              have KC13 := Lib.hid (KC12.out.keep hal)
              have KQ13 := Lib.hid (KQ12.out.keep hal)
              have KS13 := Lib.hid (KS12.out.keep hal)
              have KG13 := Lib.hid (KG12.out.keep hal)
              have KH13 := Lib.hid (KH12.out.keep hal)
              have KM13 := Lib.hid (KM12.out.keep hal)
              have KJ13 := Lib.hid (KJ12.out.keep hal)
              have KN13 := Lib.hid (KN12.out.keep hal)
              clear KA12 KB12 KC12 KQ12 KS12 KG12 KH12 KM12 KJ12 KN12
              have KO13 : Hid (CX (w12.heap.size) (.bool bO) (.slice dO nO eO) q4 ((w12.alloc (.cells #[.bool bO, .slice dO nO eO] 28)).alloc (.cells #[.bool bP, .slice dP nP eP] 28))) := Lib.hid ((CX.made HIO.out).keep ((Below.refl _ _).alloc (Nat.le_refl _) _))
              have KP13 : Hid (CX (w12.heap.size + 1) (.bool bP) (.slice dP nP eP) r4 ((w12.alloc (.cells #[.bool bO, .slice dO nO eO] 28)).alloc (.cells #[.bool bP, .slice dP nP eP] 28))) := Lib.hid (by have h := CX.made (t := 28) (HIP.out.keep ((Below.refl w12.heap.size w12).alloc (Nat.le_refl _) (.cells #[.bool bO, .slice dO nO eO] 28))); rw [World.size_alloc] at h; exact h)
              clear hal HD12 HIO HIP
              go_wp2_with fail
              (with_reducible refine (HAW.out _).out.mono ?_)
              rintro e w14 ⟨rfl, hbz⟩
              go_wp2
              go_ret
              exact ⟨rfl, HD13.out.trans (hbz.mono HD13.out.size)⟩
            · have HIM := Lib.hid him
              clear him
              obtain ⟨ga0, gb0⟩ := KA11.out.cells
              obtain ⟨ga1, gb1⟩ := KC11.out.cells
              go_wp2_with fail
              (with_reducible refine ((D4.out _ _ _ KA11.out.iv KC11.out.iv).out).mono ?_)
              rintro e w12 ⟨vO, vP, rfl, ⟨dO, nO, eO, rfl, hrO⟩, ⟨dP, nP, eP, rfl, hrP⟩, hb12⟩
              have HIO : Hid (IntV w12 (.agg #[.bool (decide (q4 < 0)), .slice dO nO eO]) q4) := Lib.hid ⟨_, _, _, rfl, hrO⟩
              have HIP : Hid (IntV w12 (.agg #[.bool (decide (r4 < 0)), .slice dP nP eP]) r4) := Lib.hid ⟨_, _, _, rfl, hrP⟩
              have HD12 := Lib.hid (HD11.out.trans (hb12.mono HD11.out.size))
              have KA12 := Lib.hid (KA11.out.keep hb12)
              have KB12 := Lib.hid (KB11.out.keep hb12)
              have KC12 := Lib.hid (KC11.out.keep hb12)
              have KQ12 := Lib.hid (KQ11.out.keep hb12)
              have KS12 := Lib.hid (KS11.out.keep hb12)
              have KG12 := Lib.hid (KG11.out.keep hb12)
              have KH12 := Lib.hid (KH11.out.keep hb12)
              have KM12 := Lib.hid (KM11.out.keep hb12)
              have KJ12 := Lib.hid (KJ11.out.keep hb12)
              have KN12 := Lib.hid (KN11.out.keep hb12)
              clear KA11 KB11 KC11 KQ11 KS11 KG11 KH11 KM11 KJ11 KN11
              clear hb12 HD11 hrO hrP ga0 gb0 ga1 gb1
              generalize decide (q4 < 0) = bO at *
              generalize decide (r4 < 0) = bP at *
              have hal : Below w12.heap.size w12 ((w12.alloc (.cells #[.bool bO, .slice dO nO eO] 28)).alloc (.cells #[.bool bP, .slice dP nP eP] 28)) := below2 _ _ _
              have HD13 := Lib.hid (HD12.out.trans (hal.mono HD12.out.size))
              have KA13 := Lib.hid (KA12.out.keep hal)
              have KB13 := Lib.hid (KB12.out.keep hal)
              have KC13 := Lib.hid (KC12.out.keep hal)
              have KQ13 := Lib.hid (KQ12.out.keep hal)
              have KS13 := Lib.hid (KS12.out.keep hal)
              have KG13 := Lib.hid (KG12.out.keep hal)
              have KH13 := Lib.hid (KH12.out.keep hal)
              have KM13 := Lib.hid (KM12.out.keep hal)
              have KJ13 := Lib.hid (KJ12.out.keep hal)
              have KN13 := Lib.hid (KN12.out.keep hal)
              clear KA12 KB12 KC12 KQ12 KS12 KG12 KH12 KM12 KJ12 KN12
              have KO13 : Hid (CX (w12.heap.size) (.bool bO) (.slice dO nO eO) q4 ((w12.alloc (.cells #[.bool bO, .slice dO nO eO] 28)).alloc (.cells #[.bool bP, .slice dP nP eP] 28))) := Lib.hid ((CX.made HIO.out).keep ((Below.refl _ _).alloc (Nat.le_refl _) _))
              have KP13 : Hid (CX (w12.heap.size + 1) (.bool bP) (.slice dP nP eP) r4 ((w12.alloc (.cells #[.bool bO, .slice dO nO eO] 28)).alloc (.cells #[.bool bP, .slice dP nP eP] 28))) := Lib.hid (by have h := CX.made (t := 28) (HIP.out.keep ((Below.refl w12.heap.size w12).alloc (Nat.le_refl _) (.cells #[.bool bO, .slice dO nO eO] 28))); rw [World.size_alloc] at h; exact h)
              clear hal HD12 HIO HIP
              obtain ⟨ga0, gb0⟩ := KP13.out.cells
              go_wp2_with fail
              (with_reducible refine ((S4.out _ _ KP13.out.iv).out).mono ?_)
              rintro e w14 ⟨rfl, hb14⟩
              have HD14 := Lib.hid (HD13.out.trans (hb14.mono HD13.out.size))
              have KA14 := Lib.hid (KA13.out.keep hb14)
              have KB14 := Lib.hid (KB13.out.keep hb14)
              have KC14 := Lib.hid (KC13.out.keep hb14)
              have KQ14 := Lib.hid (KQ13.out.keep hb14)
              have KS14 := Lib.hid (KS13.out.keep hb14)
              have KG14 := Lib.hid (KG13.out.keep hb14)
              have KH14 := Lib.hid (KH13.out.keep hb14)
              have KM14 := Lib.hid (KM13.out.keep hb14)
              have KJ14 := Lib.hid (KJ13.out.keep hb14)
              have KN14 := Lib.hid (KN13.out.keep hb14)
              have KO14 := Lib.hid (KO13.out.keep hb14)
              have KP14 := Lib.hid (KP13.out.keep hb14)
              clear KA13 KB13 KC13 KQ13 KS13 KG13 KH13 KM13 KJ13 KN13 KO13 KP13
              clear hb14 HD13  ga0 gb0
              by_cases h4 : s4 = 0
              · have h4b : (s4 == 0) = true := by simp [h4]
                obtain ⟨ga0, gb0⟩ := KB14.out.cells
                obtain ⟨ga1, gb1⟩ := KC14.out.cells
                go_wp2_with fail
                (with_reducible refine ((D5.out _ _ _ KB14.out.iv KC14.out.iv).out).mono ?_)
                rintro e w15 ⟨vR, vT, rfl, ⟨dR, nR, eR, rfl, hrR⟩, ⟨dT, nT, eT, rfl, hrT⟩, hb15⟩
                have HIR : Hid (IntV w15 (.agg #[.bool (decide (q5 < 0)), .slice dR nR eR]) q5) := Lib.hid ⟨_, _, _, rfl, hrR⟩
                have HIT : Hid (IntV w15 (.agg #[.bool (decide (r5 < 0)), .slice dT nT eT]) r5) := Lib.hid ⟨_, _, _, rfl, hrT⟩
                have HD15 := Lib.hid (HD14.out.trans (hb15.mono HD14.out.size))
                have KA15 := Lib.hid (KA14.out.keep hb15)
                have KB15 := Lib.hid (KB14.out.keep hb15)
                have KC15 := Lib.hid (KC14.out.keep hb15)
                have KQ15 := Lib.hid (KQ14.out.keep hb15)
                have KS15 := Lib.hid (KS14.out.keep hb15)
                have KG15 := Lib.hid (KG14.out.keep hb15)
                have KH15 := Lib.hid (KH14.out.keep hb15)
                have KM15 := Lib.hid (KM14.out.keep hb15)
                have KJ15 := Lib.hid (KJ14.out.keep hb15)
                have KN15 := Lib.hid (KN14.out.keep hb15)
                have KO15 := Lib.hid (KO14.out.keep hb15)
                have KP15 := Lib.hid (KP14.out.keep hb15)
                clear KA14 KB14 KC14 KQ14 KS14 KG14 KH14 KM14 KJ14 KN14 KO14 KP14
                clear hb15 HD14 hrR hrT ga0 gb0 ga1 gb1
                generalize decide (q5 < 0) = bR at *
                generalize decide (r5 < 0) = bT at *
                have hal : Below w15.heap.size w15 ((w15.alloc (.cells #[.bool bR, .slice dR nR eR] 28)).alloc (.cells #[.bool bT, .slice dT nT eT] 28)) := below2 _ _ _
                have HD16 := Lib.hid (HD15.out.trans (hal.mono HD15.out.size))
                have KA16 := Lib.hid (KA15.out.keep hal)
                have KB16 := Lib.hid (KB15.out.keep hal)
                have KC16 := Lib.hid (KC15.out.keep hal)
                have KQ16 := Lib.hid (KQ15.out.keep hal)
                have KS16 := Lib.hid (KS15.out.keep hal)
                have KG16 := Lib.hid (KG15.out.keep hal)
                have KH16 := Lib.hid (KH15.out.keep hal)
                have KM16 := Lib.hid (KM15.out.keep hal)
                have KJ16 := Lib.hid (KJ15.out.keep hal)
                have KN16 := Lib.hid (KN15.out.keep hal)
                have KO16 := Lib.hid (KO15.out.keep hal)
                have KP16 := Lib.hid (KP15.out.keep hal)
                clear KA15 KB15 KC15 KQ15 KS15 KG15 KH15 KM15 KJ15 KN15 KO15 KP15
                have KR16 : Hid (CX (w15.heap.size) (.bool bR) (.slice dR nR eR) q5 ((w15.alloc (.cells #[.bool bR, .slice dR nR eR] 28)).alloc (.cells #[.bool bT, .slice dT nT eT] 28))) := Lib.hid ((CX.made HIR.out).keep ((Below.refl _ _).alloc (Nat.le_refl _) _))
                have KT16 : Hid (CX (w15.heap.size + 1) (.bool bT) (.slice dT nT eT) r5 ((w15.alloc (.cells #[.bool bR, .slice dR nR eR] 28)).alloc (.cells #[.bool bT, .slice dT nT eT] 28))) := Lib.hid (by have h := CX.made (t := 28) (HIT.out.keep ((Below.refl w15.heap.size w15).alloc (Nat.le_refl _) (.cells #[.bool bR, .slice dR nR eR] 28))); rw [World.size_alloc] at h; exact h)
                clear hal HD15 HIR HIT
                obtain ⟨ga0, gb0⟩ := KG16.out.cells
                obtain ⟨ga1, gb1⟩ := KC16.out.cells
                go_wp2_with fail
                (with_reducible refine ((D6.out _ _ _ KG16.out.iv KC16.out.iv).out).mono ?_)
                rintro e w17 ⟨vU, vV, rfl, ⟨dU, nU, eU, rfl, hrU⟩, ⟨dV, nV, eV, rfl, hrV⟩, hb17⟩
                have HIU : Hid (IntV w17 (.agg #[.bool (decide (q6 < 0)), .slice dU nU eU]) q6) := Lib.hid ⟨_, _, _, rfl, hrU⟩
                have HIV : Hid (IntV w17 (.agg #[.bool (decide (r6 < 0)), .slice dV nV eV]) r6) := Lib.hid ⟨_, _, _, rfl, hrV⟩
                have HD17 := Lib.hid (HD16.out.trans (hb17.mono HD16.out.size))
                have KA17 := Lib.hid (KA16.out.keep hb17)
                have KB17 := Lib.hid (KB16.out.keep hb17)
                have KC17 := Lib.hid (KC16.out.keep hb17)
                have KQ17 := Lib.hid (KQ16.out.keep hb17)
                have KS17 := Lib.hid (KS16.out.keep hb17)
                have KG17 := Lib.hid (KG16.out.keep hb17)
                have KH17 := Lib.hid (KH16.out.keep hb17)
                have KM17 := Lib.hid (KM16.out.keep hb17)
                have KJ17 := Lib.hid (KJ16.out.keep hb17)
                have KN17 := Lib.hid (KN16.out.keep hb17)
                have KO17 := Lib.hid (KO16.out.keep hb17)
                have KP17 := Lib.hid (KP16.out.keep hb17)
                have KR17 := Lib.hid (KR16.out.keep hb17)
                have KT17 := Lib.hid (KT16.out.keep hb17)
                clear KA16 KB16 KC16 KQ16 KS16 KG16 KH16 KM16 KJ16 KN16 KO16 KP16 KR16 KT16
                clear hb17 HD16 hrU hrV ga0 gb0 ga1 gb1
                generalize decide (q6 < 0) = bU at *
                generalize decide (r6 < 0) = bV at *
                have hal : Below w17.heap.size w17 ((w17.alloc (.cells #[.bool bU, .slice dU nU eU] 28)).alloc (.cells #[.bool bV, .slice dV nV eV] 28)) := below2 _ _ _
                have HD18 := Lib.hid (HD17.out.trans (hal.mono HD17.out.size))
                have KA18 := Lib.hid (KA17.out.keep hal)
                have KB18 := Lib.hid (KB17.out.keep hal)
                have KC18 := Lib.hid (KC17.out.keep hal)
                have KQ18 := Lib.hid (KQ17.out.keep hal)
                have KS18 := Lib.hid (KS17.out.keep hal)
                have KG18 := Lib.hid (KG17.out.keep hal)
                have KH18 := Lib.hid (KH17.out.keep hal)
                have KM18 := Lib.hid (KM17.out.keep hal)
                have KJ18 := Lib.hid (KJ17.out.keep hal)
                have KN18 := Lib.hid (KN17.out.keep hal)
                have KO18 := Lib.hid (KO17.out.keep hal)
                have KP18 := Lib.hid (KP17.out.keep hal)
                have KR18 := Lib.hid (KR17.out.keep hal)
                have KT18 := Lib.hid (KT17.out.keep hal)
                clear KA17 KB17 KC17 KQ17 KS17 KG17 KH17 KM17 KJ17 KN17 KO17 KP17 KR17 KT17
                have KU18 : Hid (CX (w17.heap.size) (.bool bU) (.slice dU nU eU) q6 ((w17.alloc (.cells #[.bool bU, .slice dU nU eU] 28)).alloc (.cells #[.bool bV, .slice dV nV eV] 28))) := Lib.hid ((CX.made HIU.out).keep ((Below.refl _ _).alloc (Nat.le_refl _) _))
                have KV18 : Hid (CX (w17.heap.size + 1) (.bool bV) (.slice dV nV eV) r6 ((w17.alloc (.cells #[.bool bU, .slice dU nU eU] 28)).alloc (.cells #[.bool bV, .slice dV nV eV] 28))) := Lib.hid (by have h := CX.made (t := 28) (HIV.out.keep ((Below.refl w17.heap.size w17).alloc (Nat.le_refl _) (.cells #[.bool bU, .slice dU nU eU] 28))); rw [World.size_alloc] at h; exact h)
                clear hal HD17 HIU HIV
                obtain ⟨ga0, gb0⟩ := KT18.out.cells
                go_wp2_with fail
                (with_reducible refine ((S5.out _ _ KT18.out.iv).out).mono ?_)
                rintro e w19 ⟨rfl, hb19⟩
                have HD19 := Lib.hid (HD18.out.trans (hb19.mono HD18.out.size))
                have KA19 := Lib.hid (KA18.out.keep hb19)
                have KB19 := Lib.hid (KB18.out.keep hb19)
                have KC19 := Lib.hid (KC18.out.keep hb19)
                have KQ19 := Lib.hid (KQ18.out.keep hb19)
                have KS19 := Lib.hid (KS18.out.keep hb19)
                have KG19 := Lib.hid (KG18.out.keep hb19)
                have KH19 := Lib.hid (KH18.out.keep hb19)
                have KM19 := Lib.hid (KM18.out.keep hb19)
                have KJ19 := Lib.hid (KJ18.out.keep hb19)
                have KN19 := Lib.hid (KN18.out.keep hb19)
                have KO19 := Lib.hid (KO18.out.keep hb19)
                have KP19 := Lib.hid (KP18.out.keep hb19)
                have KR19 := Lib.hid (KR18.out.keep hb19)
                have KT19 := Lib.hid (KT18.out.keep hb19)
                have KU19 := Lib.hid (KU18.out.keep hb19)
                have KV19 := Lib.hid (KV18.out.keep hb19)
                clear KA18 KB18 KC18 KQ18 KS18 KG18 KH18 KM18 KJ18 KN18 KO18 KP18 KR18 KT18 KU18 KV18
                clear hb19 HD18  ga0 gb0
                by_cases h5 : s5 = 0
                · have h5b : (s5 == 0) = true := by simp [h5]
                  have h6b : (s6 == 0) = true := by simp [HIM.out h4 h5]
                  obtain ⟨ga0, gb0⟩ := KV19.out.cells
                  go_wp2_with fail
                  (with_reducible refine ((S6.out _ _ KV19.out.iv).out).mono ?_)
                  rintro e w20 ⟨rfl, hb20⟩
                  have HD20 := Lib.hid (HD19.out.trans (hb20.mono HD19.out.size))
                  have KA20 := Lib.hid (KA19.out.keep hb20)
                  have KB20 := Lib.hid (KB19.out.keep hb20)
                  have KC20 := Lib.hid (KC19.out.keep hb20)
                  have KQ20 := Lib.hid (KQ19.out.keep hb20)
                  have KS20 := Lib.hid (KS19.out.keep hb20)
                  have KG20 := Lib.hid (KG19.out.keep hb20)
                  have KH20 := Lib.hid (KH19.out.keep hb20)
                  have KM20 := Lib.hid (KM19.out.keep hb20)
                  have KJ20 := Lib.hid (KJ19.out.keep hb20)
                  have KN20 := Lib.hid (KN19.out.keep hb20)
                  have KO20 := Lib.hid (KO19.out.keep hb20)
                  have KP20 := Lib.hid (KP19.out.keep hb20)
                  have KR20 := Lib.hid (KR19.out.keep hb20)
                  have KT20 := Lib.hid (KT19.out.keep hb20)
                  have KU20 := Lib.hid (KU19.out.keep hb20)
                  have KV20 := Lib.hid (KV19.out.keep hb20)
                  clear KA19 KB19 KC19 KQ19 KS19 KG19 KH19 KM19 KJ19 KN19 KO19 KP19 KR19 KT19 KU19 KV19
                  clear hb20 HD19  ga0 gb0
                  go_wp2_with fail
                  (with_reducible refine (HAW.out _).out.mono ?_)
                  rintro e w21 ⟨rfl, hbz⟩
                  go_wp2
                  go_ret
                  exact ⟨rfl, HD20.out.trans (hbz.mono HD20.out.size)⟩
                · have h5b : (s5 == 0) = false := by simp [h5]
                  go_wp2_with fail
                  (with_reducible refine (HAW.out _).out.mono ?_)
                  rintro e w20 ⟨rfl, hbz⟩
                  go_wp2
                  go_ret
                  exact ⟨rfl, HD19.out.trans (hbz.mono HD19.out.size)⟩
              · have h4b : (s4 == 0) = false := by simp [h4]
                go_wp2_with fail
                (with_reducible refine (HAW.out _).out.mono ?_)
                rintro e w15 ⟨rfl, hbz⟩
                go_wp2
                go_ret
                exact ⟨rfl, HD14.out.trans (hbz.mono HD14.out.size)⟩

end
end Go.Proofs.Ytgepnkdnenjogaa
