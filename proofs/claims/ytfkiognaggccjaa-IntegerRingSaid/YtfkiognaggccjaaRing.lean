/-  IntegerRing's walk.  -/
import Derived.Test.YtfkiognaggccjaaRingA
namespace Go.Proofs.Ytfkiognaggccjaa
open Go.RowKit Digs

set_option maxHeartbeats 8000000 in
set_option maxRecDepth 1000000 in
theorem ring_any (b1 b2 b3 : Bool) (a1 a2 a3 : Option Addr) (c1 c2 c3 : Nat) (l1 l2 l3 : List Nat) (w : World) (h1 : NArg w a1 c1 l1) (h2 : NArg w a2 c2 l2) (h3 : NArg w a3 c3 l3) :
    Calls Try.prog 10 #[.agg #[.bool b1, .slice a1 l1.length c1], .agg #[.bool b2, .slice a2 l2.length c2], .agg #[.bool b3, .slice a3 l3.length c3]] w (BoolPost w true) := by
  have HA := Lib.hid (And.intro h1 (And.intro h2 h3))
  clear h1 h2 h3
  go_enter Try.func10, Try.ntmps10
  have HB3 := Lib.hid ((((Below.refl w.heap.size w).alloc (Nat.le_refl _) (.cells #[.bool b1, .slice a1 l1.length c1] 24)).alloc (by simp) (.cells #[.bool b2, .slice a2 l2.length c2] 24)).alloc (by simp; omega) (.cells #[.bool b3, .slice a3 l3.length c3] 24))
  have HSH := Lib.hid (short3 b1 b2 b3 a1 a2 a3 c1 c2 c3 l1 l2 l3 _ (w.heap.size + 1 + 1 + 1) (by simp) (HA.out.1.keep HB3.out) (HA.out.2.1.keep HB3.out) (HA.out.2.2.keep HB3.out))
  go_wp2_with fail
  refine HSH.out.mono ?_
  rintro e w1 ⟨rfl, hb1⟩
  cases hall : allLe [l1.length, l2.length, l3.length] 8 with
  | false =>
    have HX := Lib.hid (awake_any w1)
    have HB1 := Lib.hid hb1
    clear hb1 hall
    go_wp2_with fail
    refine HX.out.mono ?_
    rintro e w2 ⟨rfl, hb2⟩
    go_wp2
    go_ret
    refine ⟨rfl, ?_⟩
    have hx := HB3.out.trans (((Below.refl _ _).alloc (Nat.le_refl _) (row3 b1 b2 b3 a1 a2 a3 c1 c2 c3 l1 l2 l3)).mono (by simp; omega))
    exact (hx.trans (HB1.out.mono (by simp; omega))).trans (hb2.mono (by have := HB1.out.size; simp at this; omega))
  | true =>
    obtain ⟨k1, k2, k3, k4, k5, k6⟩ := box3cells hb1 (by simp)
    have HB1 := Lib.hid ((HB3.out.trans (((Below.refl _ _).alloc (Nat.le_refl _) (row3 b1 b2 b3 a1 a2 a3 c1 c2 c3 l1 l2 l3)).mono (by simp; omega))).trans (hb1.mono (by simp; omega)))
    have HM := Lib.hid (made3 b1 b2 b3 a1 a2 a3 c1 c2 c3 l1 l2 l3 w1 _ rfl (HA.out.1.keep HB1.out) (HA.out.2.1.keep HB1.out) (HA.out.2.2.keep HB1.out) (allLe3 hall))
    clear hb1
    go_wp2_with fail
    refine HM.out.mono ?_
    rintro e w2 ⟨v, rfl, hrow, hb2⟩
    obtain ⟨g, cap, d1, n1, e1, d2, n2, e2, d3, n3, e3, rfl, hg, hgb, q1, q2, q3, q4, q5, q6, i1, i2, i3⟩ := irow3 hrow
    have HB2 := Lib.hid (HB1.out.trans (hb2.mono HB1.out.size))
    have HI := Lib.hid (And.intro i1 (And.intro i2 i3))
    clear i1 i2 i3 hb2 hrow k1 k2 k3 k4 k5 k6
    go_upto_region 4 with fail
    go_cut [8, 9, 10] from 23 to 31 (fun s8 s9 s10 wx => ∃ p q r, s8 = .pointer (some ⟨p, 0, none⟩) ∧ s9 = .pointer (some ⟨q, 0, none⟩) ∧ s10 = .pointer (some ⟨r, 0, none⟩) ∧ XS w p q r (.bool (decide (nz (b1, l1) < 0))) (.slice d1 n1 e1) (.bool (decide (nz (b2, l2) < 0))) (.slice d2 n2 e2) (.bool (decide (nz (b3, l3) < 0))) (.slice d3 n3 e3) (nz (b1, l1)) (nz (b2, l2)) (nz (b3, l3)) wx)
    case first =>
      have HQ : Hid (Six g (.bool (decide (nz (b1, l1) < 0))) (.slice d1 n1 e1) (.bool (decide (nz (b2, l2) < 0))) (.slice d2 n2 e2) (.bool (decide (nz (b3, l3) < 0))) (.slice d3 n3 e3) w2) := Lib.hid ⟨q1, q2, q3, q4, q5, q6⟩
      go_region_held3 (fun w' => w'.cell? ⟨g, 0, none⟩ = some (.bool (decide (nz (b1, l1) < 0))) ∧ w'.cell? ⟨g, 1, none⟩ = some (.slice d1 n1 e1) ∧ w'.cell? ⟨g, 2, none⟩ = some (.bool (decide (nz (b2, l2) < 0))) ∧ w'.cell? ⟨g, 3, none⟩ = some (.slice d2 n2 e2) ∧ w'.cell? ⟨g, 4, none⟩ = some (.bool (decide (nz (b3, l3) < 0))) ∧ w'.cell? ⟨g, 5, none⟩ = some (.slice d3 n3 e3))
        (first | exact HQ.out.a0 | exact HQ.out.a1 _ | exact HQ.out.a2 _ _ | exact HQ.out.a3 _ _ _) (first | fail)
      all_goals
        go_wp2_with fail
        go_meet
        refine ⟨_, _, _, rfl, rfl, rfl, xs_of HB2.out HI.out.1 HI.out.2.1 HI.out.2.2 ?_⟩
        first | exact three _ _ _ _ _ _ _ _ | exact three132 _ _ _ _ _ _ _ _ | exact three213 _ _ _ _ _ _ _ _ | exact three231 _ _ _ _ _ _ _ _ | exact three312 _ _ _ _ _ _ _ _ | exact three321 _ _ _ _ _ _ _ _
    case rest =>
      obtain ⟨p, q, r, rfl, rfl, rfl, hxs⟩ := hcut
      have HXS := Lib.hid hxs
      have HX : Hid (Bd 8 (nz (b1, l1))) := Lib.hid (nz_bd (allLe3 hall).1 HA.out.1.lt)
      have HY : Hid (Bd 8 (nz (b2, l2))) := Lib.hid (nz_bd (allLe3 hall).2.1 HA.out.2.1.lt)
      have HZ : Hid (Bd 8 (nz (b3, l3))) := Lib.hid (nz_bd (allLe3 hall).2.2 HA.out.2.2.lt)
      clear hxs HB1 HB2 HB3 HI HM HSH HA q1 q2 q3 q4 q5 q6 hall
      generalize nz (b1, l1) = x at *
      generalize nz (b2, l2) = y at *
      generalize nz (b3, l3) = z at *
      have EAdd := Lib.hid (enters_of Try.func38 (by kernel_rfl))
      have ESub := Lib.hid (enters_of Try.func40 (by kernel_rfl))
      have EMul := Lib.hid (enters_of Try.func42 (by kernel_rfl))
      have ECmp := Lib.hid (enters_of Try.func32 (by kernel_rfl))
      have ESign := Lib.hid (enters_of Try.func22 (by kernel_rfl))
      have EAwake := Lib.hid (enters_of Try.func15 (by kernel_rfl))
      have ESame := Lib.hid (enters_of Try.func65 (by kernel_rfl))
      go_upto_region 5 with fail
      refine wp_region_facts (falF (Fa.z (x) :: Fa.z (y) :: Fa.z (x + y) :: Fa.z (y) :: Fa.z (x) :: Fa.z (y + x) :: Fa.v (.bool true) :: Fa.v (.bool false) :: Fa.v (.bool false) :: Fa.z (x) :: Fa.z (y) :: Fa.z (x * y) :: Fa.z (y) :: Fa.z (x) :: Fa.z (y * x) :: Fa.v (.bool true) :: Fa.v (.bool false) :: Fa.v (.bool false) :: Fa.v (.bool false) :: Fa.z (x) :: Fa.z (y) :: Fa.z (x + y) :: Fa.z (z) :: Fa.z ((x + y) + z) :: Fa.z (x) :: Fa.z (y) :: Fa.z (z) :: Fa.z (y + z) :: Fa.z (x + (y + z)) :: Fa.v (.bool true) :: Fa.v (.bool false) :: Fa.v (.bool false) :: Fa.v (.bool false) :: Fa.z (x) :: Fa.z (y) :: Fa.z (x * y) :: Fa.z (z) :: Fa.z ((x * y) * z) :: Fa.z (x) :: Fa.z (y) :: Fa.z (z) :: Fa.z (y * z) :: Fa.z (x * (y * z)) :: Fa.v (.bool true) :: Fa.v (.bool false) :: Fa.v (.bool false) :: [])) (XS w p q r (.bool (decide (x < 0))) (.slice d1 n1 e1) (.bool (decide (y < 0))) (.slice d2 n2 e2) (.bool (decide (z < 0))) (.slice d3 n3 e3) x y z) (by kernel_rfl) (by kernel_rfl) (falF_mono _) (fun _ _ h hb => h.keep hb) (HXS.out.keep ((Below.refl _ _).drew)) ?_ (some 32 :: some 33 :: some 34 :: some 35 :: some 36 :: some 37 :: some 38 :: some 39 :: some 40 :: some 41 :: some 42 :: some 43 :: some 44 :: some 45 :: some 46 :: some 47 :: some 48 :: some 49 :: some 50 :: some 51 :: some 52 :: some 53 :: some 54 :: some 55 :: some 56 :: some 57 :: some 58 :: some 59 :: some 60 :: some 61 :: some 62 :: some 63 :: some 64 :: some 65 :: some 66 :: some 67 :: some 68 :: some 69 :: some 70 :: some 71 :: some 72 :: some 73 :: some 74 :: some 75 :: some 76 :: some 77 :: []) (by rfl) ?_
      · refine And.intro (step_load (b := p) rfl (.inl rfl) (Arg.old (by kernel_rfl)) (fun _ h => ⟨h.1, h.2.1⟩) (fun _ h => h.2.2.2.2.2.2.1)) ?_
        refine And.intro (step_load (b := q) rfl (.inl rfl) (Arg.old (by kernel_rfl)) (fun _ h => ⟨h.2.2.1, h.2.2.2.1⟩) (fun _ h => h.2.2.2.2.2.2.2.1)) ?_
        refine And.intro (step_call2 EAdd.out rfl (.inl rfl) (Arg.tmp (j := 0) (by kernel_rfl) rfl) (Arg.tmp (j := 1) (by kernel_rfl) rfl) (fun u v w _ h1 h2 => Add_any _ _ u v w (len_le (by decide) HX.out) (len_le (by decide) HY.out) h1 h2)) ?_
        refine And.intro (step_load (b := q) rfl (.inl rfl) (Arg.old (by kernel_rfl)) (fun _ h => ⟨h.2.2.1, h.2.2.2.1⟩) (fun _ h => h.2.2.2.2.2.2.2.1)) ?_
        refine And.intro (step_load (b := p) rfl (.inl rfl) (Arg.old (by kernel_rfl)) (fun _ h => ⟨h.1, h.2.1⟩) (fun _ h => h.2.2.2.2.2.2.1)) ?_
        refine And.intro (step_call2 EAdd.out rfl (.inl rfl) (Arg.tmp (j := 3) (by kernel_rfl) rfl) (Arg.tmp (j := 4) (by kernel_rfl) rfl) (fun u v w _ h1 h2 => Add_any _ _ u v w (len_le (by decide) HY.out) (len_le (by decide) HX.out) h1 h2)) ?_
        refine And.intro (step_call2 ESame.out rfl (.inl rfl) (Arg.tmp (j := 2) (by kernel_rfl) rfl) (Arg.tmp (j := 5) (by kernel_rfl) rfl) (fun u v w _ h1 h2 => (same_eq _ _ (Int.add_comm _ _) u v w h1 h2).mono fun e w' h => ⟨_, h.1, rfl, h.2⟩)) ?_
        refine And.intro (step_not rfl (.inl rfl) (Arg.tmp (j := 6) (by kernel_rfl) rfl) (fun _ _ h => h) (fun _ => rfl)) ?_
        refine And.intro (step_move rfl (.inl rfl) (Arg.tmp (j := 7) (by kernel_rfl) rfl) (fun _ _ h => h)) ?_
        refine And.intro (step_load (b := p) rfl (.inr ⟨8, false, _, rfl, rfl, by kernel_rfl, fun _ _ h => h⟩) (Arg.old (by kernel_rfl)) (fun _ h => ⟨h.1, h.2.1⟩) (fun _ h => h.2.2.2.2.2.2.1)) ?_
        refine And.intro (step_load (b := q) rfl (.inr ⟨8, false, _, rfl, rfl, by kernel_rfl, fun _ _ h => h⟩) (Arg.old (by kernel_rfl)) (fun _ h => ⟨h.2.2.1, h.2.2.2.1⟩) (fun _ h => h.2.2.2.2.2.2.2.1)) ?_
        refine And.intro (step_call2 EMul.out rfl (.inr ⟨8, false, _, rfl, rfl, by kernel_rfl, fun _ _ h => h⟩) (Arg.tmp (j := 9) (by kernel_rfl) rfl) (Arg.tmp (j := 10) (by kernel_rfl) rfl) (fun u v w _ h1 h2 => Mul_any _ _ u v w (len_le (by decide) HX.out) (len_le (by decide) HY.out) h1 h2)) ?_
        refine And.intro (step_load (b := q) rfl (.inr ⟨8, false, _, rfl, rfl, by kernel_rfl, fun _ _ h => h⟩) (Arg.old (by kernel_rfl)) (fun _ h => ⟨h.2.2.1, h.2.2.2.1⟩) (fun _ h => h.2.2.2.2.2.2.2.1)) ?_
        refine And.intro (step_load (b := p) rfl (.inr ⟨8, false, _, rfl, rfl, by kernel_rfl, fun _ _ h => h⟩) (Arg.old (by kernel_rfl)) (fun _ h => ⟨h.1, h.2.1⟩) (fun _ h => h.2.2.2.2.2.2.1)) ?_
        refine And.intro (step_call2 EMul.out rfl (.inr ⟨8, false, _, rfl, rfl, by kernel_rfl, fun _ _ h => h⟩) (Arg.tmp (j := 12) (by kernel_rfl) rfl) (Arg.tmp (j := 13) (by kernel_rfl) rfl) (fun u v w _ h1 h2 => Mul_any _ _ u v w (len_le (by decide) HY.out) (len_le (by decide) HX.out) h1 h2)) ?_
        refine And.intro (step_call2 ESame.out rfl (.inr ⟨8, false, _, rfl, rfl, by kernel_rfl, fun _ _ h => h⟩) (Arg.tmp (j := 11) (by kernel_rfl) rfl) (Arg.tmp (j := 14) (by kernel_rfl) rfl) (fun u v w _ h1 h2 => (same_eq _ _ (Int.mul_comm _ _) u v w h1 h2).mono fun e w' h => ⟨_, h.1, rfl, h.2⟩)) ?_
        refine And.intro (step_not rfl (.inr ⟨8, false, _, rfl, rfl, by kernel_rfl, fun _ _ h => h⟩) (Arg.tmp (j := 15) (by kernel_rfl) rfl) (fun _ _ h => h) (fun _ => rfl)) ?_
        refine And.intro (step_pickF rfl (.inl rfl) (Arg.tmp (j := 8) (by kernel_rfl) rfl) (fun _ _ h => h) (Arg.tmp (j := 16) (by kernel_rfl) rfl) (fun _ _ h => h)) ?_
        refine And.intro (step_move rfl (.inl rfl) (Arg.tmp (j := 17) (by kernel_rfl) rfl) (fun _ _ h => h)) ?_
        refine And.intro (step_load (b := p) rfl (.inr ⟨18, false, _, rfl, rfl, by kernel_rfl, fun _ _ h => h⟩) (Arg.old (by kernel_rfl)) (fun _ h => ⟨h.1, h.2.1⟩) (fun _ h => h.2.2.2.2.2.2.1)) ?_
        refine And.intro (step_load (b := q) rfl (.inr ⟨18, false, _, rfl, rfl, by kernel_rfl, fun _ _ h => h⟩) (Arg.old (by kernel_rfl)) (fun _ h => ⟨h.2.2.1, h.2.2.2.1⟩) (fun _ h => h.2.2.2.2.2.2.2.1)) ?_
        refine And.intro (step_call2 EAdd.out rfl (.inr ⟨18, false, _, rfl, rfl, by kernel_rfl, fun _ _ h => h⟩) (Arg.tmp (j := 19) (by kernel_rfl) rfl) (Arg.tmp (j := 20) (by kernel_rfl) rfl) (fun u v w _ h1 h2 => Add_any _ _ u v w (len_le (by decide) HX.out) (len_le (by decide) HY.out) h1 h2)) ?_
        refine And.intro (step_load (b := r) rfl (.inr ⟨18, false, _, rfl, rfl, by kernel_rfl, fun _ _ h => h⟩) (Arg.old (by kernel_rfl)) (fun _ h => ⟨h.2.2.2.2.1, h.2.2.2.2.2.1⟩) (fun _ h => h.2.2.2.2.2.2.2.2.1)) ?_
        refine And.intro (step_call2 EAdd.out rfl (.inr ⟨18, false, _, rfl, rfl, by kernel_rfl, fun _ _ h => h⟩) (Arg.tmp (j := 21) (by kernel_rfl) rfl) (Arg.tmp (j := 22) (by kernel_rfl) rfl) (fun u v w _ h1 h2 => Add_any _ _ u v w (len_le (by decide) (Bd.add HX.out HY.out)) (len_le (by decide) HZ.out) h1 h2)) ?_
        refine And.intro (step_load (b := p) rfl (.inr ⟨18, false, _, rfl, rfl, by kernel_rfl, fun _ _ h => h⟩) (Arg.old (by kernel_rfl)) (fun _ h => ⟨h.1, h.2.1⟩) (fun _ h => h.2.2.2.2.2.2.1)) ?_
        refine And.intro (step_load (b := q) rfl (.inr ⟨18, false, _, rfl, rfl, by kernel_rfl, fun _ _ h => h⟩) (Arg.old (by kernel_rfl)) (fun _ h => ⟨h.2.2.1, h.2.2.2.1⟩) (fun _ h => h.2.2.2.2.2.2.2.1)) ?_
        refine And.intro (step_load (b := r) rfl (.inr ⟨18, false, _, rfl, rfl, by kernel_rfl, fun _ _ h => h⟩) (Arg.old (by kernel_rfl)) (fun _ h => ⟨h.2.2.2.2.1, h.2.2.2.2.2.1⟩) (fun _ h => h.2.2.2.2.2.2.2.2.1)) ?_
        refine And.intro (step_call2 EAdd.out rfl (.inr ⟨18, false, _, rfl, rfl, by kernel_rfl, fun _ _ h => h⟩) (Arg.tmp (j := 25) (by kernel_rfl) rfl) (Arg.tmp (j := 26) (by kernel_rfl) rfl) (fun u v w _ h1 h2 => Add_any _ _ u v w (len_le (by decide) HY.out) (len_le (by decide) HZ.out) h1 h2)) ?_
        refine And.intro (step_call2 EAdd.out rfl (.inr ⟨18, false, _, rfl, rfl, by kernel_rfl, fun _ _ h => h⟩) (Arg.tmp (j := 24) (by kernel_rfl) rfl) (Arg.tmp (j := 27) (by kernel_rfl) rfl) (fun u v w _ h1 h2 => Add_any _ _ u v w (len_le (by decide) HX.out) (len_le (by decide) (Bd.add HY.out HZ.out)) h1 h2)) ?_
        refine And.intro (step_call2 ESame.out rfl (.inr ⟨18, false, _, rfl, rfl, by kernel_rfl, fun _ _ h => h⟩) (Arg.tmp (j := 23) (by kernel_rfl) rfl) (Arg.tmp (j := 28) (by kernel_rfl) rfl) (fun u v w _ h1 h2 => (same_eq _ _ (Int.add_assoc _ _ _) u v w h1 h2).mono fun e w' h => ⟨_, h.1, rfl, h.2⟩)) ?_
        refine And.intro (step_not rfl (.inr ⟨18, false, _, rfl, rfl, by kernel_rfl, fun _ _ h => h⟩) (Arg.tmp (j := 29) (by kernel_rfl) rfl) (fun _ _ h => h) (fun _ => rfl)) ?_
        refine And.intro (step_pickF rfl (.inl rfl) (Arg.tmp (j := 18) (by kernel_rfl) rfl) (fun _ _ h => h) (Arg.tmp (j := 30) (by kernel_rfl) rfl) (fun _ _ h => h)) ?_
        refine And.intro (step_move rfl (.inl rfl) (Arg.tmp (j := 31) (by kernel_rfl) rfl) (fun _ _ h => h)) ?_
        refine And.intro (step_load (b := p) rfl (.inr ⟨32, false, _, rfl, rfl, by kernel_rfl, fun _ _ h => h⟩) (Arg.old (by kernel_rfl)) (fun _ h => ⟨h.1, h.2.1⟩) (fun _ h => h.2.2.2.2.2.2.1)) ?_
        refine And.intro (step_load (b := q) rfl (.inr ⟨32, false, _, rfl, rfl, by kernel_rfl, fun _ _ h => h⟩) (Arg.old (by kernel_rfl)) (fun _ h => ⟨h.2.2.1, h.2.2.2.1⟩) (fun _ h => h.2.2.2.2.2.2.2.1)) ?_
        refine And.intro (step_call2 EMul.out rfl (.inr ⟨32, false, _, rfl, rfl, by kernel_rfl, fun _ _ h => h⟩) (Arg.tmp (j := 33) (by kernel_rfl) rfl) (Arg.tmp (j := 34) (by kernel_rfl) rfl) (fun u v w _ h1 h2 => Mul_any _ _ u v w (len_le (by decide) HX.out) (len_le (by decide) HY.out) h1 h2)) ?_
        refine And.intro (step_load (b := r) rfl (.inr ⟨32, false, _, rfl, rfl, by kernel_rfl, fun _ _ h => h⟩) (Arg.old (by kernel_rfl)) (fun _ h => ⟨h.2.2.2.2.1, h.2.2.2.2.2.1⟩) (fun _ h => h.2.2.2.2.2.2.2.2.1)) ?_
        refine And.intro (step_call2 EMul.out rfl (.inr ⟨32, false, _, rfl, rfl, by kernel_rfl, fun _ _ h => h⟩) (Arg.tmp (j := 35) (by kernel_rfl) rfl) (Arg.tmp (j := 36) (by kernel_rfl) rfl) (fun u v w _ h1 h2 => Mul_any _ _ u v w (len_le (by decide) (Bd.mul HX.out HY.out)) (len_le (by decide) HZ.out) h1 h2)) ?_
        refine And.intro (step_load (b := p) rfl (.inr ⟨32, false, _, rfl, rfl, by kernel_rfl, fun _ _ h => h⟩) (Arg.old (by kernel_rfl)) (fun _ h => ⟨h.1, h.2.1⟩) (fun _ h => h.2.2.2.2.2.2.1)) ?_
        refine And.intro (step_load (b := q) rfl (.inr ⟨32, false, _, rfl, rfl, by kernel_rfl, fun _ _ h => h⟩) (Arg.old (by kernel_rfl)) (fun _ h => ⟨h.2.2.1, h.2.2.2.1⟩) (fun _ h => h.2.2.2.2.2.2.2.1)) ?_
        refine And.intro (step_load (b := r) rfl (.inr ⟨32, false, _, rfl, rfl, by kernel_rfl, fun _ _ h => h⟩) (Arg.old (by kernel_rfl)) (fun _ h => ⟨h.2.2.2.2.1, h.2.2.2.2.2.1⟩) (fun _ h => h.2.2.2.2.2.2.2.2.1)) ?_
        refine And.intro (step_call2 EMul.out rfl (.inr ⟨32, false, _, rfl, rfl, by kernel_rfl, fun _ _ h => h⟩) (Arg.tmp (j := 39) (by kernel_rfl) rfl) (Arg.tmp (j := 40) (by kernel_rfl) rfl) (fun u v w _ h1 h2 => Mul_any _ _ u v w (len_le (by decide) HY.out) (len_le (by decide) HZ.out) h1 h2)) ?_
        refine And.intro (step_call2 EMul.out rfl (.inr ⟨32, false, _, rfl, rfl, by kernel_rfl, fun _ _ h => h⟩) (Arg.tmp (j := 38) (by kernel_rfl) rfl) (Arg.tmp (j := 41) (by kernel_rfl) rfl) (fun u v w _ h1 h2 => Mul_any _ _ u v w (len_le (by decide) HX.out) (len_le (by decide) (Bd.mul HY.out HZ.out)) h1 h2)) ?_
        refine And.intro (step_call2 ESame.out rfl (.inr ⟨32, false, _, rfl, rfl, by kernel_rfl, fun _ _ h => h⟩) (Arg.tmp (j := 37) (by kernel_rfl) rfl) (Arg.tmp (j := 42) (by kernel_rfl) rfl) (fun u v w _ h1 h2 => (same_eq _ _ (Int.mul_assoc _ _ _) u v w h1 h2).mono fun e w' h => ⟨_, h.1, rfl, h.2⟩)) ?_
        refine And.intro (step_not rfl (.inr ⟨32, false, _, rfl, rfl, by kernel_rfl, fun _ _ h => h⟩) (Arg.tmp (j := 43) (by kernel_rfl) rfl) (fun _ _ h => h) (fun _ => rfl)) ?_
        refine And.intro (step_pickF rfl (.inl rfl) (Arg.tmp (j := 32) (by kernel_rfl) rfl) (fun _ _ h => h) (Arg.tmp (j := 44) (by kernel_rfl) rfl) (fun _ _ h => h)) ?_
        trivial
      · intro v5 wv5 hk hs
        have hv : v5 45 = .bool false := hk 45 _ rfl
        have HXS := Lib.hid hs
        clear hk hs
        simp only [putV, Act.put, List.setIfInBounds_toArray, List.set_cons_zero, List.set_cons_succ, Nat.reduceAdd, hv]
        clear hv
        go_upto_region 7 with fail
        refine wp_region_facts (falF (Fa.z (x) :: Fa.z (y) :: Fa.z (z) :: Fa.z (y + z) :: Fa.z (x * (y + z)) :: Fa.z (x) :: Fa.z (y) :: Fa.z (x * y) :: Fa.z (x) :: Fa.z (z) :: Fa.z (x * z) :: Fa.z ((x * y) + (x * z)) :: Fa.v (.bool true) :: Fa.v (.bool false) :: Fa.v (.bool false) :: Fa.z (x) :: Fa.z (y) :: Fa.z (x + y) :: Fa.z (y) :: Fa.z ((x + y) - y) :: Fa.z (x) :: Fa.v (.bool true) :: Fa.v (.bool false) :: Fa.v (.bool false) :: Fa.v (.bool false) :: Fa.z (x) :: Fa.z (x) :: Fa.z (x - x) :: Fa.z (0) :: Fa.v (.bool true) :: Fa.v (.bool false) :: Fa.v (.bool false) :: [])) (XS w p q r (.bool (decide (x < 0))) (.slice d1 n1 e1) (.bool (decide (y < 0))) (.slice d2 n2 e2) (.bool (decide (z < 0))) (.slice d3 n3 e3) x y z) (by kernel_rfl) (by kernel_rfl) (falF_mono _) (fun _ _ h hb => h.keep hb) (HXS.out.keep ((Below.refl _ _).drew)) ?_ (some 78 :: some 79 :: some 80 :: some 81 :: some 82 :: some 83 :: some 84 :: some 85 :: some 86 :: some 87 :: some 88 :: some 89 :: some 90 :: some 91 :: some 92 :: some 93 :: some 94 :: some 95 :: some 96 :: some 97 :: some 98 :: some 99 :: some 100 :: some 101 :: some 102 :: some 103 :: some 104 :: some 105 :: some 106 :: some 107 :: some 108 :: some 109 :: []) (by rfl) ?_
        · refine And.intro (step_load (b := p) rfl (.inl rfl) (Arg.old (by kernel_rfl)) (fun _ h => ⟨h.1, h.2.1⟩) (fun _ h => h.2.2.2.2.2.2.1)) ?_
          refine And.intro (step_load (b := q) rfl (.inl rfl) (Arg.old (by kernel_rfl)) (fun _ h => ⟨h.2.2.1, h.2.2.2.1⟩) (fun _ h => h.2.2.2.2.2.2.2.1)) ?_
          refine And.intro (step_load (b := r) rfl (.inl rfl) (Arg.old (by kernel_rfl)) (fun _ h => ⟨h.2.2.2.2.1, h.2.2.2.2.2.1⟩) (fun _ h => h.2.2.2.2.2.2.2.2.1)) ?_
          refine And.intro (step_call2 EAdd.out rfl (.inl rfl) (Arg.tmp (j := 1) (by kernel_rfl) rfl) (Arg.tmp (j := 2) (by kernel_rfl) rfl) (fun u v w _ h1 h2 => Add_any _ _ u v w (len_le (by decide) HY.out) (len_le (by decide) HZ.out) h1 h2)) ?_
          refine And.intro (step_call2 EMul.out rfl (.inl rfl) (Arg.tmp (j := 0) (by kernel_rfl) rfl) (Arg.tmp (j := 3) (by kernel_rfl) rfl) (fun u v w _ h1 h2 => Mul_any _ _ u v w (len_le (by decide) HX.out) (len_le (by decide) (Bd.add HY.out HZ.out)) h1 h2)) ?_
          refine And.intro (step_load (b := p) rfl (.inl rfl) (Arg.old (by kernel_rfl)) (fun _ h => ⟨h.1, h.2.1⟩) (fun _ h => h.2.2.2.2.2.2.1)) ?_
          refine And.intro (step_load (b := q) rfl (.inl rfl) (Arg.old (by kernel_rfl)) (fun _ h => ⟨h.2.2.1, h.2.2.2.1⟩) (fun _ h => h.2.2.2.2.2.2.2.1)) ?_
          refine And.intro (step_call2 EMul.out rfl (.inl rfl) (Arg.tmp (j := 5) (by kernel_rfl) rfl) (Arg.tmp (j := 6) (by kernel_rfl) rfl) (fun u v w _ h1 h2 => Mul_any _ _ u v w (len_le (by decide) HX.out) (len_le (by decide) HY.out) h1 h2)) ?_
          refine And.intro (step_load (b := p) rfl (.inl rfl) (Arg.old (by kernel_rfl)) (fun _ h => ⟨h.1, h.2.1⟩) (fun _ h => h.2.2.2.2.2.2.1)) ?_
          refine And.intro (step_load (b := r) rfl (.inl rfl) (Arg.old (by kernel_rfl)) (fun _ h => ⟨h.2.2.2.2.1, h.2.2.2.2.2.1⟩) (fun _ h => h.2.2.2.2.2.2.2.2.1)) ?_
          refine And.intro (step_call2 EMul.out rfl (.inl rfl) (Arg.tmp (j := 8) (by kernel_rfl) rfl) (Arg.tmp (j := 9) (by kernel_rfl) rfl) (fun u v w _ h1 h2 => Mul_any _ _ u v w (len_le (by decide) HX.out) (len_le (by decide) HZ.out) h1 h2)) ?_
          refine And.intro (step_call2 EAdd.out rfl (.inl rfl) (Arg.tmp (j := 7) (by kernel_rfl) rfl) (Arg.tmp (j := 10) (by kernel_rfl) rfl) (fun u v w _ h1 h2 => Add_any _ _ u v w (len_le (by decide) (Bd.mul HX.out HY.out)) (len_le (by decide) (Bd.mul HX.out HZ.out)) h1 h2)) ?_
          refine And.intro (step_call2 ESame.out rfl (.inl rfl) (Arg.tmp (j := 4) (by kernel_rfl) rfl) (Arg.tmp (j := 11) (by kernel_rfl) rfl) (fun u v w _ h1 h2 => (same_eq _ _ (Int.mul_add _ _ _) u v w h1 h2).mono fun e w' h => ⟨_, h.1, rfl, h.2⟩)) ?_
          refine And.intro (step_not rfl (.inl rfl) (Arg.tmp (j := 12) (by kernel_rfl) rfl) (fun _ _ h => h) (fun _ => rfl)) ?_
          refine And.intro (step_move rfl (.inl rfl) (Arg.tmp (j := 13) (by kernel_rfl) rfl) (fun _ _ h => h)) ?_
          refine And.intro (step_load (b := p) rfl (.inr ⟨14, false, _, rfl, rfl, by kernel_rfl, fun _ _ h => h⟩) (Arg.old (by kernel_rfl)) (fun _ h => ⟨h.1, h.2.1⟩) (fun _ h => h.2.2.2.2.2.2.1)) ?_
          refine And.intro (step_load (b := q) rfl (.inr ⟨14, false, _, rfl, rfl, by kernel_rfl, fun _ _ h => h⟩) (Arg.old (by kernel_rfl)) (fun _ h => ⟨h.2.2.1, h.2.2.2.1⟩) (fun _ h => h.2.2.2.2.2.2.2.1)) ?_
          refine And.intro (step_call2 EAdd.out rfl (.inr ⟨14, false, _, rfl, rfl, by kernel_rfl, fun _ _ h => h⟩) (Arg.tmp (j := 15) (by kernel_rfl) rfl) (Arg.tmp (j := 16) (by kernel_rfl) rfl) (fun u v w _ h1 h2 => Add_any _ _ u v w (len_le (by decide) HX.out) (len_le (by decide) HY.out) h1 h2)) ?_
          refine And.intro (step_load (b := q) rfl (.inr ⟨14, false, _, rfl, rfl, by kernel_rfl, fun _ _ h => h⟩) (Arg.old (by kernel_rfl)) (fun _ h => ⟨h.2.2.1, h.2.2.2.1⟩) (fun _ h => h.2.2.2.2.2.2.2.1)) ?_
          refine And.intro (step_call2 ESub.out rfl (.inr ⟨14, false, _, rfl, rfl, by kernel_rfl, fun _ _ h => h⟩) (Arg.tmp (j := 17) (by kernel_rfl) rfl) (Arg.tmp (j := 18) (by kernel_rfl) rfl) (fun u v w _ h1 h2 => Sub_any _ _ u v w (len_le (by decide) (Bd.add HX.out HY.out)) (len_le (by decide) HY.out) h1 h2)) ?_
          refine And.intro (step_load (b := p) rfl (.inr ⟨14, false, _, rfl, rfl, by kernel_rfl, fun _ _ h => h⟩) (Arg.old (by kernel_rfl)) (fun _ h => ⟨h.1, h.2.1⟩) (fun _ h => h.2.2.2.2.2.2.1)) ?_
          refine And.intro (step_call2 ESame.out rfl (.inr ⟨14, false, _, rfl, rfl, by kernel_rfl, fun _ _ h => h⟩) (Arg.tmp (j := 19) (by kernel_rfl) rfl) (Arg.tmp (j := 20) (by kernel_rfl) rfl) (fun u v w _ h1 h2 => (same_eq _ _ (Int.add_sub_cancel _ _) u v w h1 h2).mono fun e w' h => ⟨_, h.1, rfl, h.2⟩)) ?_
          refine And.intro (step_not rfl (.inr ⟨14, false, _, rfl, rfl, by kernel_rfl, fun _ _ h => h⟩) (Arg.tmp (j := 21) (by kernel_rfl) rfl) (fun _ _ h => h) (fun _ => rfl)) ?_
          refine And.intro (step_pickF rfl (.inl rfl) (Arg.tmp (j := 14) (by kernel_rfl) rfl) (fun _ _ h => h) (Arg.tmp (j := 22) (by kernel_rfl) rfl) (fun _ _ h => h)) ?_
          refine And.intro (step_move rfl (.inl rfl) (Arg.tmp (j := 23) (by kernel_rfl) rfl) (fun _ _ h => h)) ?_
          refine And.intro (step_load (b := p) rfl (.inr ⟨24, false, _, rfl, rfl, by kernel_rfl, fun _ _ h => h⟩) (Arg.old (by kernel_rfl)) (fun _ h => ⟨h.1, h.2.1⟩) (fun _ h => h.2.2.2.2.2.2.1)) ?_
          refine And.intro (step_load (b := p) rfl (.inr ⟨24, false, _, rfl, rfl, by kernel_rfl, fun _ _ h => h⟩) (Arg.old (by kernel_rfl)) (fun _ h => ⟨h.1, h.2.1⟩) (fun _ h => h.2.2.2.2.2.2.1)) ?_
          refine And.intro (step_call2 ESub.out rfl (.inr ⟨24, false, _, rfl, rfl, by kernel_rfl, fun _ _ h => h⟩) (Arg.tmp (j := 25) (by kernel_rfl) rfl) (Arg.tmp (j := 26) (by kernel_rfl) rfl) (fun u v w _ h1 h2 => Sub_any _ _ u v w (len_le (by decide) HX.out) (len_le (by decide) HX.out) h1 h2)) ?_
          refine And.intro (step_zero rfl (.inr ⟨24, false, _, rfl, rfl, by kernel_rfl, fun _ _ h => h⟩) (fun w => IntV.zero w false 0 rfl)) ?_
          refine And.intro (step_call2 ESame.out rfl (.inr ⟨24, false, _, rfl, rfl, by kernel_rfl, fun _ _ h => h⟩) (Arg.tmp (j := 27) (by kernel_rfl) rfl) (Arg.tmp (j := 28) (by kernel_rfl) rfl) (fun u v w _ h1 h2 => (same_eq _ _ (Int.sub_self _) u v w h1 h2).mono fun e w' h => ⟨_, h.1, rfl, h.2⟩)) ?_
          refine And.intro (step_not rfl (.inr ⟨24, false, _, rfl, rfl, by kernel_rfl, fun _ _ h => h⟩) (Arg.tmp (j := 29) (by kernel_rfl) rfl) (fun _ _ h => h) (fun _ => rfl)) ?_
          refine And.intro (step_pickF rfl (.inl rfl) (Arg.tmp (j := 24) (by kernel_rfl) rfl) (fun _ _ h => h) (Arg.tmp (j := 30) (by kernel_rfl) rfl) (fun _ _ h => h)) ?_
          trivial
        · intro v7 wv7 hk hs
          have hv : v7 31 = .bool false := hk 31 _ rfl
          have HXS := Lib.hid hs
          clear hk hs
          simp only [putV, Act.put, List.setIfInBounds_toArray, List.set_cons_zero, List.set_cons_succ, Nat.reduceAdd, hv]
          clear hv
          have hc1 := neqF (cmpZ_anti x y)
          have hc2 := neqF (cmpZ_add x y z)
          by_cases h1 : cmpZ x y ≤ 0
          · have hB1 := (decide_eq_true h1).symm
            by_cases h2 : cmpZ y z ≤ 0
            · have hB2 := (decide_eq_true h2).symm
              have hc4 := (decide_eq_false (cmpZ_trans x y z h1 h2)).symm
              by_cases h3 : sgnZ z > 0
              · have hB3 := (decide_eq_true h3).symm
                have hc3 := neqF (cmpZ_mul x y z h3)
                go_upto_region 9 with fail
                refine wp_region_facts (falF (Fa.z (x) :: Fa.z (y) :: Fa.v (.int .i64 (cmpZ x y)) :: Fa.z (y) :: Fa.z (x) :: Fa.v (.int .i64 (cmpZ y x)) :: Fa.v (.int .i64 (-(cmpZ y x))) :: Fa.v (.bool false) :: Fa.v (.bool false) :: Fa.z (x) :: Fa.z (y) :: Fa.v (.int .i64 (cmpZ x y)) :: Fa.v (.bool true) :: Fa.v (.bool true) :: Fa.z (y) :: Fa.z (z) :: Fa.v (.int .i64 (cmpZ y z)) :: Fa.v (.bool true) :: Fa.v (.bool true) :: Fa.v (.bool true) :: Fa.z (x) :: Fa.z (z) :: Fa.v (.int .i64 (cmpZ x z)) :: Fa.v (.bool false) :: Fa.v (.bool false) :: Fa.v (.bool false) :: Fa.v (.bool false) :: Fa.z (x) :: Fa.z (z) :: Fa.z (x + z) :: Fa.z (y) :: Fa.z (z) :: Fa.z (y + z) :: Fa.v (.int .i64 (cmpZ (x + z) (y + z))) :: Fa.z (x) :: Fa.z (y) :: Fa.v (.int .i64 (cmpZ x y)) :: Fa.v (.bool false) :: Fa.v (.bool false) :: Fa.v (.bool false) :: Fa.z (z) :: Fa.v (.int .i64 (sgnZ z)) :: Fa.v (.bool true) :: Fa.v (.bool true) :: Fa.z (x) :: Fa.z (z) :: Fa.z (x * z) :: Fa.z (y) :: Fa.z (z) :: Fa.z (y * z) :: Fa.v (.int .i64 (cmpZ (x * z) (y * z))) :: Fa.z (x) :: Fa.z (y) :: Fa.v (.int .i64 (cmpZ x y)) :: Fa.v (.bool false) :: Fa.v (.bool false) :: Fa.v (.bool false) :: [])) (XS w p q r (.bool (decide (x < 0))) (.slice d1 n1 e1) (.bool (decide (y < 0))) (.slice d2 n2 e2) (.bool (decide (z < 0))) (.slice d3 n3 e3) x y z) (by kernel_rfl) (by kernel_rfl) (falF_mono _) (fun _ _ h hb => h.keep hb) (HXS.out.keep ((Below.refl _ _).drew)) ?_ (some 110 :: some 111 :: some 112 :: some 113 :: some 114 :: some 115 :: some 116 :: some 117 :: some 118 :: some 119 :: some 120 :: some 121 :: some 122 :: some 123 :: some 124 :: some 125 :: some 126 :: some 127 :: some 128 :: some 129 :: some 130 :: some 131 :: some 132 :: some 133 :: some 134 :: some 135 :: some 136 :: some 137 :: some 138 :: some 139 :: some 140 :: some 141 :: some 142 :: some 143 :: some 144 :: some 145 :: some 146 :: some 147 :: some 148 :: some 149 :: some 150 :: some 151 :: some 152 :: some 153 :: some 154 :: some 155 :: some 156 :: some 157 :: some 158 :: some 159 :: some 160 :: some 161 :: some 162 :: some 163 :: some 164 :: some 165 :: some 166 :: []) (by rfl) ?_
                · refine And.intro (step_load (b := p) rfl (.inl rfl) (Arg.old (by kernel_rfl)) (fun _ h => ⟨h.1, h.2.1⟩) (fun _ h => h.2.2.2.2.2.2.1)) ?_
                  refine And.intro (step_load (b := q) rfl (.inl rfl) (Arg.old (by kernel_rfl)) (fun _ h => ⟨h.2.2.1, h.2.2.2.1⟩) (fun _ h => h.2.2.2.2.2.2.2.1)) ?_
                  refine And.intro (step_call2 ECmp.out rfl (.inl rfl) (Arg.tmp (j := 0) (by kernel_rfl) rfl) (Arg.tmp (j := 1) (by kernel_rfl) rfl) (fun u v w _ h1 h2 => (Cmp_any _ _ u v w h1 h2).mono fun e w' h => ⟨_, h.1, rfl, h.2⟩)) ?_
                  refine And.intro (step_load (b := q) rfl (.inl rfl) (Arg.old (by kernel_rfl)) (fun _ h => ⟨h.2.2.1, h.2.2.2.1⟩) (fun _ h => h.2.2.2.2.2.2.2.1)) ?_
                  refine And.intro (step_load (b := p) rfl (.inl rfl) (Arg.old (by kernel_rfl)) (fun _ h => ⟨h.1, h.2.1⟩) (fun _ h => h.2.2.2.2.2.2.1)) ?_
                  refine And.intro (step_call2 ECmp.out rfl (.inl rfl) (Arg.tmp (j := 3) (by kernel_rfl) rfl) (Arg.tmp (j := 4) (by kernel_rfl) rfl) (fun u v w _ h1 h2 => (Cmp_any _ _ u v w h1 h2).mono fun e w' h => ⟨_, h.1, rfl, h.2⟩)) ?_
                  refine And.intro (step_neg (cmpZ_rng _ _) rfl (.inl rfl) (Arg.tmp (j := 5) (by kernel_rfl) rfl) (fun _ _ h => h) (fun _ => rfl)) ?_
                  refine And.intro (step_neq (b := false) hc1 rfl (.inl rfl) (Arg.tmp (j := 2) (by kernel_rfl) rfl) (fun _ _ h => h) (Arg.tmp (j := 6) (by kernel_rfl) rfl) (fun _ _ h => h) (fun _ => rfl)) ?_
                  refine And.intro (step_move rfl (.inl rfl) (Arg.tmp (j := 7) (by kernel_rfl) rfl) (fun _ _ h => h)) ?_
                  refine And.intro (step_load (b := p) rfl (.inr ⟨8, false, _, rfl, rfl, by kernel_rfl, fun _ _ h => h⟩) (Arg.old (by kernel_rfl)) (fun _ h => ⟨h.1, h.2.1⟩) (fun _ h => h.2.2.2.2.2.2.1)) ?_
                  refine And.intro (step_load (b := q) rfl (.inr ⟨8, false, _, rfl, rfl, by kernel_rfl, fun _ _ h => h⟩) (Arg.old (by kernel_rfl)) (fun _ h => ⟨h.2.2.1, h.2.2.2.1⟩) (fun _ h => h.2.2.2.2.2.2.2.1)) ?_
                  refine And.intro (step_call2 ECmp.out rfl (.inr ⟨8, false, _, rfl, rfl, by kernel_rfl, fun _ _ h => h⟩) (Arg.tmp (j := 9) (by kernel_rfl) rfl) (Arg.tmp (j := 10) (by kernel_rfl) rfl) (fun u v w _ h1 h2 => (Cmp_any _ _ u v w h1 h2).mono fun e w' h => ⟨_, h.1, rfl, h.2⟩)) ?_
                  refine And.intro (step_leq (b := true) hB1 rfl (.inr ⟨8, false, _, rfl, rfl, by kernel_rfl, fun _ _ h => h⟩) (Arg.tmp (j := 11) (by kernel_rfl) rfl) (fun _ _ h => h) (Arg.const _) (fun _ _ h => h) (fun _ => rfl)) ?_
                  refine And.intro (step_move rfl (.inr ⟨8, false, _, rfl, rfl, by kernel_rfl, fun _ _ h => h⟩) (Arg.tmp (j := 12) (by kernel_rfl) rfl) (fun _ _ h => h)) ?_
                  refine And.intro (step_load (b := q) rfl (.inr ⟨13, true, _, rfl, rfl, by kernel_rfl, fun _ _ h => h⟩) (Arg.old (by kernel_rfl)) (fun _ h => ⟨h.2.2.1, h.2.2.2.1⟩) (fun _ h => h.2.2.2.2.2.2.2.1)) ?_
                  refine And.intro (step_load (b := r) rfl (.inr ⟨13, true, _, rfl, rfl, by kernel_rfl, fun _ _ h => h⟩) (Arg.old (by kernel_rfl)) (fun _ h => ⟨h.2.2.2.2.1, h.2.2.2.2.2.1⟩) (fun _ h => h.2.2.2.2.2.2.2.2.1)) ?_
                  refine And.intro (step_call2 ECmp.out rfl (.inr ⟨13, true, _, rfl, rfl, by kernel_rfl, fun _ _ h => h⟩) (Arg.tmp (j := 14) (by kernel_rfl) rfl) (Arg.tmp (j := 15) (by kernel_rfl) rfl) (fun u v w _ h1 h2 => (Cmp_any _ _ u v w h1 h2).mono fun e w' h => ⟨_, h.1, rfl, h.2⟩)) ?_
                  refine And.intro (step_leq (b := true) hB2 rfl (.inr ⟨13, true, _, rfl, rfl, by kernel_rfl, fun _ _ h => h⟩) (Arg.tmp (j := 16) (by kernel_rfl) rfl) (fun _ _ h => h) (Arg.const _) (fun _ _ h => h) (fun _ => rfl)) ?_
                  refine And.intro (step_pickT rfl (.inr ⟨8, false, _, rfl, rfl, by kernel_rfl, fun _ _ h => h⟩) (Arg.tmp (j := 13) (by kernel_rfl) rfl) (fun _ _ h => h) (Arg.tmp (j := 17) (by kernel_rfl) rfl) (fun _ _ h => h)) ?_
                  refine And.intro (step_move rfl (.inr ⟨8, false, _, rfl, rfl, by kernel_rfl, fun _ _ h => h⟩) (Arg.tmp (j := 18) (by kernel_rfl) rfl) (fun _ _ h => h)) ?_
                  refine And.intro (step_load (b := p) rfl (.inr ⟨19, true, _, rfl, rfl, by kernel_rfl, fun _ _ h => h⟩) (Arg.old (by kernel_rfl)) (fun _ h => ⟨h.1, h.2.1⟩) (fun _ h => h.2.2.2.2.2.2.1)) ?_
                  refine And.intro (step_load (b := r) rfl (.inr ⟨19, true, _, rfl, rfl, by kernel_rfl, fun _ _ h => h⟩) (Arg.old (by kernel_rfl)) (fun _ h => ⟨h.2.2.2.2.1, h.2.2.2.2.2.1⟩) (fun _ h => h.2.2.2.2.2.2.2.2.1)) ?_
                  refine And.intro (step_call2 ECmp.out rfl (.inr ⟨19, true, _, rfl, rfl, by kernel_rfl, fun _ _ h => h⟩) (Arg.tmp (j := 20) (by kernel_rfl) rfl) (Arg.tmp (j := 21) (by kernel_rfl) rfl) (fun u v w _ h1 h2 => (Cmp_any _ _ u v w h1 h2).mono fun e w' h => ⟨_, h.1, rfl, h.2⟩)) ?_
                  refine And.intro (step_gtr (b := false) hc4 rfl (.inr ⟨19, true, _, rfl, rfl, by kernel_rfl, fun _ _ h => h⟩) (Arg.tmp (j := 22) (by kernel_rfl) rfl) (fun _ _ h => h) (Arg.const _) (fun _ _ h => h) (fun _ => rfl)) ?_
                  refine And.intro (step_pickT rfl (.inr ⟨8, false, _, rfl, rfl, by kernel_rfl, fun _ _ h => h⟩) (Arg.tmp (j := 19) (by kernel_rfl) rfl) (fun _ _ h => h) (Arg.tmp (j := 23) (by kernel_rfl) rfl) (fun _ _ h => h)) ?_
                  refine And.intro (step_pickF rfl (.inl rfl) (Arg.tmp (j := 8) (by kernel_rfl) rfl) (fun _ _ h => h) (Arg.tmp (j := 24) (by kernel_rfl) rfl) (fun _ _ h => h)) ?_
                  refine And.intro (step_move rfl (.inl rfl) (Arg.tmp (j := 25) (by kernel_rfl) rfl) (fun _ _ h => h)) ?_
                  refine And.intro (step_load (b := p) rfl (.inr ⟨26, false, _, rfl, rfl, by kernel_rfl, fun _ _ h => h⟩) (Arg.old (by kernel_rfl)) (fun _ h => ⟨h.1, h.2.1⟩) (fun _ h => h.2.2.2.2.2.2.1)) ?_
                  refine And.intro (step_load (b := r) rfl (.inr ⟨26, false, _, rfl, rfl, by kernel_rfl, fun _ _ h => h⟩) (Arg.old (by kernel_rfl)) (fun _ h => ⟨h.2.2.2.2.1, h.2.2.2.2.2.1⟩) (fun _ h => h.2.2.2.2.2.2.2.2.1)) ?_
                  refine And.intro (step_call2 EAdd.out rfl (.inr ⟨26, false, _, rfl, rfl, by kernel_rfl, fun _ _ h => h⟩) (Arg.tmp (j := 27) (by kernel_rfl) rfl) (Arg.tmp (j := 28) (by kernel_rfl) rfl) (fun u v w _ h1 h2 => Add_any _ _ u v w (len_le (by decide) HX.out) (len_le (by decide) HZ.out) h1 h2)) ?_
                  refine And.intro (step_load (b := q) rfl (.inr ⟨26, false, _, rfl, rfl, by kernel_rfl, fun _ _ h => h⟩) (Arg.old (by kernel_rfl)) (fun _ h => ⟨h.2.2.1, h.2.2.2.1⟩) (fun _ h => h.2.2.2.2.2.2.2.1)) ?_
                  refine And.intro (step_load (b := r) rfl (.inr ⟨26, false, _, rfl, rfl, by kernel_rfl, fun _ _ h => h⟩) (Arg.old (by kernel_rfl)) (fun _ h => ⟨h.2.2.2.2.1, h.2.2.2.2.2.1⟩) (fun _ h => h.2.2.2.2.2.2.2.2.1)) ?_
                  refine And.intro (step_call2 EAdd.out rfl (.inr ⟨26, false, _, rfl, rfl, by kernel_rfl, fun _ _ h => h⟩) (Arg.tmp (j := 30) (by kernel_rfl) rfl) (Arg.tmp (j := 31) (by kernel_rfl) rfl) (fun u v w _ h1 h2 => Add_any _ _ u v w (len_le (by decide) HY.out) (len_le (by decide) HZ.out) h1 h2)) ?_
                  refine And.intro (step_call2 ECmp.out rfl (.inr ⟨26, false, _, rfl, rfl, by kernel_rfl, fun _ _ h => h⟩) (Arg.tmp (j := 29) (by kernel_rfl) rfl) (Arg.tmp (j := 32) (by kernel_rfl) rfl) (fun u v w _ h1 h2 => (Cmp_any _ _ u v w h1 h2).mono fun e w' h => ⟨_, h.1, rfl, h.2⟩)) ?_
                  refine And.intro (step_load (b := p) rfl (.inr ⟨26, false, _, rfl, rfl, by kernel_rfl, fun _ _ h => h⟩) (Arg.old (by kernel_rfl)) (fun _ h => ⟨h.1, h.2.1⟩) (fun _ h => h.2.2.2.2.2.2.1)) ?_
                  refine And.intro (step_load (b := q) rfl (.inr ⟨26, false, _, rfl, rfl, by kernel_rfl, fun _ _ h => h⟩) (Arg.old (by kernel_rfl)) (fun _ h => ⟨h.2.2.1, h.2.2.2.1⟩) (fun _ h => h.2.2.2.2.2.2.2.1)) ?_
                  refine And.intro (step_call2 ECmp.out rfl (.inr ⟨26, false, _, rfl, rfl, by kernel_rfl, fun _ _ h => h⟩) (Arg.tmp (j := 34) (by kernel_rfl) rfl) (Arg.tmp (j := 35) (by kernel_rfl) rfl) (fun u v w _ h1 h2 => (Cmp_any _ _ u v w h1 h2).mono fun e w' h => ⟨_, h.1, rfl, h.2⟩)) ?_
                  refine And.intro (step_neq (b := false) hc2 rfl (.inr ⟨26, false, _, rfl, rfl, by kernel_rfl, fun _ _ h => h⟩) (Arg.tmp (j := 33) (by kernel_rfl) rfl) (fun _ _ h => h) (Arg.tmp (j := 36) (by kernel_rfl) rfl) (fun _ _ h => h) (fun _ => rfl)) ?_
                  refine And.intro (step_pickF rfl (.inl rfl) (Arg.tmp (j := 26) (by kernel_rfl) rfl) (fun _ _ h => h) (Arg.tmp (j := 37) (by kernel_rfl) rfl) (fun _ _ h => h)) ?_
                  refine And.intro (step_move rfl (.inl rfl) (Arg.tmp (j := 38) (by kernel_rfl) rfl) (fun _ _ h => h)) ?_
                  refine And.intro (step_load (b := r) rfl (.inr ⟨39, false, _, rfl, rfl, by kernel_rfl, fun _ _ h => h⟩) (Arg.old (by kernel_rfl)) (fun _ h => ⟨h.2.2.2.2.1, h.2.2.2.2.2.1⟩) (fun _ h => h.2.2.2.2.2.2.2.2.1)) ?_
                  refine And.intro (step_call1 ESign.out rfl (.inr ⟨39, false, _, rfl, rfl, by kernel_rfl, fun _ _ h => h⟩) (Arg.tmp (j := 40) (by kernel_rfl) rfl) (fun u w _ h1 => (sign_any _ u w (len_le (by decide) HZ.out) h1).mono fun e w' h => ⟨_, h.1, rfl, h.2⟩)) ?_
                  refine And.intro (step_gtr (b := true) hB3 rfl (.inr ⟨39, false, _, rfl, rfl, by kernel_rfl, fun _ _ h => h⟩) (Arg.tmp (j := 41) (by kernel_rfl) rfl) (fun _ _ h => h) (Arg.const _) (fun _ _ h => h) (fun _ => rfl)) ?_
                  refine And.intro (step_move rfl (.inr ⟨39, false, _, rfl, rfl, by kernel_rfl, fun _ _ h => h⟩) (Arg.tmp (j := 42) (by kernel_rfl) rfl) (fun _ _ h => h)) ?_
                  refine And.intro (step_load (b := p) rfl (.inr ⟨43, true, _, rfl, rfl, by kernel_rfl, fun _ _ h => h⟩) (Arg.old (by kernel_rfl)) (fun _ h => ⟨h.1, h.2.1⟩) (fun _ h => h.2.2.2.2.2.2.1)) ?_
                  refine And.intro (step_load (b := r) rfl (.inr ⟨43, true, _, rfl, rfl, by kernel_rfl, fun _ _ h => h⟩) (Arg.old (by kernel_rfl)) (fun _ h => ⟨h.2.2.2.2.1, h.2.2.2.2.2.1⟩) (fun _ h => h.2.2.2.2.2.2.2.2.1)) ?_
                  refine And.intro (step_call2 EMul.out rfl (.inr ⟨43, true, _, rfl, rfl, by kernel_rfl, fun _ _ h => h⟩) (Arg.tmp (j := 44) (by kernel_rfl) rfl) (Arg.tmp (j := 45) (by kernel_rfl) rfl) (fun u v w _ h1 h2 => Mul_any _ _ u v w (len_le (by decide) HX.out) (len_le (by decide) HZ.out) h1 h2)) ?_
                  refine And.intro (step_load (b := q) rfl (.inr ⟨43, true, _, rfl, rfl, by kernel_rfl, fun _ _ h => h⟩) (Arg.old (by kernel_rfl)) (fun _ h => ⟨h.2.2.1, h.2.2.2.1⟩) (fun _ h => h.2.2.2.2.2.2.2.1)) ?_
                  refine And.intro (step_load (b := r) rfl (.inr ⟨43, true, _, rfl, rfl, by kernel_rfl, fun _ _ h => h⟩) (Arg.old (by kernel_rfl)) (fun _ h => ⟨h.2.2.2.2.1, h.2.2.2.2.2.1⟩) (fun _ h => h.2.2.2.2.2.2.2.2.1)) ?_
                  refine And.intro (step_call2 EMul.out rfl (.inr ⟨43, true, _, rfl, rfl, by kernel_rfl, fun _ _ h => h⟩) (Arg.tmp (j := 47) (by kernel_rfl) rfl) (Arg.tmp (j := 48) (by kernel_rfl) rfl) (fun u v w _ h1 h2 => Mul_any _ _ u v w (len_le (by decide) HY.out) (len_le (by decide) HZ.out) h1 h2)) ?_
                  refine And.intro (step_call2 ECmp.out rfl (.inr ⟨43, true, _, rfl, rfl, by kernel_rfl, fun _ _ h => h⟩) (Arg.tmp (j := 46) (by kernel_rfl) rfl) (Arg.tmp (j := 49) (by kernel_rfl) rfl) (fun u v w _ h1 h2 => (Cmp_any _ _ u v w h1 h2).mono fun e w' h => ⟨_, h.1, rfl, h.2⟩)) ?_
                  refine And.intro (step_load (b := p) rfl (.inr ⟨43, true, _, rfl, rfl, by kernel_rfl, fun _ _ h => h⟩) (Arg.old (by kernel_rfl)) (fun _ h => ⟨h.1, h.2.1⟩) (fun _ h => h.2.2.2.2.2.2.1)) ?_
                  refine And.intro (step_load (b := q) rfl (.inr ⟨43, true, _, rfl, rfl, by kernel_rfl, fun _ _ h => h⟩) (Arg.old (by kernel_rfl)) (fun _ h => ⟨h.2.2.1, h.2.2.2.1⟩) (fun _ h => h.2.2.2.2.2.2.2.1)) ?_
                  refine And.intro (step_call2 ECmp.out rfl (.inr ⟨43, true, _, rfl, rfl, by kernel_rfl, fun _ _ h => h⟩) (Arg.tmp (j := 51) (by kernel_rfl) rfl) (Arg.tmp (j := 52) (by kernel_rfl) rfl) (fun u v w _ h1 h2 => (Cmp_any _ _ u v w h1 h2).mono fun e w' h => ⟨_, h.1, rfl, h.2⟩)) ?_
                  refine And.intro (step_neq (b := false) hc3 rfl (.inr ⟨43, true, _, rfl, rfl, by kernel_rfl, fun _ _ h => h⟩) (Arg.tmp (j := 50) (by kernel_rfl) rfl) (fun _ _ h => h) (Arg.tmp (j := 53) (by kernel_rfl) rfl) (fun _ _ h => h) (fun _ => rfl)) ?_
                  refine And.intro (step_pickT rfl (.inr ⟨39, false, _, rfl, rfl, by kernel_rfl, fun _ _ h => h⟩) (Arg.tmp (j := 43) (by kernel_rfl) rfl) (fun _ _ h => h) (Arg.tmp (j := 54) (by kernel_rfl) rfl) (fun _ _ h => h)) ?_
                  refine And.intro (step_pickF rfl (.inl rfl) (Arg.tmp (j := 39) (by kernel_rfl) rfl) (fun _ _ h => h) (Arg.tmp (j := 55) (by kernel_rfl) rfl) (fun _ _ h => h)) ?_
                  trivial
                · intro v9 wv9 hk hs
                  have hv : v9 56 = .bool false := hk 56 _ rfl
                  have HXS := Lib.hid hs
                  clear hk hs
                  simp only [putV, Act.put, List.setIfInBounds_toArray, List.set_cons_zero, List.set_cons_succ, Nat.reduceAdd, hv]
                  clear hv
                  go_wp2_with fail
                  first
                    | (refine (awake_any _).mono ?_
                       rintro e w9 ⟨rfl, hb9⟩
                       go_wp2
                       go_ret
                       exact ⟨rfl, HXS.out.2.2.2.2.2.2.2.2.2.trans (hb9.mono HXS.out.2.2.2.2.2.2.2.2.2.size)⟩)
                    | (refine wp_call0 EAwake.out (by rfl) _ (awake_any _) ?_
                       rintro e w9 ⟨rfl, hb9⟩
                       refine ⟨_, rfl, ?_⟩
                       simp only [Act.put, List.setIfInBounds_toArray, List.set_cons_zero, List.set_cons_succ]
                       go_wp2
                       go_ret
                       exact ⟨rfl, HXS.out.2.2.2.2.2.2.2.2.2.trans (hb9.mono HXS.out.2.2.2.2.2.2.2.2.2.size)⟩)
              · have hB3 := (decide_eq_false h3).symm
                go_upto_region 9 with fail
                refine wp_region_facts (falF (Fa.z (x) :: Fa.z (y) :: Fa.v (.int .i64 (cmpZ x y)) :: Fa.z (y) :: Fa.z (x) :: Fa.v (.int .i64 (cmpZ y x)) :: Fa.v (.int .i64 (-(cmpZ y x))) :: Fa.v (.bool false) :: Fa.v (.bool false) :: Fa.z (x) :: Fa.z (y) :: Fa.v (.int .i64 (cmpZ x y)) :: Fa.v (.bool true) :: Fa.v (.bool true) :: Fa.z (y) :: Fa.z (z) :: Fa.v (.int .i64 (cmpZ y z)) :: Fa.v (.bool true) :: Fa.v (.bool true) :: Fa.v (.bool true) :: Fa.z (x) :: Fa.z (z) :: Fa.v (.int .i64 (cmpZ x z)) :: Fa.v (.bool false) :: Fa.v (.bool false) :: Fa.v (.bool false) :: Fa.v (.bool false) :: Fa.z (x) :: Fa.z (z) :: Fa.z (x + z) :: Fa.z (y) :: Fa.z (z) :: Fa.z (y + z) :: Fa.v (.int .i64 (cmpZ (x + z) (y + z))) :: Fa.z (x) :: Fa.z (y) :: Fa.v (.int .i64 (cmpZ x y)) :: Fa.v (.bool false) :: Fa.v (.bool false) :: Fa.v (.bool false) :: Fa.z (z) :: Fa.v (.int .i64 (sgnZ z)) :: Fa.v (.bool false) :: Fa.v (.bool false) :: Fa.v undef :: Fa.v undef :: Fa.v undef :: Fa.v undef :: Fa.v undef :: Fa.v undef :: Fa.v undef :: Fa.v undef :: Fa.v undef :: Fa.v undef :: Fa.v undef :: Fa.v (.bool false) :: Fa.v (.bool false) :: [])) (XS w p q r (.bool (decide (x < 0))) (.slice d1 n1 e1) (.bool (decide (y < 0))) (.slice d2 n2 e2) (.bool (decide (z < 0))) (.slice d3 n3 e3) x y z) (by kernel_rfl) (by kernel_rfl) (falF_mono _) (fun _ _ h hb => h.keep hb) (HXS.out.keep ((Below.refl _ _).drew)) ?_ (some 110 :: some 111 :: some 112 :: some 113 :: some 114 :: some 115 :: some 116 :: some 117 :: some 118 :: some 119 :: some 120 :: some 121 :: some 122 :: some 123 :: some 124 :: some 125 :: some 126 :: some 127 :: some 128 :: some 129 :: some 130 :: some 131 :: some 132 :: some 133 :: some 134 :: some 135 :: some 136 :: some 137 :: some 138 :: some 139 :: some 140 :: some 141 :: some 142 :: some 143 :: some 144 :: some 145 :: some 146 :: some 147 :: some 148 :: some 149 :: some 150 :: some 151 :: some 152 :: some 153 :: some 154 :: some 155 :: some 156 :: some 157 :: some 158 :: some 159 :: some 160 :: some 161 :: some 162 :: some 163 :: some 164 :: some 165 :: some 166 :: []) (by rfl) ?_
                · refine And.intro (step_load (b := p) rfl (.inl rfl) (Arg.old (by kernel_rfl)) (fun _ h => ⟨h.1, h.2.1⟩) (fun _ h => h.2.2.2.2.2.2.1)) ?_
                  refine And.intro (step_load (b := q) rfl (.inl rfl) (Arg.old (by kernel_rfl)) (fun _ h => ⟨h.2.2.1, h.2.2.2.1⟩) (fun _ h => h.2.2.2.2.2.2.2.1)) ?_
                  refine And.intro (step_call2 ECmp.out rfl (.inl rfl) (Arg.tmp (j := 0) (by kernel_rfl) rfl) (Arg.tmp (j := 1) (by kernel_rfl) rfl) (fun u v w _ h1 h2 => (Cmp_any _ _ u v w h1 h2).mono fun e w' h => ⟨_, h.1, rfl, h.2⟩)) ?_
                  refine And.intro (step_load (b := q) rfl (.inl rfl) (Arg.old (by kernel_rfl)) (fun _ h => ⟨h.2.2.1, h.2.2.2.1⟩) (fun _ h => h.2.2.2.2.2.2.2.1)) ?_
                  refine And.intro (step_load (b := p) rfl (.inl rfl) (Arg.old (by kernel_rfl)) (fun _ h => ⟨h.1, h.2.1⟩) (fun _ h => h.2.2.2.2.2.2.1)) ?_
                  refine And.intro (step_call2 ECmp.out rfl (.inl rfl) (Arg.tmp (j := 3) (by kernel_rfl) rfl) (Arg.tmp (j := 4) (by kernel_rfl) rfl) (fun u v w _ h1 h2 => (Cmp_any _ _ u v w h1 h2).mono fun e w' h => ⟨_, h.1, rfl, h.2⟩)) ?_
                  refine And.intro (step_neg (cmpZ_rng _ _) rfl (.inl rfl) (Arg.tmp (j := 5) (by kernel_rfl) rfl) (fun _ _ h => h) (fun _ => rfl)) ?_
                  refine And.intro (step_neq (b := false) hc1 rfl (.inl rfl) (Arg.tmp (j := 2) (by kernel_rfl) rfl) (fun _ _ h => h) (Arg.tmp (j := 6) (by kernel_rfl) rfl) (fun _ _ h => h) (fun _ => rfl)) ?_
                  refine And.intro (step_move rfl (.inl rfl) (Arg.tmp (j := 7) (by kernel_rfl) rfl) (fun _ _ h => h)) ?_
                  refine And.intro (step_load (b := p) rfl (.inr ⟨8, false, _, rfl, rfl, by kernel_rfl, fun _ _ h => h⟩) (Arg.old (by kernel_rfl)) (fun _ h => ⟨h.1, h.2.1⟩) (fun _ h => h.2.2.2.2.2.2.1)) ?_
                  refine And.intro (step_load (b := q) rfl (.inr ⟨8, false, _, rfl, rfl, by kernel_rfl, fun _ _ h => h⟩) (Arg.old (by kernel_rfl)) (fun _ h => ⟨h.2.2.1, h.2.2.2.1⟩) (fun _ h => h.2.2.2.2.2.2.2.1)) ?_
                  refine And.intro (step_call2 ECmp.out rfl (.inr ⟨8, false, _, rfl, rfl, by kernel_rfl, fun _ _ h => h⟩) (Arg.tmp (j := 9) (by kernel_rfl) rfl) (Arg.tmp (j := 10) (by kernel_rfl) rfl) (fun u v w _ h1 h2 => (Cmp_any _ _ u v w h1 h2).mono fun e w' h => ⟨_, h.1, rfl, h.2⟩)) ?_
                  refine And.intro (step_leq (b := true) hB1 rfl (.inr ⟨8, false, _, rfl, rfl, by kernel_rfl, fun _ _ h => h⟩) (Arg.tmp (j := 11) (by kernel_rfl) rfl) (fun _ _ h => h) (Arg.const _) (fun _ _ h => h) (fun _ => rfl)) ?_
                  refine And.intro (step_move rfl (.inr ⟨8, false, _, rfl, rfl, by kernel_rfl, fun _ _ h => h⟩) (Arg.tmp (j := 12) (by kernel_rfl) rfl) (fun _ _ h => h)) ?_
                  refine And.intro (step_load (b := q) rfl (.inr ⟨13, true, _, rfl, rfl, by kernel_rfl, fun _ _ h => h⟩) (Arg.old (by kernel_rfl)) (fun _ h => ⟨h.2.2.1, h.2.2.2.1⟩) (fun _ h => h.2.2.2.2.2.2.2.1)) ?_
                  refine And.intro (step_load (b := r) rfl (.inr ⟨13, true, _, rfl, rfl, by kernel_rfl, fun _ _ h => h⟩) (Arg.old (by kernel_rfl)) (fun _ h => ⟨h.2.2.2.2.1, h.2.2.2.2.2.1⟩) (fun _ h => h.2.2.2.2.2.2.2.2.1)) ?_
                  refine And.intro (step_call2 ECmp.out rfl (.inr ⟨13, true, _, rfl, rfl, by kernel_rfl, fun _ _ h => h⟩) (Arg.tmp (j := 14) (by kernel_rfl) rfl) (Arg.tmp (j := 15) (by kernel_rfl) rfl) (fun u v w _ h1 h2 => (Cmp_any _ _ u v w h1 h2).mono fun e w' h => ⟨_, h.1, rfl, h.2⟩)) ?_
                  refine And.intro (step_leq (b := true) hB2 rfl (.inr ⟨13, true, _, rfl, rfl, by kernel_rfl, fun _ _ h => h⟩) (Arg.tmp (j := 16) (by kernel_rfl) rfl) (fun _ _ h => h) (Arg.const _) (fun _ _ h => h) (fun _ => rfl)) ?_
                  refine And.intro (step_pickT rfl (.inr ⟨8, false, _, rfl, rfl, by kernel_rfl, fun _ _ h => h⟩) (Arg.tmp (j := 13) (by kernel_rfl) rfl) (fun _ _ h => h) (Arg.tmp (j := 17) (by kernel_rfl) rfl) (fun _ _ h => h)) ?_
                  refine And.intro (step_move rfl (.inr ⟨8, false, _, rfl, rfl, by kernel_rfl, fun _ _ h => h⟩) (Arg.tmp (j := 18) (by kernel_rfl) rfl) (fun _ _ h => h)) ?_
                  refine And.intro (step_load (b := p) rfl (.inr ⟨19, true, _, rfl, rfl, by kernel_rfl, fun _ _ h => h⟩) (Arg.old (by kernel_rfl)) (fun _ h => ⟨h.1, h.2.1⟩) (fun _ h => h.2.2.2.2.2.2.1)) ?_
                  refine And.intro (step_load (b := r) rfl (.inr ⟨19, true, _, rfl, rfl, by kernel_rfl, fun _ _ h => h⟩) (Arg.old (by kernel_rfl)) (fun _ h => ⟨h.2.2.2.2.1, h.2.2.2.2.2.1⟩) (fun _ h => h.2.2.2.2.2.2.2.2.1)) ?_
                  refine And.intro (step_call2 ECmp.out rfl (.inr ⟨19, true, _, rfl, rfl, by kernel_rfl, fun _ _ h => h⟩) (Arg.tmp (j := 20) (by kernel_rfl) rfl) (Arg.tmp (j := 21) (by kernel_rfl) rfl) (fun u v w _ h1 h2 => (Cmp_any _ _ u v w h1 h2).mono fun e w' h => ⟨_, h.1, rfl, h.2⟩)) ?_
                  refine And.intro (step_gtr (b := false) hc4 rfl (.inr ⟨19, true, _, rfl, rfl, by kernel_rfl, fun _ _ h => h⟩) (Arg.tmp (j := 22) (by kernel_rfl) rfl) (fun _ _ h => h) (Arg.const _) (fun _ _ h => h) (fun _ => rfl)) ?_
                  refine And.intro (step_pickT rfl (.inr ⟨8, false, _, rfl, rfl, by kernel_rfl, fun _ _ h => h⟩) (Arg.tmp (j := 19) (by kernel_rfl) rfl) (fun _ _ h => h) (Arg.tmp (j := 23) (by kernel_rfl) rfl) (fun _ _ h => h)) ?_
                  refine And.intro (step_pickF rfl (.inl rfl) (Arg.tmp (j := 8) (by kernel_rfl) rfl) (fun _ _ h => h) (Arg.tmp (j := 24) (by kernel_rfl) rfl) (fun _ _ h => h)) ?_
                  refine And.intro (step_move rfl (.inl rfl) (Arg.tmp (j := 25) (by kernel_rfl) rfl) (fun _ _ h => h)) ?_
                  refine And.intro (step_load (b := p) rfl (.inr ⟨26, false, _, rfl, rfl, by kernel_rfl, fun _ _ h => h⟩) (Arg.old (by kernel_rfl)) (fun _ h => ⟨h.1, h.2.1⟩) (fun _ h => h.2.2.2.2.2.2.1)) ?_
                  refine And.intro (step_load (b := r) rfl (.inr ⟨26, false, _, rfl, rfl, by kernel_rfl, fun _ _ h => h⟩) (Arg.old (by kernel_rfl)) (fun _ h => ⟨h.2.2.2.2.1, h.2.2.2.2.2.1⟩) (fun _ h => h.2.2.2.2.2.2.2.2.1)) ?_
                  refine And.intro (step_call2 EAdd.out rfl (.inr ⟨26, false, _, rfl, rfl, by kernel_rfl, fun _ _ h => h⟩) (Arg.tmp (j := 27) (by kernel_rfl) rfl) (Arg.tmp (j := 28) (by kernel_rfl) rfl) (fun u v w _ h1 h2 => Add_any _ _ u v w (len_le (by decide) HX.out) (len_le (by decide) HZ.out) h1 h2)) ?_
                  refine And.intro (step_load (b := q) rfl (.inr ⟨26, false, _, rfl, rfl, by kernel_rfl, fun _ _ h => h⟩) (Arg.old (by kernel_rfl)) (fun _ h => ⟨h.2.2.1, h.2.2.2.1⟩) (fun _ h => h.2.2.2.2.2.2.2.1)) ?_
                  refine And.intro (step_load (b := r) rfl (.inr ⟨26, false, _, rfl, rfl, by kernel_rfl, fun _ _ h => h⟩) (Arg.old (by kernel_rfl)) (fun _ h => ⟨h.2.2.2.2.1, h.2.2.2.2.2.1⟩) (fun _ h => h.2.2.2.2.2.2.2.2.1)) ?_
                  refine And.intro (step_call2 EAdd.out rfl (.inr ⟨26, false, _, rfl, rfl, by kernel_rfl, fun _ _ h => h⟩) (Arg.tmp (j := 30) (by kernel_rfl) rfl) (Arg.tmp (j := 31) (by kernel_rfl) rfl) (fun u v w _ h1 h2 => Add_any _ _ u v w (len_le (by decide) HY.out) (len_le (by decide) HZ.out) h1 h2)) ?_
                  refine And.intro (step_call2 ECmp.out rfl (.inr ⟨26, false, _, rfl, rfl, by kernel_rfl, fun _ _ h => h⟩) (Arg.tmp (j := 29) (by kernel_rfl) rfl) (Arg.tmp (j := 32) (by kernel_rfl) rfl) (fun u v w _ h1 h2 => (Cmp_any _ _ u v w h1 h2).mono fun e w' h => ⟨_, h.1, rfl, h.2⟩)) ?_
                  refine And.intro (step_load (b := p) rfl (.inr ⟨26, false, _, rfl, rfl, by kernel_rfl, fun _ _ h => h⟩) (Arg.old (by kernel_rfl)) (fun _ h => ⟨h.1, h.2.1⟩) (fun _ h => h.2.2.2.2.2.2.1)) ?_
                  refine And.intro (step_load (b := q) rfl (.inr ⟨26, false, _, rfl, rfl, by kernel_rfl, fun _ _ h => h⟩) (Arg.old (by kernel_rfl)) (fun _ h => ⟨h.2.2.1, h.2.2.2.1⟩) (fun _ h => h.2.2.2.2.2.2.2.1)) ?_
                  refine And.intro (step_call2 ECmp.out rfl (.inr ⟨26, false, _, rfl, rfl, by kernel_rfl, fun _ _ h => h⟩) (Arg.tmp (j := 34) (by kernel_rfl) rfl) (Arg.tmp (j := 35) (by kernel_rfl) rfl) (fun u v w _ h1 h2 => (Cmp_any _ _ u v w h1 h2).mono fun e w' h => ⟨_, h.1, rfl, h.2⟩)) ?_
                  refine And.intro (step_neq (b := false) hc2 rfl (.inr ⟨26, false, _, rfl, rfl, by kernel_rfl, fun _ _ h => h⟩) (Arg.tmp (j := 33) (by kernel_rfl) rfl) (fun _ _ h => h) (Arg.tmp (j := 36) (by kernel_rfl) rfl) (fun _ _ h => h) (fun _ => rfl)) ?_
                  refine And.intro (step_pickF rfl (.inl rfl) (Arg.tmp (j := 26) (by kernel_rfl) rfl) (fun _ _ h => h) (Arg.tmp (j := 37) (by kernel_rfl) rfl) (fun _ _ h => h)) ?_
                  refine And.intro (step_move rfl (.inl rfl) (Arg.tmp (j := 38) (by kernel_rfl) rfl) (fun _ _ h => h)) ?_
                  refine And.intro (step_load (b := r) rfl (.inr ⟨39, false, _, rfl, rfl, by kernel_rfl, fun _ _ h => h⟩) (Arg.old (by kernel_rfl)) (fun _ h => ⟨h.2.2.2.2.1, h.2.2.2.2.2.1⟩) (fun _ h => h.2.2.2.2.2.2.2.2.1)) ?_
                  refine And.intro (step_call1 ESign.out rfl (.inr ⟨39, false, _, rfl, rfl, by kernel_rfl, fun _ _ h => h⟩) (Arg.tmp (j := 40) (by kernel_rfl) rfl) (fun u w _ h1 => (sign_any _ u w (len_le (by decide) HZ.out) h1).mono fun e w' h => ⟨_, h.1, rfl, h.2⟩)) ?_
                  refine And.intro (step_gtr (b := false) hB3 rfl (.inr ⟨39, false, _, rfl, rfl, by kernel_rfl, fun _ _ h => h⟩) (Arg.tmp (j := 41) (by kernel_rfl) rfl) (fun _ _ h => h) (Arg.const _) (fun _ _ h => h) (fun _ => rfl)) ?_
                  refine And.intro (step_move rfl (.inr ⟨39, false, _, rfl, rfl, by kernel_rfl, fun _ _ h => h⟩) (Arg.tmp (j := 42) (by kernel_rfl) rfl) (fun _ _ h => h)) ?_
                  refine And.intro (step_un (g := 43) rfl rfl (by kernel_rfl) (fun _ _ h => h) (fun _ => rfl)) ?_
                  refine And.intro (step_un (g := 43) rfl rfl (by kernel_rfl) (fun _ _ h => h) (fun _ => rfl)) ?_
                  refine And.intro (step_un (g := 43) rfl rfl (by kernel_rfl) (fun _ _ h => h) (fun _ => rfl)) ?_
                  refine And.intro (step_un (g := 43) rfl rfl (by kernel_rfl) (fun _ _ h => h) (fun _ => rfl)) ?_
                  refine And.intro (step_un (g := 43) rfl rfl (by kernel_rfl) (fun _ _ h => h) (fun _ => rfl)) ?_
                  refine And.intro (step_un (g := 43) rfl rfl (by kernel_rfl) (fun _ _ h => h) (fun _ => rfl)) ?_
                  refine And.intro (step_un (g := 43) rfl rfl (by kernel_rfl) (fun _ _ h => h) (fun _ => rfl)) ?_
                  refine And.intro (step_un (g := 43) rfl rfl (by kernel_rfl) (fun _ _ h => h) (fun _ => rfl)) ?_
                  refine And.intro (step_un (g := 43) rfl rfl (by kernel_rfl) (fun _ _ h => h) (fun _ => rfl)) ?_
                  refine And.intro (step_un (g := 43) rfl rfl (by kernel_rfl) (fun _ _ h => h) (fun _ => rfl)) ?_
                  refine And.intro (step_un (g := 43) rfl rfl (by kernel_rfl) (fun _ _ h => h) (fun _ => rfl)) ?_
                  refine And.intro (step_pickF rfl (.inr ⟨39, false, _, rfl, rfl, by kernel_rfl, fun _ _ h => h⟩) (Arg.tmp (j := 43) (by kernel_rfl) rfl) (fun _ _ h => h) (Arg.const _) (fun _ _ h => h)) ?_
                  refine And.intro (step_pickF rfl (.inl rfl) (Arg.tmp (j := 39) (by kernel_rfl) rfl) (fun _ _ h => h) (Arg.tmp (j := 55) (by kernel_rfl) rfl) (fun _ _ h => h)) ?_
                  trivial
                · intro v9 wv9 hk hs
                  have hv : v9 56 = .bool false := hk 56 _ rfl
                  have HXS := Lib.hid hs
                  clear hk hs
                  simp only [putV, Act.put, List.setIfInBounds_toArray, List.set_cons_zero, List.set_cons_succ, Nat.reduceAdd, hv]
                  clear hv
                  go_wp2_with fail
                  first
                    | (refine (awake_any _).mono ?_
                       rintro e w9 ⟨rfl, hb9⟩
                       go_wp2
                       go_ret
                       exact ⟨rfl, HXS.out.2.2.2.2.2.2.2.2.2.trans (hb9.mono HXS.out.2.2.2.2.2.2.2.2.2.size)⟩)
                    | (refine wp_call0 EAwake.out (by rfl) _ (awake_any _) ?_
                       rintro e w9 ⟨rfl, hb9⟩
                       refine ⟨_, rfl, ?_⟩
                       simp only [Act.put, List.setIfInBounds_toArray, List.set_cons_zero, List.set_cons_succ]
                       go_wp2
                       go_ret
                       exact ⟨rfl, HXS.out.2.2.2.2.2.2.2.2.2.trans (hb9.mono HXS.out.2.2.2.2.2.2.2.2.2.size)⟩)
            · have hB2 := (decide_eq_false h2).symm
              by_cases h3 : sgnZ z > 0
              · have hB3 := (decide_eq_true h3).symm
                have hc3 := neqF (cmpZ_mul x y z h3)
                go_upto_region 9 with fail
                refine wp_region_facts (falF (Fa.z (x) :: Fa.z (y) :: Fa.v (.int .i64 (cmpZ x y)) :: Fa.z (y) :: Fa.z (x) :: Fa.v (.int .i64 (cmpZ y x)) :: Fa.v (.int .i64 (-(cmpZ y x))) :: Fa.v (.bool false) :: Fa.v (.bool false) :: Fa.z (x) :: Fa.z (y) :: Fa.v (.int .i64 (cmpZ x y)) :: Fa.v (.bool true) :: Fa.v (.bool true) :: Fa.z (y) :: Fa.z (z) :: Fa.v (.int .i64 (cmpZ y z)) :: Fa.v (.bool false) :: Fa.v (.bool false) :: Fa.v (.bool false) :: Fa.v undef :: Fa.v undef :: Fa.v undef :: Fa.v undef :: Fa.v (.bool false) :: Fa.v (.bool false) :: Fa.v (.bool false) :: Fa.z (x) :: Fa.z (z) :: Fa.z (x + z) :: Fa.z (y) :: Fa.z (z) :: Fa.z (y + z) :: Fa.v (.int .i64 (cmpZ (x + z) (y + z))) :: Fa.z (x) :: Fa.z (y) :: Fa.v (.int .i64 (cmpZ x y)) :: Fa.v (.bool false) :: Fa.v (.bool false) :: Fa.v (.bool false) :: Fa.z (z) :: Fa.v (.int .i64 (sgnZ z)) :: Fa.v (.bool true) :: Fa.v (.bool true) :: Fa.z (x) :: Fa.z (z) :: Fa.z (x * z) :: Fa.z (y) :: Fa.z (z) :: Fa.z (y * z) :: Fa.v (.int .i64 (cmpZ (x * z) (y * z))) :: Fa.z (x) :: Fa.z (y) :: Fa.v (.int .i64 (cmpZ x y)) :: Fa.v (.bool false) :: Fa.v (.bool false) :: Fa.v (.bool false) :: [])) (XS w p q r (.bool (decide (x < 0))) (.slice d1 n1 e1) (.bool (decide (y < 0))) (.slice d2 n2 e2) (.bool (decide (z < 0))) (.slice d3 n3 e3) x y z) (by kernel_rfl) (by kernel_rfl) (falF_mono _) (fun _ _ h hb => h.keep hb) (HXS.out.keep ((Below.refl _ _).drew)) ?_ (some 110 :: some 111 :: some 112 :: some 113 :: some 114 :: some 115 :: some 116 :: some 117 :: some 118 :: some 119 :: some 120 :: some 121 :: some 122 :: some 123 :: some 124 :: some 125 :: some 126 :: some 127 :: some 128 :: some 129 :: some 130 :: some 131 :: some 132 :: some 133 :: some 134 :: some 135 :: some 136 :: some 137 :: some 138 :: some 139 :: some 140 :: some 141 :: some 142 :: some 143 :: some 144 :: some 145 :: some 146 :: some 147 :: some 148 :: some 149 :: some 150 :: some 151 :: some 152 :: some 153 :: some 154 :: some 155 :: some 156 :: some 157 :: some 158 :: some 159 :: some 160 :: some 161 :: some 162 :: some 163 :: some 164 :: some 165 :: some 166 :: []) (by rfl) ?_
                · refine And.intro (step_load (b := p) rfl (.inl rfl) (Arg.old (by kernel_rfl)) (fun _ h => ⟨h.1, h.2.1⟩) (fun _ h => h.2.2.2.2.2.2.1)) ?_
                  refine And.intro (step_load (b := q) rfl (.inl rfl) (Arg.old (by kernel_rfl)) (fun _ h => ⟨h.2.2.1, h.2.2.2.1⟩) (fun _ h => h.2.2.2.2.2.2.2.1)) ?_
                  refine And.intro (step_call2 ECmp.out rfl (.inl rfl) (Arg.tmp (j := 0) (by kernel_rfl) rfl) (Arg.tmp (j := 1) (by kernel_rfl) rfl) (fun u v w _ h1 h2 => (Cmp_any _ _ u v w h1 h2).mono fun e w' h => ⟨_, h.1, rfl, h.2⟩)) ?_
                  refine And.intro (step_load (b := q) rfl (.inl rfl) (Arg.old (by kernel_rfl)) (fun _ h => ⟨h.2.2.1, h.2.2.2.1⟩) (fun _ h => h.2.2.2.2.2.2.2.1)) ?_
                  refine And.intro (step_load (b := p) rfl (.inl rfl) (Arg.old (by kernel_rfl)) (fun _ h => ⟨h.1, h.2.1⟩) (fun _ h => h.2.2.2.2.2.2.1)) ?_
                  refine And.intro (step_call2 ECmp.out rfl (.inl rfl) (Arg.tmp (j := 3) (by kernel_rfl) rfl) (Arg.tmp (j := 4) (by kernel_rfl) rfl) (fun u v w _ h1 h2 => (Cmp_any _ _ u v w h1 h2).mono fun e w' h => ⟨_, h.1, rfl, h.2⟩)) ?_
                  refine And.intro (step_neg (cmpZ_rng _ _) rfl (.inl rfl) (Arg.tmp (j := 5) (by kernel_rfl) rfl) (fun _ _ h => h) (fun _ => rfl)) ?_
                  refine And.intro (step_neq (b := false) hc1 rfl (.inl rfl) (Arg.tmp (j := 2) (by kernel_rfl) rfl) (fun _ _ h => h) (Arg.tmp (j := 6) (by kernel_rfl) rfl) (fun _ _ h => h) (fun _ => rfl)) ?_
                  refine And.intro (step_move rfl (.inl rfl) (Arg.tmp (j := 7) (by kernel_rfl) rfl) (fun _ _ h => h)) ?_
                  refine And.intro (step_load (b := p) rfl (.inr ⟨8, false, _, rfl, rfl, by kernel_rfl, fun _ _ h => h⟩) (Arg.old (by kernel_rfl)) (fun _ h => ⟨h.1, h.2.1⟩) (fun _ h => h.2.2.2.2.2.2.1)) ?_
                  refine And.intro (step_load (b := q) rfl (.inr ⟨8, false, _, rfl, rfl, by kernel_rfl, fun _ _ h => h⟩) (Arg.old (by kernel_rfl)) (fun _ h => ⟨h.2.2.1, h.2.2.2.1⟩) (fun _ h => h.2.2.2.2.2.2.2.1)) ?_
                  refine And.intro (step_call2 ECmp.out rfl (.inr ⟨8, false, _, rfl, rfl, by kernel_rfl, fun _ _ h => h⟩) (Arg.tmp (j := 9) (by kernel_rfl) rfl) (Arg.tmp (j := 10) (by kernel_rfl) rfl) (fun u v w _ h1 h2 => (Cmp_any _ _ u v w h1 h2).mono fun e w' h => ⟨_, h.1, rfl, h.2⟩)) ?_
                  refine And.intro (step_leq (b := true) hB1 rfl (.inr ⟨8, false, _, rfl, rfl, by kernel_rfl, fun _ _ h => h⟩) (Arg.tmp (j := 11) (by kernel_rfl) rfl) (fun _ _ h => h) (Arg.const _) (fun _ _ h => h) (fun _ => rfl)) ?_
                  refine And.intro (step_move rfl (.inr ⟨8, false, _, rfl, rfl, by kernel_rfl, fun _ _ h => h⟩) (Arg.tmp (j := 12) (by kernel_rfl) rfl) (fun _ _ h => h)) ?_
                  refine And.intro (step_load (b := q) rfl (.inr ⟨13, true, _, rfl, rfl, by kernel_rfl, fun _ _ h => h⟩) (Arg.old (by kernel_rfl)) (fun _ h => ⟨h.2.2.1, h.2.2.2.1⟩) (fun _ h => h.2.2.2.2.2.2.2.1)) ?_
                  refine And.intro (step_load (b := r) rfl (.inr ⟨13, true, _, rfl, rfl, by kernel_rfl, fun _ _ h => h⟩) (Arg.old (by kernel_rfl)) (fun _ h => ⟨h.2.2.2.2.1, h.2.2.2.2.2.1⟩) (fun _ h => h.2.2.2.2.2.2.2.2.1)) ?_
                  refine And.intro (step_call2 ECmp.out rfl (.inr ⟨13, true, _, rfl, rfl, by kernel_rfl, fun _ _ h => h⟩) (Arg.tmp (j := 14) (by kernel_rfl) rfl) (Arg.tmp (j := 15) (by kernel_rfl) rfl) (fun u v w _ h1 h2 => (Cmp_any _ _ u v w h1 h2).mono fun e w' h => ⟨_, h.1, rfl, h.2⟩)) ?_
                  refine And.intro (step_leq (b := false) hB2 rfl (.inr ⟨13, true, _, rfl, rfl, by kernel_rfl, fun _ _ h => h⟩) (Arg.tmp (j := 16) (by kernel_rfl) rfl) (fun _ _ h => h) (Arg.const _) (fun _ _ h => h) (fun _ => rfl)) ?_
                  refine And.intro (step_pickT rfl (.inr ⟨8, false, _, rfl, rfl, by kernel_rfl, fun _ _ h => h⟩) (Arg.tmp (j := 13) (by kernel_rfl) rfl) (fun _ _ h => h) (Arg.tmp (j := 17) (by kernel_rfl) rfl) (fun _ _ h => h)) ?_
                  refine And.intro (step_move rfl (.inr ⟨8, false, _, rfl, rfl, by kernel_rfl, fun _ _ h => h⟩) (Arg.tmp (j := 18) (by kernel_rfl) rfl) (fun _ _ h => h)) ?_
                  refine And.intro (step_un (g := 19) rfl rfl (by kernel_rfl) (fun _ _ h => h) (fun _ => rfl)) ?_
                  refine And.intro (step_un (g := 19) rfl rfl (by kernel_rfl) (fun _ _ h => h) (fun _ => rfl)) ?_
                  refine And.intro (step_un (g := 19) rfl rfl (by kernel_rfl) (fun _ _ h => h) (fun _ => rfl)) ?_
                  refine And.intro (step_un (g := 19) rfl rfl (by kernel_rfl) (fun _ _ h => h) (fun _ => rfl)) ?_
                  refine And.intro (step_pickF rfl (.inr ⟨8, false, _, rfl, rfl, by kernel_rfl, fun _ _ h => h⟩) (Arg.tmp (j := 19) (by kernel_rfl) rfl) (fun _ _ h => h) (Arg.const _) (fun _ _ h => h)) ?_
                  refine And.intro (step_pickF rfl (.inl rfl) (Arg.tmp (j := 8) (by kernel_rfl) rfl) (fun _ _ h => h) (Arg.tmp (j := 24) (by kernel_rfl) rfl) (fun _ _ h => h)) ?_
                  refine And.intro (step_move rfl (.inl rfl) (Arg.tmp (j := 25) (by kernel_rfl) rfl) (fun _ _ h => h)) ?_
                  refine And.intro (step_load (b := p) rfl (.inr ⟨26, false, _, rfl, rfl, by kernel_rfl, fun _ _ h => h⟩) (Arg.old (by kernel_rfl)) (fun _ h => ⟨h.1, h.2.1⟩) (fun _ h => h.2.2.2.2.2.2.1)) ?_
                  refine And.intro (step_load (b := r) rfl (.inr ⟨26, false, _, rfl, rfl, by kernel_rfl, fun _ _ h => h⟩) (Arg.old (by kernel_rfl)) (fun _ h => ⟨h.2.2.2.2.1, h.2.2.2.2.2.1⟩) (fun _ h => h.2.2.2.2.2.2.2.2.1)) ?_
                  refine And.intro (step_call2 EAdd.out rfl (.inr ⟨26, false, _, rfl, rfl, by kernel_rfl, fun _ _ h => h⟩) (Arg.tmp (j := 27) (by kernel_rfl) rfl) (Arg.tmp (j := 28) (by kernel_rfl) rfl) (fun u v w _ h1 h2 => Add_any _ _ u v w (len_le (by decide) HX.out) (len_le (by decide) HZ.out) h1 h2)) ?_
                  refine And.intro (step_load (b := q) rfl (.inr ⟨26, false, _, rfl, rfl, by kernel_rfl, fun _ _ h => h⟩) (Arg.old (by kernel_rfl)) (fun _ h => ⟨h.2.2.1, h.2.2.2.1⟩) (fun _ h => h.2.2.2.2.2.2.2.1)) ?_
                  refine And.intro (step_load (b := r) rfl (.inr ⟨26, false, _, rfl, rfl, by kernel_rfl, fun _ _ h => h⟩) (Arg.old (by kernel_rfl)) (fun _ h => ⟨h.2.2.2.2.1, h.2.2.2.2.2.1⟩) (fun _ h => h.2.2.2.2.2.2.2.2.1)) ?_
                  refine And.intro (step_call2 EAdd.out rfl (.inr ⟨26, false, _, rfl, rfl, by kernel_rfl, fun _ _ h => h⟩) (Arg.tmp (j := 30) (by kernel_rfl) rfl) (Arg.tmp (j := 31) (by kernel_rfl) rfl) (fun u v w _ h1 h2 => Add_any _ _ u v w (len_le (by decide) HY.out) (len_le (by decide) HZ.out) h1 h2)) ?_
                  refine And.intro (step_call2 ECmp.out rfl (.inr ⟨26, false, _, rfl, rfl, by kernel_rfl, fun _ _ h => h⟩) (Arg.tmp (j := 29) (by kernel_rfl) rfl) (Arg.tmp (j := 32) (by kernel_rfl) rfl) (fun u v w _ h1 h2 => (Cmp_any _ _ u v w h1 h2).mono fun e w' h => ⟨_, h.1, rfl, h.2⟩)) ?_
                  refine And.intro (step_load (b := p) rfl (.inr ⟨26, false, _, rfl, rfl, by kernel_rfl, fun _ _ h => h⟩) (Arg.old (by kernel_rfl)) (fun _ h => ⟨h.1, h.2.1⟩) (fun _ h => h.2.2.2.2.2.2.1)) ?_
                  refine And.intro (step_load (b := q) rfl (.inr ⟨26, false, _, rfl, rfl, by kernel_rfl, fun _ _ h => h⟩) (Arg.old (by kernel_rfl)) (fun _ h => ⟨h.2.2.1, h.2.2.2.1⟩) (fun _ h => h.2.2.2.2.2.2.2.1)) ?_
                  refine And.intro (step_call2 ECmp.out rfl (.inr ⟨26, false, _, rfl, rfl, by kernel_rfl, fun _ _ h => h⟩) (Arg.tmp (j := 34) (by kernel_rfl) rfl) (Arg.tmp (j := 35) (by kernel_rfl) rfl) (fun u v w _ h1 h2 => (Cmp_any _ _ u v w h1 h2).mono fun e w' h => ⟨_, h.1, rfl, h.2⟩)) ?_
                  refine And.intro (step_neq (b := false) hc2 rfl (.inr ⟨26, false, _, rfl, rfl, by kernel_rfl, fun _ _ h => h⟩) (Arg.tmp (j := 33) (by kernel_rfl) rfl) (fun _ _ h => h) (Arg.tmp (j := 36) (by kernel_rfl) rfl) (fun _ _ h => h) (fun _ => rfl)) ?_
                  refine And.intro (step_pickF rfl (.inl rfl) (Arg.tmp (j := 26) (by kernel_rfl) rfl) (fun _ _ h => h) (Arg.tmp (j := 37) (by kernel_rfl) rfl) (fun _ _ h => h)) ?_
                  refine And.intro (step_move rfl (.inl rfl) (Arg.tmp (j := 38) (by kernel_rfl) rfl) (fun _ _ h => h)) ?_
                  refine And.intro (step_load (b := r) rfl (.inr ⟨39, false, _, rfl, rfl, by kernel_rfl, fun _ _ h => h⟩) (Arg.old (by kernel_rfl)) (fun _ h => ⟨h.2.2.2.2.1, h.2.2.2.2.2.1⟩) (fun _ h => h.2.2.2.2.2.2.2.2.1)) ?_
                  refine And.intro (step_call1 ESign.out rfl (.inr ⟨39, false, _, rfl, rfl, by kernel_rfl, fun _ _ h => h⟩) (Arg.tmp (j := 40) (by kernel_rfl) rfl) (fun u w _ h1 => (sign_any _ u w (len_le (by decide) HZ.out) h1).mono fun e w' h => ⟨_, h.1, rfl, h.2⟩)) ?_
                  refine And.intro (step_gtr (b := true) hB3 rfl (.inr ⟨39, false, _, rfl, rfl, by kernel_rfl, fun _ _ h => h⟩) (Arg.tmp (j := 41) (by kernel_rfl) rfl) (fun _ _ h => h) (Arg.const _) (fun _ _ h => h) (fun _ => rfl)) ?_
                  refine And.intro (step_move rfl (.inr ⟨39, false, _, rfl, rfl, by kernel_rfl, fun _ _ h => h⟩) (Arg.tmp (j := 42) (by kernel_rfl) rfl) (fun _ _ h => h)) ?_
                  refine And.intro (step_load (b := p) rfl (.inr ⟨43, true, _, rfl, rfl, by kernel_rfl, fun _ _ h => h⟩) (Arg.old (by kernel_rfl)) (fun _ h => ⟨h.1, h.2.1⟩) (fun _ h => h.2.2.2.2.2.2.1)) ?_
                  refine And.intro (step_load (b := r) rfl (.inr ⟨43, true, _, rfl, rfl, by kernel_rfl, fun _ _ h => h⟩) (Arg.old (by kernel_rfl)) (fun _ h => ⟨h.2.2.2.2.1, h.2.2.2.2.2.1⟩) (fun _ h => h.2.2.2.2.2.2.2.2.1)) ?_
                  refine And.intro (step_call2 EMul.out rfl (.inr ⟨43, true, _, rfl, rfl, by kernel_rfl, fun _ _ h => h⟩) (Arg.tmp (j := 44) (by kernel_rfl) rfl) (Arg.tmp (j := 45) (by kernel_rfl) rfl) (fun u v w _ h1 h2 => Mul_any _ _ u v w (len_le (by decide) HX.out) (len_le (by decide) HZ.out) h1 h2)) ?_
                  refine And.intro (step_load (b := q) rfl (.inr ⟨43, true, _, rfl, rfl, by kernel_rfl, fun _ _ h => h⟩) (Arg.old (by kernel_rfl)) (fun _ h => ⟨h.2.2.1, h.2.2.2.1⟩) (fun _ h => h.2.2.2.2.2.2.2.1)) ?_
                  refine And.intro (step_load (b := r) rfl (.inr ⟨43, true, _, rfl, rfl, by kernel_rfl, fun _ _ h => h⟩) (Arg.old (by kernel_rfl)) (fun _ h => ⟨h.2.2.2.2.1, h.2.2.2.2.2.1⟩) (fun _ h => h.2.2.2.2.2.2.2.2.1)) ?_
                  refine And.intro (step_call2 EMul.out rfl (.inr ⟨43, true, _, rfl, rfl, by kernel_rfl, fun _ _ h => h⟩) (Arg.tmp (j := 47) (by kernel_rfl) rfl) (Arg.tmp (j := 48) (by kernel_rfl) rfl) (fun u v w _ h1 h2 => Mul_any _ _ u v w (len_le (by decide) HY.out) (len_le (by decide) HZ.out) h1 h2)) ?_
                  refine And.intro (step_call2 ECmp.out rfl (.inr ⟨43, true, _, rfl, rfl, by kernel_rfl, fun _ _ h => h⟩) (Arg.tmp (j := 46) (by kernel_rfl) rfl) (Arg.tmp (j := 49) (by kernel_rfl) rfl) (fun u v w _ h1 h2 => (Cmp_any _ _ u v w h1 h2).mono fun e w' h => ⟨_, h.1, rfl, h.2⟩)) ?_
                  refine And.intro (step_load (b := p) rfl (.inr ⟨43, true, _, rfl, rfl, by kernel_rfl, fun _ _ h => h⟩) (Arg.old (by kernel_rfl)) (fun _ h => ⟨h.1, h.2.1⟩) (fun _ h => h.2.2.2.2.2.2.1)) ?_
                  refine And.intro (step_load (b := q) rfl (.inr ⟨43, true, _, rfl, rfl, by kernel_rfl, fun _ _ h => h⟩) (Arg.old (by kernel_rfl)) (fun _ h => ⟨h.2.2.1, h.2.2.2.1⟩) (fun _ h => h.2.2.2.2.2.2.2.1)) ?_
                  refine And.intro (step_call2 ECmp.out rfl (.inr ⟨43, true, _, rfl, rfl, by kernel_rfl, fun _ _ h => h⟩) (Arg.tmp (j := 51) (by kernel_rfl) rfl) (Arg.tmp (j := 52) (by kernel_rfl) rfl) (fun u v w _ h1 h2 => (Cmp_any _ _ u v w h1 h2).mono fun e w' h => ⟨_, h.1, rfl, h.2⟩)) ?_
                  refine And.intro (step_neq (b := false) hc3 rfl (.inr ⟨43, true, _, rfl, rfl, by kernel_rfl, fun _ _ h => h⟩) (Arg.tmp (j := 50) (by kernel_rfl) rfl) (fun _ _ h => h) (Arg.tmp (j := 53) (by kernel_rfl) rfl) (fun _ _ h => h) (fun _ => rfl)) ?_
                  refine And.intro (step_pickT rfl (.inr ⟨39, false, _, rfl, rfl, by kernel_rfl, fun _ _ h => h⟩) (Arg.tmp (j := 43) (by kernel_rfl) rfl) (fun _ _ h => h) (Arg.tmp (j := 54) (by kernel_rfl) rfl) (fun _ _ h => h)) ?_
                  refine And.intro (step_pickF rfl (.inl rfl) (Arg.tmp (j := 39) (by kernel_rfl) rfl) (fun _ _ h => h) (Arg.tmp (j := 55) (by kernel_rfl) rfl) (fun _ _ h => h)) ?_
                  trivial
                · intro v9 wv9 hk hs
                  have hv : v9 56 = .bool false := hk 56 _ rfl
                  have HXS := Lib.hid hs
                  clear hk hs
                  simp only [putV, Act.put, List.setIfInBounds_toArray, List.set_cons_zero, List.set_cons_succ, Nat.reduceAdd, hv]
                  clear hv
                  go_wp2_with fail
                  first
                    | (refine (awake_any _).mono ?_
                       rintro e w9 ⟨rfl, hb9⟩
                       go_wp2
                       go_ret
                       exact ⟨rfl, HXS.out.2.2.2.2.2.2.2.2.2.trans (hb9.mono HXS.out.2.2.2.2.2.2.2.2.2.size)⟩)
                    | (refine wp_call0 EAwake.out (by rfl) _ (awake_any _) ?_
                       rintro e w9 ⟨rfl, hb9⟩
                       refine ⟨_, rfl, ?_⟩
                       simp only [Act.put, List.setIfInBounds_toArray, List.set_cons_zero, List.set_cons_succ]
                       go_wp2
                       go_ret
                       exact ⟨rfl, HXS.out.2.2.2.2.2.2.2.2.2.trans (hb9.mono HXS.out.2.2.2.2.2.2.2.2.2.size)⟩)
              · have hB3 := (decide_eq_false h3).symm
                go_upto_region 9 with fail
                refine wp_region_facts (falF (Fa.z (x) :: Fa.z (y) :: Fa.v (.int .i64 (cmpZ x y)) :: Fa.z (y) :: Fa.z (x) :: Fa.v (.int .i64 (cmpZ y x)) :: Fa.v (.int .i64 (-(cmpZ y x))) :: Fa.v (.bool false) :: Fa.v (.bool false) :: Fa.z (x) :: Fa.z (y) :: Fa.v (.int .i64 (cmpZ x y)) :: Fa.v (.bool true) :: Fa.v (.bool true) :: Fa.z (y) :: Fa.z (z) :: Fa.v (.int .i64 (cmpZ y z)) :: Fa.v (.bool false) :: Fa.v (.bool false) :: Fa.v (.bool false) :: Fa.v undef :: Fa.v undef :: Fa.v undef :: Fa.v undef :: Fa.v (.bool false) :: Fa.v (.bool false) :: Fa.v (.bool false) :: Fa.z (x) :: Fa.z (z) :: Fa.z (x + z) :: Fa.z (y) :: Fa.z (z) :: Fa.z (y + z) :: Fa.v (.int .i64 (cmpZ (x + z) (y + z))) :: Fa.z (x) :: Fa.z (y) :: Fa.v (.int .i64 (cmpZ x y)) :: Fa.v (.bool false) :: Fa.v (.bool false) :: Fa.v (.bool false) :: Fa.z (z) :: Fa.v (.int .i64 (sgnZ z)) :: Fa.v (.bool false) :: Fa.v (.bool false) :: Fa.v undef :: Fa.v undef :: Fa.v undef :: Fa.v undef :: Fa.v undef :: Fa.v undef :: Fa.v undef :: Fa.v undef :: Fa.v undef :: Fa.v undef :: Fa.v undef :: Fa.v (.bool false) :: Fa.v (.bool false) :: [])) (XS w p q r (.bool (decide (x < 0))) (.slice d1 n1 e1) (.bool (decide (y < 0))) (.slice d2 n2 e2) (.bool (decide (z < 0))) (.slice d3 n3 e3) x y z) (by kernel_rfl) (by kernel_rfl) (falF_mono _) (fun _ _ h hb => h.keep hb) (HXS.out.keep ((Below.refl _ _).drew)) ?_ (some 110 :: some 111 :: some 112 :: some 113 :: some 114 :: some 115 :: some 116 :: some 117 :: some 118 :: some 119 :: some 120 :: some 121 :: some 122 :: some 123 :: some 124 :: some 125 :: some 126 :: some 127 :: some 128 :: some 129 :: some 130 :: some 131 :: some 132 :: some 133 :: some 134 :: some 135 :: some 136 :: some 137 :: some 138 :: some 139 :: some 140 :: some 141 :: some 142 :: some 143 :: some 144 :: some 145 :: some 146 :: some 147 :: some 148 :: some 149 :: some 150 :: some 151 :: some 152 :: some 153 :: some 154 :: some 155 :: some 156 :: some 157 :: some 158 :: some 159 :: some 160 :: some 161 :: some 162 :: some 163 :: some 164 :: some 165 :: some 166 :: []) (by rfl) ?_
                · refine And.intro (step_load (b := p) rfl (.inl rfl) (Arg.old (by kernel_rfl)) (fun _ h => ⟨h.1, h.2.1⟩) (fun _ h => h.2.2.2.2.2.2.1)) ?_
                  refine And.intro (step_load (b := q) rfl (.inl rfl) (Arg.old (by kernel_rfl)) (fun _ h => ⟨h.2.2.1, h.2.2.2.1⟩) (fun _ h => h.2.2.2.2.2.2.2.1)) ?_
                  refine And.intro (step_call2 ECmp.out rfl (.inl rfl) (Arg.tmp (j := 0) (by kernel_rfl) rfl) (Arg.tmp (j := 1) (by kernel_rfl) rfl) (fun u v w _ h1 h2 => (Cmp_any _ _ u v w h1 h2).mono fun e w' h => ⟨_, h.1, rfl, h.2⟩)) ?_
                  refine And.intro (step_load (b := q) rfl (.inl rfl) (Arg.old (by kernel_rfl)) (fun _ h => ⟨h.2.2.1, h.2.2.2.1⟩) (fun _ h => h.2.2.2.2.2.2.2.1)) ?_
                  refine And.intro (step_load (b := p) rfl (.inl rfl) (Arg.old (by kernel_rfl)) (fun _ h => ⟨h.1, h.2.1⟩) (fun _ h => h.2.2.2.2.2.2.1)) ?_
                  refine And.intro (step_call2 ECmp.out rfl (.inl rfl) (Arg.tmp (j := 3) (by kernel_rfl) rfl) (Arg.tmp (j := 4) (by kernel_rfl) rfl) (fun u v w _ h1 h2 => (Cmp_any _ _ u v w h1 h2).mono fun e w' h => ⟨_, h.1, rfl, h.2⟩)) ?_
                  refine And.intro (step_neg (cmpZ_rng _ _) rfl (.inl rfl) (Arg.tmp (j := 5) (by kernel_rfl) rfl) (fun _ _ h => h) (fun _ => rfl)) ?_
                  refine And.intro (step_neq (b := false) hc1 rfl (.inl rfl) (Arg.tmp (j := 2) (by kernel_rfl) rfl) (fun _ _ h => h) (Arg.tmp (j := 6) (by kernel_rfl) rfl) (fun _ _ h => h) (fun _ => rfl)) ?_
                  refine And.intro (step_move rfl (.inl rfl) (Arg.tmp (j := 7) (by kernel_rfl) rfl) (fun _ _ h => h)) ?_
                  refine And.intro (step_load (b := p) rfl (.inr ⟨8, false, _, rfl, rfl, by kernel_rfl, fun _ _ h => h⟩) (Arg.old (by kernel_rfl)) (fun _ h => ⟨h.1, h.2.1⟩) (fun _ h => h.2.2.2.2.2.2.1)) ?_
                  refine And.intro (step_load (b := q) rfl (.inr ⟨8, false, _, rfl, rfl, by kernel_rfl, fun _ _ h => h⟩) (Arg.old (by kernel_rfl)) (fun _ h => ⟨h.2.2.1, h.2.2.2.1⟩) (fun _ h => h.2.2.2.2.2.2.2.1)) ?_
                  refine And.intro (step_call2 ECmp.out rfl (.inr ⟨8, false, _, rfl, rfl, by kernel_rfl, fun _ _ h => h⟩) (Arg.tmp (j := 9) (by kernel_rfl) rfl) (Arg.tmp (j := 10) (by kernel_rfl) rfl) (fun u v w _ h1 h2 => (Cmp_any _ _ u v w h1 h2).mono fun e w' h => ⟨_, h.1, rfl, h.2⟩)) ?_
                  refine And.intro (step_leq (b := true) hB1 rfl (.inr ⟨8, false, _, rfl, rfl, by kernel_rfl, fun _ _ h => h⟩) (Arg.tmp (j := 11) (by kernel_rfl) rfl) (fun _ _ h => h) (Arg.const _) (fun _ _ h => h) (fun _ => rfl)) ?_
                  refine And.intro (step_move rfl (.inr ⟨8, false, _, rfl, rfl, by kernel_rfl, fun _ _ h => h⟩) (Arg.tmp (j := 12) (by kernel_rfl) rfl) (fun _ _ h => h)) ?_
                  refine And.intro (step_load (b := q) rfl (.inr ⟨13, true, _, rfl, rfl, by kernel_rfl, fun _ _ h => h⟩) (Arg.old (by kernel_rfl)) (fun _ h => ⟨h.2.2.1, h.2.2.2.1⟩) (fun _ h => h.2.2.2.2.2.2.2.1)) ?_
                  refine And.intro (step_load (b := r) rfl (.inr ⟨13, true, _, rfl, rfl, by kernel_rfl, fun _ _ h => h⟩) (Arg.old (by kernel_rfl)) (fun _ h => ⟨h.2.2.2.2.1, h.2.2.2.2.2.1⟩) (fun _ h => h.2.2.2.2.2.2.2.2.1)) ?_
                  refine And.intro (step_call2 ECmp.out rfl (.inr ⟨13, true, _, rfl, rfl, by kernel_rfl, fun _ _ h => h⟩) (Arg.tmp (j := 14) (by kernel_rfl) rfl) (Arg.tmp (j := 15) (by kernel_rfl) rfl) (fun u v w _ h1 h2 => (Cmp_any _ _ u v w h1 h2).mono fun e w' h => ⟨_, h.1, rfl, h.2⟩)) ?_
                  refine And.intro (step_leq (b := false) hB2 rfl (.inr ⟨13, true, _, rfl, rfl, by kernel_rfl, fun _ _ h => h⟩) (Arg.tmp (j := 16) (by kernel_rfl) rfl) (fun _ _ h => h) (Arg.const _) (fun _ _ h => h) (fun _ => rfl)) ?_
                  refine And.intro (step_pickT rfl (.inr ⟨8, false, _, rfl, rfl, by kernel_rfl, fun _ _ h => h⟩) (Arg.tmp (j := 13) (by kernel_rfl) rfl) (fun _ _ h => h) (Arg.tmp (j := 17) (by kernel_rfl) rfl) (fun _ _ h => h)) ?_
                  refine And.intro (step_move rfl (.inr ⟨8, false, _, rfl, rfl, by kernel_rfl, fun _ _ h => h⟩) (Arg.tmp (j := 18) (by kernel_rfl) rfl) (fun _ _ h => h)) ?_
                  refine And.intro (step_un (g := 19) rfl rfl (by kernel_rfl) (fun _ _ h => h) (fun _ => rfl)) ?_
                  refine And.intro (step_un (g := 19) rfl rfl (by kernel_rfl) (fun _ _ h => h) (fun _ => rfl)) ?_
                  refine And.intro (step_un (g := 19) rfl rfl (by kernel_rfl) (fun _ _ h => h) (fun _ => rfl)) ?_
                  refine And.intro (step_un (g := 19) rfl rfl (by kernel_rfl) (fun _ _ h => h) (fun _ => rfl)) ?_
                  refine And.intro (step_pickF rfl (.inr ⟨8, false, _, rfl, rfl, by kernel_rfl, fun _ _ h => h⟩) (Arg.tmp (j := 19) (by kernel_rfl) rfl) (fun _ _ h => h) (Arg.const _) (fun _ _ h => h)) ?_
                  refine And.intro (step_pickF rfl (.inl rfl) (Arg.tmp (j := 8) (by kernel_rfl) rfl) (fun _ _ h => h) (Arg.tmp (j := 24) (by kernel_rfl) rfl) (fun _ _ h => h)) ?_
                  refine And.intro (step_move rfl (.inl rfl) (Arg.tmp (j := 25) (by kernel_rfl) rfl) (fun _ _ h => h)) ?_
                  refine And.intro (step_load (b := p) rfl (.inr ⟨26, false, _, rfl, rfl, by kernel_rfl, fun _ _ h => h⟩) (Arg.old (by kernel_rfl)) (fun _ h => ⟨h.1, h.2.1⟩) (fun _ h => h.2.2.2.2.2.2.1)) ?_
                  refine And.intro (step_load (b := r) rfl (.inr ⟨26, false, _, rfl, rfl, by kernel_rfl, fun _ _ h => h⟩) (Arg.old (by kernel_rfl)) (fun _ h => ⟨h.2.2.2.2.1, h.2.2.2.2.2.1⟩) (fun _ h => h.2.2.2.2.2.2.2.2.1)) ?_
                  refine And.intro (step_call2 EAdd.out rfl (.inr ⟨26, false, _, rfl, rfl, by kernel_rfl, fun _ _ h => h⟩) (Arg.tmp (j := 27) (by kernel_rfl) rfl) (Arg.tmp (j := 28) (by kernel_rfl) rfl) (fun u v w _ h1 h2 => Add_any _ _ u v w (len_le (by decide) HX.out) (len_le (by decide) HZ.out) h1 h2)) ?_
                  refine And.intro (step_load (b := q) rfl (.inr ⟨26, false, _, rfl, rfl, by kernel_rfl, fun _ _ h => h⟩) (Arg.old (by kernel_rfl)) (fun _ h => ⟨h.2.2.1, h.2.2.2.1⟩) (fun _ h => h.2.2.2.2.2.2.2.1)) ?_
                  refine And.intro (step_load (b := r) rfl (.inr ⟨26, false, _, rfl, rfl, by kernel_rfl, fun _ _ h => h⟩) (Arg.old (by kernel_rfl)) (fun _ h => ⟨h.2.2.2.2.1, h.2.2.2.2.2.1⟩) (fun _ h => h.2.2.2.2.2.2.2.2.1)) ?_
                  refine And.intro (step_call2 EAdd.out rfl (.inr ⟨26, false, _, rfl, rfl, by kernel_rfl, fun _ _ h => h⟩) (Arg.tmp (j := 30) (by kernel_rfl) rfl) (Arg.tmp (j := 31) (by kernel_rfl) rfl) (fun u v w _ h1 h2 => Add_any _ _ u v w (len_le (by decide) HY.out) (len_le (by decide) HZ.out) h1 h2)) ?_
                  refine And.intro (step_call2 ECmp.out rfl (.inr ⟨26, false, _, rfl, rfl, by kernel_rfl, fun _ _ h => h⟩) (Arg.tmp (j := 29) (by kernel_rfl) rfl) (Arg.tmp (j := 32) (by kernel_rfl) rfl) (fun u v w _ h1 h2 => (Cmp_any _ _ u v w h1 h2).mono fun e w' h => ⟨_, h.1, rfl, h.2⟩)) ?_
                  refine And.intro (step_load (b := p) rfl (.inr ⟨26, false, _, rfl, rfl, by kernel_rfl, fun _ _ h => h⟩) (Arg.old (by kernel_rfl)) (fun _ h => ⟨h.1, h.2.1⟩) (fun _ h => h.2.2.2.2.2.2.1)) ?_
                  refine And.intro (step_load (b := q) rfl (.inr ⟨26, false, _, rfl, rfl, by kernel_rfl, fun _ _ h => h⟩) (Arg.old (by kernel_rfl)) (fun _ h => ⟨h.2.2.1, h.2.2.2.1⟩) (fun _ h => h.2.2.2.2.2.2.2.1)) ?_
                  refine And.intro (step_call2 ECmp.out rfl (.inr ⟨26, false, _, rfl, rfl, by kernel_rfl, fun _ _ h => h⟩) (Arg.tmp (j := 34) (by kernel_rfl) rfl) (Arg.tmp (j := 35) (by kernel_rfl) rfl) (fun u v w _ h1 h2 => (Cmp_any _ _ u v w h1 h2).mono fun e w' h => ⟨_, h.1, rfl, h.2⟩)) ?_
                  refine And.intro (step_neq (b := false) hc2 rfl (.inr ⟨26, false, _, rfl, rfl, by kernel_rfl, fun _ _ h => h⟩) (Arg.tmp (j := 33) (by kernel_rfl) rfl) (fun _ _ h => h) (Arg.tmp (j := 36) (by kernel_rfl) rfl) (fun _ _ h => h) (fun _ => rfl)) ?_
                  refine And.intro (step_pickF rfl (.inl rfl) (Arg.tmp (j := 26) (by kernel_rfl) rfl) (fun _ _ h => h) (Arg.tmp (j := 37) (by kernel_rfl) rfl) (fun _ _ h => h)) ?_
                  refine And.intro (step_move rfl (.inl rfl) (Arg.tmp (j := 38) (by kernel_rfl) rfl) (fun _ _ h => h)) ?_
                  refine And.intro (step_load (b := r) rfl (.inr ⟨39, false, _, rfl, rfl, by kernel_rfl, fun _ _ h => h⟩) (Arg.old (by kernel_rfl)) (fun _ h => ⟨h.2.2.2.2.1, h.2.2.2.2.2.1⟩) (fun _ h => h.2.2.2.2.2.2.2.2.1)) ?_
                  refine And.intro (step_call1 ESign.out rfl (.inr ⟨39, false, _, rfl, rfl, by kernel_rfl, fun _ _ h => h⟩) (Arg.tmp (j := 40) (by kernel_rfl) rfl) (fun u w _ h1 => (sign_any _ u w (len_le (by decide) HZ.out) h1).mono fun e w' h => ⟨_, h.1, rfl, h.2⟩)) ?_
                  refine And.intro (step_gtr (b := false) hB3 rfl (.inr ⟨39, false, _, rfl, rfl, by kernel_rfl, fun _ _ h => h⟩) (Arg.tmp (j := 41) (by kernel_rfl) rfl) (fun _ _ h => h) (Arg.const _) (fun _ _ h => h) (fun _ => rfl)) ?_
                  refine And.intro (step_move rfl (.inr ⟨39, false, _, rfl, rfl, by kernel_rfl, fun _ _ h => h⟩) (Arg.tmp (j := 42) (by kernel_rfl) rfl) (fun _ _ h => h)) ?_
                  refine And.intro (step_un (g := 43) rfl rfl (by kernel_rfl) (fun _ _ h => h) (fun _ => rfl)) ?_
                  refine And.intro (step_un (g := 43) rfl rfl (by kernel_rfl) (fun _ _ h => h) (fun _ => rfl)) ?_
                  refine And.intro (step_un (g := 43) rfl rfl (by kernel_rfl) (fun _ _ h => h) (fun _ => rfl)) ?_
                  refine And.intro (step_un (g := 43) rfl rfl (by kernel_rfl) (fun _ _ h => h) (fun _ => rfl)) ?_
                  refine And.intro (step_un (g := 43) rfl rfl (by kernel_rfl) (fun _ _ h => h) (fun _ => rfl)) ?_
                  refine And.intro (step_un (g := 43) rfl rfl (by kernel_rfl) (fun _ _ h => h) (fun _ => rfl)) ?_
                  refine And.intro (step_un (g := 43) rfl rfl (by kernel_rfl) (fun _ _ h => h) (fun _ => rfl)) ?_
                  refine And.intro (step_un (g := 43) rfl rfl (by kernel_rfl) (fun _ _ h => h) (fun _ => rfl)) ?_
                  refine And.intro (step_un (g := 43) rfl rfl (by kernel_rfl) (fun _ _ h => h) (fun _ => rfl)) ?_
                  refine And.intro (step_un (g := 43) rfl rfl (by kernel_rfl) (fun _ _ h => h) (fun _ => rfl)) ?_
                  refine And.intro (step_un (g := 43) rfl rfl (by kernel_rfl) (fun _ _ h => h) (fun _ => rfl)) ?_
                  refine And.intro (step_pickF rfl (.inr ⟨39, false, _, rfl, rfl, by kernel_rfl, fun _ _ h => h⟩) (Arg.tmp (j := 43) (by kernel_rfl) rfl) (fun _ _ h => h) (Arg.const _) (fun _ _ h => h)) ?_
                  refine And.intro (step_pickF rfl (.inl rfl) (Arg.tmp (j := 39) (by kernel_rfl) rfl) (fun _ _ h => h) (Arg.tmp (j := 55) (by kernel_rfl) rfl) (fun _ _ h => h)) ?_
                  trivial
                · intro v9 wv9 hk hs
                  have hv : v9 56 = .bool false := hk 56 _ rfl
                  have HXS := Lib.hid hs
                  clear hk hs
                  simp only [putV, Act.put, List.setIfInBounds_toArray, List.set_cons_zero, List.set_cons_succ, Nat.reduceAdd, hv]
                  clear hv
                  go_wp2_with fail
                  first
                    | (refine (awake_any _).mono ?_
                       rintro e w9 ⟨rfl, hb9⟩
                       go_wp2
                       go_ret
                       exact ⟨rfl, HXS.out.2.2.2.2.2.2.2.2.2.trans (hb9.mono HXS.out.2.2.2.2.2.2.2.2.2.size)⟩)
                    | (refine wp_call0 EAwake.out (by rfl) _ (awake_any _) ?_
                       rintro e w9 ⟨rfl, hb9⟩
                       refine ⟨_, rfl, ?_⟩
                       simp only [Act.put, List.setIfInBounds_toArray, List.set_cons_zero, List.set_cons_succ]
                       go_wp2
                       go_ret
                       exact ⟨rfl, HXS.out.2.2.2.2.2.2.2.2.2.trans (hb9.mono HXS.out.2.2.2.2.2.2.2.2.2.size)⟩)
          · have hB1 := (decide_eq_false h1).symm
            by_cases h3 : sgnZ z > 0
            · have hB3 := (decide_eq_true h3).symm
              have hc3 := neqF (cmpZ_mul x y z h3)
              go_upto_region 9 with fail
              refine wp_region_facts (falF (Fa.z (x) :: Fa.z (y) :: Fa.v (.int .i64 (cmpZ x y)) :: Fa.z (y) :: Fa.z (x) :: Fa.v (.int .i64 (cmpZ y x)) :: Fa.v (.int .i64 (-(cmpZ y x))) :: Fa.v (.bool false) :: Fa.v (.bool false) :: Fa.z (x) :: Fa.z (y) :: Fa.v (.int .i64 (cmpZ x y)) :: Fa.v (.bool false) :: Fa.v (.bool false) :: Fa.v undef :: Fa.v undef :: Fa.v undef :: Fa.v undef :: Fa.v (.bool false) :: Fa.v (.bool false) :: Fa.v undef :: Fa.v undef :: Fa.v undef :: Fa.v undef :: Fa.v (.bool false) :: Fa.v (.bool false) :: Fa.v (.bool false) :: Fa.z (x) :: Fa.z (z) :: Fa.z (x + z) :: Fa.z (y) :: Fa.z (z) :: Fa.z (y + z) :: Fa.v (.int .i64 (cmpZ (x + z) (y + z))) :: Fa.z (x) :: Fa.z (y) :: Fa.v (.int .i64 (cmpZ x y)) :: Fa.v (.bool false) :: Fa.v (.bool false) :: Fa.v (.bool false) :: Fa.z (z) :: Fa.v (.int .i64 (sgnZ z)) :: Fa.v (.bool true) :: Fa.v (.bool true) :: Fa.z (x) :: Fa.z (z) :: Fa.z (x * z) :: Fa.z (y) :: Fa.z (z) :: Fa.z (y * z) :: Fa.v (.int .i64 (cmpZ (x * z) (y * z))) :: Fa.z (x) :: Fa.z (y) :: Fa.v (.int .i64 (cmpZ x y)) :: Fa.v (.bool false) :: Fa.v (.bool false) :: Fa.v (.bool false) :: [])) (XS w p q r (.bool (decide (x < 0))) (.slice d1 n1 e1) (.bool (decide (y < 0))) (.slice d2 n2 e2) (.bool (decide (z < 0))) (.slice d3 n3 e3) x y z) (by kernel_rfl) (by kernel_rfl) (falF_mono _) (fun _ _ h hb => h.keep hb) (HXS.out.keep ((Below.refl _ _).drew)) ?_ (some 110 :: some 111 :: some 112 :: some 113 :: some 114 :: some 115 :: some 116 :: some 117 :: some 118 :: some 119 :: some 120 :: some 121 :: some 122 :: some 123 :: some 124 :: some 125 :: some 126 :: some 127 :: some 128 :: some 129 :: some 130 :: some 131 :: some 132 :: some 133 :: some 134 :: some 135 :: some 136 :: some 137 :: some 138 :: some 139 :: some 140 :: some 141 :: some 142 :: some 143 :: some 144 :: some 145 :: some 146 :: some 147 :: some 148 :: some 149 :: some 150 :: some 151 :: some 152 :: some 153 :: some 154 :: some 155 :: some 156 :: some 157 :: some 158 :: some 159 :: some 160 :: some 161 :: some 162 :: some 163 :: some 164 :: some 165 :: some 166 :: []) (by rfl) ?_
              · refine And.intro (step_load (b := p) rfl (.inl rfl) (Arg.old (by kernel_rfl)) (fun _ h => ⟨h.1, h.2.1⟩) (fun _ h => h.2.2.2.2.2.2.1)) ?_
                refine And.intro (step_load (b := q) rfl (.inl rfl) (Arg.old (by kernel_rfl)) (fun _ h => ⟨h.2.2.1, h.2.2.2.1⟩) (fun _ h => h.2.2.2.2.2.2.2.1)) ?_
                refine And.intro (step_call2 ECmp.out rfl (.inl rfl) (Arg.tmp (j := 0) (by kernel_rfl) rfl) (Arg.tmp (j := 1) (by kernel_rfl) rfl) (fun u v w _ h1 h2 => (Cmp_any _ _ u v w h1 h2).mono fun e w' h => ⟨_, h.1, rfl, h.2⟩)) ?_
                refine And.intro (step_load (b := q) rfl (.inl rfl) (Arg.old (by kernel_rfl)) (fun _ h => ⟨h.2.2.1, h.2.2.2.1⟩) (fun _ h => h.2.2.2.2.2.2.2.1)) ?_
                refine And.intro (step_load (b := p) rfl (.inl rfl) (Arg.old (by kernel_rfl)) (fun _ h => ⟨h.1, h.2.1⟩) (fun _ h => h.2.2.2.2.2.2.1)) ?_
                refine And.intro (step_call2 ECmp.out rfl (.inl rfl) (Arg.tmp (j := 3) (by kernel_rfl) rfl) (Arg.tmp (j := 4) (by kernel_rfl) rfl) (fun u v w _ h1 h2 => (Cmp_any _ _ u v w h1 h2).mono fun e w' h => ⟨_, h.1, rfl, h.2⟩)) ?_
                refine And.intro (step_neg (cmpZ_rng _ _) rfl (.inl rfl) (Arg.tmp (j := 5) (by kernel_rfl) rfl) (fun _ _ h => h) (fun _ => rfl)) ?_
                refine And.intro (step_neq (b := false) hc1 rfl (.inl rfl) (Arg.tmp (j := 2) (by kernel_rfl) rfl) (fun _ _ h => h) (Arg.tmp (j := 6) (by kernel_rfl) rfl) (fun _ _ h => h) (fun _ => rfl)) ?_
                refine And.intro (step_move rfl (.inl rfl) (Arg.tmp (j := 7) (by kernel_rfl) rfl) (fun _ _ h => h)) ?_
                refine And.intro (step_load (b := p) rfl (.inr ⟨8, false, _, rfl, rfl, by kernel_rfl, fun _ _ h => h⟩) (Arg.old (by kernel_rfl)) (fun _ h => ⟨h.1, h.2.1⟩) (fun _ h => h.2.2.2.2.2.2.1)) ?_
                refine And.intro (step_load (b := q) rfl (.inr ⟨8, false, _, rfl, rfl, by kernel_rfl, fun _ _ h => h⟩) (Arg.old (by kernel_rfl)) (fun _ h => ⟨h.2.2.1, h.2.2.2.1⟩) (fun _ h => h.2.2.2.2.2.2.2.1)) ?_
                refine And.intro (step_call2 ECmp.out rfl (.inr ⟨8, false, _, rfl, rfl, by kernel_rfl, fun _ _ h => h⟩) (Arg.tmp (j := 9) (by kernel_rfl) rfl) (Arg.tmp (j := 10) (by kernel_rfl) rfl) (fun u v w _ h1 h2 => (Cmp_any _ _ u v w h1 h2).mono fun e w' h => ⟨_, h.1, rfl, h.2⟩)) ?_
                refine And.intro (step_leq (b := false) hB1 rfl (.inr ⟨8, false, _, rfl, rfl, by kernel_rfl, fun _ _ h => h⟩) (Arg.tmp (j := 11) (by kernel_rfl) rfl) (fun _ _ h => h) (Arg.const _) (fun _ _ h => h) (fun _ => rfl)) ?_
                refine And.intro (step_move rfl (.inr ⟨8, false, _, rfl, rfl, by kernel_rfl, fun _ _ h => h⟩) (Arg.tmp (j := 12) (by kernel_rfl) rfl) (fun _ _ h => h)) ?_
                refine And.intro (step_un (g := 13) rfl rfl (by kernel_rfl) (fun _ _ h => h) (fun _ => rfl)) ?_
                refine And.intro (step_un (g := 13) rfl rfl (by kernel_rfl) (fun _ _ h => h) (fun _ => rfl)) ?_
                refine And.intro (step_un (g := 13) rfl rfl (by kernel_rfl) (fun _ _ h => h) (fun _ => rfl)) ?_
                refine And.intro (step_un (g := 13) rfl rfl (by kernel_rfl) (fun _ _ h => h) (fun _ => rfl)) ?_
                refine And.intro (step_pickF rfl (.inr ⟨8, false, _, rfl, rfl, by kernel_rfl, fun _ _ h => h⟩) (Arg.tmp (j := 13) (by kernel_rfl) rfl) (fun _ _ h => h) (Arg.const _) (fun _ _ h => h)) ?_
                refine And.intro (step_move rfl (.inr ⟨8, false, _, rfl, rfl, by kernel_rfl, fun _ _ h => h⟩) (Arg.tmp (j := 18) (by kernel_rfl) rfl) (fun _ _ h => h)) ?_
                refine And.intro (step_un (g := 19) rfl rfl (by kernel_rfl) (fun _ _ h => h) (fun _ => rfl)) ?_
                refine And.intro (step_un (g := 19) rfl rfl (by kernel_rfl) (fun _ _ h => h) (fun _ => rfl)) ?_
                refine And.intro (step_un (g := 19) rfl rfl (by kernel_rfl) (fun _ _ h => h) (fun _ => rfl)) ?_
                refine And.intro (step_un (g := 19) rfl rfl (by kernel_rfl) (fun _ _ h => h) (fun _ => rfl)) ?_
                refine And.intro (step_pickF rfl (.inr ⟨8, false, _, rfl, rfl, by kernel_rfl, fun _ _ h => h⟩) (Arg.tmp (j := 19) (by kernel_rfl) rfl) (fun _ _ h => h) (Arg.const _) (fun _ _ h => h)) ?_
                refine And.intro (step_pickF rfl (.inl rfl) (Arg.tmp (j := 8) (by kernel_rfl) rfl) (fun _ _ h => h) (Arg.tmp (j := 24) (by kernel_rfl) rfl) (fun _ _ h => h)) ?_
                refine And.intro (step_move rfl (.inl rfl) (Arg.tmp (j := 25) (by kernel_rfl) rfl) (fun _ _ h => h)) ?_
                refine And.intro (step_load (b := p) rfl (.inr ⟨26, false, _, rfl, rfl, by kernel_rfl, fun _ _ h => h⟩) (Arg.old (by kernel_rfl)) (fun _ h => ⟨h.1, h.2.1⟩) (fun _ h => h.2.2.2.2.2.2.1)) ?_
                refine And.intro (step_load (b := r) rfl (.inr ⟨26, false, _, rfl, rfl, by kernel_rfl, fun _ _ h => h⟩) (Arg.old (by kernel_rfl)) (fun _ h => ⟨h.2.2.2.2.1, h.2.2.2.2.2.1⟩) (fun _ h => h.2.2.2.2.2.2.2.2.1)) ?_
                refine And.intro (step_call2 EAdd.out rfl (.inr ⟨26, false, _, rfl, rfl, by kernel_rfl, fun _ _ h => h⟩) (Arg.tmp (j := 27) (by kernel_rfl) rfl) (Arg.tmp (j := 28) (by kernel_rfl) rfl) (fun u v w _ h1 h2 => Add_any _ _ u v w (len_le (by decide) HX.out) (len_le (by decide) HZ.out) h1 h2)) ?_
                refine And.intro (step_load (b := q) rfl (.inr ⟨26, false, _, rfl, rfl, by kernel_rfl, fun _ _ h => h⟩) (Arg.old (by kernel_rfl)) (fun _ h => ⟨h.2.2.1, h.2.2.2.1⟩) (fun _ h => h.2.2.2.2.2.2.2.1)) ?_
                refine And.intro (step_load (b := r) rfl (.inr ⟨26, false, _, rfl, rfl, by kernel_rfl, fun _ _ h => h⟩) (Arg.old (by kernel_rfl)) (fun _ h => ⟨h.2.2.2.2.1, h.2.2.2.2.2.1⟩) (fun _ h => h.2.2.2.2.2.2.2.2.1)) ?_
                refine And.intro (step_call2 EAdd.out rfl (.inr ⟨26, false, _, rfl, rfl, by kernel_rfl, fun _ _ h => h⟩) (Arg.tmp (j := 30) (by kernel_rfl) rfl) (Arg.tmp (j := 31) (by kernel_rfl) rfl) (fun u v w _ h1 h2 => Add_any _ _ u v w (len_le (by decide) HY.out) (len_le (by decide) HZ.out) h1 h2)) ?_
                refine And.intro (step_call2 ECmp.out rfl (.inr ⟨26, false, _, rfl, rfl, by kernel_rfl, fun _ _ h => h⟩) (Arg.tmp (j := 29) (by kernel_rfl) rfl) (Arg.tmp (j := 32) (by kernel_rfl) rfl) (fun u v w _ h1 h2 => (Cmp_any _ _ u v w h1 h2).mono fun e w' h => ⟨_, h.1, rfl, h.2⟩)) ?_
                refine And.intro (step_load (b := p) rfl (.inr ⟨26, false, _, rfl, rfl, by kernel_rfl, fun _ _ h => h⟩) (Arg.old (by kernel_rfl)) (fun _ h => ⟨h.1, h.2.1⟩) (fun _ h => h.2.2.2.2.2.2.1)) ?_
                refine And.intro (step_load (b := q) rfl (.inr ⟨26, false, _, rfl, rfl, by kernel_rfl, fun _ _ h => h⟩) (Arg.old (by kernel_rfl)) (fun _ h => ⟨h.2.2.1, h.2.2.2.1⟩) (fun _ h => h.2.2.2.2.2.2.2.1)) ?_
                refine And.intro (step_call2 ECmp.out rfl (.inr ⟨26, false, _, rfl, rfl, by kernel_rfl, fun _ _ h => h⟩) (Arg.tmp (j := 34) (by kernel_rfl) rfl) (Arg.tmp (j := 35) (by kernel_rfl) rfl) (fun u v w _ h1 h2 => (Cmp_any _ _ u v w h1 h2).mono fun e w' h => ⟨_, h.1, rfl, h.2⟩)) ?_
                refine And.intro (step_neq (b := false) hc2 rfl (.inr ⟨26, false, _, rfl, rfl, by kernel_rfl, fun _ _ h => h⟩) (Arg.tmp (j := 33) (by kernel_rfl) rfl) (fun _ _ h => h) (Arg.tmp (j := 36) (by kernel_rfl) rfl) (fun _ _ h => h) (fun _ => rfl)) ?_
                refine And.intro (step_pickF rfl (.inl rfl) (Arg.tmp (j := 26) (by kernel_rfl) rfl) (fun _ _ h => h) (Arg.tmp (j := 37) (by kernel_rfl) rfl) (fun _ _ h => h)) ?_
                refine And.intro (step_move rfl (.inl rfl) (Arg.tmp (j := 38) (by kernel_rfl) rfl) (fun _ _ h => h)) ?_
                refine And.intro (step_load (b := r) rfl (.inr ⟨39, false, _, rfl, rfl, by kernel_rfl, fun _ _ h => h⟩) (Arg.old (by kernel_rfl)) (fun _ h => ⟨h.2.2.2.2.1, h.2.2.2.2.2.1⟩) (fun _ h => h.2.2.2.2.2.2.2.2.1)) ?_
                refine And.intro (step_call1 ESign.out rfl (.inr ⟨39, false, _, rfl, rfl, by kernel_rfl, fun _ _ h => h⟩) (Arg.tmp (j := 40) (by kernel_rfl) rfl) (fun u w _ h1 => (sign_any _ u w (len_le (by decide) HZ.out) h1).mono fun e w' h => ⟨_, h.1, rfl, h.2⟩)) ?_
                refine And.intro (step_gtr (b := true) hB3 rfl (.inr ⟨39, false, _, rfl, rfl, by kernel_rfl, fun _ _ h => h⟩) (Arg.tmp (j := 41) (by kernel_rfl) rfl) (fun _ _ h => h) (Arg.const _) (fun _ _ h => h) (fun _ => rfl)) ?_
                refine And.intro (step_move rfl (.inr ⟨39, false, _, rfl, rfl, by kernel_rfl, fun _ _ h => h⟩) (Arg.tmp (j := 42) (by kernel_rfl) rfl) (fun _ _ h => h)) ?_
                refine And.intro (step_load (b := p) rfl (.inr ⟨43, true, _, rfl, rfl, by kernel_rfl, fun _ _ h => h⟩) (Arg.old (by kernel_rfl)) (fun _ h => ⟨h.1, h.2.1⟩) (fun _ h => h.2.2.2.2.2.2.1)) ?_
                refine And.intro (step_load (b := r) rfl (.inr ⟨43, true, _, rfl, rfl, by kernel_rfl, fun _ _ h => h⟩) (Arg.old (by kernel_rfl)) (fun _ h => ⟨h.2.2.2.2.1, h.2.2.2.2.2.1⟩) (fun _ h => h.2.2.2.2.2.2.2.2.1)) ?_
                refine And.intro (step_call2 EMul.out rfl (.inr ⟨43, true, _, rfl, rfl, by kernel_rfl, fun _ _ h => h⟩) (Arg.tmp (j := 44) (by kernel_rfl) rfl) (Arg.tmp (j := 45) (by kernel_rfl) rfl) (fun u v w _ h1 h2 => Mul_any _ _ u v w (len_le (by decide) HX.out) (len_le (by decide) HZ.out) h1 h2)) ?_
                refine And.intro (step_load (b := q) rfl (.inr ⟨43, true, _, rfl, rfl, by kernel_rfl, fun _ _ h => h⟩) (Arg.old (by kernel_rfl)) (fun _ h => ⟨h.2.2.1, h.2.2.2.1⟩) (fun _ h => h.2.2.2.2.2.2.2.1)) ?_
                refine And.intro (step_load (b := r) rfl (.inr ⟨43, true, _, rfl, rfl, by kernel_rfl, fun _ _ h => h⟩) (Arg.old (by kernel_rfl)) (fun _ h => ⟨h.2.2.2.2.1, h.2.2.2.2.2.1⟩) (fun _ h => h.2.2.2.2.2.2.2.2.1)) ?_
                refine And.intro (step_call2 EMul.out rfl (.inr ⟨43, true, _, rfl, rfl, by kernel_rfl, fun _ _ h => h⟩) (Arg.tmp (j := 47) (by kernel_rfl) rfl) (Arg.tmp (j := 48) (by kernel_rfl) rfl) (fun u v w _ h1 h2 => Mul_any _ _ u v w (len_le (by decide) HY.out) (len_le (by decide) HZ.out) h1 h2)) ?_
                refine And.intro (step_call2 ECmp.out rfl (.inr ⟨43, true, _, rfl, rfl, by kernel_rfl, fun _ _ h => h⟩) (Arg.tmp (j := 46) (by kernel_rfl) rfl) (Arg.tmp (j := 49) (by kernel_rfl) rfl) (fun u v w _ h1 h2 => (Cmp_any _ _ u v w h1 h2).mono fun e w' h => ⟨_, h.1, rfl, h.2⟩)) ?_
                refine And.intro (step_load (b := p) rfl (.inr ⟨43, true, _, rfl, rfl, by kernel_rfl, fun _ _ h => h⟩) (Arg.old (by kernel_rfl)) (fun _ h => ⟨h.1, h.2.1⟩) (fun _ h => h.2.2.2.2.2.2.1)) ?_
                refine And.intro (step_load (b := q) rfl (.inr ⟨43, true, _, rfl, rfl, by kernel_rfl, fun _ _ h => h⟩) (Arg.old (by kernel_rfl)) (fun _ h => ⟨h.2.2.1, h.2.2.2.1⟩) (fun _ h => h.2.2.2.2.2.2.2.1)) ?_
                refine And.intro (step_call2 ECmp.out rfl (.inr ⟨43, true, _, rfl, rfl, by kernel_rfl, fun _ _ h => h⟩) (Arg.tmp (j := 51) (by kernel_rfl) rfl) (Arg.tmp (j := 52) (by kernel_rfl) rfl) (fun u v w _ h1 h2 => (Cmp_any _ _ u v w h1 h2).mono fun e w' h => ⟨_, h.1, rfl, h.2⟩)) ?_
                refine And.intro (step_neq (b := false) hc3 rfl (.inr ⟨43, true, _, rfl, rfl, by kernel_rfl, fun _ _ h => h⟩) (Arg.tmp (j := 50) (by kernel_rfl) rfl) (fun _ _ h => h) (Arg.tmp (j := 53) (by kernel_rfl) rfl) (fun _ _ h => h) (fun _ => rfl)) ?_
                refine And.intro (step_pickT rfl (.inr ⟨39, false, _, rfl, rfl, by kernel_rfl, fun _ _ h => h⟩) (Arg.tmp (j := 43) (by kernel_rfl) rfl) (fun _ _ h => h) (Arg.tmp (j := 54) (by kernel_rfl) rfl) (fun _ _ h => h)) ?_
                refine And.intro (step_pickF rfl (.inl rfl) (Arg.tmp (j := 39) (by kernel_rfl) rfl) (fun _ _ h => h) (Arg.tmp (j := 55) (by kernel_rfl) rfl) (fun _ _ h => h)) ?_
                trivial
              · intro v9 wv9 hk hs
                have hv : v9 56 = .bool false := hk 56 _ rfl
                have HXS := Lib.hid hs
                clear hk hs
                simp only [putV, Act.put, List.setIfInBounds_toArray, List.set_cons_zero, List.set_cons_succ, Nat.reduceAdd, hv]
                clear hv
                go_wp2_with fail
                first
                  | (refine (awake_any _).mono ?_
                     rintro e w9 ⟨rfl, hb9⟩
                     go_wp2
                     go_ret
                     exact ⟨rfl, HXS.out.2.2.2.2.2.2.2.2.2.trans (hb9.mono HXS.out.2.2.2.2.2.2.2.2.2.size)⟩)
                  | (refine wp_call0 EAwake.out (by rfl) _ (awake_any _) ?_
                     rintro e w9 ⟨rfl, hb9⟩
                     refine ⟨_, rfl, ?_⟩
                     simp only [Act.put, List.setIfInBounds_toArray, List.set_cons_zero, List.set_cons_succ]
                     go_wp2
                     go_ret
                     exact ⟨rfl, HXS.out.2.2.2.2.2.2.2.2.2.trans (hb9.mono HXS.out.2.2.2.2.2.2.2.2.2.size)⟩)
            · have hB3 := (decide_eq_false h3).symm
              go_upto_region 9 with fail
              refine wp_region_facts (falF (Fa.z (x) :: Fa.z (y) :: Fa.v (.int .i64 (cmpZ x y)) :: Fa.z (y) :: Fa.z (x) :: Fa.v (.int .i64 (cmpZ y x)) :: Fa.v (.int .i64 (-(cmpZ y x))) :: Fa.v (.bool false) :: Fa.v (.bool false) :: Fa.z (x) :: Fa.z (y) :: Fa.v (.int .i64 (cmpZ x y)) :: Fa.v (.bool false) :: Fa.v (.bool false) :: Fa.v undef :: Fa.v undef :: Fa.v undef :: Fa.v undef :: Fa.v (.bool false) :: Fa.v (.bool false) :: Fa.v undef :: Fa.v undef :: Fa.v undef :: Fa.v undef :: Fa.v (.bool false) :: Fa.v (.bool false) :: Fa.v (.bool false) :: Fa.z (x) :: Fa.z (z) :: Fa.z (x + z) :: Fa.z (y) :: Fa.z (z) :: Fa.z (y + z) :: Fa.v (.int .i64 (cmpZ (x + z) (y + z))) :: Fa.z (x) :: Fa.z (y) :: Fa.v (.int .i64 (cmpZ x y)) :: Fa.v (.bool false) :: Fa.v (.bool false) :: Fa.v (.bool false) :: Fa.z (z) :: Fa.v (.int .i64 (sgnZ z)) :: Fa.v (.bool false) :: Fa.v (.bool false) :: Fa.v undef :: Fa.v undef :: Fa.v undef :: Fa.v undef :: Fa.v undef :: Fa.v undef :: Fa.v undef :: Fa.v undef :: Fa.v undef :: Fa.v undef :: Fa.v undef :: Fa.v (.bool false) :: Fa.v (.bool false) :: [])) (XS w p q r (.bool (decide (x < 0))) (.slice d1 n1 e1) (.bool (decide (y < 0))) (.slice d2 n2 e2) (.bool (decide (z < 0))) (.slice d3 n3 e3) x y z) (by kernel_rfl) (by kernel_rfl) (falF_mono _) (fun _ _ h hb => h.keep hb) (HXS.out.keep ((Below.refl _ _).drew)) ?_ (some 110 :: some 111 :: some 112 :: some 113 :: some 114 :: some 115 :: some 116 :: some 117 :: some 118 :: some 119 :: some 120 :: some 121 :: some 122 :: some 123 :: some 124 :: some 125 :: some 126 :: some 127 :: some 128 :: some 129 :: some 130 :: some 131 :: some 132 :: some 133 :: some 134 :: some 135 :: some 136 :: some 137 :: some 138 :: some 139 :: some 140 :: some 141 :: some 142 :: some 143 :: some 144 :: some 145 :: some 146 :: some 147 :: some 148 :: some 149 :: some 150 :: some 151 :: some 152 :: some 153 :: some 154 :: some 155 :: some 156 :: some 157 :: some 158 :: some 159 :: some 160 :: some 161 :: some 162 :: some 163 :: some 164 :: some 165 :: some 166 :: []) (by rfl) ?_
              · refine And.intro (step_load (b := p) rfl (.inl rfl) (Arg.old (by kernel_rfl)) (fun _ h => ⟨h.1, h.2.1⟩) (fun _ h => h.2.2.2.2.2.2.1)) ?_
                refine And.intro (step_load (b := q) rfl (.inl rfl) (Arg.old (by kernel_rfl)) (fun _ h => ⟨h.2.2.1, h.2.2.2.1⟩) (fun _ h => h.2.2.2.2.2.2.2.1)) ?_
                refine And.intro (step_call2 ECmp.out rfl (.inl rfl) (Arg.tmp (j := 0) (by kernel_rfl) rfl) (Arg.tmp (j := 1) (by kernel_rfl) rfl) (fun u v w _ h1 h2 => (Cmp_any _ _ u v w h1 h2).mono fun e w' h => ⟨_, h.1, rfl, h.2⟩)) ?_
                refine And.intro (step_load (b := q) rfl (.inl rfl) (Arg.old (by kernel_rfl)) (fun _ h => ⟨h.2.2.1, h.2.2.2.1⟩) (fun _ h => h.2.2.2.2.2.2.2.1)) ?_
                refine And.intro (step_load (b := p) rfl (.inl rfl) (Arg.old (by kernel_rfl)) (fun _ h => ⟨h.1, h.2.1⟩) (fun _ h => h.2.2.2.2.2.2.1)) ?_
                refine And.intro (step_call2 ECmp.out rfl (.inl rfl) (Arg.tmp (j := 3) (by kernel_rfl) rfl) (Arg.tmp (j := 4) (by kernel_rfl) rfl) (fun u v w _ h1 h2 => (Cmp_any _ _ u v w h1 h2).mono fun e w' h => ⟨_, h.1, rfl, h.2⟩)) ?_
                refine And.intro (step_neg (cmpZ_rng _ _) rfl (.inl rfl) (Arg.tmp (j := 5) (by kernel_rfl) rfl) (fun _ _ h => h) (fun _ => rfl)) ?_
                refine And.intro (step_neq (b := false) hc1 rfl (.inl rfl) (Arg.tmp (j := 2) (by kernel_rfl) rfl) (fun _ _ h => h) (Arg.tmp (j := 6) (by kernel_rfl) rfl) (fun _ _ h => h) (fun _ => rfl)) ?_
                refine And.intro (step_move rfl (.inl rfl) (Arg.tmp (j := 7) (by kernel_rfl) rfl) (fun _ _ h => h)) ?_
                refine And.intro (step_load (b := p) rfl (.inr ⟨8, false, _, rfl, rfl, by kernel_rfl, fun _ _ h => h⟩) (Arg.old (by kernel_rfl)) (fun _ h => ⟨h.1, h.2.1⟩) (fun _ h => h.2.2.2.2.2.2.1)) ?_
                refine And.intro (step_load (b := q) rfl (.inr ⟨8, false, _, rfl, rfl, by kernel_rfl, fun _ _ h => h⟩) (Arg.old (by kernel_rfl)) (fun _ h => ⟨h.2.2.1, h.2.2.2.1⟩) (fun _ h => h.2.2.2.2.2.2.2.1)) ?_
                refine And.intro (step_call2 ECmp.out rfl (.inr ⟨8, false, _, rfl, rfl, by kernel_rfl, fun _ _ h => h⟩) (Arg.tmp (j := 9) (by kernel_rfl) rfl) (Arg.tmp (j := 10) (by kernel_rfl) rfl) (fun u v w _ h1 h2 => (Cmp_any _ _ u v w h1 h2).mono fun e w' h => ⟨_, h.1, rfl, h.2⟩)) ?_
                refine And.intro (step_leq (b := false) hB1 rfl (.inr ⟨8, false, _, rfl, rfl, by kernel_rfl, fun _ _ h => h⟩) (Arg.tmp (j := 11) (by kernel_rfl) rfl) (fun _ _ h => h) (Arg.const _) (fun _ _ h => h) (fun _ => rfl)) ?_
                refine And.intro (step_move rfl (.inr ⟨8, false, _, rfl, rfl, by kernel_rfl, fun _ _ h => h⟩) (Arg.tmp (j := 12) (by kernel_rfl) rfl) (fun _ _ h => h)) ?_
                refine And.intro (step_un (g := 13) rfl rfl (by kernel_rfl) (fun _ _ h => h) (fun _ => rfl)) ?_
                refine And.intro (step_un (g := 13) rfl rfl (by kernel_rfl) (fun _ _ h => h) (fun _ => rfl)) ?_
                refine And.intro (step_un (g := 13) rfl rfl (by kernel_rfl) (fun _ _ h => h) (fun _ => rfl)) ?_
                refine And.intro (step_un (g := 13) rfl rfl (by kernel_rfl) (fun _ _ h => h) (fun _ => rfl)) ?_
                refine And.intro (step_pickF rfl (.inr ⟨8, false, _, rfl, rfl, by kernel_rfl, fun _ _ h => h⟩) (Arg.tmp (j := 13) (by kernel_rfl) rfl) (fun _ _ h => h) (Arg.const _) (fun _ _ h => h)) ?_
                refine And.intro (step_move rfl (.inr ⟨8, false, _, rfl, rfl, by kernel_rfl, fun _ _ h => h⟩) (Arg.tmp (j := 18) (by kernel_rfl) rfl) (fun _ _ h => h)) ?_
                refine And.intro (step_un (g := 19) rfl rfl (by kernel_rfl) (fun _ _ h => h) (fun _ => rfl)) ?_
                refine And.intro (step_un (g := 19) rfl rfl (by kernel_rfl) (fun _ _ h => h) (fun _ => rfl)) ?_
                refine And.intro (step_un (g := 19) rfl rfl (by kernel_rfl) (fun _ _ h => h) (fun _ => rfl)) ?_
                refine And.intro (step_un (g := 19) rfl rfl (by kernel_rfl) (fun _ _ h => h) (fun _ => rfl)) ?_
                refine And.intro (step_pickF rfl (.inr ⟨8, false, _, rfl, rfl, by kernel_rfl, fun _ _ h => h⟩) (Arg.tmp (j := 19) (by kernel_rfl) rfl) (fun _ _ h => h) (Arg.const _) (fun _ _ h => h)) ?_
                refine And.intro (step_pickF rfl (.inl rfl) (Arg.tmp (j := 8) (by kernel_rfl) rfl) (fun _ _ h => h) (Arg.tmp (j := 24) (by kernel_rfl) rfl) (fun _ _ h => h)) ?_
                refine And.intro (step_move rfl (.inl rfl) (Arg.tmp (j := 25) (by kernel_rfl) rfl) (fun _ _ h => h)) ?_
                refine And.intro (step_load (b := p) rfl (.inr ⟨26, false, _, rfl, rfl, by kernel_rfl, fun _ _ h => h⟩) (Arg.old (by kernel_rfl)) (fun _ h => ⟨h.1, h.2.1⟩) (fun _ h => h.2.2.2.2.2.2.1)) ?_
                refine And.intro (step_load (b := r) rfl (.inr ⟨26, false, _, rfl, rfl, by kernel_rfl, fun _ _ h => h⟩) (Arg.old (by kernel_rfl)) (fun _ h => ⟨h.2.2.2.2.1, h.2.2.2.2.2.1⟩) (fun _ h => h.2.2.2.2.2.2.2.2.1)) ?_
                refine And.intro (step_call2 EAdd.out rfl (.inr ⟨26, false, _, rfl, rfl, by kernel_rfl, fun _ _ h => h⟩) (Arg.tmp (j := 27) (by kernel_rfl) rfl) (Arg.tmp (j := 28) (by kernel_rfl) rfl) (fun u v w _ h1 h2 => Add_any _ _ u v w (len_le (by decide) HX.out) (len_le (by decide) HZ.out) h1 h2)) ?_
                refine And.intro (step_load (b := q) rfl (.inr ⟨26, false, _, rfl, rfl, by kernel_rfl, fun _ _ h => h⟩) (Arg.old (by kernel_rfl)) (fun _ h => ⟨h.2.2.1, h.2.2.2.1⟩) (fun _ h => h.2.2.2.2.2.2.2.1)) ?_
                refine And.intro (step_load (b := r) rfl (.inr ⟨26, false, _, rfl, rfl, by kernel_rfl, fun _ _ h => h⟩) (Arg.old (by kernel_rfl)) (fun _ h => ⟨h.2.2.2.2.1, h.2.2.2.2.2.1⟩) (fun _ h => h.2.2.2.2.2.2.2.2.1)) ?_
                refine And.intro (step_call2 EAdd.out rfl (.inr ⟨26, false, _, rfl, rfl, by kernel_rfl, fun _ _ h => h⟩) (Arg.tmp (j := 30) (by kernel_rfl) rfl) (Arg.tmp (j := 31) (by kernel_rfl) rfl) (fun u v w _ h1 h2 => Add_any _ _ u v w (len_le (by decide) HY.out) (len_le (by decide) HZ.out) h1 h2)) ?_
                refine And.intro (step_call2 ECmp.out rfl (.inr ⟨26, false, _, rfl, rfl, by kernel_rfl, fun _ _ h => h⟩) (Arg.tmp (j := 29) (by kernel_rfl) rfl) (Arg.tmp (j := 32) (by kernel_rfl) rfl) (fun u v w _ h1 h2 => (Cmp_any _ _ u v w h1 h2).mono fun e w' h => ⟨_, h.1, rfl, h.2⟩)) ?_
                refine And.intro (step_load (b := p) rfl (.inr ⟨26, false, _, rfl, rfl, by kernel_rfl, fun _ _ h => h⟩) (Arg.old (by kernel_rfl)) (fun _ h => ⟨h.1, h.2.1⟩) (fun _ h => h.2.2.2.2.2.2.1)) ?_
                refine And.intro (step_load (b := q) rfl (.inr ⟨26, false, _, rfl, rfl, by kernel_rfl, fun _ _ h => h⟩) (Arg.old (by kernel_rfl)) (fun _ h => ⟨h.2.2.1, h.2.2.2.1⟩) (fun _ h => h.2.2.2.2.2.2.2.1)) ?_
                refine And.intro (step_call2 ECmp.out rfl (.inr ⟨26, false, _, rfl, rfl, by kernel_rfl, fun _ _ h => h⟩) (Arg.tmp (j := 34) (by kernel_rfl) rfl) (Arg.tmp (j := 35) (by kernel_rfl) rfl) (fun u v w _ h1 h2 => (Cmp_any _ _ u v w h1 h2).mono fun e w' h => ⟨_, h.1, rfl, h.2⟩)) ?_
                refine And.intro (step_neq (b := false) hc2 rfl (.inr ⟨26, false, _, rfl, rfl, by kernel_rfl, fun _ _ h => h⟩) (Arg.tmp (j := 33) (by kernel_rfl) rfl) (fun _ _ h => h) (Arg.tmp (j := 36) (by kernel_rfl) rfl) (fun _ _ h => h) (fun _ => rfl)) ?_
                refine And.intro (step_pickF rfl (.inl rfl) (Arg.tmp (j := 26) (by kernel_rfl) rfl) (fun _ _ h => h) (Arg.tmp (j := 37) (by kernel_rfl) rfl) (fun _ _ h => h)) ?_
                refine And.intro (step_move rfl (.inl rfl) (Arg.tmp (j := 38) (by kernel_rfl) rfl) (fun _ _ h => h)) ?_
                refine And.intro (step_load (b := r) rfl (.inr ⟨39, false, _, rfl, rfl, by kernel_rfl, fun _ _ h => h⟩) (Arg.old (by kernel_rfl)) (fun _ h => ⟨h.2.2.2.2.1, h.2.2.2.2.2.1⟩) (fun _ h => h.2.2.2.2.2.2.2.2.1)) ?_
                refine And.intro (step_call1 ESign.out rfl (.inr ⟨39, false, _, rfl, rfl, by kernel_rfl, fun _ _ h => h⟩) (Arg.tmp (j := 40) (by kernel_rfl) rfl) (fun u w _ h1 => (sign_any _ u w (len_le (by decide) HZ.out) h1).mono fun e w' h => ⟨_, h.1, rfl, h.2⟩)) ?_
                refine And.intro (step_gtr (b := false) hB3 rfl (.inr ⟨39, false, _, rfl, rfl, by kernel_rfl, fun _ _ h => h⟩) (Arg.tmp (j := 41) (by kernel_rfl) rfl) (fun _ _ h => h) (Arg.const _) (fun _ _ h => h) (fun _ => rfl)) ?_
                refine And.intro (step_move rfl (.inr ⟨39, false, _, rfl, rfl, by kernel_rfl, fun _ _ h => h⟩) (Arg.tmp (j := 42) (by kernel_rfl) rfl) (fun _ _ h => h)) ?_
                refine And.intro (step_un (g := 43) rfl rfl (by kernel_rfl) (fun _ _ h => h) (fun _ => rfl)) ?_
                refine And.intro (step_un (g := 43) rfl rfl (by kernel_rfl) (fun _ _ h => h) (fun _ => rfl)) ?_
                refine And.intro (step_un (g := 43) rfl rfl (by kernel_rfl) (fun _ _ h => h) (fun _ => rfl)) ?_
                refine And.intro (step_un (g := 43) rfl rfl (by kernel_rfl) (fun _ _ h => h) (fun _ => rfl)) ?_
                refine And.intro (step_un (g := 43) rfl rfl (by kernel_rfl) (fun _ _ h => h) (fun _ => rfl)) ?_
                refine And.intro (step_un (g := 43) rfl rfl (by kernel_rfl) (fun _ _ h => h) (fun _ => rfl)) ?_
                refine And.intro (step_un (g := 43) rfl rfl (by kernel_rfl) (fun _ _ h => h) (fun _ => rfl)) ?_
                refine And.intro (step_un (g := 43) rfl rfl (by kernel_rfl) (fun _ _ h => h) (fun _ => rfl)) ?_
                refine And.intro (step_un (g := 43) rfl rfl (by kernel_rfl) (fun _ _ h => h) (fun _ => rfl)) ?_
                refine And.intro (step_un (g := 43) rfl rfl (by kernel_rfl) (fun _ _ h => h) (fun _ => rfl)) ?_
                refine And.intro (step_un (g := 43) rfl rfl (by kernel_rfl) (fun _ _ h => h) (fun _ => rfl)) ?_
                refine And.intro (step_pickF rfl (.inr ⟨39, false, _, rfl, rfl, by kernel_rfl, fun _ _ h => h⟩) (Arg.tmp (j := 43) (by kernel_rfl) rfl) (fun _ _ h => h) (Arg.const _) (fun _ _ h => h)) ?_
                refine And.intro (step_pickF rfl (.inl rfl) (Arg.tmp (j := 39) (by kernel_rfl) rfl) (fun _ _ h => h) (Arg.tmp (j := 55) (by kernel_rfl) rfl) (fun _ _ h => h)) ?_
                trivial
              · intro v9 wv9 hk hs
                have hv : v9 56 = .bool false := hk 56 _ rfl
                have HXS := Lib.hid hs
                clear hk hs
                simp only [putV, Act.put, List.setIfInBounds_toArray, List.set_cons_zero, List.set_cons_succ, Nat.reduceAdd, hv]
                clear hv
                go_wp2_with fail
                first
                  | (refine (awake_any _).mono ?_
                     rintro e w9 ⟨rfl, hb9⟩
                     go_wp2
                     go_ret
                     exact ⟨rfl, HXS.out.2.2.2.2.2.2.2.2.2.trans (hb9.mono HXS.out.2.2.2.2.2.2.2.2.2.size)⟩)
                  | (refine wp_call0 EAwake.out (by rfl) _ (awake_any _) ?_
                     rintro e w9 ⟨rfl, hb9⟩
                     refine ⟨_, rfl, ?_⟩
                     simp only [Act.put, List.setIfInBounds_toArray, List.set_cons_zero, List.set_cons_succ]
                     go_wp2
                     go_ret
                     exact ⟨rfl, HXS.out.2.2.2.2.2.2.2.2.2.trans (hb9.mono HXS.out.2.2.2.2.2.2.2.2.2.size)⟩)

end Go.Proofs.Ytfkiognaggccjaa
