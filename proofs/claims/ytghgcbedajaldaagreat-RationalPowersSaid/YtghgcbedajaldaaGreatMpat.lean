/-  Gc5 Gc6 Acts0  -/
import Derived.Test.YtghgcbedajaldaaGreatMpas
import Derived.Deep.CutRange
import Derived.Test.YtghgcbedajaldaaGreatMpaq
/- Gcd: combine. -/
namespace Go.Proofs.YtghgcbedajaldaaGreat
section
open Go.RowKit Digs
def CombPost (w : World) (C D : Nat) (e : Ending) (w' : World) : Prop := ∃ vc vd, e = .returned (.tuple #[vc, vd]) ∧ Rd .u32 w' vc (digs 4294967296 C) ∧ Rd .u32 w' vd (digs 4294967296 D) ∧ Below w.heap.size w w'
set_option maxHeartbeats 2000000 in
set_option maxRecDepth 100000 in
theorem combine_core (odd : Bool) (u0 u1 v0 v1 : Nat) (ada adb : Option Addr) (na nb ca cb C D : Nat) (w : World)
  (h1 : odd = false → (∀ W, Below w.heap.size w W → Calls Tryz.prog 171 #[.slice ada na ca, .int .u32 u0, .slice adb nb cb, .int .u32 v0] W (OwPost W (digs 4294967296 C))) ∧ ∀ W, Below w.heap.size w W → Calls Tryz.prog 171 #[.slice adb nb cb, .int .u32 v1, .slice ada na ca, .int .u32 u1] W (OwPost W (digs 4294967296 D)))
  (h2 : odd = true → (∀ W, Below w.heap.size w W → Calls Tryz.prog 171 #[.slice adb nb cb, .int .u32 v0, .slice ada na ca, .int .u32 u0] W (OwPost W (digs 4294967296 C))) ∧ ∀ W, Below w.heap.size w W → Calls Tryz.prog 171 #[.slice ada na ca, .int .u32 u1, .slice adb nb cb, .int .u32 v1] W (OwPost W (digs 4294967296 D))) :
  Calls Tryz.prog 136 #[.agg #[.int .u32 u0, .int .u32 u1, .int .u32 v0, .int .u32 v1, .bool odd], .slice ada na ca, .slice adb nb cb] w (CombPost w C D) := by
 cases odd with
 | false =>
  obtain ⟨m1, m2⟩ := h1 rfl
  have HM1 := Lib.hid m1
  have HM2 := Lib.hid m2
  clear m1 m2 h1 h2
  go_enter Tryz.func136, Tryz.ntmps136
  go_wp2_with fail
  have HB0 := Lib.hid ((Below.refl w.heap.size w).alloc (Nat.le_refl _) (.cells #[.int .u32 u0, .int .u32 u1, .int .u32 v0, .int .u32 v1, .bool false] 170))
  obtain ⟨⟨a0, a1, a2, a3, a4⟩, _, _⟩ := box5 (w := w) (w2 := w.alloc (.cells #[.int .u32 u0, .int .u32 u1, .int .u32 v0, .int .u32 v1, .bool false] 170)) (Below.refl _ _)
  have hs0 : w.heap.size < (w.alloc (.cells #[.int .u32 u0, .int .u32 u1, .int .u32 v0, .int .u32 v1, .bool false] 170)).heap.size := by simp
  generalize (w.alloc (.cells #[.int .u32 u0, .int .u32 u1, .int .u32 v0, .int .u32 v1, .bool false] 170)) = X at *
  go_region_held3 (fun w' => w'.cell? ⟨w.heap.size, 0, none⟩ = some (.int .u32 u0) ∧ w'.cell? ⟨w.heap.size, 1, none⟩ = some (.int .u32 u1) ∧ w'.cell? ⟨w.heap.size, 2, none⟩ = some (.int .u32 v0) ∧ w'.cell? ⟨w.heap.size, 3, none⟩ = some (.int .u32 v1))
   (first | exact ⟨c0, c1, c2, c3⟩ | exact ⟨b0, b1, b2, b3⟩ | go_keep)
   (go_loud (first
    | (go_at_call_of 171 (Value.slice ada na ca); (with_reducible refine (HM1.out _ (HB0.out.trans ((Below.refl X.heap.size X).drew.mono (by omega)))).mono ?_); rintro e w2 ⟨vc, rfl, hoc, hb2'⟩; have hb2 := (Below.refl X.heap.size X).drew.trans hb2'; have b0 := (hb2.cell (p := ⟨w.heap.size, 0, none⟩) hs0).trans a0; have b1 := (hb2.cell (p := ⟨w.heap.size, 1, none⟩) hs0).trans a1; have b2 := (hb2.cell (p := ⟨w.heap.size, 2, none⟩) hs0).trans a2; have b3 := (hb2.cell (p := ⟨w.heap.size, 3, none⟩) hs0).trans a3; have hs2 := Nat.lt_of_lt_of_le hs0 hb2.size; have hw2 := HB0.out.trans (hb2.mono (Nat.le_of_lt hs0)))
    | (go_at_call_of 171 (Value.slice adb nb cb); (with_reducible refine (HM2.out _ hw2).mono ?_); rintro e w3 ⟨vd, rfl, hod, hb3⟩; have c0 := (hb3.cell (p := ⟨w.heap.size, 0, none⟩) hs2).trans b0; have c1 := (hb3.cell (p := ⟨w.heap.size, 1, none⟩) hs2).trans b1; have c2 := (hb3.cell (p := ⟨w.heap.size, 2, none⟩) hs2).trans b2; have c3 := (hb3.cell (p := ⟨w.heap.size, 3, none⟩) hs2).trans b3)))
  go_wp2
  go_ret2
  exact ⟨vc, vd, rfl, hoc.rd.keep hb3, hod.rd, hw2.trans (hb3.mono (Nat.le_of_lt hs2))⟩
 | true =>
  obtain ⟨m1, m2⟩ := h2 rfl
  have HM1 := Lib.hid m1
  have HM2 := Lib.hid m2
  clear m1 m2 h1 h2
  go_enter Tryz.func136, Tryz.ntmps136
  go_wp2_with fail
  have HB0 := Lib.hid ((Below.refl w.heap.size w).alloc (Nat.le_refl _) (.cells #[.int .u32 u0, .int .u32 u1, .int .u32 v0, .int .u32 v1, .bool true] 170))
  obtain ⟨⟨a0, a1, a2, a3, a4⟩, _, _⟩ := box5 (w := w) (w2 := w.alloc (.cells #[.int .u32 u0, .int .u32 u1, .int .u32 v0, .int .u32 v1, .bool true] 170)) (Below.refl _ _)
  have hs0 : w.heap.size < (w.alloc (.cells #[.int .u32 u0, .int .u32 u1, .int .u32 v0, .int .u32 v1, .bool true] 170)).heap.size := by simp
  generalize (w.alloc (.cells #[.int .u32 u0, .int .u32 u1, .int .u32 v0, .int .u32 v1, .bool true] 170)) = X at *
  go_region_held3 (fun w' => w'.cell? ⟨w.heap.size, 0, none⟩ = some (.int .u32 u0) ∧ w'.cell? ⟨w.heap.size, 1, none⟩ = some (.int .u32 u1) ∧ w'.cell? ⟨w.heap.size, 2, none⟩ = some (.int .u32 v0) ∧ w'.cell? ⟨w.heap.size, 3, none⟩ = some (.int .u32 v1))
   (first | exact ⟨c0, c1, c2, c3⟩ | exact ⟨b0, b1, b2, b3⟩ | go_keep)
   (go_loud (first
    | (go_at_call_of 171 (Value.slice adb nb cb); (with_reducible refine (HM1.out _ (HB0.out.trans ((Below.refl X.heap.size X).drew.mono (by omega)))).mono ?_); rintro e w2 ⟨vc, rfl, hoc, hb2'⟩; have hb2 := (Below.refl X.heap.size X).drew.trans hb2'; have b0 := (hb2.cell (p := ⟨w.heap.size, 0, none⟩) hs0).trans a0; have b1 := (hb2.cell (p := ⟨w.heap.size, 1, none⟩) hs0).trans a1; have b2 := (hb2.cell (p := ⟨w.heap.size, 2, none⟩) hs0).trans a2; have b3 := (hb2.cell (p := ⟨w.heap.size, 3, none⟩) hs0).trans a3; have hs2 := Nat.lt_of_lt_of_le hs0 hb2.size; have hw2 := HB0.out.trans (hb2.mono (Nat.le_of_lt hs0)))
    | (go_at_call_of 171 (Value.slice ada na ca); (with_reducible refine (HM2.out _ hw2).mono ?_); rintro e w3 ⟨vd, rfl, hod, hb3⟩; have c0 := (hb3.cell (p := ⟨w.heap.size, 0, none⟩) hs2).trans b0; have c1 := (hb3.cell (p := ⟨w.heap.size, 1, none⟩) hs2).trans b1; have c2 := (hb3.cell (p := ⟨w.heap.size, 2, none⟩) hs2).trans b2; have c3 := (hb3.cell (p := ⟨w.heap.size, 3, none⟩) hs2).trans b3)))
  go_wp2
  go_ret2
  exact ⟨vc, vd, rfl, hoc.rd.keep hb3, hod.rd, hw2.trans (hb3.mono (Nat.le_of_lt hs2))⟩
end
end Go.Proofs.YtghgcbedajaldaaGreat
/- Gcd, in the program: for every two numbers. -/
namespace Go.Proofs.YtghgcbedajaldaaGreat
section
open Go.RowKit Digs Leh
def numW (w : World) (v : Value) : Nat := match v with
 | .slice (some a) n _ => vl 4294967296 ((List.range n).map fun j => match w.cell? ⟨a.block, a.off + j, none⟩ with | some (.int _ x) => x.toNat | _ => 0)
 | _ => 0
theorem numW_eq {w : World} {v : Value} {m : Nat} (h : Rd .u32 w v (digs 4294967296 m)) : numW w v = m := by
 rcases h with ⟨rfl, h0⟩ | ⟨b, off, cap, rfl, _, _, _, h4⟩
 ·show 0 = m
  exact ((digs_length_zero (b := 4294967296) (by decide) m).1 (by rw [h0]; rfl)).symm
 ·show vl 4294967296 _ = m
  have e : ((List.range (digs 4294967296 m).length).map fun j => match w.cell? ⟨b, off + j, none⟩ with | some (.int _ x) => x.toNat | _ => 0) = digs 4294967296 m := by
   apply List.ext_getElem
   ·simp
   ·intro i h1 h2
    simp only [List.getElem_map, List.getElem_range]
    rw [h4 i h2, List.getElem?_eq_getElem h2]
    simp
  rw [e, vl_digs (by decide)]
def GcdRel (A B L : Nat) (X : World) (va vb : Value) (wr : World) : Prop :=
 ∃ a b : Nat, Rd .u32 wr va (digs 4294967296 a) ∧ Rd .u32 wr vb (digs 4294967296 b) ∧ b ≤ a ∧ Nat.gcd a b = Nat.gcd A B ∧ (digs 4294967296 a).length ≤ L ∧ Below X.heap.size X wr
set_option maxHeartbeats 4000000 in
set_option maxRecDepth 100000 in
theorem gcd_core (bx by' : Bool) (adx ady : Option Addr) (nx cx ny cy A B L : Nat) (w : World) (hL : L ≤ 1000000) (hA : (digs 4294967296 A).length ≤ L) (hB : (digs 4294967296 B).length ≤ L) (ha : Rd .u32 w (.slice adx nx cx) (digs 4294967296 A)) (hb : Rd .u32 w (.slice ady ny cy) (digs 4294967296 B)) :
  Calls Tryz.prog 97 #[.agg #[.bool bx, .slice adx nx cx], .agg #[.bool by', .slice ady ny cy]] w (IntPost w (Nat.gcd A B : Nat)) := by
 have HA := Lib.hid ha
 have HB := Lib.hid hb
 have HLA := Lib.hid hA
 have HLB := Lib.hid hB
 clear ha hb hA hB
 go_enter Tryz.func97, Tryz.ntmps97
 have HX0 := Lib.hid (below3 w (.cells #[.bool bx, .slice adx nx cx] 31) (.cells #[.bool by', .slice ady ny cy] 31) (.cells #[.bool false, .slice none 0 0] 31))
 obtain ⟨_, x1, _, y1, _⟩ := box3 (w := w) (Below.refl _ (((w.alloc (.cells #[.bool bx, .slice adx nx cx] 31)).alloc (.cells #[.bool by', .slice ady ny cy] 31)).alloc (.cells #[.bool false, .slice none 0 0] 31)))
 go_wp2_with fail
 go_quiet (fail)
 clear x1 y1
 have HC := Lib.hid fun W hW => compare_any A B _ _ W (HA.out.keep hW) (HB.out.keep hW)
 have hXD : Below (((w.alloc (.cells #[.bool bx, .slice adx nx cx] 31)).alloc (.cells #[.bool by', .slice ady ny cy] 31)).alloc (.cells #[.bool false, .slice none 0 0] 31)).heap.size (((w.alloc (.cells #[.bool bx, .slice adx nx cx] 31)).alloc (.cells #[.bool by', .slice ady ny cy] 31)).alloc (.cells #[.bool false, .slice none 0 0] 31)) ((((w.alloc (.cells #[.bool bx, .slice adx nx cx] 31)).alloc (.cells #[.bool by', .slice ady ny cy] 31)).alloc (.cells #[.bool false, .slice none 0 0] 31)).drewN nq) := below_drewN' (Below.refl _ _) _
 go_wp2_with fail
 refine (HC.out _ (HX0.out.trans (hXD.mono HX0.out.size))).mono ?_
 rintro e w1 ⟨rfl, d, rfl⟩
 have HW : Hid (Below (((w.alloc (.cells #[.bool bx, .slice adx nx cx] 31)).alloc (.cells #[.bool by', .slice ady ny cy] 31)).alloc (.cells #[.bool false, .slice none 0 0] 31)).heap.size (((w.alloc (.cells #[.bool bx, .slice adx nx cx] 31)).alloc (.cells #[.bool by', .slice ady ny cy] 31)).alloc (.cells #[.bool false, .slice none 0 0] 31)) ((((w.alloc (.cells #[.bool bx, .slice adx nx cx] 31)).alloc (.cells #[.bool by', .slice ady ny cy] 31)).alloc (.cells #[.bool false, .slice none 0 0] 31)).drewN (nq + d))) := Lib.hid (below_drewN' (Below.refl _ _) _)
 have HW2 := Lib.hid (HX0.out.trans (HW.out.mono HX0.out.size))
 have HCC : Hid (decide (cmpN A B < 0) = decide (A < B)) := Lib.hid (by unfold cmpN; by_cases h : A < B <;> simp [h]; split <;> decide)
 generalize cmpN A B = c at *
 clear hXD HC
 go_upto_if 19 with fail
 go_cut [5, 6] from 20 to 21 (fun va vb wx => GcdRel A B L (((w.alloc (.cells #[.bool bx, .slice adx nx cx] 31)).alloc (.cells #[.bool by', .slice ady ny cy] 31)).alloc (.cells #[.bool false, .slice none 0 0] 31)) va vb wx)
 case first =>
  by_cases hlt : A < B
  ·have hc : c < 0 := of_decide_eq_true (HCC.out.trans (decide_eq_true hlt))
   go_wp2
   go_meet
   exact ⟨B, A, HB.out.keep HW2.out, HA.out.keep HW2.out, Nat.le_of_lt hlt, Nat.gcd_comm _ _, HLB.out, HW.out⟩
  ·have hc : ¬ c < 0 := of_decide_eq_false (HCC.out.trans (decide_eq_false hlt))
   go_wp2
   go_meet
   exact ⟨A, B, HA.out.keep HW2.out, HB.out.keep HW2.out, by omega, rfl, HLA.out, HW.out⟩
 case rest =>
  have HCUT := Lib.hid hcut
  clear hcut
  go_wp2_with fail
  go_loopw [5, 6] (GcdRel A B L (((w.alloc (.cells #[.bool bx, .slice adx nx cx] 31)).alloc (.cells #[.bool by', .slice ady ny cy] 31)).alloc (.cells #[.bool false, .slice none 0 0] 31))) (fun _ vb wr => numW wr vb)
  case atStart => exact HCUT.out
  case round =>
   obtain ⟨a, b, hra, hrb, hba, hg, hal, hbel⟩ := hrel
   have HRA := Lib.hid hra
   have HRB := Lib.hid hrb
   have HG := Lib.hid hg
   have HBEL := Lib.hid hbel
   obtain ⟨ada, ca, rfl, ra⟩ := hra.opt
   obtain ⟨adb, cb, rfl, rb⟩ := hrb.opt
   have HDA := Lib.hid ra
   have HDB := Lib.hid rb
   clear hra hrb hg hbel ra rb
   obtain ⟨nb, hnb⟩ : ∃ n, n = (digs 4294967296 b).length := ⟨_, rfl⟩
   obtain ⟨na, hna⟩ : ∃ n, n = (digs 4294967296 a).length := ⟨_, rfl⟩
   have hnn : nb ≤ na := by rw [hnb, hna]; exact digs_length_mono (by decide) hba
   by_cases h1 : 1 < nb
   ·have HF := Lib.hid fun W hW => foresee_any a b na ada adb ca cb W hna.symm (by omega) (by omega) hba (HDA.out.keep (w' := W) hW) (HDB.out.keep hW)
    have hb0 : b ≠ 0 := by rintro rfl; rw [digs_zero] at hnb; simp at hnb; omega
    have HDV := Lib.hid fun W hW => divide_any a b _ _ W (by omega) hb0 (HRA.out.keep (w' := W) hW) (HRB.out.keep hW)
    rw [← hna, ← hnb] at HF HDV ⊢
    rw [← hnb] at HRB
    have HNN := Lib.hid hnn
    have HNA := Lib.hid hna
    have HNB := Lib.hid hnb
    clear hna hnb
    go_wp2_with fail
    refine (HF.out _ (Below.refl _ _)).mono ?_
    rintro e w2 ⟨s, u0, u1, v0, v1, odd, hs, rfl, hout, hu0, hu1, hv0, hv1, hb2⟩
    have HOUT := Lib.hid hout
    have HB2 := Lib.hid hb2
    clear hout hb2
    have hnb0 : numW wr (.slice adb nb cb) = b := numW_eq HRB.out
    by_cases hvz : v0 = 0
    ·subst hvz
     have HAL := Lib.hid (HB2.out.trans (((Below.refl w2.heap.size w2).alloc (Nat.le_refl _) (.cells #[.int .u32 u0, .int .u32 u1, .int .u32 ((0 : Nat) : Int), .int .u32 v1, .bool odd] 170)).mono HB2.out.size))
     go_wp2_with fail
     refine (HDV.out _ HAL.out).mono ?_
     rintro e w3 ⟨vq, vr, rfl, hq, hr, hb3⟩
     have HR3 := Lib.hid hr
     have HB3 := Lib.hid (HAL.out.trans (hb3.mono HAL.out.size))
     clear hq hr hb3
     go_wp2
     go_roundw
     case rel =>
      refine ⟨b, a % b, HRB.out.keep HB3.out, HR3.out, Nat.le_of_lt (Nat.mod_lt _ (by omega)), ?_, by have := HNB.out; have := HNA.out; have := HNN.out; omega, HBEL.out.trans (HB3.out.mono HBEL.out.size)⟩
      rw [← HG.out, Nat.gcd_comm b (a % b), ← Nat.gcd_rec, Nat.gcd_comm]
     case measure =>
      rw [numW_eq HR3.out, hnb0]
      exact Nat.mod_lt _ (by omega)
    ·obtain ⟨C, D, hC0, hC1, hDC, hCB, hgcd⟩ := (HOUT.out hvz).fin hs
     have hal : (digs 4294967296 b).length ≤ 1000000 ∧ (digs 4294967296 a).length ≤ 1000000 := by have := HNA.out; have := HNB.out; have := HNN.out; omega
     have hbN : b < 4294967296 ^ (max (digs 4294967296 a).length (digs 4294967296 b).length) := Nat.lt_of_lt_of_le (digs_lt_pow (by decide) b) (Nat.pow_le_pow_right (by decide) (Nat.le_max_right _ _))
     have hcm : max (digs 4294967296 b).length (digs 4294967296 a).length = max (digs 4294967296 a).length (digs 4294967296 b).length := Nat.max_comm _ _
     have HAL := Lib.hid (HB2.out.trans (((Below.refl w2.heap.size w2).alloc (Nat.le_refl _) (.cells #[.int .u32 u0, .int .u32 u1, .int .u32 v0, .int .u32 v1, .bool odd] 170)).mono HB2.out.size))
     have HCB := Lib.hid (combine_core odd u0 u1 v0 v1 ada adb na nb ca cb C D (w2.alloc (.cells #[.int .u32 u0, .int .u32 u1, .int .u32 v0, .int .u32 v1, .bool odd] 170))
      (fun ho => by
       obtain ⟨q1, q2⟩ := hC0 ho
       refine ⟨fun W hW => ?_, fun W hW => ?_⟩
       ·have hm := mix_any a b u0 v0 _ ada adb ca cb W hu0 hv0 rfl (by omega) (HDA.out.keep (HAL.out.trans (hW.mono HAL.out.size))) (HDB.out.keep (HAL.out.trans (hW.mono HAL.out.size))) (by omega) (by omega)
        rw [← HNA.out, ← HNB.out, show u0 * a - v0 * b = C by omega] at hm
        exact hm
       ·have hm := mix_any b a v1 u1 _ adb ada cb ca W hv1 hu1 rfl (by omega) (HDB.out.keep (HAL.out.trans (hW.mono HAL.out.size))) (HDA.out.keep (HAL.out.trans (hW.mono HAL.out.size))) (by omega) (by rw [hcm]; omega)
        rw [← HNA.out, ← HNB.out, show v1 * b - u1 * a = D by omega] at hm
        exact hm)
      (fun ho => by
       obtain ⟨q1, q2⟩ := hC1 ho
       refine ⟨fun W hW => ?_, fun W hW => ?_⟩
       ·have hm := mix_any b a v0 u0 _ adb ada cb ca W hv0 hu0 rfl (by omega) (HDB.out.keep (HAL.out.trans (hW.mono HAL.out.size))) (HDA.out.keep (HAL.out.trans (hW.mono HAL.out.size))) (by omega) (by rw [hcm]; omega)
        rw [← HNA.out, ← HNB.out, show v0 * b - u0 * a = C by omega] at hm
        exact hm
       ·have hm := mix_any a b u1 v1 _ ada adb ca cb W hu1 hv1 rfl (by omega) (HDA.out.keep (HAL.out.trans (hW.mono HAL.out.size))) (HDB.out.keep (HAL.out.trans (hW.mono HAL.out.size))) (by omega) (by omega)
        rw [← HNA.out, ← HNB.out, show u1 * a - v1 * b = D by omega] at hm
        exact hm))
     have hvz' : ((v0 : Int) == 0) = false := by rw [beq_eq_false_iff_ne]; omega
     have HGG := Lib.hid hgcd
     have hCL : (digs 4294967296 C).length ≤ L := Nat.le_trans (digs_length_mono (by decide) hCB) (by have := HNA.out; have := HNB.out; have := HNN.out; omega)
     clear hC0 hC1 hgcd hbN hcm hal hvz
     go_wp2_with fail
     refine HCB.out.mono ?_
     rintro e w3 ⟨vc, vd, rfl, hc, hd, hb3⟩
     have HC3 := Lib.hid hc
     have HD3 := Lib.hid hd
     have HB3 := Lib.hid (HAL.out.trans (hb3.mono HAL.out.size))
     clear hc hd hb3
     go_wp2
     go_roundw
     case rel =>
      exact ⟨C, D, HC3.out, HD3.out, Nat.le_of_lt hDC, HGG.out.trans HG.out, hCL, HBEL.out.trans (HB3.out.mono HBEL.out.size)⟩
     case measure =>
      rw [numW_eq HD3.out, hnb0]
      omega
   ·rcases (show nb = 0 ∨ nb = 1 by omega) with h0 | h0
    ·have hb0 : b = 0 := (digs_length_zero (b := 4294967296) (by decide) b).1 (by omega)
     have hga : a = Nat.gcd A B := by rw [← HG.out, hb0, Nat.gcd_zero_right]
     have HMK := Lib.hid fun W hW => make_any false _ (digs 4294967296 a) W (by omega) (HRA.out.keep (w' := W) hW) (digs_lt (by decide) a)
     have hsg : sg false a = ((Nat.gcd A B : Nat) : Int) := by rw [← hga]; rfl
     rw [vl_digs (by decide), hsg] at HMK
     rw [← hnb, h0]
     have HX1 := Lib.hid HBEL.out
     clear hna hnn h1 hb0 hga hsg hba hal HG HDB HRB hnb h0 HRA HDA
     go_wp2_with fail
     refine (HMK.out _ (Below.refl _ _)).mono ?_
     rintro e w2 ⟨v2, rfl, ⟨ad2, n2, c2, rfl, hr2⟩, hb2⟩
     obtain ⟨_, _, _, _, cE, cF, _, fE, fF, hsz⟩ := box3 (HX1.out.trans (hb2.mono HX1.out.size))
     have HR := Lib.hid (hr2.store2 cE cF (by intro n h; cases h) (by intro n h; cases h))
     have HBB := Lib.hid (HX0.out.trans ((HX1.out.trans (hb2.mono HX1.out.size)).mono HX0.out.size))
     clear hr2 hb2
     go_wp2
     refine bodyPost_ret (v := .agg #[.bool (decide (((Nat.gcd A B : Nat) : Int) < 0)), .slice ad2 n2 c2]) (by simp [results, Tryz.results97, go_sem, cE, cF]) rfl ⟨_, rfl, ⟨_, _, _, rfl, HR.out _ _⟩, ?_⟩
     exact (HBB.out.setCell (by simp; omega) _).setCell (by simp; omega) _
    ·have hb0 : b ≠ 0 := by rintro rfl; rw [digs_zero] at hnb; simp at hnb; omega
     have hbb : b < 4294967296 := by have := digs_lt_pow (b := 4294967296) (by decide) b; rw [← hnb, h0, Nat.pow_one] at this; exact this
     obtain ⟨bb, ob, rfl, hbw, gb⟩ := HDB.out 0 (by omega)
     rw [digs_get (by decide), Nat.pow_zero, Nat.div_one, Nat.mod_eq_of_lt hbb, Nat.add_zero] at gb
     have hg2 : Nat.gcd b (a % b) = Nat.gcd A B := by rw [← HG.out, Nat.gcd_comm b (a % b), ← Nat.gcd_rec, Nat.gcd_comm]
     have HDS := Lib.hid (divSmall_any a b _ wr (by omega) HRA.out (by omega) hbb)
     obtain ⟨r, hr⟩ : ∃ r, r = a % b := ⟨_, rfl⟩
     have hrb : r < b := by rw [hr]; exact Nat.mod_lt _ (by omega)
     have hgb : Nat.gcd A B ≤ b := by rw [← hg2]; exact Nat.le_of_dvd (by omega) (Nat.gcd_dvd_left _ _)
     have HSM := Lib.hid fun W => smallGcd_any b r W hbb (by omega)
     rw [← hr] at HDS hg2
     rw [hg2] at HSM
     have HNW := Lib.hid fun W => new_any ((Nat.gcd A B : Nat) : Int) W (by omega) (by omega)
     rw [← hnb, h0]
     have HX1 := Lib.hid HBEL.out
     generalize Nat.gcd A B = g at *
     have hgb2 : g < 4294967296 := by omega
     clear hna hnn h1 hb0 hba hal HG HDB HRB hnb h0 HRA HDA hg2 hr hgb hrb
     go_wp2_with fail
     refine HDS.out.mono ?_
     rintro e w2 ⟨v2, rfl, _, hb2⟩
     have gb2 : w2.cell? ⟨bb, ob, none⟩ = some (.int .u32 (b : Int)) := (hb2.cell (p := ⟨bb, ob, none⟩) hbw).trans gb
     have HX2 := Lib.hid (HX1.out.trans (hb2.mono HX1.out.size))
     clear hb2
     go_wp2_with fail
     refine (HSM.out _).mono ?_
     rintro e w3 ⟨rfl, d, rfl⟩
     have HX3 := Lib.hid (below_drewN' HX2.out d)
     go_wp2_with fail
     refine (HNW.out _).mono ?_
     rintro e w4 ⟨v4, rfl, ⟨ad4, n4, c4, rfl, hr4⟩, hb4⟩
     obtain ⟨_, _, _, _, cE, cF, _, fE, fF, hsz⟩ := box3 (HX3.out.trans (hb4.mono HX3.out.size))
     have HR := Lib.hid (hr4.store2 cE cF (by intro n h; cases h) (by intro n h; cases h))
     have HBB := Lib.hid (HX0.out.trans ((HX3.out.trans (hb4.mono HX3.out.size)).mono HX0.out.size))
     clear hr4 hb4
     go_wp2
     refine bodyPost_ret (v := .agg #[.bool (decide ((g : Int) < 0)), .slice ad4 n4 c4]) (by simp [results, Tryz.results97, go_sem, cE, cF]) rfl ⟨_, rfl, ⟨_, _, _, rfl, HR.out _ _⟩, ?_⟩
     exact (HBB.out.setCell (by simp; omega) _).setCell (by simp; omega) _
theorem Gcd_any (x y : Int) (vx vy : Value) (w : World) (hx : len x ≤ 1000000) (hy : len y ≤ 1000000) (ha : IntV w vx x) (hb : IntV w vy y) :
  Calls Tryz.prog 97 #[vx, vy] w (IntPost w (Int.gcd x y : Nat)) := by
 obtain ⟨adx, nx, cx, rfl, ra⟩ := ha
 obtain ⟨ady, ny, cy, rfl, rb⟩ := hb
 exact gcd_core _ _ adx ady nx cx ny cy x.natAbs y.natAbs 1000000 w (Nat.le_refl _) hx hy ra rb
end
end Go.Proofs.YtghgcbedajaldaaGreat
/- Divide by zero; both sides' pair of Divide. -/
namespace Go.Proofs.YtghgcbedajaldaaGreat
section
open Go.RowKit Digs
set_option maxHeartbeats 2000000 in
set_option maxRecDepth 100000 in
theorem Divide_zero (vx vy : Value) (x : Int) (w : World) (ha : IntV w vx x) (hb : IntV w vy 0) :
  Calls Tryz.prog 139 #[vx, vy] w fun e w' => e = .returned (.tuple #[.agg #[.bool false, .slice none 0 0], .agg #[.bool false, .slice none 0 0], .int .i64 6]) ∧ Below w.heap.size w w' := by
 have HS := Lib.hid fun W hw => Lib.hid (sign_any 0 _ W (by unfold len; rw [Int.natAbs_zero, digs_zero]; decide) (hb.keep (w' := W) hw))
 rw [show sgnZ 0 = 0 from rfl] at HS
 obtain ⟨adx, nx, cx, rfl, _⟩ := ha
 obtain ⟨ady, ny, cy, rfl, _⟩ := hb
 generalize decide (x < 0) = bx at *
 generalize decide ((0 : Int) < 0) = by' at *
 go_enter Tryz.func139, Tryz.ntmps139
 go_wp2_with fail
 refine (HS.out _ (below4 _ _ _ _ _)).out.mono ?_
 rintro e w0 ⟨rfl, hb0⟩
 obtain ⟨⟨cA0, cB0, cC0, cD0⟩, ⟨cE, cF, fE, fF⟩, ⟨cG, cH, fG, fH⟩, hsz0⟩ := box4 hb0
 have HB0 := Lib.hid ((below4 w _ _ _ _).trans (hb0.mono (by simp <;> omega)))
 clear hb0
 go_wp2
 refine bodyPost_ret (v := .tuple #[.agg #[.bool false, .slice none 0 0], .agg #[.bool false, .slice none 0 0], .int .i64 6]) (by simp [results, Tryz.results139, go_sem, cE, cF, cG, cH]) rfl ⟨rfl, ?_⟩
 exact (((HB0.out.setCell (by simp; omega) _).setCell (by simp; omega) _).setCell (by simp; omega) _).setCell (by simp; omega) _
set_option maxHeartbeats 2000000 in
set_option maxRecDepth 100000 in
theorem rDivide_zero (vx vy : Value) (x : Int) (w : World) (ha : RefV w vx x) (hb : RefV w vy 0) :
  Calls Tryz.prog 81 #[vx, vy] w fun e w' => e = .returned (.tuple #[.agg #[.bool false, .slice none 0 0], .agg #[.bool false, .slice none 0 0], .int .i64 6]) ∧ Below w.heap.size w w' := by
 have HS := Lib.hid fun W hw => Lib.hid (rSign_any 0 _ W (by unfold rlen; rw [Int.natAbs_zero, digs_zero]; decide) (hb.keep (w' := W) hw))
 rw [show sgnZ 0 = 0 from rfl] at HS
 obtain ⟨adx, nx, cx, rfl, _⟩ := ha
 obtain ⟨ady, ny, cy, rfl, _⟩ := hb
 generalize decide (x < 0) = bx at *
 generalize decide ((0 : Int) < 0) = by' at *
 go_enter Tryz.func81, Tryz.ntmps81
 go_wp2_with fail
 refine (HS.out _ (below4 _ _ _ _ _)).out.mono ?_
 rintro e w0 ⟨rfl, hb0⟩
 obtain ⟨⟨cA0, cB0, cC0, cD0⟩, ⟨cE, cF, fE, fF⟩, ⟨cG, cH, fG, fH⟩, hsz0⟩ := box4 hb0
 have HB0 := Lib.hid ((below4 w _ _ _ _).trans (hb0.mono (by simp <;> omega)))
 clear hb0
 go_wp2
 refine bodyPost_ret (v := .tuple #[.agg #[.bool false, .slice none 0 0], .agg #[.bool false, .slice none 0 0], .int .i64 6]) (by simp [results, Tryz.results81, go_sem, cE, cF, cG, cH]) rfl ⟨rfl, ?_⟩
 exact (((HB0.out.setCell (by simp; omega) _).setCell (by simp; omega) _).setCell (by simp; omega) _).setCell (by simp; omega) _
def DivR (w : World) (q r c : Int) (e : Ending) (w' : World) : Prop := ∃ vq vr, e = .returned (.tuple #[vq, vr, .int .i64 c]) ∧ IntV w' vq q ∧ IntV w' vr r ∧ Below w.heap.size w w'
def RDivR (w : World) (q r c : Int) (e : Ending) (w' : World) : Prop := ∃ vq vr, e = .returned (.tuple #[vq, vr, .int .i64 c]) ∧ RefV w' vq q ∧ RefV w' vr r ∧ Below w.heap.size w w'
theorem IntV.zero0 (w : World) : IntV w (.agg #[.bool false, .slice none 0 0]) 0 := ⟨none, 0, 0, rfl, .inl ⟨rfl, by rw [show Int.natAbs 0 = 0 from rfl, digs_zero]⟩⟩
def dvq (x y : Int) : Int := if y = 0 then 0 else x.tdiv y
def dvr (x y : Int) : Int := if y = 0 then 0 else x.tmod y
def dvc (y : Int) : Int := if y = 0 then 6 else 0
theorem Divide_all (x y : Int) (vx vy : Value) (w : World) (hx : len x ≤ 1000000) (hy : len y ≤ 1000000) (ha : IntV w vx x) (hb : IntV w vy y) :
  Calls Tryz.prog 139 #[vx, vy] w (DivR w (dvq x y) (dvr x y) (dvc y)) := by
 unfold dvq dvr dvc
 by_cases h : y = 0
 ·rw [if_pos h, if_pos h, if_pos h]
  subst h
  exact (Divide_zero vx vy x w ha hb).mono fun _ _ ⟨h1, h2⟩ => ⟨_, _, h1, IntV.zero0 _, IntV.zero0 _, h2⟩
 ·rw [if_neg h, if_neg h, if_neg h]
  exact Divide_any x y vx vy w hx hy h ha hb
theorem rDivide_all (x y : Int) (vx vy : Value) (w : World) (hx : rlen x ≤ 50000) (hy : rlen y ≤ 50000) (ha : RefV w vx x) (hb : RefV w vy y) :
  Calls Tryz.prog 81 #[vx, vy] w (RDivR w (dvq x y) (dvr x y) (dvc y)) := by
 unfold dvq dvr dvc
 by_cases h : y = 0
 ·rw [if_pos h, if_pos h, if_pos h]
  subst h
  exact (rDivide_zero vx vy x w ha hb).mono fun _ _ ⟨h1, h2⟩ => ⟨_, _, h1, RefV.zero0 _, RefV.zero0 _, h2⟩
 ·rw [if_neg h, if_neg h, if_neg h]
  exact rDivide_any x y vx vy w hx hy h ha hb
end
end Go.Proofs.YtghgcbedajaldaaGreat
