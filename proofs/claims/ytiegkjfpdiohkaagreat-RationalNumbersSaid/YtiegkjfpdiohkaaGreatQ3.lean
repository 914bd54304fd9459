/-  Fractions: the program's New.  -/
import Derived.Test.YtiegkjfpdiohkaaGreatQ2
namespace Go.Proofs.YtiegkjfpdiohkaaGreat
section
open Go.RowKit Digs

theorem sgnZ_z {x : Int} : sgnZ x = 0 ↔ x = 0 := by
  unfold sgnZ
  split <;> (try split) <;> constructor <;> intro h <;> first | omega | (exfalso; omega)

set_option maxHeartbeats 4000000 in
set_option maxRecDepth 100000 in
theorem ratNew_any (n d : Int) (vn vd : Value) (w : World) (hn : len n ≤ 1000000) (hd : len d ≤ 1000000) (h1 : IntV w vn n) (h2 : IntV w vd d) :
    Calls Tryz.prog 16 #[vn, vd] w (RatRes w (if d = 0 then 0 else qn n d) (if d = 0 then 1 else qd n d) (if d = 0 then 6 else 0)) := by
  obtain ⟨N, hN⟩ : ∃ N : Int, N = if d = 0 then 0 else qn n d := ⟨_, rfl⟩
  obtain ⟨D, hD⟩ : ∃ D : Int, D = if d = 0 then 1 else qd n d := ⟨_, rfl⟩
  obtain ⟨C, hC⟩ : ∃ C : Int, C = if d = 0 then 6 else 0 := ⟨_, rfl⟩
  rw [← hN, ← hD, ← hC]
  have HN := Lib.hid hN
  have HD := Lib.hid hD
  have HC := Lib.hid hC
  clear hN hD hC
  have k1 := h1
  have k2 := h2
  obtain ⟨ad1, n1, c1, rfl, _⟩ := k1
  obtain ⟨ad2, n2, c2, rfl, _⟩ := k2
  have H1 := Lib.hid h1
  have H2 := Lib.hid h2
  clear h1 h2
  have HS := Lib.hid fun W u h => Lib.hid (sign_any d u W hd h)
  have HR := Lib.hid fun W u v h h' => Lib.hid (reduce_any n d u v W hn hd h h')
  have hsg : (sgnZ d == 0) = decide (d = 0) := by
    by_cases h : d = 0
    · rw [decide_eq_true h, sgnZ_z.2 h]; rfl
    · rw [decide_eq_false h]; simp [sgnZ_z, h]
  generalize decide (n < 0) = p1 at *
  generalize decide (d < 0) = p2 at *
  generalize sgnZ d = sd at *
  go_enter Tryz.func16, Tryz.ntmps16
  have HB0 := Lib.hid (fun W h => B3.made (w := w) (a := .bool p1) (b := .slice ad1 n1 c1) (c := .bool p2) (d := .slice ad2 n2 c2) (t := 31) (u := 38) (W := W) h)
  go_wp2_with fail
  (with_reducible refine (HS.out _ _ (H2.out.keep (below3w _ _ _ _))).out.mono ?_)
  rintro e w1 ⟨rfl, hb1⟩
  have hB1 := HB0.out _ hb1
  clear hb1 HB0
  by_cases h0 : d = 0
  · obtain rfl : N = 0 := HN.out.trans (if_pos h0)
    obtain rfl : D = 1 := HD.out.trans (if_pos h0)
    obtain rfl : C = 6 := HC.out.trans (if_pos h0)
    clear HN HD HC
    obtain ⟨_, _, _, _, r0, r1, r2, r3, f0, f1, f2, f3, _, _, _, _, hbl⟩ := hB1
    go_wp2_with fail
    refine bodyPost_ret (v := .tuple #[.agg #[.bool false, .slice none 0 0, .bool false, .slice none 0 0], .int .i64 6]) (by simp [results, Tryz.results16, go_sem, r0, r1, r2, r3]) rfl ⟨_, rfl, ⟨_, _, _, _, rfl, IntV.nil0 _, IntV.nil0 _⟩, ?_⟩
    exact (((hbl.setCell (by simp; omega) _).setCell (by simp; omega) _).setCell (by simp; omega) _).setCell (by simp; omega) _
  · obtain rfl : N = qn n d := HN.out.trans (if_neg h0)
    obtain rfl : D = qd n d := HD.out.trans (if_neg h0)
    obtain rfl : C = 0 := HC.out.trans (if_neg h0)
    clear HN HD HC
    generalize qn n d = N at *
    generalize qd n d = D at *
    have hB := Lib.hid hB1
    obtain ⟨x0, x1, y0, y1, _⟩ := hB1
    go_wp2_with fail
    (with_reducible refine (HR.out _ _ _ (H1.out.keep hB.out.below) (H2.out.keep hB.out.below)).out.mono ?_)
    rintro e w2 ⟨v2, rfl, ⟨ka, kb, kc, kd, rfl, hi1, hi2⟩, hb2⟩
    obtain ⟨p6, ad6, n6, c6, rfl, rfl, _⟩ := hi1.parts
    obtain ⟨p7, ad7, n7, c7, rfl, rfl, _⟩ := hi2.parts
    obtain ⟨_, _, _, _, r0, r1, r2, r3, f0, f1, f2, f3, _, _, _, _, hbl⟩ := hB.out.keep hb2
    have g1 := Lib.hid (hi1.st4 r0 r1 r2 r3 (by intro n h; cases h) (by intro n h; cases h) (by intro n h; cases h) (by intro n h; cases h))
    have g2 := Lib.hid (hi2.st4 r0 r1 r2 r3 (by intro n h; cases h) (by intro n h; cases h) (by intro n h; cases h) (by intro n h; cases h))
    clear hi1 hi2 hb2 x0 x1 y0 y1
    go_wp2_with fail
    refine bodyPost_ret (v := .tuple #[.agg #[.bool p6, .slice ad6 n6 c6, .bool p7, .slice ad7 n7 c7], .int .i64 0]) (by simp [results, Tryz.results16, go_sem, r0, r1, r2, r3]) rfl ⟨_, rfl, ⟨_, _, _, _, rfl, g1.out _ _ _ _, g2.out _ _ _ _⟩, ?_⟩
    exact (((hbl.setCell (by simp; omega) _).setCell (by simp; omega) _).setCell (by simp; omega) _).setCell (by simp; omega) _

end
end Go.Proofs.YtiegkjfpdiohkaaGreat
