/-  Q6  -/
import Derived.Test.YtghgcbedajaldaaGreatMkaw
/-  Fractions: the program's Abs (Neg's text, turned).  -/
namespace Go.Proofs.YtghgcbedajaldaaGreat
section
open Go.RowKit Digs
set_option maxHeartbeats 4000000 in
set_option maxRecDepth 100000 in
theorem ratAbs_any (n d : Int) (v : Value) (w : World) (hn : len n ≤ 1000000) (h : RatV w v n d) :
  Calls Tryz.prog 38 #[v] w (RatPost w ((n.natAbs : Nat) : Int) d) := by
 obtain ⟨a, b, c, e, rfl, h1, h2⟩ := h
 obtain ⟨p1, ad1, n1, c1, rfl, rfl, _⟩ := h1.parts
 obtain ⟨p2, ad2, n2, c2, rfl, rfl, _⟩ := h2.parts
 have HN := Lib.hid fun W hw => Lib.hid (Abs_any n _ W hn (h1.keep (w' := W) hw))
 have H2 := Lib.hid h2
 clear h1 h2
 generalize ((n.natAbs : Nat) : Int) = m at *
 go_enter Tryz.func38, Tryz.ntmps38
 have HB0 := Lib.hid (fun W h => F2.made (w := w) (a := .bool p1) (b := .slice ad1 n1 c1) (c := .bool p2) (d := .slice ad2 n2 c2) (t := 38) (W := W) h)
 go_upto_region 1 with fail
 have hb0 := HB0.out _ ((Below.refl _ _).drew)
 have hne : w.heap.size ≠ w.heap.size + 1 := by omega
 go_region_held3 (fun w' => w'.cell? ⟨w.heap.size, 0, none⟩ = some (.bool p1) ∧ w'.cell? ⟨w.heap.size, 1, none⟩ = some (.slice ad1 n1 c1) ∧ w'.cell? ⟨w.heap.size, 2, none⟩ = some (.bool p2) ∧ w'.cell? ⟨w.heap.size, 3, none⟩ = some (.slice ad2 n2 c2))
  (first | exact ⟨hb1.a0, hb1.a1, hb1.a2, hb1.a3⟩ | exact ⟨hb0.a0, hb0.a1, hb0.a2, hb0.a3⟩ | exact ⟨(cell_store4 hne).trans hb1.a0, (cell_store4 hne).trans hb1.a1, (cell_store4 hne).trans hb1.a2, (cell_store4 hne).trans hb1.a3⟩ | go_keep)
  (go_loud (first
  | (go_at_call 69; (with_reducible refine (HN.out _ hb0.below).out.mono ?_); rintro e wA ⟨vA, rfl, hiA, hbA⟩; have hb1 := HB0.out _ (((Below.refl _ _).drew).trans hbA); obtain ⟨p3, ad3, n3, c3, rfl⟩ := intv_shape hiA; have r0 := hb1.r0; have r1 := hb1.r1; have r2 := hb1.r2; have r3 := hb1.r3; have f0 := hb1.f0; have f1 := hb1.f1; have f2 := hb1.f2; have f3 := hb1.f3)))
 all_goals
  have g1 := Lib.hid (hiA.st4 r0 r1 r2 r3 (by intro n h; cases h) (by intro n h; cases h) (by intro n h; cases h) (by intro n h; cases h))
  have g2 := Lib.hid ((H2.out.keep hb1.below).st4 r0 r1 r2 r3 (by intro n h; cases h) (by intro n h; cases h) (by intro n h; cases h) (by intro n h; cases h))
  have hbl := hb1.below
  go_wp2_with fail
  refine bodyPost_ret (v := .agg #[.bool p3, .slice ad3 n3 c3, .bool p2, .slice ad2 n2 c2]) (by simp [results, Tryz.results38, go_sem, r0, r1, r2, r3]) rfl ⟨_, rfl, ⟨_, _, _, _, rfl, g1.out _ _ _ _, g2.out _ _ _ _⟩, ?_⟩
  exact (((hbl.setCell (by simp) _).setCell (by simp) _).setCell (by simp) _).setCell (by simp) _
end
end Go.Proofs.YtghgcbedajaldaaGreat
