/-  Fractions: the program's Neg, Abs.  -/
import Derived.Test.YtiegkjfpdiohkaaGreatQ4
namespace Go.Proofs.YtiegkjfpdiohkaaGreat
section
open Go.RowKit Digs

theorem intv_shape {w : World} {v : Value} {z : Int} (h : IntV w v z) : ∃ (p : Bool) (ad : Option Addr) (n c : Nat), v = .agg #[.bool p, .slice ad n c] := by
  obtain ⟨ad, n, c, rfl, _⟩ := h
  exact ⟨_, ad, n, c, rfl⟩

/-- A fraction's box, and the one of the result. -/
structure F2 (w : World) (a b c d : Value) (W : World) : Prop where
  a0 : W.cell? ⟨w.heap.size, 0, none⟩ = some a
  a1 : W.cell? ⟨w.heap.size, 1, none⟩ = some b
  a2 : W.cell? ⟨w.heap.size, 2, none⟩ = some c
  a3 : W.cell? ⟨w.heap.size, 3, none⟩ = some d
  r0 : W.cell? ⟨w.heap.size + 1, 0, none⟩ = some (.bool false)
  r1 : W.cell? ⟨w.heap.size + 1, 1, none⟩ = some (.slice none 0 0)
  r2 : W.cell? ⟨w.heap.size + 1, 2, none⟩ = some (.bool false)
  r3 : W.cell? ⟨w.heap.size + 1, 3, none⟩ = some (.slice none 0 0)
  f0 : W.frozen? ⟨w.heap.size + 1, 0, none⟩ = false
  f1 : W.frozen? ⟨w.heap.size + 1, 1, none⟩ = false
  f2 : W.frozen? ⟨w.heap.size + 1, 2, none⟩ = false
  f3 : W.frozen? ⟨w.heap.size + 1, 3, none⟩ = false
  below : Below w.heap.size w W
theorem F2.made {w : World} {a b c d : Value} {t : TypeId} {W : World} (h : Below ((w.alloc (.cells #[a, b, c, d] t)).alloc (.cells #[.bool false, .slice none 0 0, .bool false, .slice none 0 0] t)).heap.size ((w.alloc (.cells #[a, b, c, d] t)).alloc (.cells #[.bool false, .slice none 0 0, .bool false, .slice none 0 0] t)) W) : F2 w a b c d W := by
  have h4 := cells4 h
  simp only [World.size_alloc] at h4
  have hx := cells4l h
  exact ⟨hx.1, hx.2.1, hx.2.2.1, hx.2.2.2, h4.1, h4.2.1, h4.2.2.1, h4.2.2.2.1, h4.2.2.2.2.1, h4.2.2.2.2.2.1, h4.2.2.2.2.2.2.1, h4.2.2.2.2.2.2.2.1, (below2 w _ _).trans (h.mono (by simp <;> omega))⟩

set_option maxHeartbeats 4000000 in
set_option maxRecDepth 100000 in
theorem ratNeg_any (n d : Int) (v : Value) (w : World) (hn : len n ≤ 1000000) (h : RatV w v n d) :
    Calls Tryz.prog 36 #[v] w (RatPost w (-n) d) := by
  obtain ⟨a, b, c, e, rfl, h1, h2⟩ := h
  obtain ⟨p1, ad1, n1, c1, rfl, rfl, _⟩ := h1.parts
  obtain ⟨p2, ad2, n2, c2, rfl, rfl, _⟩ := h2.parts
  have HN := Lib.hid fun W hw => Lib.hid (Neg_any n _ W hn (h1.keep (w' := W) hw))
  have H2 := Lib.hid h2
  clear h1 h2
  generalize -n = m at *
  go_enter Tryz.func36, Tryz.ntmps36
  have HB0 := Lib.hid (fun W h => F2.made (w := w) (a := .bool p1) (b := .slice ad1 n1 c1) (c := .bool p2) (d := .slice ad2 n2 c2) (t := 38) (W := W) h)
  go_upto_region 1 with fail
  have hb0 := HB0.out _ ((Below.refl _ _).drew)
  have hne : w.heap.size ≠ w.heap.size + 1 := by omega
  go_region_held3 (fun w' => w'.cell? ⟨w.heap.size, 0, none⟩ = some (.bool p1) ∧ w'.cell? ⟨w.heap.size, 1, none⟩ = some (.slice ad1 n1 c1) ∧ w'.cell? ⟨w.heap.size, 2, none⟩ = some (.bool p2) ∧ w'.cell? ⟨w.heap.size, 3, none⟩ = some (.slice ad2 n2 c2))
    (first | exact ⟨hb1.a0, hb1.a1, hb1.a2, hb1.a3⟩ | exact ⟨hb0.a0, hb0.a1, hb0.a2, hb0.a3⟩ | exact ⟨(cell_store4 hne).trans hb1.a0, (cell_store4 hne).trans hb1.a1, (cell_store4 hne).trans hb1.a2, (cell_store4 hne).trans hb1.a3⟩ | go_keep)
    (go_loud (first
    | (go_at_call 62; (with_reducible refine (HN.out _ hb0.below).out.mono ?_); rintro e wA ⟨vA, rfl, hiA, hbA⟩; have hb1 := HB0.out _ (((Below.refl _ _).drew).trans hbA); obtain ⟨p3, ad3, n3, c3, rfl⟩ := intv_shape hiA; have r0 := hb1.r0; have r1 := hb1.r1; have r2 := hb1.r2; have r3 := hb1.r3; have f0 := hb1.f0; have f1 := hb1.f1; have f2 := hb1.f2; have f3 := hb1.f3)))
  all_goals
    have g1 := Lib.hid (hiA.st4 r0 r1 r2 r3 (by intro n h; cases h) (by intro n h; cases h) (by intro n h; cases h) (by intro n h; cases h))
    have g2 := Lib.hid ((H2.out.keep hb1.below).st4 r0 r1 r2 r3 (by intro n h; cases h) (by intro n h; cases h) (by intro n h; cases h) (by intro n h; cases h))
    have hbl := hb1.below
    go_wp2_with fail
    refine bodyPost_ret (v := .agg #[.bool p3, .slice ad3 n3 c3, .bool p2, .slice ad2 n2 c2]) (by simp [results, Tryz.results36, go_sem, r0, r1, r2, r3]) rfl ⟨_, rfl, ⟨_, _, _, _, rfl, g1.out _ _ _ _, g2.out _ _ _ _⟩, ?_⟩
    exact (((hbl.setCell (by simp) _).setCell (by simp) _).setCell (by simp) _).setCell (by simp) _

end
end Go.Proofs.YtiegkjfpdiohkaaGreat
