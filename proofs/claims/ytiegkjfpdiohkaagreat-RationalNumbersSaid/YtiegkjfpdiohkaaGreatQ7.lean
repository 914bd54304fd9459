/-  Fractions: the program's Cmp.  -/
import Derived.Test.YtiegkjfpdiohkaaGreatQ5
namespace Go.Proofs.YtiegkjfpdiohkaaGreat
section
open Go.RowKit Digs

/-- Two fractions' boxes. -/
structure G2 (w : World) (a b c d a' b' c' d' : Value) (W : World) : Prop where
  a0 : W.cell? ⟨w.heap.size, 0, none⟩ = some a
  a1 : W.cell? ⟨w.heap.size, 1, none⟩ = some b
  a2 : W.cell? ⟨w.heap.size, 2, none⟩ = some c
  a3 : W.cell? ⟨w.heap.size, 3, none⟩ = some d
  b0 : W.cell? ⟨w.heap.size + 1, 0, none⟩ = some a'
  b1 : W.cell? ⟨w.heap.size + 1, 1, none⟩ = some b'
  b2 : W.cell? ⟨w.heap.size + 1, 2, none⟩ = some c'
  b3 : W.cell? ⟨w.heap.size + 1, 3, none⟩ = some d'
  below : Below w.heap.size w W
theorem G2.made {w : World} {a b c d a' b' c' d' : Value} {t : TypeId} {W : World} (h : Below ((w.alloc (.cells #[a, b, c, d] t)).alloc (.cells #[a', b', c', d'] t)).heap.size ((w.alloc (.cells #[a, b, c, d] t)).alloc (.cells #[a', b', c', d'] t)) W) : G2 w a b c d a' b' c' d' W := by
  have h4 := cells4 h
  simp only [World.size_alloc] at h4
  have hx := cells4l h
  exact ⟨hx.1, hx.2.1, hx.2.2.1, hx.2.2.2, h4.1, h4.2.1, h4.2.2.1, h4.2.2.2.1, (below2 w _ _).trans (h.mono (by simp <;> omega))⟩

set_option maxHeartbeats 8000000 in
set_option maxRecDepth 100000 in
theorem ratCmp_any (n1 d1 n2 d2 : Int) (v1 v2 : Value) (w : World) (hd1 : 0 < d1) (hd2 : 0 < d2) (l1 : len n1 ≤ 1000000) (l2 : len d1 ≤ 1000000) (l3 : len n2 ≤ 1000000) (l4 : len d2 ≤ 1000000) (h1 : RatV w v1 n1 d1) (h2 : RatV w v2 n2 d2) :
    Calls Tryz.prog 26 #[v1, v2] w fun e w' => e = .returned (.int .i64 (cmpZ (n1 * d2) (n2 * d1))) ∧ Below w.heap.size w w' := by
  have HX := Lib.hid h1
  have HY := Lib.hid h2
  obtain ⟨a, b, c, e, rfl, q1, q2⟩ := h1
  obtain ⟨a', b', c', e', rfl, q3, q4⟩ := h2
  obtain ⟨p1, ad1, k1, c1, rfl, rfl, _⟩ := q1.parts
  obtain ⟨p2, ad2, k2, c2, rfl, rfl, _⟩ := q2.parts
  obtain ⟨p3, ad3, k3, c3, rfl, rfl, _⟩ := q3.parts
  obtain ⟨p4, ad4, k4, c4, rfl, rfl, _⟩ := q4.parts
  have HXn := Lib.hid q1
  have HYn := Lib.hid q3
  clear q1 q2 q3 q4
  have HD1 := Lib.hid fun W u h => Lib.hid (den_any n1 d1 u W hd1 l2 h)
  have HD2 := Lib.hid fun W u h => Lib.hid (den_any n2 d2 u W hd2 l4 h)
  have HM1 := Lib.hid fun W u v h h' => Lib.hid (Mul_any n1 d2 u v W l1 l4 h h')
  have HM2 := Lib.hid fun W u v h h' => Lib.hid (Mul_any n2 d1 u v W l3 l2 h h')
  have HC := Lib.hid fun W u v h h' => Lib.hid (Cmp_any (n1 * d2) (n2 * d1) u v W h h')
  clear hd1 hd2 l1 l2 l3 l4
  generalize cmpZ (n1 * d2) (n2 * d1) = cz at *
  generalize n1 * d2 = m1 at *
  generalize n2 * d1 = m2 at *
  go_enter Tryz.func26, Tryz.ntmps26
  have HB0 := Lib.hid (fun W h => G2.made (w := w) (a := .bool p1) (b := .slice ad1 k1 c1) (c := .bool p2) (d := .slice ad2 k2 c2) (a' := .bool p3) (b' := .slice ad3 k3 c3) (c' := .bool p4) (d' := .slice ad4 k4 c4) (t := 38) (W := W) h)
  go_upto_region 1 with fail
  have hc0 := (Below.refl ((w.alloc (.cells #[.bool p1, .slice ad1 k1 c1, .bool p2, .slice ad2 k2 c2] 38)).alloc (.cells #[.bool p3, .slice ad3 k3 c3, .bool p4, .slice ad4 k4 c4] 38)).heap.size ((w.alloc (.cells #[.bool p1, .slice ad1 k1 c1, .bool p2, .slice ad2 k2 c2] 38)).alloc (.cells #[.bool p3, .slice ad3 k3 c3, .bool p4, .slice ad4 k4 c4] 38))).drew
  have hb0 := HB0.out _ hc0
  go_region_held3 (fun w' => (w'.cell? ⟨w.heap.size, 0, none⟩ = some (.bool p1) ∧ w'.cell? ⟨w.heap.size, 1, none⟩ = some (.slice ad1 k1 c1) ∧ w'.cell? ⟨w.heap.size, 2, none⟩ = some (.bool p2) ∧ w'.cell? ⟨w.heap.size, 3, none⟩ = some (.slice ad2 k2 c2)) ∧ w'.cell? ⟨w.heap.size + 1, 0, none⟩ = some (.bool p3) ∧ w'.cell? ⟨w.heap.size + 1, 1, none⟩ = some (.slice ad3 k3 c3) ∧ w'.cell? ⟨w.heap.size + 1, 2, none⟩ = some (.bool p4) ∧ w'.cell? ⟨w.heap.size + 1, 3, none⟩ = some (.slice ad4 k4 c4))
    (first | exact ⟨⟨hb5.a0, hb5.a1, hb5.a2, hb5.a3⟩, hb5.b0, hb5.b1, hb5.b2, hb5.b3⟩ | exact ⟨⟨hb4.a0, hb4.a1, hb4.a2, hb4.a3⟩, hb4.b0, hb4.b1, hb4.b2, hb4.b3⟩ | exact ⟨⟨hb3.a0, hb3.a1, hb3.a2, hb3.a3⟩, hb3.b0, hb3.b1, hb3.b2, hb3.b3⟩ | exact ⟨⟨hb2.a0, hb2.a1, hb2.a2, hb2.a3⟩, hb2.b0, hb2.b1, hb2.b2, hb2.b3⟩ | exact ⟨⟨hb1.a0, hb1.a1, hb1.a2, hb1.a3⟩, hb1.b0, hb1.b1, hb1.b2, hb1.b3⟩ | exact ⟨⟨hb0.a0, hb0.a1, hb0.a2, hb0.a3⟩, hb0.b0, hb0.b1, hb0.b2, hb0.b3⟩ | go_keep)
    (go_loud (first
    | (go_at_call 67; (with_reducible refine (HD2.out _ _ (HY.out.keep hb0.below)).out.mono ?_); rintro e wA ⟨vA, rfl, hiA, hbA⟩; have hc1 := hc0.trans (hbA.mono hc0.size); have hb1 := HB0.out _ hc1)
    | (go_at_call 84; (with_reducible refine (HM1.out _ _ _ (HXn.out.keep hb1.below) hiA).out.mono ?_); rintro e wB ⟨vB, rfl, hiB, hbB⟩; have hc2 := hc1.trans (hbB.mono hc1.size); have hb2 := HB0.out _ hc2)
    | (go_at_call 67; (with_reducible refine (HD1.out _ _ (HX.out.keep hb2.below)).out.mono ?_); rintro e wC ⟨vC, rfl, hiC, hbC⟩; have hc3 := hc2.trans (hbC.mono hc2.size); have hb3 := HB0.out _ hc3; have hiB3 := hiB.keep hbC)
    | (go_at_call 84; (with_reducible refine (HM2.out _ _ _ (HYn.out.keep hb3.below) hiC).out.mono ?_); rintro e wD ⟨vD, rfl, hiD, hbD⟩; have hc4 := hc3.trans (hbD.mono hc3.size); have hb4 := HB0.out _ hc4; have hiB4 := hiB3.keep hbD)
    | (go_at_call 63; (with_reducible refine (HC.out _ _ _ hiB4 hiD).out.mono ?_); rintro e wE ⟨rfl, hbE⟩; have hc5 := hc4.trans (hbE.mono hc4.size); have hb5 := HB0.out _ hc5)))
  all_goals
    have HBL := Lib.hid hb5.below
    go_wp2
    go_ret
    exact ⟨rfl, HBL.out⟩

end
end Go.Proofs.YtiegkjfpdiohkaaGreat
