/-  Fractions: the program's Of, Numerator, Whole, Sign.  -/
import Derived.Test.YtiegkjfpdiohkaaGreatQ3
namespace Go.Proofs.YtiegkjfpdiohkaaGreat
section
open Go.RowKit Digs

set_option maxRecDepth 100000 in
theorem ratSign_any (n d : Int) (v : Value) (w : World) (hn : len n ≤ 1000000) (h : RatV w v n d) :
    Calls Tryz.prog 24 #[v] w fun e w' => e = .returned (.int .i64 (sgnZ n)) ∧ Below w.heap.size w w' := by
  obtain ⟨a, b, c, e, rfl, h1, h2⟩ := h
  obtain ⟨p1, ad1, n1, c1, rfl, rfl, _⟩ := h1.parts
  obtain ⟨p2, ad2, n2, c2, rfl, rfl, _⟩ := h2.parts
  have HS := Lib.hid fun W hw => Lib.hid (sign_any n _ W hn (h1.keep (w' := W) hw))
  clear h1 h2
  go_enter Tryz.func24, Tryz.ntmps24
  go_wp2_with fail
  refine (HS.out _ ((Below.refl _ _).alloc (Nat.le_refl _) _)).out.mono ?_
  rintro e w1 ⟨rfl, hb⟩
  have HB := Lib.hid (((Below.refl w.heap.size w).alloc (Nat.le_refl _) (.cells #[.bool p1, .slice ad1 n1 c1, .bool p2, .slice ad2 n2 c2] 38)).trans (hb.mono (by simp)))
  clear hb
  go_wp2_with fail
  go_ret
  exact ⟨rfl, HB.out⟩

set_option maxRecDepth 100000 in
theorem ratWhole_any (n d : Int) (v : Value) (w : World) (hd0 : 0 < d) (hd : len d ≤ 1000000) (h : RatV w v n d) :
    Calls Tryz.prog 22 #[v] w (BoolPost w (decide (d = 1))) := by
  obtain ⟨a, b, c, e, rfl, h1, h2⟩ := h
  obtain ⟨p1, ad1, n1, c1, rfl, rfl, _⟩ := h1.parts
  obtain ⟨p2, ad2, n2, c2, rfl, rfl, _⟩ := h2.parts
  have HS := Lib.hid fun W hw => Lib.hid (sign_any (dz d) _ W (dz_len hd) (h2.keep (w' := W) hw))
  have hs : (sgnZ (dz d) == 0) = decide (d = 1) := by
    by_cases h : d = 1
    · rw [(dz_sgn hd0).1 h, decide_eq_true h]; rfl
    · rw [((dz_sgn hd0).2 h).2, decide_eq_false h]; rfl
  clear h1 h2
  generalize sgnZ (dz d) = s at *
  go_enter Tryz.func22, Tryz.ntmps22
  go_wp2_with fail
  refine (HS.out _ ((Below.refl _ _).alloc (Nat.le_refl _) _)).out.mono ?_
  rintro e w1 ⟨rfl, hb⟩
  have HB := Lib.hid (((Below.refl w.heap.size w).alloc (Nat.le_refl _) (.cells #[.bool p1, .slice ad1 n1 c1, .bool p2, .slice ad2 n2 c2] 38)).trans (hb.mono (by simp)))
  clear hb
  go_wp2_with fail
  go_ret
  exact ⟨rfl, HB.out⟩

set_option maxRecDepth 100000 in
theorem ratOf_any (n : Int) (v : Value) (w : World) (h : IntV w v n) :
    Calls Tryz.prog 20 #[v] w (RatPost w n 1) := by
  have k := h
  obtain ⟨ad1, n1, c1, rfl, _⟩ := k
  have H1 := Lib.hid h
  clear h
  generalize decide (n < 0) = p1 at *
  go_enter Tryz.func20, Tryz.ntmps20
  go_wp2_with fail
  refine bodyPost_ret (v := .agg #[.bool p1, .slice ad1 n1 c1, .bool false, .slice none 0 0]) (by simp [results, Tryz.results20, go_sem]) rfl ⟨_, rfl, ⟨_, _, _, _, rfl, H1.out.keep (below2 _ _ _), IntV.nil0 _⟩, below2 _ _ _⟩

end
end Go.Proofs.YtiegkjfpdiohkaaGreat
