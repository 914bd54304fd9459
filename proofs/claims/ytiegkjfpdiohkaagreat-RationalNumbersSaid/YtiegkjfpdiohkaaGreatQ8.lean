/-  Fractions: the program's Numerator.  -/
import Derived.Test.YtiegkjfpdiohkaaGreatQ7
namespace Go.Proofs.YtiegkjfpdiohkaaGreat
section
open Go.RowKit Digs

set_option maxRecDepth 100000 in
theorem ratNum_any (n d : Int) (v : Value) (w : World) (h : RatV w v n d) :
    Calls Tryz.prog 68 #[v] w (IntPost w n) := by
  obtain ⟨a, b, c, e, rfl, h1, h2⟩ := h
  obtain ⟨p1, ad1, n1, c1, rfl, rfl, _⟩ := h1.parts
  obtain ⟨p2, ad2, n2, c2, rfl, rfl, _⟩ := h2.parts
  have H1 := Lib.hid h1
  clear h1 h2
  go_enter Tryz.func68, Tryz.ntmps68
  go_wp2_with fail
  refine bodyPost_ret (v := .agg #[.bool p1, .slice ad1 n1 c1]) (by simp [results, Tryz.results68, go_sem]) rfl ⟨_, rfl, H1.out.keep (below2 _ _ _), below2 _ _ _⟩

end
end Go.Proofs.YtiegkjfpdiohkaaGreat
