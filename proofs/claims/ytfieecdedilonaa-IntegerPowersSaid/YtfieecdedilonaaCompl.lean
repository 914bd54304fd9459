/-  Sub, complement, of integers.  -/
import Derived.Test.YtfieecdedilonaaSign
namespace Go.Proofs.Ytfieecdedilonaa
open Go.RowKit Digs

set_option maxHeartbeats 2000000 in
set_option maxRecDepth 100000 in
theorem Sub_any (x y : Int) (vx vy : Value) (w : World) (hx : len x ≤ 1000000) (hy : len y ≤ 1000000) (ha : IntV w vx x) (hb : IntV w vy y) :
    Calls Try.prog 40 #[vx, vy] w (IntPost w (x - y)) := by
  obtain ⟨adx, nx, cx, rfl, ra⟩ := ha
  obtain ⟨ady, ny, cy, rfl, rb⟩ := hb
  have HADD := fun W hw => Lib.hid (Add_raw (decide (x < 0)) (!decide (y < 0)) adx ady nx cx ny cy x.natAbs y.natAbs W hx hy (ra.keep (w' := W) hw) (rb.keep hw))
  have e : sg (decide (x < 0)) x.natAbs + sg (!decide (y < 0)) y.natAbs = x - y := by
    rw [sg_self]
    have h2 := sg_self y
    revert h2
    cases decide (y < 0) <;> simp [sg] <;> omega
  rw [e] at HADD
  have HADD := Lib.hid HADD
  clear hx hy ra rb e
  generalize decide (x < 0) = bx at *
  generalize decide (y < 0) = by' at *
  go_enter Try.func40, Try.ntmps40
  go_wp2_with fail
  refine (HADD.out _ ?_).out.mono ?_
  · exact below3 _ _ _ _
  rintro e w2 ⟨v2, rfl, ⟨ad2, n2, c2, rfl, hr2⟩, hb2⟩
  obtain ⟨cA, cB, cC, cD, cE, cF, fC, fE, fF, hsz⟩ := box3 hb2
  have HR := Lib.hid (hr2.store2 cE cF (by intro n h; cases h) (by intro n h; cases h))
  have HB := Lib.hid ((below3 w _ _ _).trans (hb2.mono (by simp <;> omega)))
  clear hr2 hb2
  go_wp2_with fail
  refine bodyPost_ret (v := .agg #[.bool (decide (x - y < 0)), .slice ad2 n2 c2]) (by simp [results, Try.results40, go_sem, cE, cF]) rfl ⟨_, rfl, ⟨_, _, _, rfl, HR.out _ _⟩, ?_⟩
  exact (HB.out.setCell (by simp; omega) _).setCell (by simp; omega) _

theorem box2r {w w2 : World} {a b c d : Value} {t u : TypeId} (h : Below ((w.alloc (.cells #[a, b] t)).alloc (.cells #[c, d] u)).heap.size ((w.alloc (.cells #[a, b] t)).alloc (.cells #[c, d] u)) w2) :
    w2.cell? ⟨w.heap.size + 1, 0, none⟩ = some c ∧ w2.cell? ⟨w.heap.size + 1, 1, none⟩ = some d ∧ w2.frozen? ⟨w.heap.size + 1, 0, none⟩ = false ∧ w2.frozen? ⟨w.heap.size + 1, 1, none⟩ = false ∧ w.heap.size + 1 < w2.heap.size := by
  have h2 := box2 (w := w.alloc (.cells #[a, b] t)) h
  simp only [World.size_alloc] at h2
  exact h2

theorem len_neg1 : len (-1) = 1 := by
  unfold len
  rw [show Int.natAbs (-1) = 1 from rfl, digs_pos (by decide) (by decide), digs_zero]
  rfl

set_option maxHeartbeats 2000000 in
set_option maxRecDepth 100000 in
theorem complement_any (z : Int) (v : Value) (w : World) (hz : len z ≤ 1000000) (h : IntV w v z) :
    Calls Try.prog 76 #[v] w (IntPost w (-1 - z)) := by
  have h' := h
  obtain ⟨ad, n, c, rfl, hr⟩ := h
  have HN := fun W => Lib.hid (new_any (-1) W (by decide) (by decide))
  have HS := fun v1 W h1 hw => Lib.hid (Sub_any (-1) z v1 _ W (by rw [len_neg1]; decide) hz h1 (h'.keep (w' := W) hw))
  have HN := Lib.hid HN
  have HS := Lib.hid HS
  clear hz h' hr
  generalize decide (z < 0) = b at *
  go_enter Try.func76, Try.ntmps76
  go_wp2_with fail
  go_region_held3 (fun w' => w'.cell? ⟨w.heap.size, 0, none⟩ = some (.bool b) ∧ w'.cell? ⟨w.heap.size, 1, none⟩ = some (.slice ad n c))
    (first | exact ⟨cA, cB⟩ | exact ⟨cA2, cB2⟩ | exact ⟨(cell_store2 (by omega)).trans cA2, (cell_store2 (by omega)).trans cB2⟩ | go_keep)
    (first
      | (go_at_call 17; refine (HN.out _).out.mono ?_; rintro e w1 ⟨v1, rfl, hi1, hb1'⟩; have hb1 := (Below.refl _ _).drew.trans hb1'; obtain ⟨cA, cB, cC, cD⟩ := box2two hb1; have hs1 := hb1.size; have h1w : w.heap.size < w1.heap.size := (by simp at hs1; omega); have hb0 := (below2 w _ _).trans (hb1.mono (by simp <;> omega)))
      | (go_at_call 40; refine (HS.out _ _ hi1 hb0).out.mono ?_; rintro e w2 ⟨v2, rfl, ⟨ad2, n2, c2, rfl, hr2⟩, hb2⟩; have cA2 := (hb2.cell (p := ⟨w.heap.size, 0, none⟩) h1w).trans cA; have cB2 := (hb2.cell (p := ⟨w.heap.size, 1, none⟩) h1w).trans cB; obtain ⟨cE, cF, fE, fF, hsz⟩ := box2r (hb1.trans (hb2.mono hs1))))
  have HR := Lib.hid (hr2.store2 cE cF (by intro n h; cases h) (by intro n h; cases h))
  have HB := Lib.hid (hb0.trans (hb2.mono (Nat.le_of_lt h1w)))
  clear hr2 hb2 hb1 hb1' hb0 hi1
  go_wp2
  refine bodyPost_ret (v := .agg #[.bool (decide (-1 - z < 0)), .slice ad2 n2 c2]) (by simp [results, Try.results76, go_sem, cE, cF]) rfl ⟨_, rfl, ⟨_, _, _, rfl, HR.out _ _⟩, ?_⟩
  exact (HB.out.setCell (by simp) _).setCell (by simp) _

end Go.Proofs.Ytfieecdedilonaa
