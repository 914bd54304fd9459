/-  Shift (up), Power, of integers.  -/
import Derived.Test.YtfieecdedilonaaPower
namespace Go.Proofs.Ytfieecdedilonaa
open Go.RowKit Digs

theorem sg_shl (z : Int) (n : Nat) : sg (decide (z < 0)) (z.natAbs * 2 ^ n) = z * 2 ^ n := by
  have h := sg_self z
  unfold sg at *
  split at h <;> rename_i hb
  · rw [if_pos hb]
    rw [Int.natCast_mul, ← Int.neg_mul, h, Int.natCast_pow]
    rfl
  · rw [if_neg hb]
    rw [Int.natCast_mul, h, Int.natCast_pow]
    rfl

theorem box2q {w w2 : World} {a b c d : Value} {t u : TypeId} (h : Below ((w.alloc (.cells #[a, b] t)).alloc (.cells #[c, d] u)).heap.size ((w.alloc (.cells #[a, b] t)).alloc (.cells #[c, d] u)) w2) :
    (w2.cell? ⟨w.heap.size, 0, none⟩ = some a ∧ w2.cell? ⟨w.heap.size, 1, none⟩ = some b) ∧ (w2.cell? ⟨w.heap.size + 1, 0, none⟩ = some c ∧ w2.cell? ⟨w.heap.size + 1, 1, none⟩ = some d ∧ w2.frozen? ⟨w.heap.size + 1, 0, none⟩ = false ∧ w2.frozen? ⟨w.heap.size + 1, 1, none⟩ = false) ∧ w.heap.size + 1 < w2.heap.size := by
  obtain ⟨h1, h2, _, _⟩ := box2two h
  obtain ⟨h3, h4, h5, h6, h7⟩ := box2r h
  exact ⟨⟨h1, h2⟩, ⟨h3, h4, h5, h6⟩, h7⟩

set_option maxHeartbeats 2000000 in
set_option maxRecDepth 100000 in
theorem Shift_up (z : Int) (v : Value) (n : Nat) (w : World) (hz : len z ≤ 1000000) (hn : 1 ≤ n) (h : IntV w v z) (h0 : z ≠ 0) (hl : lenZ z + n ≤ 65536) :
    Calls Try.prog 50 #[v, .int .i64 n] w (IntOK w (z * 2 ^ n)) := by
  have h' := h
  obtain ⟨ad, k, c, rfl, hr⟩ := h
  have HS := fun W hw => Lib.hid (sign_any z _ W hz (h'.keep (w' := W) hw))
  have HS := Lib.hid HS
  have HL := fun W hw => Lib.hid (Length_any z _ W hz (h'.keep (w' := W) hw))
  have HL := Lib.hid HL
  have HSH := fun W hw => Lib.hid (shl_any z.natAbs n (.slice ad k c) W (by omega) hz (hr.keep (w' := W) hw))
  have HSH := Lib.hid HSH
  have HOWN := fun v1 w1 h1 => Lib.hid (own_any (decide (z < 0)) v1 (digs 4294967296 (z.natAbs * 2 ^ n)) w1 h1 (digs_lt (by decide) _))
  rw [vl_digs (by decide), sg_shl] at HOWN
  have HOWN := Lib.hid HOWN
  have hsg := sgnZ_ne h0
  clear hr h' hz h0
  generalize sgnZ z = sy at *
  generalize hbb : decide (z < 0) = b at *
  generalize hll : lenZ z = lz at *
  clear hbb hll
  obtain ⟨zr, hzr⟩ : ∃ zr, zr = z * 2 ^ n := ⟨_, rfl⟩
  rw [← hzr] at HOWN ⊢
  clear hzr
  go_enter Try.func50, Try.ntmps50
  go_wp2_with fail
  refine (HS.out _ (below2 _ _ _)).out.mono ?_
  rintro e w1 ⟨rfl, hb1⟩
  have hb1' := hb1
  obtain ⟨⟨cA, cB⟩, ⟨cE, cF, fE, fF⟩, hsz⟩ := box2q hb1
  have HB := Lib.hid ((below2 w _ _).trans (hb1.mono (by simp <;> omega)))
  clear hb1
  go_wp2_with fail
  refine (HL.out _ HB.out).out.mono ?_
  rintro e w2 ⟨rfl, hb2⟩
  have hb3 := hb1'.trans (hb2.mono hb1'.size)
  have HB2 := Lib.hid (HB.out.trans (hb2.mono (by omega)))
  clear cA cB cE cF fE fF hb1' hb2
  obtain ⟨⟨cA, cB⟩, _, hsz2⟩ := box2q hb3
  have HB3 := Lib.hid hb3
  have h1w : w.heap.size < w2.heap.size := by omega
  clear hb3
  go_wp2_with fail
  go_region_held3 (fun w' => w'.cell? ⟨w.heap.size, 0, none⟩ = some (.bool b) ∧ w'.cell? ⟨w.heap.size, 1, none⟩ = some (.slice ad k c))
    (first | exact ⟨cA4, cB4⟩ | exact ⟨cA3, cB3⟩ | exact ⟨(cell_store2 (by omega)).trans cA4, (cell_store2 (by omega)).trans cB4⟩ | go_keep)
    (first
      | (go_at_call 95; refine (HSH.out _ HB2.out.drew).out.mono ?_; rintro e w3 ⟨v3, rfl, ho3, hb4'⟩; have hb4 := (Below.refl w2.heap.size w2).drew.trans hb4'; have cA3 := (hb4.cell (p := ⟨w.heap.size, 0, none⟩) h1w).trans cA; have cB3 := (hb4.cell (p := ⟨w.heap.size, 1, none⟩) h1w).trans cB; have hle := hb4.size)
      | (go_at_call 70; refine (HOWN.out _ _ ho3.rd).out.mono ?_; rintro e w4 ⟨v4, rfl, ⟨ad4, n4, c4, rfl, hr4⟩, hb5⟩; have cA4 := (hb5.cell (p := ⟨w.heap.size, 0, none⟩) (Nat.lt_of_lt_of_le h1w hle)).trans cA3; have cB4 := (hb5.cell (p := ⟨w.heap.size, 1, none⟩) (Nat.lt_of_lt_of_le h1w hle)).trans cB3; obtain ⟨_, ⟨cE4, cF4, fE4, fF4⟩, _⟩ := box2q (HB3.out.trans ((hb4.mono HB3.out.size).trans (hb5.mono (Nat.le_trans HB3.out.size hle))))))
  have HR := Lib.hid (hr4.store2 cE4 cF4 (by intro n h; cases h) (by intro n h; cases h))
  have HBB := Lib.hid (HB2.out.trans ((hb4.mono (Nat.le_of_lt h1w)).trans (hb5.mono (Nat.le_trans (Nat.le_of_lt h1w) hle))))
  clear hr4 hb4 hb5 hb4' ho3
  go_wp2
  refine bodyPost_ret (v := .tuple #[.agg #[.bool (decide (zr < 0)), .slice ad4 n4 c4], .int .i64 0]) (by simp [results, Try.results50, go_sem, cE4, cF4]) rfl ⟨_, rfl, ⟨_, _, _, rfl, HR.out _ _⟩, ?_⟩
  exact (HBB.out.setCell (by simp) _).setCell (by simp) _

end Go.Proofs.Ytfieecdedilonaa
