/-  The law's awake: the chapter's examples.  -/
import Derived.Test.YtfieecdedilonaaText2
import Derived.Test.YtfieecdedilonaaDivInt
namespace Go.Proofs.Ytfieecdedilonaa
open Go.RowKit Digs

theorem digs_small (n : Nat) (h0 : n ≠ 0) (h : n < 4294967296) : digs 4294967296 n = [n] := by
  rw [digs_pos (by decide) h0, Nat.div_eq_of_lt h, digs_zero, Nat.mod_eq_of_lt h]
theorem len_small (z : Int) (h0 : z.natAbs ≠ 0) (h : z.natAbs < 4294967296) : len z = 1 := by unfold len; rw [digs_small _ h0 h]; rfl
theorem rlen_small (z : Int) (h : z.natAbs < 65536) : rlen z ≤ 1 := by
  unfold rlen
  exact digs_length_le (by decide) _ 1 (by rw [Nat.pow_one]; exact h)

/-- Divide by one limb, of a number that is not smaller. -/
theorem Divide_one (x y : Int) (vx vy : Value) (w : World) (hx : len x ≤ 1000000) (hy : len y = 1) (hxy : y.natAbs ≤ x.natAbs) (ha : IntV w vx x) (hb : IntV w vy y) :
    Calls Try.prog 30 #[vx, vy] w (DivideOK w x y) := by
  have hb' := hb
  obtain ⟨adx, nx, cx, rfl, ra⟩ := ha
  obtain ⟨ady, ny, cy, rfl, rb⟩ := hb
  have hy0 : y ≠ 0 := by
    rintro rfl
    unfold len at hy
    rw [show Int.natAbs 0 = 0 from rfl, digs_zero] at hy
    cases hy
  have h := divide_core (decide (x < 0)) (decide (y < 0)) adx ady nx cx ny cy (x.natAbs / y.natAbs) (x.natAbs % y.natAbs) y hy0 (by omega) w hb' (fun W hw => divide_one _ _ _ _ W hx hy hxy (ra.keep hw) (rb.keep hw))
  rw [sg_div, sg_mod (decide (x < 0)) (decide (y < 0)), sg_self, sg_self] at h
  exact h

theorem text_any (r : Nat) (z : Int) (v : Value) (w : World) (h2 : 2 ≤ r) (h36 : r ≤ 36) (hz : z ≠ 0) (hl : len z ≤ 1000000) (h : IntV w v z) :
    Calls Try.prog 60 #[v, .int .i64 r] w (TextPost w (textB (decide (z < 0)) r z.natAbs)) := by
  have h' := h
  obtain ⟨ad, n, c, rfl, _⟩ := h
  exact text_core (decide (z < 0)) ad n c r z.natAbs 1000000 z rfl (by omega) w h2 h36 hl (Nat.le_refl _) h'

theorem is_eq (x : Int) (vx vy : Value) (w : World) (hx : len x ≤ 1000000 ∧ rlen x ≤ 1000000) (ha : IntV w vx x) (hb : RefV w vy x) :
    Calls Try.prog 21 #[vx, vy] w (BoolPost w true) := by
  have h := is_any x x vx vy w hx.1 hx.2 ha hb
  rw [decide_eq_true rfl] at h
  exact h

/-- What the law's last line needs of a world. -/
def AwS (w : World) (p q : Nat) (x y z : Value × Value) (w' : World) : Prop :=
  w'.cell? ⟨p, 0, none⟩ = some x.1 ∧ w'.cell? ⟨p, 1, none⟩ = some x.2 ∧ w'.cell? ⟨p + 1, 0, none⟩ = some y.1 ∧ w'.cell? ⟨p + 1, 1, none⟩ = some y.2 ∧ w'.cell? ⟨q, 0, none⟩ = some z.1 ∧ w'.cell? ⟨q, 1, none⟩ = some z.2 ∧
    IntV w' (.agg #[x.1, x.2]) (-3) ∧ IntV w' (.agg #[y.1, y.2]) (-1) ∧ IntV w' (.agg #[z.1, z.2]) 4 ∧ Below w.heap.size w w'
theorem AwS.keep {w : World} {p q : Nat} {x y z : Value × Value} {w1 w2 : World} (h : AwS w p q x y z w1) (hb : Below w1.heap.size w1 w2) : AwS w p q x y z w2 := by
  obtain ⟨h1, h2, h3, h4, h5, h6, h7, h8, h9, h10⟩ := h
  have hp := World.block_lt_of_cell? w1 _ h1
  have hp1 := World.block_lt_of_cell? w1 _ h3
  have hq := World.block_lt_of_cell? w1 _ h5
  exact ⟨(hb.cell (p := ⟨p, 0, none⟩) hp).trans h1, (hb.cell (p := ⟨p, 1, none⟩) hp).trans h2, (hb.cell (p := ⟨p + 1, 0, none⟩) hp1).trans h3, (hb.cell (p := ⟨p + 1, 1, none⟩) hp1).trans h4, (hb.cell (p := ⟨q, 0, none⟩) hq).trans h5, (hb.cell (p := ⟨q, 1, none⟩) hq).trans h6,
    h7.keep hb, h8.keep hb, h9.keep hb, h10.trans (hb.mono h10.size)⟩

set_option maxHeartbeats 4000000 in
set_option maxRecDepth 100000 in
theorem awake_any (w : World) : Calls Try.prog 15 #[] w (BoolPost w true) := by
  have HN := fun z W h1 h2 => Lib.hid (new_any z W h1 h2)
  have HN := Lib.hid HN
  go_enter Try.func15, Try.ntmps15
  go_wp2_with fail
  refine (HN.out (-7) _ (by decide) (by decide)).out.mono ?_
  rintro e w1 ⟨v1, rfl, h1, hb1⟩
  go_wp2_with fail
  refine (HN.out 2 _ (by decide) (by decide)).out.mono ?_
  rintro e w2 ⟨v2, rfl, h2, hb2⟩
  have HD := Lib.hid (Divide_one (-7) 2 v1 v2 w2 (by rw [len_small _ (by decide) (by decide)]; decide) (len_small _ (by decide) (by decide)) (by decide) (h1.keep hb2) h2)
  have HB2 := Lib.hid (hb1.trans (hb2.mono hb1.size))
  clear h1 h2 hb1 hb2
  go_wp2_with fail
  refine HD.out.mono ?_
  rintro e w3 ⟨vq, vr, rfl, hq, hr, hb3⟩
  have HB3 := Lib.hid (HB2.out.trans (hb3.mono HB2.out.size))
  have HQ := Lib.hid hq
  have HR := Lib.hid hr
  clear hq hr hb3
  obtain ⟨adq, nq, cq, hvq, _⟩ := HQ.out
  obtain ⟨adr, nr, cr, hvr, _⟩ := HR.out
  rw [hvq] at HQ
  rw [hvr] at HR
  rw [hvq, hvr]
  clear hvq hvr
  go_wp2_with fail
  refine (HN.out 255 _ (by decide) (by decide)).out.mono ?_
  rintro e w4 ⟨v4, rfl, h4, hb4⟩
  have HX4 := Lib.hid hb4
  have HT := Lib.hid (text_any 16 255 v4 w4 (by decide) (by decide) (by decide) (by rw [len_small _ (by decide) (by decide)]; decide) h4)
  clear h4 hb4
  have htx : bstr (textB (decide ((255 : Int) < 0)) 16 (Int.natAbs 255)) = ⟨#[70, 70]⟩ := by
    have h9 : digs 16 255 = [15, 15] := by
      rw [digs_pos (by decide) (by decide), digs_pos (by decide) (by decide), digs_zero]
    show bstr (textB false 16 255) = _
    unfold textB
    rw [h9]
    rfl
  have HTX := Lib.hid htx
  clear htx
  go_wp2_with fail
  refine HT.out.mono ?_
  rintro e w5 ⟨rfl, hb5⟩
  have HX5 := Lib.hid (HX4.out.trans (hb5.mono HX4.out.size))
  clear hb5
  rw [HTX.out]
  go_wp2_with fail
  refine (HN.out (-4) _ (by decide) (by decide)).out.mono ?_
  rintro e w6 ⟨v6, rfl, h6, hb6⟩
  have HX6 := Lib.hid (HX5.out.trans (hb6.mono HX5.out.size))
  have H6 := Lib.hid h6
  clear h6 hb6
  go_wp2_with fail
  refine (HN.out 7 _ (by decide) (by decide)).out.mono ?_
  rintro e w7 ⟨v7, rfl, h7, hb7⟩
  have HX7 := Lib.hid (HX6.out.trans (hb7.mono HX6.out.size))
  have HBL := Lib.hid (Boole_ok 8 (-4) 7 v6 v7 w7 (by decide) (by rw [len_small _ (by decide) (by decide)]; decide) (by rw [len_small _ (by decide) (by decide)]; decide) (H6.out.keep hb7) h7)
  have hb4z : boolZ 8 (-4) 7 = 4 := by
    unfold boolZ combW wordsN
    rw [len_small _ (by decide) (by decide), len_small _ (by decide) (by decide)]
    rw [if_pos (by decide), if_neg (by decide), show Int.natAbs (-1 - -4) = 3 from rfl, show Int.natAbs 7 = 7 from rfl, digs_small 3 (by decide) (by decide), digs_small 7 (by decide) (by decide)]
    decide
  rw [hb4z] at HBL
  clear h7 hb7 hb4z
  go_wp2_with fail
  refine HBL.out.mono ?_
  rintro e w8 ⟨vb, rfl, h8, hb8⟩
  have HX8 := Lib.hid (HX7.out.trans (hb8.mono HX7.out.size))
  have H8 := Lib.hid h8
  obtain ⟨adb, nb, cb, hvb, _⟩ := h8
  rw [hvb] at H8
  rw [hvb]
  clear hvb hb8
  obtain ⟨cA, cB, cC, cD⟩ := box2two HX8.out
  go_wp2_with fail
  have hbox : Below w3.heap.size w3 w8 := (below2 _ _ _).trans (HX8.out.mono (by simp; omega))
  have hS : AwS w w3.heap.size w8.heap.size (.bool true, .slice adq nq cq) (.bool true, .slice adr nr cr) (.bool false, .slice adb nb cb) (w8.alloc (.cells #[.bool false, .slice adb nb cb] 28)) := by
    have hal : Below w8.heap.size w8 (w8.alloc (.cells #[.bool false, .slice adb nb cb] 28)) := (Below.refl _ _).alloc (Nat.le_refl _) _
    have hb3l : w3.heap.size + 1 < w8.heap.size := World.block_lt_of_cell? w8 _ cC
    refine ⟨(hal.cell (p := ⟨w3.heap.size, 0, none⟩) (by show w3.heap.size < _; omega)).trans cA, (hal.cell (p := ⟨w3.heap.size, 1, none⟩) (by show w3.heap.size < _; omega)).trans cB, (hal.cell (p := ⟨w3.heap.size + 1, 0, none⟩) hb3l).trans cC, (hal.cell (p := ⟨w3.heap.size + 1, 1, none⟩) hb3l).trans cD, by rw [World.cell?_alloc_at _ _ _ _ rfl]; rfl, by rw [World.cell?_alloc_at _ _ _ _ rfl]; rfl, ?_, ?_, ?_, ?_⟩
    · exact (HQ.out.keep hbox).keep hal
    · exact (HR.out.keep hbox).keep hal
    · exact H8.out.keep hal
    · exact (HB3.out.trans (hbox.mono HB3.out.size)).trans (hal.mono (Nat.le_trans HB3.out.size hbox.size))
  have HS0 := Lib.hid hS
  have HRN := fun z W h1 h2 => Lib.hid (rnew_any z W h1 h2)
  have HRN := Lib.hid HRN
  have HL3 : len (-3) ≤ 1000000 ∧ rlen (-3) ≤ 1000000 := ⟨by rw [len_small _ (by decide) (by decide)]; decide, Nat.le_trans (rlen_small _ (by decide)) (by decide)⟩
  have HL1 : len (-1) ≤ 1000000 ∧ rlen (-1) ≤ 1000000 := ⟨by rw [len_small _ (by decide) (by decide)]; decide, Nat.le_trans (rlen_small _ (by decide)) (by decide)⟩
  have HL4 : len 4 ≤ 1000000 ∧ rlen 4 ≤ 1000000 := ⟨by rw [len_small _ (by decide) (by decide)]; decide, Nat.le_trans (rlen_small _ (by decide)) (by decide)⟩
  have HL3 := Lib.hid HL3
  have HL1 := Lib.hid HL1
  have HL4 := Lib.hid HL4
  clear hS hbox cA cB cC cD
  go_region_held3 (fun w' => w'.cell? ⟨w3.heap.size, 0, none⟩ = some (.bool true) ∧ w'.cell? ⟨w3.heap.size, 1, none⟩ = some (.slice adq nq cq) ∧ w'.cell? ⟨w3.heap.size + 1, 0, none⟩ = some (.bool true) ∧ w'.cell? ⟨w3.heap.size + 1, 1, none⟩ = some (.slice adr nr cr) ∧ w'.cell? ⟨w8.heap.size, 0, none⟩ = some (.bool false) ∧ w'.cell? ⟨w8.heap.size, 1, none⟩ = some (.slice adb nb cb) ∧ IntV w' (.agg #[.bool true, .slice adq nq cq]) (-3) ∧ IntV w' (.agg #[.bool true, .slice adr nr cr]) (-1) ∧ IntV w' (.agg #[.bool false, .slice adb nb cb]) 4 ∧ Below w.heap.size w w')
    (first | exact HS0.out | exact (HS0.out.keep ((Below.refl _ _).drew)) | exact (HS0.out.keep ((Below.refl _ _).drew.trans hbn)) | exact AwS.keep (w := w) (x := (.bool true, .slice adq nq cq)) (y := (.bool true, .slice adr nr cr)) (z := (.bool false, .slice adb nb cb)) (by assumption) hbn | go_keep)
    (first
      | (go_at_call 18; refine (HRN.out _ _ (by decide) (by decide)).out.mono ?_; rintro e wn ⟨vn, rfl, hrn, hbn⟩)
      | (go_at_call 21; have hsw : AwS w w3.heap.size w8.heap.size (.bool true, .slice adq nq cq) (.bool true, .slice adr nr cr) (.bool false, .slice adb nb cb) wn := (by assumption); refine (is_eq _ _ _ _ ?_ (by first | exact hsw.2.2.2.2.2.2.1 | exact hsw.2.2.2.2.2.2.2.1 | exact hsw.2.2.2.2.2.2.2.2.1) hrn).mono ?_; (first | exact HL3.out | exact HL1.out | exact HL4.out); rintro e wn ⟨rfl, hbn⟩))
  go_wp2
  go_ret
  have hend : AwS w w3.heap.size w8.heap.size (.bool true, .slice adq nq cq) (.bool true, .slice adr nr cr) (.bool false, .slice adb nb cb) _ := (by assumption)
  exact ⟨rfl, hend.2.2.2.2.2.2.2.2.2⟩

end Go.Proofs.Ytfieecdedilonaa
