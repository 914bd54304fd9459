/-  The reference's Divide and Floor.  -/
import Derived.Test.YtiegkjfpdiohkaaGreatDvd
namespace Go.Proofs.YtiegkjfpdiohkaaGreat
open Go.RowKit Digs

theorem divided_any (A B : Nat) (va vb : Value) (w : World) (hB : 0 < B) (hn : (digs 65536 A).length ≤ 50000) (hbl : (digs 65536 B).length ≤ 50000) (ha : Rd .i64 w va (digs 65536 A)) (hb : Rd .i64 w vb (digs 65536 B)) :
    Calls Tryz.prog 123 #[va, vb] w (DvdPost w A B) := by
  obtain ⟨ada, ca, rfl, ra⟩ := ha.opt
  exact divided_core ada ca A B _ vb w hB rfl hn hbl ra hb

set_option maxHeartbeats 2000000 in
set_option maxRecDepth 100000 in
theorem rdivide_core (bx by' : Bool) (adx ady : Option Addr) (nx cx ny cy : Nat) (q r : Nat) (y : Int) (hyv : y ≠ 0) (hys : rlen y ≤ 1000000) (w : World)
    (hy : RefV w (.agg #[.bool by', .slice ady ny cy]) y)
    (hd : ∀ W, Below w.heap.size w W → Calls Tryz.prog 123 #[.slice adx nx cx, .slice ady ny cy] W (fun e w' => ∃ vq vr, e = .returned (.tuple #[vq, vr]) ∧ Rd .i64 w' vq (digs 65536 q) ∧ Rd .i64 w' vr (digs 65536 r) ∧ Below W.heap.size W w')) :
    Calls Tryz.prog 81 #[.agg #[.bool bx, .slice adx nx cx], .agg #[.bool by', .slice ady ny cy]] w fun e w' =>
      ∃ vq vr, e = .returned (.tuple #[vq, vr, .int .i64 0]) ∧ RefV w' vq (sg (bx != by') q) ∧ RefV w' vr (sg bx r) ∧ Below w.heap.size w w' := by
  have HD := Lib.hid hd
  have HS := fun W hw => Lib.hid (rSign_any y _ W hys (hy.keep (w' := W) hw))
  have HS := Lib.hid HS
  have hsg : (sgnZ y == 0) = false := by unfold sgnZ; split <;> (try split) <;> first | rfl | (exfalso; omega)
  have HO := fun (neg : Bool) (v : Value) (k : Nat) (W : World) (h : Rd .i64 W v (digs 65536 k)) => rmade_any neg v _ W h (digs_lt (by decide) k)
  have HO' : ∀ (neg : Bool) (v : Value) (k : Nat) (W : World) (h : Rd .i64 W v (digs 65536 k)), Calls Tryz.prog 122 #[.bool neg, v] W (RefPost W (sg neg k)) := by
    intro neg v k W h
    have := HO neg v k W h
    rw [vl_digs (by decide)] at this
    exact this
  have HOW := Lib.hid HO'
  clear hd hy HO HO' hyv hys
  generalize hsv : sgnZ y = sy at *
  clear hsv
  go_enter Tryz.func81, Tryz.ntmps81
  go_wp2_with fail
  refine (HS.out _ (below4 _ _ _ _ _)).out.mono ?_
  rintro e w0 ⟨rfl, hb0⟩
  obtain ⟨⟨cA0, cB0, cC0, cD0⟩, _, _, hsz0⟩ := box4 hb0
  have HB0 := Lib.hid hb0
  clear hb0
  go_wp2_with fail
  refine (HD.out _ ((below4 _ _ _ _ _).trans (HB0.out.mono (by simp <;> omega)))).mono ?_
  rintro e w1 ⟨vq, vr, rfl, hq, hr, hb1⟩
  have HB1 := Lib.hid (HB0.out.trans (hb1.mono HB0.out.size))
  obtain ⟨⟨cA, cB, cC, cD⟩, ⟨cE, cF, fE, fF⟩, ⟨cG, cH, fG, fH⟩, hsz⟩ := box4 HB1.out
  have HQ := Lib.hid hq
  have HR := Lib.hid hr
  clear hq hr hb1 cA0 cB0 cC0 cD0
  obtain ⟨adq, nq, cq, rfl⟩ := HQ.out.shape
  obtain ⟨adr, nr, cr, rfl⟩ := HR.out.shape
  have h1w : w.heap.size < w1.heap.size := by omega
  have h2w : w.heap.size + 1 < w1.heap.size := by omega
  have h3w : w.heap.size + 2 < w1.heap.size := by omega
  go_wp2_with fail
  go_region_held3 (fun w' => w'.cell? ⟨w.heap.size, 0, none⟩ = some (.bool bx) ∧ w'.cell? ⟨w.heap.size + 1, 0, none⟩ = some (.bool by'))
    (first | exact ⟨cA3, cC3⟩ | exact ⟨cA2, cC2⟩ | exact ⟨(cell_store2 (by omega)).trans cA3, (cell_store2 (by omega)).trans cC3⟩ | exact ⟨(cell_store2 (by omega)).trans ((cell_store2 (by omega)).trans cA3), (cell_store2 (by omega)).trans ((cell_store2 (by omega)).trans cC3)⟩ | go_keep)
    (first
      | (go_at_call_of 122 (Value.slice adq nq cq); refine (HOW.out (bx != by') (.slice adq nq cq) q _ ?_).mono ?_; (exact HQ.out); rintro e w2 ⟨v2, rfl, ⟨ad2, n2, c2, rfl, hr2⟩, hb2'⟩; have hb2 := (Below.refl w1.heap.size w1).drew.trans hb2'; have cA2 := (hb2.cell (p := ⟨w.heap.size, 0, none⟩) h1w).trans cA; have cC2 := (hb2.cell (p := ⟨w.heap.size + 1, 0, none⟩) h2w).trans cC; have hle2 := hb2.size)
      | (go_at_call_of 122 (Value.slice adr nr cr); refine (HOW.out bx (.slice adr nr cr) r _ ?_).mono ?_; (exact HR.out.keep hb2); rintro e w3 ⟨v3, rfl, ⟨ad3, n3, c3, rfl, hr3⟩, hb3⟩; have cA3 := (hb3.cell (p := ⟨w.heap.size, 0, none⟩) (Nat.lt_of_lt_of_le h1w hle2)).trans cA2; have cC3 := (hb3.cell (p := ⟨w.heap.size + 1, 0, none⟩) (Nat.lt_of_lt_of_le h2w hle2)).trans cC2; obtain ⟨_, ⟨cE3, cF3, fE3, fF3⟩, ⟨cG3, cH3, fG3, fH3⟩, _⟩ := box4 (HB1.out.trans ((hb2.mono HB1.out.size).trans (hb3.mono (Nat.le_trans HB1.out.size hle2))))))
  have n0 : ∀ b : Bool, ∀ k n, Value.bool b ≠ .int k n := by intro b k n h; cases h
  have n1 : ∀ (ad : Option Addr) (n c : Nat), ∀ k m, Value.slice ad n c ≠ .int k m := by intro ad n c k m h; cases h
  have HQ2 := fun x y x' y' => Lib.hid (((hr2.keep hb3).store2 cE3 cF3 (n0 _ _) (n1 _ _ _ _) x y).store2 (R := w.heap.size + 3) ((cell_store2 (by omega)).trans cG3) ((cell_store2 (by omega)).trans cH3) (n0 _ _) (n1 _ _ _ _) x' y')
  have HR2 := fun x y x' y' => Lib.hid ((hr3.store2 cE3 cF3 (n0 _ _) (n1 _ _ _ _) x y).store2 (R := w.heap.size + 3) ((cell_store2 (by omega)).trans cG3) ((cell_store2 (by omega)).trans cH3) (n0 _ _) (n1 _ _ _ _) x' y')
  have HQ2 := Lib.hid HQ2
  have HR2 := Lib.hid HR2
  have HBB := Lib.hid ((below4 w _ _ _ _).trans ((HB1.out.mono (by simp <;> omega)).trans ((hb2.mono (Nat.le_of_lt h1w)).trans (hb3.mono (Nat.le_trans (Nat.le_of_lt h1w) hle2)))))
  clear hr2 hr3 hb2 hb3 hb2' n0 n1
  go_wp2
  refine bodyPost_ret (v := .tuple #[.agg #[.bool (decide (sg (bx != by') q < 0)), .slice ad2 n2 c2], .agg #[.bool (decide (sg bx r < 0)), .slice ad3 n3 c3], .int .i64 0]) (by simp [results, Tryz.results81, go_sem, cE3, cF3, cG3, cH3]) rfl ⟨_, _, rfl, ⟨_, _, _, rfl, (HQ2.out _ _ _ _).out⟩, ⟨_, _, _, rfl, (HR2.out _ _ _ _).out⟩, ?_⟩
  exact (((HBB.out.setCell (by simp; omega) _).setCell (by simp; omega) _).setCell (by simp; omega) _).setCell (by simp; omega) _

def RDivOK (w : World) (x y : Int) (e : Ending) (w' : World) : Prop :=
  ∃ vq vr, e = .returned (.tuple #[vq, vr, .int .i64 0]) ∧ RefV w' vq (x.tdiv y) ∧ RefV w' vr (x.tmod y) ∧ Below w.heap.size w w'

theorem sg_of (x : Int) : sg (decide (x < 0)) x.natAbs = x := by
  unfold sg
  by_cases h : x < 0
  · rw [decide_eq_true h, if_pos rfl]; omega
  · rw [decide_eq_false h, if_neg (by decide)]; omega

theorem rDivide_any (x y : Int) (vx vy : Value) (w : World) (hx : rlen x ≤ 50000) (hy : rlen y ≤ 50000) (hy0 : y ≠ 0) (ha : RefV w vx x) (hb : RefV w vy y) :
    Calls Tryz.prog 81 #[vx, vy] w (RDivOK w x y) := by
  have hb' := hb
  obtain ⟨adx, nx, cx, rfl, ra⟩ := ha
  obtain ⟨ady, ny, cy, rfl, rb⟩ := hb
  have h := rdivide_core (decide (x < 0)) (decide (y < 0)) adx ady nx cx ny cy (x.natAbs / y.natAbs) (x.natAbs % y.natAbs) y hy0 (by omega) w hb' (fun W hW => divided_any x.natAbs y.natAbs _ _ W (by omega) hx hy (ra.keep hW) (rb.keep hW))
  rw [sg_div, sg_mod (decide (x < 0)) (decide (y < 0)), sg_of, sg_of] at h
  exact h

end Go.Proofs.YtiegkjfpdiohkaaGreat
