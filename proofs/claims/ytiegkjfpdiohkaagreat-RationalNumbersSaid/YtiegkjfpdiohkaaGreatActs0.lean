/- Divide by zero; both sides' pair of Divide. -/
import Derived.Test.YtiegkjfpdiohkaaGreatRGc
import Derived.Test.YtiegkjfpdiohkaaGreatGc6
namespace Go.Proofs.YtiegkjfpdiohkaaGreat
section
open Go.RowKit Digs

set_option maxHeartbeats 2000000 in
set_option maxRecDepth 100000 in
theorem Divide_zero (vx vy : Value) (x : Int) (w : World) (ha : IntV w vx x) (hb : IntV w vy 0) :
    Calls Tryz.prog 139 #[vx, vy] w fun e w' => e = .returned (.tuple #[.agg #[.bool false, .slice none 0 0], .agg #[.bool false, .slice none 0 0], .int .i64 6]) ∧ Below w.heap.size w w' := by
  have HS := Lib.hid fun W hw => Lib.hid (sign_any 0 _ W (by unfold len; rw [Int.natAbs_zero, digs_zero]; decide) (hb.keep (w' := W) hw))
  rw [show sgnZ 0 = 0 from rfl] at HS
  obtain ⟨adx, nx, cx, rfl, _⟩ := ha
  obtain ⟨ady, ny, cy, rfl, _⟩ := hb
  generalize decide (x < 0) = bx at *
  generalize decide ((0 : Int) < 0) = by' at *
  go_enter Tryz.func139, Tryz.ntmps139
  go_wp2_with fail
  refine (HS.out _ (below4 _ _ _ _ _)).out.mono ?_
  rintro e w0 ⟨rfl, hb0⟩
  obtain ⟨⟨cA0, cB0, cC0, cD0⟩, ⟨cE, cF, fE, fF⟩, ⟨cG, cH, fG, fH⟩, hsz0⟩ := box4 hb0
  have HB0 := Lib.hid ((below4 w _ _ _ _).trans (hb0.mono (by simp <;> omega)))
  clear hb0
  go_wp2
  refine bodyPost_ret (v := .tuple #[.agg #[.bool false, .slice none 0 0], .agg #[.bool false, .slice none 0 0], .int .i64 6]) (by simp [results, Tryz.results139, go_sem, cE, cF, cG, cH]) rfl ⟨rfl, ?_⟩
  exact (((HB0.out.setCell (by simp; omega) _).setCell (by simp; omega) _).setCell (by simp; omega) _).setCell (by simp; omega) _

set_option maxHeartbeats 2000000 in
set_option maxRecDepth 100000 in
theorem rDivide_zero (vx vy : Value) (x : Int) (w : World) (ha : RefV w vx x) (hb : RefV w vy 0) :
    Calls Tryz.prog 81 #[vx, vy] w fun e w' => e = .returned (.tuple #[.agg #[.bool false, .slice none 0 0], .agg #[.bool false, .slice none 0 0], .int .i64 6]) ∧ Below w.heap.size w w' := by
  have HS := Lib.hid fun W hw => Lib.hid (rSign_any 0 _ W (by unfold rlen; rw [Int.natAbs_zero, digs_zero]; decide) (hb.keep (w' := W) hw))
  rw [show sgnZ 0 = 0 from rfl] at HS
  obtain ⟨adx, nx, cx, rfl, _⟩ := ha
  obtain ⟨ady, ny, cy, rfl, _⟩ := hb
  generalize decide (x < 0) = bx at *
  generalize decide ((0 : Int) < 0) = by' at *
  go_enter Tryz.func81, Tryz.ntmps81
  go_wp2_with fail
  refine (HS.out _ (below4 _ _ _ _ _)).out.mono ?_
  rintro e w0 ⟨rfl, hb0⟩
  obtain ⟨⟨cA0, cB0, cC0, cD0⟩, ⟨cE, cF, fE, fF⟩, ⟨cG, cH, fG, fH⟩, hsz0⟩ := box4 hb0
  have HB0 := Lib.hid ((below4 w _ _ _ _).trans (hb0.mono (by simp <;> omega)))
  clear hb0
  go_wp2
  refine bodyPost_ret (v := .tuple #[.agg #[.bool false, .slice none 0 0], .agg #[.bool false, .slice none 0 0], .int .i64 6]) (by simp [results, Tryz.results81, go_sem, cE, cF, cG, cH]) rfl ⟨rfl, ?_⟩
  exact (((HB0.out.setCell (by simp; omega) _).setCell (by simp; omega) _).setCell (by simp; omega) _).setCell (by simp; omega) _

def DivR (w : World) (q r c : Int) (e : Ending) (w' : World) : Prop := ∃ vq vr, e = .returned (.tuple #[vq, vr, .int .i64 c]) ∧ IntV w' vq q ∧ IntV w' vr r ∧ Below w.heap.size w w'
def RDivR (w : World) (q r c : Int) (e : Ending) (w' : World) : Prop := ∃ vq vr, e = .returned (.tuple #[vq, vr, .int .i64 c]) ∧ RefV w' vq q ∧ RefV w' vr r ∧ Below w.heap.size w w'
theorem IntV.zero0 (w : World) : IntV w (.agg #[.bool false, .slice none 0 0]) 0 := ⟨none, 0, 0, rfl, .inl ⟨rfl, by rw [show Int.natAbs 0 = 0 from rfl, digs_zero]⟩⟩

/-- What Divide says of two numbers. -/
def dvq (x y : Int) : Int := if y = 0 then 0 else x.tdiv y
def dvr (x y : Int) : Int := if y = 0 then 0 else x.tmod y
def dvc (y : Int) : Int := if y = 0 then 6 else 0
theorem Divide_all (x y : Int) (vx vy : Value) (w : World) (hx : len x ≤ 1000000) (hy : len y ≤ 1000000) (ha : IntV w vx x) (hb : IntV w vy y) :
    Calls Tryz.prog 139 #[vx, vy] w (DivR w (dvq x y) (dvr x y) (dvc y)) := by
  unfold dvq dvr dvc
  by_cases h : y = 0
  · rw [if_pos h, if_pos h, if_pos h]
    subst h
    exact (Divide_zero vx vy x w ha hb).mono fun _ _ ⟨h1, h2⟩ => ⟨_, _, h1, IntV.zero0 _, IntV.zero0 _, h2⟩
  · rw [if_neg h, if_neg h, if_neg h]
    exact Divide_any x y vx vy w hx hy h ha hb
theorem rDivide_all (x y : Int) (vx vy : Value) (w : World) (hx : rlen x ≤ 50000) (hy : rlen y ≤ 50000) (ha : RefV w vx x) (hb : RefV w vy y) :
    Calls Tryz.prog 81 #[vx, vy] w (RDivR w (dvq x y) (dvr x y) (dvc y)) := by
  unfold dvq dvr dvc
  by_cases h : y = 0
  · rw [if_pos h, if_pos h, if_pos h]
    subst h
    exact (rDivide_zero vx vy x w ha hb).mono fun _ _ ⟨h1, h2⟩ => ⟨_, _, h1, RefV.zero0 _, RefV.zero0 _, h2⟩
  · rw [if_neg h, if_neg h, if_neg h]
    exact rDivide_any x y vx vy w hx hy h ha hb

end
end Go.Proofs.YtiegkjfpdiohkaaGreat
