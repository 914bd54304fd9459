/-  Boole.  -/
import Derived.Test.YtfieecdedilonaaComb
namespace Go.Proofs.Ytfieecdedilonaa
open Go.RowKit Digs

/-- A result with no error. -/
def IntOK (w : World) (z : Int) (e : Ending) (w' : World) : Prop := ∃ v, e = .returned (.tuple #[v, .int .i64 0]) ∧ IntV w' v z ∧ Below w.heap.size w w'
/-- An error, and the zero value. -/
def IntErr (w : World) (c : Int) (e : Ending) (w' : World) : Prop := e = .returned (.tuple #[.agg #[.bool false, .slice none 0 0], .int .i64 c]) ∧ Below w.heap.size w w'

def OpPost (op : Nat) (w : World) (e : Ending) (w' : World) : Prop :=
  ∃ T, e = .returned (.func (.func 125) #[] #[.pointer (some ⟨T, 0, none⟩)]) ∧ w'.heap[T]? = some (.cells (tbl op) 143 (0, 0)) ∧ Below w.heap.size w w'
theorem operation_at (op : Nat) (w : World) (hop : op ≤ 15) : Calls Try.prog 100 #[.int .i64 op] w (OpPost op w) :=
  (operation_any op w hop).mono fun _ _ ⟨he, hw⟩ => ⟨_, he, by rw [hw]; exact heap_alloc_new w _, by rw [hw]; exact (Below.refl _ _).alloc (Nat.le_refl _) _⟩

set_option maxHeartbeats 2000000 in
set_option maxRecDepth 100000 in
theorem Boole_ok (op : Nat) (x y : Int) (vx vy : Value) (w : World) (hop : op ≤ 15) (hx : len x ≤ 999999) (hy : len y ≤ 999999) (ha : IntV w vx x) (hb : IntV w vy y) :
    Calls Try.prog 51 #[vx, .int .i64 op, vy] w (IntOK w (boolZ op x y)) := by
  have HOP := fun W => Lib.hid (operation_at op W hop)
  have HCB := fun W T hw hT => Lib.hid (combine_any op T x y vx vy W hx hy (ha.keep hw) (hb.keep hw) hT)
  have HOP := Lib.hid HOP
  have HCB := Lib.hid HCB
  obtain ⟨adx, nx, cx, rfl, _⟩ := ha
  obtain ⟨ady, ny, cy, rfl, _⟩ := hb
  clear hx hy
  generalize decide (x < 0) = bx at *
  generalize decide (y < 0) = by' at *
  have ho1 : ¬ (15 : Int) < (op : Int) := by omega
  go_enter Try.func51, Try.ntmps51
  go_wp2_with fail
  go_region_held3 (fun w' => w'.cell? ⟨w.heap.size, 0, none⟩ = some (.bool bx) ∧ w'.cell? ⟨w.heap.size, 1, none⟩ = some (.slice adx nx cx) ∧ w'.cell? ⟨w.heap.size + 1, 0, none⟩ = some (.bool by') ∧ w'.cell? ⟨w.heap.size + 1, 1, none⟩ = some (.slice ady ny cy))
    (first | exact ⟨cA, cB, cC, cD⟩ | exact ⟨cA2, cB2, cC2, cD2⟩ | exact ⟨(cell_store2 (by omega)).trans cA2, (cell_store2 (by omega)).trans cB2, (cell_store2 (by omega)).trans cC2, (cell_store2 (by omega)).trans cD2⟩ | go_keep)
    (first
      | (go_at_call 100; refine (HOP.out _).out.mono ?_; rintro e w1 ⟨T, rfl, hT, hb1⟩; have hbx := (Below.refl _ _).drew.trans hb1; obtain ⟨cA, cB, cC, cD, cE, cF, fC, fE, fF, hsz⟩ := box3 hbx; have hb0 := (below3 w _ _ _).trans (hbx.mono (by simp <;> omega)))
      | (go_at_call 99; refine (HCB.out _ _ hb0 hT).out.mono ?_; rintro e w2 ⟨v2, rfl, ⟨ad2, n2, c2, rfl, hr2⟩, hb2⟩; obtain ⟨cA2, cB2, cC2, cD2, cE2, cF2, fC2, fE2, fF2, hsz2⟩ := box3 (hbx.trans (hb2.mono hbx.size))))
  have HR := Lib.hid (hr2.store2 cE2 cF2 (by intro n h; cases h) (by intro n h; cases h))
  have HB := Lib.hid (hb0.trans (hb2.mono (by omega)))
  clear hr2 hb2 hb1 hbx hb0 hT
  go_wp2
  refine bodyPost_ret (v := .tuple #[.agg #[.bool (decide (boolZ op x y < 0)), .slice ad2 n2 c2], .int .i64 0]) (by simp [results, Try.results51, go_sem, cE2, cF2]) rfl ⟨_, rfl, ⟨_, _, _, rfl, HR.out _ _⟩, ?_⟩
  exact (HB.out.setCell (by simp; omega) _).setCell (by simp; omega) _

end Go.Proofs.Ytfieecdedilonaa
