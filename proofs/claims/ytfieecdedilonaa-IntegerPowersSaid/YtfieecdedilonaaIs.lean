/-  The law's Is: whether the program's integer is the reference's.  -/
import Derived.Test.YtfieecdedilonaaEq
namespace Go.Proofs.Ytfieecdedilonaa
open Go.RowKit Digs

def rlen (z : Int) : Nat := (digs 65536 z.natAbs).length

theorem rlimbs_any (z : Int) (v : Value) (w : World) (hl : rlen z ≤ 1000000) (h : RefV w v z) :
    Calls Try.prog 74 #[v] w (OwPost w (digs 4294967296 z.natAbs)) := by
  obtain ⟨ad, n, c, rfl, hr⟩ := h
  obtain ⟨ad', c', hv, ra⟩ := hr.opt
  cases hv
  have := rlimbs_core (decide (z < 0)) ad c _ w hl ra (digs_lt (by decide) _) (by
    rw [vl_digs (by decide)]
    by_cases h0 : z.natAbs = 0
    · left; rw [h0, digs_zero]
    · right; exact digs_pow_le (by decide) _ h0)
  rw [vl_digs (by decide)] at this
  exact this

theorem box2two {w w2 : World} {a b c d : Value} {t u : TypeId} (h : Below ((w.alloc (.cells #[a, b] t)).alloc (.cells #[c, d] u)).heap.size ((w.alloc (.cells #[a, b] t)).alloc (.cells #[c, d] u)) w2) :
    w2.cell? ⟨w.heap.size, 0, none⟩ = some a ∧ w2.cell? ⟨w.heap.size, 1, none⟩ = some b ∧ w2.cell? ⟨w.heap.size + 1, 0, none⟩ = some c ∧ w2.cell? ⟨w.heap.size + 1, 1, none⟩ = some d := by
  refine ⟨?_, ?_, ?_, ?_⟩
  · rw [h.cell (p := ⟨w.heap.size, 0, none⟩) (by simp; omega), World.cell?_alloc_past _ _ _ (by simp), World.cell?_alloc_at _ _ _ _ rfl]; rfl
  · rw [h.cell (p := ⟨w.heap.size, 1, none⟩) (by simp; omega), World.cell?_alloc_past _ _ _ (by simp), World.cell?_alloc_at _ _ _ _ rfl]; rfl
  · rw [h.cell (p := ⟨w.heap.size + 1, 0, none⟩) (by simp), World.cell?_alloc_at _ _ _ _ (by simp)]; rfl
  · rw [h.cell (p := ⟨w.heap.size + 1, 1, none⟩) (by simp), World.cell?_alloc_at _ _ _ _ (by simp)]; rfl

theorem below2 (w : World) (a b : Obj) : Below w.heap.size w ((w.alloc a).alloc b) := ((Below.refl _ _).alloc (Nat.le_refl _) _).alloc (by simp) _

def BoolPost (w : World) (b : Bool) (e : Ending) (w' : World) : Prop := e = .returned (.bool b) ∧ Below w.heap.size w w'

set_option maxHeartbeats 2000000 in
set_option maxRecDepth 100000 in
theorem is_any (x y : Int) (vx vy : Value) (w : World) (hx : len x ≤ 1000000) (hy : rlen y ≤ 1000000) (ha : IntV w vx x) (hb : RefV w vy y) :
    Calls Try.prog 21 #[vx, vy] w (BoolPost w (decide (x = y))) := by
  have HL := fun W hw => Lib.hid (limbs_any x vx W hx (ha.keep (w' := W) hw))
  have HR := fun W hw => Lib.hid (rlimbs_any y vy W hy (hb.keep (w' := W) hw))
  have HE := fun va vb W h1 h2 => Lib.hid (equal_any va vb (digs 4294967296 x.natAbs) (digs 4294967296 y.natAbs) W hx h1 h2)
  obtain ⟨adx, nx, cx, rfl, _⟩ := ha
  obtain ⟨ady, ny, cy, rfl, _⟩ := hb
  have HL := Lib.hid HL
  have HR := Lib.hid HR
  have HE := Lib.hid HE
  clear hx hy
  generalize hbx : decide (x < 0) = bx at *
  generalize hby : decide (y < 0) = by' at *
  have HBX := Lib.hid hbx
  have HBY := Lib.hid hby
  clear hbx hby
  by_cases hs : bx = by'
  · subst hs
    go_enter Try.func21, Try.ntmps21
    go_wp2_with fail
    refine (HL.out _ (below2 _ _ _)).out.mono ?_
    rintro e w1 ⟨v1, rfl, hr1, hb1⟩
    obtain ⟨cA, cB, cC, cD⟩ := box2two hb1
    have HB1 := Lib.hid hb1
    have HR1 := Lib.hid hr1
    rw [HBX.out]
    clear hb1 hr1
    have h2 := HR.out w1 ((below2 _ _ _).trans (HB1.out.mono (by simp <;> omega)))
    go_wp2_with fail
    refine h2.out.mono ?_
    rintro e w2 ⟨v2, rfl, hr2, hb2⟩
    have h3 := HE.out v1 v2 w2 (HR1.out.keep hb2) hr2.rd
    have HB2 := Lib.hid hb2
    clear hb2 hr2 h2
    go_wp2_with fail
    refine h3.out.mono ?_
    rintro e w3 ⟨rfl, d, rfl⟩
    have e : decide (digs 4294967296 x.natAbs = digs 4294967296 y.natAbs) = decide (x = y) := by
      rw [decide_eq_decide]
      have h4 := HBX.out
      have h5 := HBY.out
      rw [← h5, decide_eq_decide] at h4
      constructor
      · intro h
        have := digs_inj (by decide) h
        omega
      · rintro rfl; rfl
    rw [e]
    clear h3 e
    go_wp2
    go_ret
    exact ⟨rfl, below_drewN' (((below2 _ _ _).trans (HB1.out.mono (by simp <;> omega))).trans (HB2.out.mono (Nat.le_trans (by simp <;> omega) HB1.out.size))) _⟩
  · have hs' : (bx == by') = false := by simpa using hs
    have e : decide (x = y) = false := by
      rw [decide_eq_false_iff_not]
      rintro rfl
      exact hs (HBX.out.symm.trans HBY.out)
    rw [e]
    clear e hs
    go_enter Try.func21, Try.ntmps21
    go_wp2_with fail
    refine (HL.out _ (below2 _ _ _)).out.mono ?_
    rintro e w1 ⟨v1, rfl, hr1, hb1⟩
    obtain ⟨cA, cB, cC, cD⟩ := box2two hb1
    have HB1 := Lib.hid hb1
    rw [HBX.out]
    clear hb1 hr1
    go_wp2
    go_ret
    exact ⟨rfl, (below2 _ _ _).trans (HB1.out.mono (by simp <;> omega))⟩

end Go.Proofs.Ytfieecdedilonaa
