/-  Root, Abs, Divide, of integers; laws' arguments of one N; boxes.  -/
import Derived.Test.YtfieecdedilonaaRoot
import Derived.Test.YtfieecdedilonaaRingA
namespace Go.Proofs.Ytfieecdedilonaa
open Go.RowKit Digs

theorem Root_any (z : Int) (v : Value) (w : World) (hz : len z ≤ 60000) (h : IntV w v z) (h0 : 0 ≤ z) :
    Calls Try.prog 48 #[v] w (RootPost w z.natAbs) := by
  by_cases h1 : z = 0
  · subst h1; exact Root_zero v w h
  · exact Root_pos z v w hz h (by omega)

set_option maxHeartbeats 1000000 in
set_option maxRecDepth 100000 in
theorem Abs_any (z : Int) (v : Value) (w : World) (hz : len z ≤ 1000000) (h : IntV w v z) :
    Calls Try.prog 36 #[v] w (IntPost w (z.natAbs : Int)) := by
  obtain ⟨ad, n, c, rfl, hr⟩ := h
  have HM := fun W hw => Lib.hid (make_any false (.slice ad n c) _ W (len4 hz) (hr.keep (w' := W) hw) (digs_lt (by decide) _))
  rw [vl_digs (by decide), show sg false z.natAbs = (z.natAbs : Int) from rfl] at HM
  have HM := Lib.hid HM
  clear hr hz
  generalize decide (z < 0) = b at *
  generalize (z.natAbs : Int) = y at *
  go_enter Try.func36, Try.ntmps36
  go_wp2_with fail
  refine (HM.out _ (below2 _ _ _)).out.mono ?_
  rintro e w1 ⟨v1, rfl, ⟨ad1, n1, c1, rfl, hr1⟩, hb1⟩
  obtain ⟨cE, cF, fE, fF, hsz⟩ := box2r hb1
  have HR := Lib.hid (hr1.store2 cE cF (by intro n h; cases h) (by intro n h; cases h))
  have HB := Lib.hid ((below2 w _ _).trans (hb1.mono (by simp <;> omega)))
  clear hr1 hb1
  go_wp2_with fail
  refine bodyPost_ret (v := .agg #[.bool (decide (y < 0)), .slice ad1 n1 c1]) (by simp [results, Try.results36, go_sem, cE, cF]) rfl ⟨_, rfl, ⟨_, _, _, rfl, HR.out _ _⟩, ?_⟩
  exact (HB.out.setCell (by simp) _).setCell (by simp) _

/-- Divide, of a divisor that is not 0. -/
theorem Divide_any (x y : Int) (vx vy : Value) (w : World) (hx : len x ≤ 1000000) (hy : len y ≤ 1000000) (hy0 : y ≠ 0) (ha : IntV w vx x) (hb : IntV w vy y) :
    Calls Try.prog 30 #[vx, vy] w (DivideOK w x y) := by
  have hb' := hb
  obtain ⟨adx, nx, cx, rfl, ra⟩ := ha
  obtain ⟨ady, ny, cy, rfl, rb⟩ := hb
  have h := divide_core (decide (x < 0)) (decide (y < 0)) adx ady nx cx ny cy (x.natAbs / y.natAbs) (x.natAbs % y.natAbs) y hy0 hy w hb' (fun W hw => divide_any _ _ _ _ W hx (by omega) (ra.keep hw) (rb.keep hw))
  rw [sg_div, sg_mod (decide (x < 0)) (decide (y < 0)), sg_self, sg_self] at h
  exact h

abbrev row1 (b1 : Bool) (a1 : Option Addr) (c1 : Nat) (l1 : List Nat) : Obj := .cells #[.bool b1, .slice a1 l1.length c1] 24
theorem nrow1 (b1 : Bool) (a1 : Option Addr) (c1 : Nat) (l1 : List Nat) (w : World) (h1 : NArg w a1 c1 l1) :
    NRow (w.alloc (row1 b1 a1 c1 l1)) w.heap.size [l1.length] := by
  refine ⟨by simp, fun j hj => ?_⟩
  match j, hj with
  | 0, _ => exact ⟨b1, a1, c1, by rw [World.cell?_alloc_at _ _ _ _ rfl]; rfl, by rw [World.cell?_alloc_at _ _ _ _ rfl]; rfl, h1.mx⟩
theorem nrd1 (b1 : Bool) (a1 : Option Addr) (c1 : Nat) (l1 : List Nat) (w : World) (h1 : NArg w a1 c1 l1) (hs : l1.length ≤ 8) :
    NRd (w.alloc (row1 b1 a1 c1 l1)) w.heap.size [(b1, l1)] := by
  have hal : Below w.heap.size w (w.alloc (row1 b1 a1 c1 l1)) := (Below.refl _ _).alloc (Nat.le_refl _) _
  refine ⟨by simp, fun j hj => ?_⟩
  match j, hj with
  | 0, _ => exact ⟨b1, l1, a1, c1, rfl, by rw [World.cell?_alloc_at _ _ _ _ rfl]; rfl, by rw [World.cell?_alloc_at _ _ _ _ rfl]; rfl, h1.rd.keep hal, h1.lt, (by omega)⟩
theorem short1a (b1 : Bool) (a1 : Option Addr) (c1 : Nat) (l1 : List Nat) (w : World) (N k : Nat) (hN : w.heap.size = N) (h1 : NArg w a1 c1 l1) :
    Calls Try.prog 14 #[.int .i64 k, .slice (some ⟨N, 0, none⟩) 1 1] (w.alloc (row1 b1 a1 c1 l1)) (BoolPost (w.alloc (row1 b1 a1 c1 l1)) (allLe [l1.length] k)) := by
  subst hN
  exact Short_any w.heap.size k 1 [l1.length] _ (show 1 ≤ 1000 by decide) (nrow1 b1 a1 c1 l1 w h1)
theorem made1 (b1 : Bool) (a1 : Option Addr) (c1 : Nat) (l1 : List Nat) (w : World) (N : Nat) (hN : w.heap.size = N) (h1 : NArg w a1 c1 l1) (hs : l1.length ≤ 8) :
    Calls Try.prog 64 #[.slice (some ⟨N, 0, none⟩) 1 1] (w.alloc (row1 b1 a1 c1 l1)) fun e w' => ∃ v, e = .returned v ∧ IRow w' (w.heap.size + 1) v [nz (b1, l1)] ∧ Below w.heap.size w w' := by
  subst hN
  refine (made_any w.heap.size 1 [(b1, l1)] _ (show 1 ≤ 1000 by decide) (nrd1 b1 a1 c1 l1 w h1 hs)).mono ?_
  rintro e w' ⟨v, rfl, h, hb⟩
  rw [World.size_alloc] at h
  exact ⟨v, rfl, h, ((Below.refl _ _).alloc (Nat.le_refl _) _).trans (hb.mono (by simp))⟩
theorem irow1 {w : World} {base : Nat} {v : Value} {x : Int} (h : IRow w base v [x]) :
    ∃ g cap a1 n1 c1, v = .slice (some ⟨g, 0, none⟩) 1 cap ∧ g < w.heap.size ∧ base ≤ g ∧
      w.cell? ⟨g, 0, none⟩ = some (.bool (decide (x < 0))) ∧ w.cell? ⟨g, 1, none⟩ = some (.slice a1 n1 c1) ∧ IntV w (.agg #[.bool (decide (x < 0)), .slice a1 n1 c1]) x := by
  obtain ⟨xs, ho, he⟩ := h
  obtain ⟨a1, n1, c1, p1, q1, i1, _⟩ := he 0 (by simp)
  have ho' := ho
  obtain ⟨hlen, ⟨_, hn⟩ | ⟨g, cap, cur, rfl, hg, hgg, _⟩⟩ := ho
  · cases hn
  · have hl : g < w.heap.size := (Array.getElem?_eq_some_iff.1 hgg).1
    refine ⟨g, cap, a1, n1, c1, rfl, hl, hg, ?_, ?_, i1⟩
    · rw [ho'.cellAt 0 (by simp)]; exact p1
    · rw [ho'.cellAt 1 (by simp)]; exact q1

/-- A box of the law's: an integer. -/
structure BX (p : Nat) (u v : Value) (z : Int) (w : World) : Prop where
  c0 : w.cell? ⟨p, 0, none⟩ = some u
  c1 : w.cell? ⟨p, 1, none⟩ = some v
  f0 : w.frozen? ⟨p, 0, none⟩ = false
  f1 : w.frozen? ⟨p, 1, none⟩ = false
  iv : IntV w (.agg #[u, v]) z
theorem BX.lt {p : Nat} {u v : Value} {z : Int} {w : World} (h : BX p u v z w) : p < w.heap.size := World.block_lt_of_cell? w _ h.c0
theorem BX.keep {p : Nat} {u v : Value} {z : Int} {w w' : World} (h : BX p u v z w) (hb : Below w.heap.size w w') : BX p u v z w' :=
  ⟨(hb.cell (p := ⟨p, 0, none⟩) h.lt).trans h.c0, (hb.cell (p := ⟨p, 1, none⟩) h.lt).trans h.c1, (hb.frozen (p := ⟨p, 0, none⟩) h.lt).trans h.f0, (hb.frozen (p := ⟨p, 1, none⟩) h.lt).trans h.f1, h.iv.keep hb⟩
theorem BX.made {u v : Value} {z : Int} {w : World} {t : TypeId} (h : IntV w (.agg #[u, v]) z) : BX w.heap.size u v z (w.alloc (.cells #[u, v] t)) :=
  ⟨by rw [World.cell?_alloc_at _ _ _ _ rfl]; rfl, by rw [World.cell?_alloc_at _ _ _ _ rfl]; rfl, World.frozen?_alloc_at _ _ _ _ rfl, World.frozen?_alloc_at _ _ _ _ rfl, h.keep ((Below.refl _ _).alloc (Nat.le_refl _) _)⟩
theorem BX.cells {p : Nat} {u v : Value} {z : Int} {w : World} (h : BX p u v z w) : w.cell? ⟨p, 0, none⟩ = some u ∧ w.cell? ⟨p, 1, none⟩ = some v := ⟨h.c0, h.c1⟩
theorem IntV.pair {w : World} {v : Value} {z : Int} (h : IntV w v z) : ∃ a b, v = .agg #[a, b] ∧ (∃ c, a = .bool c) ∧ ∃ d n c, b = .slice d n c := by
  obtain ⟨ad, n, c, rfl, _⟩ := h
  exact ⟨_, _, rfl, ⟨_, rfl⟩, ⟨_, _, _, rfl⟩⟩

theorem BX.other {X R : Nat} {u v : Value} {z : Int} {w : World} (h : BX X u v z w) {a : Bool} {ad : Option Addr} {n c : Nat} (h0 : w.cell? ⟨R, 0, none⟩ = some (.bool a)) (h1 : w.cell? ⟨R, 1, none⟩ = some (.slice ad n c)) (hne : X ≠ R) (y1 y2 : Value) :
    BX X u v z ((w.setCell ⟨R, 0, none⟩ y1).setCell ⟨R, 1, none⟩ y2) := by
  refine ⟨(cell_store2 hne).trans h.c0, (cell_store2 hne).trans h.c1, by simpa using h.f0, by simpa using h.f1, ?_⟩
  obtain ⟨ad', n', c', e, hr⟩ := h.iv
  exact ⟨ad', n', c', e, hr.store2 h0 h1 (by intro n h; cases h) (by intro n h; cases h) _ _⟩
theorem IntV.store {R : Nat} {vz : Value} {z : Int} {w : World} (h : IntV w vz z) {a : Bool} {ad : Option Addr} {n c : Nat} (h0 : w.cell? ⟨R, 0, none⟩ = some (.bool a)) (h1 : w.cell? ⟨R, 1, none⟩ = some (.slice ad n c)) (y1 y2 : Value) :
    IntV ((w.setCell ⟨R, 0, none⟩ y1).setCell ⟨R, 1, none⟩ y2) vz z := by
  obtain ⟨ad', n', c', e, hr⟩ := h
  exact ⟨ad', n', c', e, hr.store2 h0 h1 (by intro n h; cases h) (by intro n h; cases h) _ _⟩
theorem BX.mine {R : Nat} {a a' : Bool} {ad ad' : Option Addr} {n c n' c' : Nat} {z z' : Int} {w : World} (h : BX R (.bool a) (.slice ad n c) z w) (hi : IntV w (.agg #[.bool a', .slice ad' n' c']) z') :
    BX R (.bool a') (.slice ad' n' c') z' ((w.setCell ⟨R, 0, none⟩ (.bool a')).setCell ⟨R, 1, none⟩ (.slice ad' n' c')) := by
  refine ⟨?_, ?_, by simpa using h.f0, by simpa using h.f1, hi.store h.c0 h.c1 _ _⟩
  · rw [World.cell?_setCell_other _ _ _ _ (by simp)]
    exact World.cell?_setCell_same _ _ _ h.c0
  · exact World.cell?_setCell_same _ _ _ (by rw [World.cell?_setCell_other _ _ _ _ (by simp)]; exact h.c1)

end Go.Proofs.Ytfieecdedilonaa
