/-  What IntegerDigits' seat needs of More and Powers (their own rows, taken over).  -/
import Derived.Test.YtgepnkdnenjogaaDoorRingA
namespace Go.Proofs.YtgepnkdnenjogaaDoor
section
open Go.RowKit Digs

theorem box1b {w w1 : World} {a b : Value} {t : TypeId} (h : Below (w.alloc (.cells #[a, b] t)).heap.size (w.alloc (.cells #[a, b] t)) w1) : Below w.heap.size w w1 :=
  ((Below.refl _ _).alloc (Nat.le_refl _) _).trans (h.mono (by simp))
def IntRes (w : World) (z c : Int) (e : Ending) (w' : World) : Prop := ∃ v, e = .returned (.tuple #[v, .int .i64 c]) ∧ IntV w' v z ∧ Below w.heap.size w w'
theorem IntErr.res {w w' : World} {c : Int} {e : Ending} (h : IntErr w c e w') : IntRes w 0 c e w' := ⟨_, h.1, IntV.zero _ false 0 rfl, h.2⟩
abbrev row1 (b1 : Bool) (a1 : Option Addr) (c1 : Nat) (l1 : List Nat) : Obj := .cells #[.bool b1, .slice a1 l1.length c1] 24
theorem nrow1 (b1 : Bool) (a1 : Option Addr) (c1 : Nat) (l1 : List Nat) (w : World) (h1 : NArg w a1 c1 l1) :
    NRow (w.alloc (row1 b1 a1 c1 l1)) w.heap.size [l1.length] := by
  refine ⟨by simp, fun j hj => ?_⟩
  match j, hj with
  | 0, _ => exact ⟨b1, a1, c1, by rw [World.cell?_alloc_at _ _ _ _ rfl]; rfl, by rw [World.cell?_alloc_at _ _ _ _ rfl]; rfl, h1.mx⟩
theorem nrd1 (b1 : Bool) (a1 : Option Addr) (c1 : Nat) (l1 : List Nat) (w : World) (h1 : NArg w a1 c1 l1) (hs : l1.length ≤ 8) :
    NRd (w.alloc (row1 b1 a1 c1 l1)) w.heap.size [(b1, l1)] := by
  have hal : Below w.heap.size w (w.alloc (row1 b1 a1 c1 l1)) := (Below.refl _ _).alloc (Nat.le_refl _) _
  refine ⟨by simp, fun j hj => ?_⟩
  match j, hj with
  | 0, _ => exact ⟨b1, l1, a1, c1, rfl, by rw [World.cell?_alloc_at _ _ _ _ rfl]; rfl, by rw [World.cell?_alloc_at _ _ _ _ rfl]; rfl, h1.rd.keep hal, h1.lt, (by omega)⟩
theorem short1a (b1 : Bool) (a1 : Option Addr) (c1 : Nat) (l1 : List Nat) (w : World) (N k : Nat) (hN : w.heap.size = N) (h1 : NArg w a1 c1 l1) :
    Calls Tryd.prog 4 #[.int .i64 k, .slice (some ⟨N, 0, none⟩) 1 1] (w.alloc (row1 b1 a1 c1 l1)) (BoolPost (w.alloc (row1 b1 a1 c1 l1)) (allLe [l1.length] k)) := by
  subst hN
  exact Short_any w.heap.size k 1 [l1.length] _ (show 1 ≤ 1000 by decide) (nrow1 b1 a1 c1 l1 w h1)
theorem made1 (b1 : Bool) (a1 : Option Addr) (c1 : Nat) (l1 : List Nat) (w : World) (N : Nat) (hN : w.heap.size = N) (h1 : NArg w a1 c1 l1) (hs : l1.length ≤ 8) :
    Calls Tryd.prog 6 #[.slice (some ⟨N, 0, none⟩) 1 1] (w.alloc (row1 b1 a1 c1 l1)) fun e w' => ∃ v, e = .returned v ∧ IRow w' (w.heap.size + 1) v [nz (b1, l1)] ∧ Below w.heap.size w w' := by
  subst hN
  refine (made_any w.heap.size 1 [(b1, l1)] _ (show 1 ≤ 1000 by decide) (nrd1 b1 a1 c1 l1 w h1 hs)).mono ?_
  rintro e w' ⟨v, rfl, h, hb⟩
  rw [World.size_alloc] at h
  exact ⟨v, rfl, h, ((Below.refl _ _).alloc (Nat.le_refl _) _).trans (hb.mono (by simp))⟩
theorem irow1 {w : World} {base : Nat} {v : Value} {x : Int} (h : IRow w base v [x]) :
    ∃ g cap a1 n1 c1, v = .slice (some ⟨g, 0, none⟩) 1 cap ∧ g < w.heap.size ∧ base ≤ g ∧
      w.cell? ⟨g, 0, none⟩ = some (.bool (decide (x < 0))) ∧ w.cell? ⟨g, 1, none⟩ = some (.slice a1 n1 c1) ∧ IntV w (.agg #[.bool (decide (x < 0)), .slice a1 n1 c1]) x := by
  obtain ⟨xs, ho, he⟩ := h
  obtain ⟨a1, n1, c1, p1, q1, i1, _⟩ := he 0 (by simp)
  have ho' := ho
  obtain ⟨hlen, ⟨_, hn⟩ | ⟨g, cap, cur, rfl, hg, hgg, _⟩⟩ := ho
  · cases hn
  · have hl : g < w.heap.size := (Array.getElem?_eq_some_iff.1 hgg).1
    refine ⟨g, cap, a1, n1, c1, rfl, hl, hg, ?_, ?_, i1⟩
    · rw [ho'.cellAt 0 (by simp)]; exact p1
    · rw [ho'.cellAt 1 (by simp)]; exact q1

/-- A box of the law's: an integer. -/
structure BX (p : Nat) (u v : Value) (z : Int) (w : World) : Prop where
  c0 : w.cell? ⟨p, 0, none⟩ = some u
  c1 : w.cell? ⟨p, 1, none⟩ = some v
  f0 : w.frozen? ⟨p, 0, none⟩ = false
  f1 : w.frozen? ⟨p, 1, none⟩ = false
  iv : IntV w (.agg #[u, v]) z
theorem BX.lt {p : Nat} {u v : Value} {z : Int} {w : World} (h : BX p u v z w) : p < w.heap.size := World.block_lt_of_cell? w _ h.c0
theorem BX.keep {p : Nat} {u v : Value} {z : Int} {w w' : World} (h : BX p u v z w) (hb : Below w.heap.size w w') : BX p u v z w' :=
  ⟨(hb.cell (p := ⟨p, 0, none⟩) h.lt).trans h.c0, (hb.cell (p := ⟨p, 1, none⟩) h.lt).trans h.c1, (hb.frozen (p := ⟨p, 0, none⟩) h.lt).trans h.f0, (hb.frozen (p := ⟨p, 1, none⟩) h.lt).trans h.f1, h.iv.keep hb⟩
theorem BX.made {u v : Value} {z : Int} {w : World} {t : TypeId} (h : IntV w (.agg #[u, v]) z) : BX w.heap.size u v z (w.alloc (.cells #[u, v] t)) :=
  ⟨by rw [World.cell?_alloc_at _ _ _ _ rfl]; rfl, by rw [World.cell?_alloc_at _ _ _ _ rfl]; rfl, World.frozen?_alloc_at _ _ _ _ rfl, World.frozen?_alloc_at _ _ _ _ rfl, h.keep ((Below.refl _ _).alloc (Nat.le_refl _) _)⟩
theorem BX.cells {p : Nat} {u v : Value} {z : Int} {w : World} (h : BX p u v z w) : w.cell? ⟨p, 0, none⟩ = some u ∧ w.cell? ⟨p, 1, none⟩ = some v := ⟨h.c0, h.c1⟩

end
end Go.Proofs.YtgepnkdnenjogaaDoor
