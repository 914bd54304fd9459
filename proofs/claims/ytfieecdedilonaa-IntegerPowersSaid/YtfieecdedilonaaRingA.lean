/-  IntegerRing's walk: its lemmas.  -/
import Derived.Test.YtfieecdedilonaaMade
import Derived.Deep.CutRange
namespace Go.Proofs.Ytfieecdedilonaa
open Go.RowKit Digs

/-- An argument of the law: sign and limbs. -/
structure NArg (w : World) (ad : Option Addr) (c : Nat) (l : List Nat) : Prop where
  rd : RdE w (.slice ad l.length c) l
  lt : ∀ x ∈ l, x < 4294967296
  mx : l.length ≤ maxLen
theorem NArg.keep {w w' : World} {ad : Option Addr} {c : Nat} {l : List Nat} (h : NArg w ad c l) (hb : Below w.heap.size w w') : NArg w' ad c l := ⟨h.rd.keep hb, h.lt, h.mx⟩

abbrev row3 (b1 b2 b3 : Bool) (a1 a2 a3 : Option Addr) (c1 c2 c3 : Nat) (l1 l2 l3 : List Nat) : Obj :=
  .cells #[.bool b1, .slice a1 l1.length c1, .bool b2, .slice a2 l2.length c2, .bool b3, .slice a3 l3.length c3] 24
theorem nrow3 (b1 b2 b3 : Bool) (a1 a2 a3 : Option Addr) (c1 c2 c3 : Nat) (l1 l2 l3 : List Nat) (w : World) (h1 : NArg w a1 c1 l1) (h2 : NArg w a2 c2 l2) (h3 : NArg w a3 c3 l3) :
    NRow (w.alloc (row3 b1 b2 b3 a1 a2 a3 c1 c2 c3 l1 l2 l3)) w.heap.size [l1.length, l2.length, l3.length] := by
  refine ⟨by simp, fun j hj => ?_⟩
  match j, hj with
  | 0, _ => exact ⟨b1, a1, c1, by rw [World.cell?_alloc_at _ _ _ _ rfl]; rfl, by rw [World.cell?_alloc_at _ _ _ _ rfl]; rfl, h1.mx⟩
  | 1, _ => exact ⟨b2, a2, c2, by rw [World.cell?_alloc_at _ _ _ _ rfl]; rfl, by rw [World.cell?_alloc_at _ _ _ _ rfl]; rfl, h2.mx⟩
  | 2, _ => exact ⟨b3, a3, c3, by rw [World.cell?_alloc_at _ _ _ _ rfl]; rfl, by rw [World.cell?_alloc_at _ _ _ _ rfl]; rfl, h3.mx⟩
theorem nrd3 (b1 b2 b3 : Bool) (a1 a2 a3 : Option Addr) (c1 c2 c3 : Nat) (l1 l2 l3 : List Nat) (w : World) (h1 : NArg w a1 c1 l1) (h2 : NArg w a2 c2 l2) (h3 : NArg w a3 c3 l3) (hs : l1.length ≤ 8 ∧ l2.length ≤ 8 ∧ l3.length ≤ 8) :
    NRd (w.alloc (row3 b1 b2 b3 a1 a2 a3 c1 c2 c3 l1 l2 l3)) w.heap.size [(b1, l1), (b2, l2), (b3, l3)] := by
  have hal : Below w.heap.size w (w.alloc (row3 b1 b2 b3 a1 a2 a3 c1 c2 c3 l1 l2 l3)) := (Below.refl _ _).alloc (Nat.le_refl _) _
  refine ⟨by simp, fun j hj => ?_⟩
  match j, hj with
  | 0, _ => exact ⟨b1, l1, a1, c1, rfl, by rw [World.cell?_alloc_at _ _ _ _ rfl]; rfl, by rw [World.cell?_alloc_at _ _ _ _ rfl]; rfl, h1.rd.keep hal, h1.lt, (by have := hs.1; omega)⟩
  | 1, _ => exact ⟨b2, l2, a2, c2, rfl, by rw [World.cell?_alloc_at _ _ _ _ rfl]; rfl, by rw [World.cell?_alloc_at _ _ _ _ rfl]; rfl, h2.rd.keep hal, h2.lt, (by have := hs.2.1; omega)⟩
  | 2, _ => exact ⟨b3, l3, a3, c3, rfl, by rw [World.cell?_alloc_at _ _ _ _ rfl]; rfl, by rw [World.cell?_alloc_at _ _ _ _ rfl]; rfl, h3.rd.keep hal, h3.lt, (by have := hs.2.2; omega)⟩

/-- Three boxes, with more behind them. -/
theorem box3cells {w w' : World} {x1 y1 x2 y2 x3 y3 : Value} {t : TypeId} {o : Obj} {B : Nat} (h : Below B ((((w.alloc (.cells #[x1, y1] t)).alloc (.cells #[x2, y2] t)).alloc (.cells #[x3, y3] t)).alloc o) w') (hB : w.heap.size + 3 ≤ B) :
    w'.cell? ⟨w.heap.size, 0, none⟩ = some x1 ∧ w'.cell? ⟨w.heap.size, 1, none⟩ = some y1 ∧ w'.cell? ⟨w.heap.size + 1, 0, none⟩ = some x2 ∧ w'.cell? ⟨w.heap.size + 1, 1, none⟩ = some y2 ∧ w'.cell? ⟨w.heap.size + 1 + 1, 0, none⟩ = some x3 ∧ w'.cell? ⟨w.heap.size + 1 + 1, 1, none⟩ = some y3 := by
  refine ⟨?_, ?_, ?_, ?_, ?_, ?_⟩
  · rw [h.cell (p := ⟨w.heap.size, 0, none⟩) (show w.heap.size < B by omega), World.cell?_alloc_past _ _ _ (by simp; omega), World.cell?_alloc_past _ _ _ (by simp; omega), World.cell?_alloc_past _ _ _ (by simp), World.cell?_alloc_at _ _ _ _ rfl]; rfl
  · rw [h.cell (p := ⟨w.heap.size, 1, none⟩) (show w.heap.size < B by omega), World.cell?_alloc_past _ _ _ (by simp; omega), World.cell?_alloc_past _ _ _ (by simp; omega), World.cell?_alloc_past _ _ _ (by simp), World.cell?_alloc_at _ _ _ _ rfl]; rfl
  · rw [h.cell (p := ⟨w.heap.size + 1, 0, none⟩) (show w.heap.size + 1 < B by omega), World.cell?_alloc_past _ _ _ (by simp <;> omega), World.cell?_alloc_past _ _ _ (by simp <;> omega), World.cell?_alloc_at _ _ _ _ (by simp)]; rfl
  · rw [h.cell (p := ⟨w.heap.size + 1, 1, none⟩) (show w.heap.size + 1 < B by omega), World.cell?_alloc_past _ _ _ (by simp <;> omega), World.cell?_alloc_past _ _ _ (by simp <;> omega), World.cell?_alloc_at _ _ _ _ (by simp)]; rfl
  · rw [h.cell (p := ⟨w.heap.size + 1 + 1, 0, none⟩) (show w.heap.size + 1 + 1 < B by omega), World.cell?_alloc_past _ _ _ (by simp), World.cell?_alloc_at _ _ _ _ (by simp)]; rfl
  · rw [h.cell (p := ⟨w.heap.size + 1 + 1, 1, none⟩) (show w.heap.size + 1 + 1 < B by omega), World.cell?_alloc_past _ _ _ (by simp), World.cell?_alloc_at _ _ _ _ (by simp)]; rfl

theorem short3 (b1 b2 b3 : Bool) (a1 a2 a3 : Option Addr) (c1 c2 c3 : Nat) (l1 l2 l3 : List Nat) (w : World) (N : Nat) (hN : w.heap.size = N) (h1 : NArg w a1 c1 l1) (h2 : NArg w a2 c2 l2) (h3 : NArg w a3 c3 l3) :
    Calls Try.prog 14 #[.int .i64 8, .slice (some ⟨N, 0, none⟩) 3 3] (w.alloc (row3 b1 b2 b3 a1 a2 a3 c1 c2 c3 l1 l2 l3)) (BoolPost (w.alloc (row3 b1 b2 b3 a1 a2 a3 c1 c2 c3 l1 l2 l3)) (allLe [l1.length, l2.length, l3.length] 8)) := by
  subst hN
  exact Short_any w.heap.size 8 3 [l1.length, l2.length, l3.length] _ (show 3 ≤ 1000 by decide) (nrow3 b1 b2 b3 a1 a2 a3 c1 c2 c3 l1 l2 l3 w h1 h2 h3)
theorem made3 (b1 b2 b3 : Bool) (a1 a2 a3 : Option Addr) (c1 c2 c3 : Nat) (l1 l2 l3 : List Nat) (w : World) (N : Nat) (hN : w.heap.size = N) (h1 : NArg w a1 c1 l1) (h2 : NArg w a2 c2 l2) (h3 : NArg w a3 c3 l3) (hs : l1.length ≤ 8 ∧ l2.length ≤ 8 ∧ l3.length ≤ 8) :
    Calls Try.prog 64 #[.slice (some ⟨N, 0, none⟩) 3 3] (w.alloc (row3 b1 b2 b3 a1 a2 a3 c1 c2 c3 l1 l2 l3)) fun e w' => ∃ v, e = .returned v ∧ IRow w' (w.heap.size + 1) v [nz (b1, l1), nz (b2, l2), nz (b3, l3)] ∧ Below w.heap.size w w' := by
  subst hN
  refine (made_any w.heap.size 3 [(b1, l1), (b2, l2), (b3, l3)] _ (show 3 ≤ 1000 by decide) (nrd3 b1 b2 b3 a1 a2 a3 c1 c2 c3 l1 l2 l3 w h1 h2 h3 hs)).mono ?_
  rintro e w' ⟨v, rfl, h, hb⟩
  rw [World.size_alloc] at h
  exact ⟨v, rfl, h, ((Below.refl _ _).alloc (Nat.le_refl _) _).trans (hb.mono (by simp))⟩
/-- The three integers of a row. -/
theorem irow3 {w : World} {base : Nat} {v : Value} {x y z : Int} (h : IRow w base v [x, y, z]) :
    ∃ g cap a1 n1 c1 a2 n2 c2 a3 n3 c3, v = .slice (some ⟨g, 0, none⟩) 3 cap ∧ g < w.heap.size ∧ base ≤ g ∧
      w.cell? ⟨g, 0, none⟩ = some (.bool (decide (x < 0))) ∧ w.cell? ⟨g, 1, none⟩ = some (.slice a1 n1 c1) ∧ w.cell? ⟨g, 2, none⟩ = some (.bool (decide (y < 0))) ∧ w.cell? ⟨g, 3, none⟩ = some (.slice a2 n2 c2) ∧ w.cell? ⟨g, 4, none⟩ = some (.bool (decide (z < 0))) ∧ w.cell? ⟨g, 5, none⟩ = some (.slice a3 n3 c3) ∧
      IntV w (.agg #[.bool (decide (x < 0)), .slice a1 n1 c1]) x ∧ IntV w (.agg #[.bool (decide (y < 0)), .slice a2 n2 c2]) y ∧ IntV w (.agg #[.bool (decide (z < 0)), .slice a3 n3 c3]) z := by
  obtain ⟨xs, ho, he⟩ := h
  obtain ⟨a1, n1, c1, p1, q1, i1, _⟩ := he 0 (by simp)
  obtain ⟨a2, n2, c2, p2, q2, i2, _⟩ := he 1 (by simp)
  obtain ⟨a3, n3, c3, p3, q3, i3, _⟩ := he 2 (by simp)
  have ho' := ho
  obtain ⟨hlen, ⟨_, hn⟩ | ⟨g, cap, cur, rfl, hg, hgg, _⟩⟩ := ho
  · cases hn
  · have hl : g < w.heap.size := (Array.getElem?_eq_some_iff.1 hgg).1
    refine ⟨g, cap, a1, n1, c1, a2, n2, c2, a3, n3, c3, rfl, hl, hg, ?_, ?_, ?_, ?_, ?_, ?_, i1, i2, i3⟩
    · rw [ho'.cellAt 0 (by simp)]; exact p1
    · rw [ho'.cellAt 1 (by simp)]; exact q1
    · rw [ho'.cellAt 2 (by simp)]; exact p2
    · rw [ho'.cellAt 3 (by simp)]; exact q2
    · rw [ho'.cellAt 4 (by simp)]; exact p3
    · rw [ho'.cellAt 5 (by simp)]; exact q3

/-- The six cells of a row of three. -/
def Six (g : Nat) (u1 v1 u2 v2 u3 v3 : Value) (w : World) : Prop :=
  w.cell? ⟨g, 0, none⟩ = some u1 ∧ w.cell? ⟨g, 1, none⟩ = some v1 ∧ w.cell? ⟨g, 2, none⟩ = some u2 ∧ w.cell? ⟨g, 3, none⟩ = some v2 ∧ w.cell? ⟨g, 4, none⟩ = some u3 ∧ w.cell? ⟨g, 5, none⟩ = some v3
def Six3 (p q r : Nat) (u1 v1 u2 v2 u3 v3 : Value) (w : World) : Prop :=
  w.cell? ⟨p, 0, none⟩ = some u1 ∧ w.cell? ⟨p, 1, none⟩ = some v1 ∧ w.cell? ⟨q, 0, none⟩ = some u2 ∧ w.cell? ⟨q, 1, none⟩ = some v2 ∧ w.cell? ⟨r, 0, none⟩ = some u3 ∧ w.cell? ⟨r, 1, none⟩ = some v3
theorem Six.keep {g : Nat} {u1 v1 u2 v2 u3 v3 : Value} {a b : World} (h : Six g u1 v1 u2 v2 u3 v3 a) (hb : Below a.heap.size a b) : Six g u1 v1 u2 v2 u3 v3 b := by
  obtain ⟨h1, h2, h3, h4, h5, h6⟩ := h
  have hg := World.block_lt_of_cell? a _ h1
  exact ⟨(hb.cell (p := ⟨g, 0, none⟩) hg).trans h1, (hb.cell (p := ⟨g, 1, none⟩) hg).trans h2, (hb.cell (p := ⟨g, 2, none⟩) hg).trans h3, (hb.cell (p := ⟨g, 3, none⟩) hg).trans h4, (hb.cell (p := ⟨g, 4, none⟩) hg).trans h5, (hb.cell (p := ⟨g, 5, none⟩) hg).trans h6⟩
theorem three (a : World) (x1 y1 x2 y2 x3 y3 : Value) (t : TypeId) :
    Six3 a.heap.size (a.heap.size + 1) (a.heap.size + 1 + 1) x1 y1 x2 y2 x3 y3 (((a.alloc (.cells #[x1, y1] t)).alloc (.cells #[x2, y2] t)).alloc (.cells #[x3, y3] t)).drew ∧
    Below a.heap.size a (((a.alloc (.cells #[x1, y1] t)).alloc (.cells #[x2, y2] t)).alloc (.cells #[x3, y3] t)).drew := by
  have hB := Below.refl (a.heap.size + 3) ((((a.alloc (.cells #[x1, y1] t)).alloc (.cells #[x2, y2] t)).alloc (.cells #[x3, y3] t)).alloc (.cells #[x3, y3] t))
  have hC : ∀ p q, p < a.heap.size + 3 → ((((a.alloc (.cells #[x1, y1] t)).alloc (.cells #[x2, y2] t)).alloc (.cells #[x3, y3] t)).alloc (.cells #[x3, y3] t)).cell? ⟨p, q, none⟩ = (((a.alloc (.cells #[x1, y1] t)).alloc (.cells #[x2, y2] t)).alloc (.cells #[x3, y3] t)).cell? ⟨p, q, none⟩ := fun p q hp => World.cell?_alloc_past _ _ _ (show p < _ by simp; omega)
  obtain ⟨h1, h2, h3, h4, h5, h6⟩ := box3cells hB (Nat.le_refl _)
  rw [hC _ _ (by omega)] at h1 h2 h3 h4 h5 h6
  exact ⟨⟨h1, h2, h3, h4, h5, h6⟩, ((((Below.refl _ _).alloc (by simp) _).alloc (by simp) _).alloc (by simp; omega) _).drew⟩
theorem three132 (a : World) (x1 y1 x2 y2 x3 y3 : Value) (t : TypeId) : Six3 a.heap.size (a.heap.size + 1 + 1) (a.heap.size + 1) x1 y1 x2 y2 x3 y3 (((a.alloc (.cells #[x1, y1] t)).alloc (.cells #[x3, y3] t)).alloc (.cells #[x2, y2] t)).drew ∧ Below a.heap.size a (((a.alloc (.cells #[x1, y1] t)).alloc (.cells #[x3, y3] t)).alloc (.cells #[x2, y2] t)).drew := by
  have h := three a x1 y1 x3 y3 x2 y2 t
  exact ⟨⟨h.1.1, h.1.2.1, h.1.2.2.2.2.1, h.1.2.2.2.2.2, h.1.2.2.1, h.1.2.2.2.1⟩, h.2⟩
theorem three213 (a : World) (x1 y1 x2 y2 x3 y3 : Value) (t : TypeId) : Six3 (a.heap.size + 1) a.heap.size (a.heap.size + 1 + 1) x1 y1 x2 y2 x3 y3 (((a.alloc (.cells #[x2, y2] t)).alloc (.cells #[x1, y1] t)).alloc (.cells #[x3, y3] t)).drew ∧ Below a.heap.size a (((a.alloc (.cells #[x2, y2] t)).alloc (.cells #[x1, y1] t)).alloc (.cells #[x3, y3] t)).drew := by
  have h := three a x2 y2 x1 y1 x3 y3 t
  exact ⟨⟨h.1.2.2.1, h.1.2.2.2.1, h.1.1, h.1.2.1, h.1.2.2.2.2.1, h.1.2.2.2.2.2⟩, h.2⟩
theorem three231 (a : World) (x1 y1 x2 y2 x3 y3 : Value) (t : TypeId) : Six3 (a.heap.size + 1 + 1) a.heap.size (a.heap.size + 1) x1 y1 x2 y2 x3 y3 (((a.alloc (.cells #[x2, y2] t)).alloc (.cells #[x3, y3] t)).alloc (.cells #[x1, y1] t)).drew ∧ Below a.heap.size a (((a.alloc (.cells #[x2, y2] t)).alloc (.cells #[x3, y3] t)).alloc (.cells #[x1, y1] t)).drew := by
  have h := three a x2 y2 x3 y3 x1 y1 t
  exact ⟨⟨h.1.2.2.2.2.1, h.1.2.2.2.2.2, h.1.1, h.1.2.1, h.1.2.2.1, h.1.2.2.2.1⟩, h.2⟩
theorem three312 (a : World) (x1 y1 x2 y2 x3 y3 : Value) (t : TypeId) : Six3 (a.heap.size + 1) (a.heap.size + 1 + 1) a.heap.size x1 y1 x2 y2 x3 y3 (((a.alloc (.cells #[x3, y3] t)).alloc (.cells #[x1, y1] t)).alloc (.cells #[x2, y2] t)).drew ∧ Below a.heap.size a (((a.alloc (.cells #[x3, y3] t)).alloc (.cells #[x1, y1] t)).alloc (.cells #[x2, y2] t)).drew := by
  have h := three a x3 y3 x1 y1 x2 y2 t
  exact ⟨⟨h.1.2.2.1, h.1.2.2.2.1, h.1.2.2.2.2.1, h.1.2.2.2.2.2, h.1.1, h.1.2.1⟩, h.2⟩
theorem three321 (a : World) (x1 y1 x2 y2 x3 y3 : Value) (t : TypeId) : Six3 (a.heap.size + 1 + 1) (a.heap.size + 1) a.heap.size x1 y1 x2 y2 x3 y3 (((a.alloc (.cells #[x3, y3] t)).alloc (.cells #[x2, y2] t)).alloc (.cells #[x1, y1] t)).drew ∧ Below a.heap.size a (((a.alloc (.cells #[x3, y3] t)).alloc (.cells #[x2, y2] t)).alloc (.cells #[x1, y1] t)).drew := by
  have h := three a x3 y3 x2 y2 x1 y1 t
  exact ⟨⟨h.1.2.2.2.2.1, h.1.2.2.2.2.2, h.1.2.2.1, h.1.2.2.2.1, h.1.1, h.1.2.1⟩, h.2⟩
theorem Six.a0 {g : Nat} {u1 v1 u2 v2 u3 v3 : Value} {a : World} (h : Six g u1 v1 u2 v2 u3 v3 a) : Six g u1 v1 u2 v2 u3 v3 a.drew := h.keep ((Below.refl _ _).drew)
theorem Six.a1 {g : Nat} {u1 v1 u2 v2 u3 v3 : Value} {a : World} (h : Six g u1 v1 u2 v2 u3 v3 a) (o1 : Obj) : Six g u1 v1 u2 v2 u3 v3 (a.alloc o1).drew := h.keep (((Below.refl _ _).alloc (by simp) _).drew)
theorem Six.a2 {g : Nat} {u1 v1 u2 v2 u3 v3 : Value} {a : World} (h : Six g u1 v1 u2 v2 u3 v3 a) (o1 o2 : Obj) : Six g u1 v1 u2 v2 u3 v3 ((a.alloc o1).alloc o2).drew := h.keep ((((Below.refl _ _).alloc (by simp) _).alloc (by simp) _).drew)
theorem Six.a3 {g : Nat} {u1 v1 u2 v2 u3 v3 : Value} {a : World} (h : Six g u1 v1 u2 v2 u3 v3 a) (o1 o2 o3 : Obj) : Six g u1 v1 u2 v2 u3 v3 (((a.alloc o1).alloc o2).alloc o3).drew := h.keep (((((Below.refl _ _).alloc (by simp) _).alloc (by simp) _).alloc (by simp; omega) _).drew)
/-- Three boxes with integers. -/
def XS (w : World) (p q r : Nat) (u1 v1 u2 v2 u3 v3 : Value) (x y z : Int) (wx : World) : Prop :=
  wx.cell? ⟨p, 0, none⟩ = some u1 ∧ wx.cell? ⟨p, 1, none⟩ = some v1 ∧ wx.cell? ⟨q, 0, none⟩ = some u2 ∧ wx.cell? ⟨q, 1, none⟩ = some v2 ∧ wx.cell? ⟨r, 0, none⟩ = some u3 ∧ wx.cell? ⟨r, 1, none⟩ = some v3 ∧
    IntV wx (.agg #[u1, v1]) x ∧ IntV wx (.agg #[u2, v2]) y ∧ IntV wx (.agg #[u3, v3]) z ∧ Below w.heap.size w wx
theorem xs_of {w w2 W : World} {p q r : Nat} {u1 v1 u2 v2 u3 v3 : Value} {x y z : Int} (hb : Below w.heap.size w w2) (h1 : IntV w2 (.agg #[u1, v1]) x) (h2 : IntV w2 (.agg #[u2, v2]) y) (h3 : IntV w2 (.agg #[u3, v3]) z)
    (h : Six3 p q r u1 v1 u2 v2 u3 v3 W ∧ Below w2.heap.size w2 W) : XS w p q r u1 v1 u2 v2 u3 v3 x y z W :=
  ⟨h.1.1, h.1.2.1, h.1.2.2.1, h.1.2.2.2.1, h.1.2.2.2.2.1, h.1.2.2.2.2.2, h1.keep h.2, h2.keep h.2, h3.keep h.2, hb.trans (h.2.mono hb.size)⟩
theorem XS.keep {w : World} {p q r : Nat} {u1 v1 u2 v2 u3 v3 : Value} {x y z : Int} {a b : World} (h : XS w p q r u1 v1 u2 v2 u3 v3 x y z a) (hb : Below a.heap.size a b) : XS w p q r u1 v1 u2 v2 u3 v3 x y z b := by
  obtain ⟨h1, h2, h3, h4, h5, h6, h7, h8, h9, h10⟩ := h
  have hp := World.block_lt_of_cell? a _ h1
  have hq := World.block_lt_of_cell? a _ h3
  have hr := World.block_lt_of_cell? a _ h5
  exact ⟨(hb.cell (p := ⟨p, 0, none⟩) hp).trans h1, (hb.cell (p := ⟨p, 1, none⟩) hp).trans h2, (hb.cell (p := ⟨q, 0, none⟩) hq).trans h3, (hb.cell (p := ⟨q, 1, none⟩) hq).trans h4, (hb.cell (p := ⟨r, 0, none⟩) hr).trans h5, (hb.cell (p := ⟨r, 1, none⟩) hr).trans h6,
    h7.keep hb, h8.keep hb, h9.keep hb, h10.trans (hb.mono h10.size)⟩

/-- Bounds of numbers. -/
def Bd (k : Nat) (z : Int) : Prop := z.natAbs < 4294967296 ^ k
theorem Bd.up {k m : Nat} {z : Int} (h : Bd k z) (hk : k ≤ m) : Bd m z := Nat.lt_of_lt_of_le h (Nat.pow_le_pow_right (by decide) hk)
theorem Bd.zero : Bd 0 0 := by unfold Bd; decide
theorem Bd.two {k m : Nat} {a b : Nat} (ha : a < 4294967296 ^ k) (hb : b < 4294967296 ^ m) : a + b < 4294967296 ^ (k + m + 1) := by
  have h1 : 4294967296 ^ k ≤ 4294967296 ^ (k + m) := Nat.pow_le_pow_right (by decide) (by omega)
  have h2 : 4294967296 ^ m ≤ 4294967296 ^ (k + m) := Nat.pow_le_pow_right (by decide) (by omega)
  rw [Nat.pow_succ]
  omega
theorem Bd.add {k m : Nat} {x y : Int} (hx : Bd k x) (hy : Bd m y) : Bd (k + m + 1) (x + y) := Nat.lt_of_le_of_lt (Int.natAbs_add_le x y) (Bd.two hx hy)
theorem Bd.sub {k m : Nat} {x y : Int} (hx : Bd k x) (hy : Bd m y) : Bd (k + m + 1) (x - y) := Nat.lt_of_le_of_lt (Int.natAbs_sub_le x y) (Bd.two hx hy)
theorem Bd.mul {k m : Nat} {x y : Int} (hx : Bd k x) (hy : Bd m y) : Bd (k + m) (x * y) := by
  unfold Bd
  rw [Int.natAbs_mul, Nat.pow_add]
  exact Nat.mul_lt_mul'' hx hy
theorem len_le {k : Nat} {z : Int} (hk : k ≤ 1000000) (h : Bd k z) : len z ≤ 1000000 := Nat.le_trans (digs_length_le (by decide) _ k h) hk

/-- What may be known of a slot. -/
inductive Fa where
  | z (x : Int)
  | v (u : Value)
def Fa.ok : Fa → Value → World → Prop
  | .z x, y, w => IntV w y x
  | .v u, y, _ => y = u
def falF : List Fa → Nat → Value → World → Prop
  | [], _ => fun _ _ => True
  | f :: _, 0 => f.ok
  | _ :: r, n + 1 => falF r n
theorem falF_mono : ∀ (l : List Fa) (i : Nat) (v : Value) (w w' : World), falF l i v w → Below w.heap.size w w' → falF l i v w'
  | [], _, _, _, _, _, _ => trivial
  | .z _ :: _, 0, _, _, _, h, hb => IntV.keep (show IntV _ _ _ from h) hb
  | .v _ :: _, 0, _, _, _, h, _ => h
  | _ :: r, n + 1, v, w, w', h, hb => falF_mono r n v w w' h hb
theorem cmpZ_rng (x y : Int) : -9223372036854775808 < cmpZ x y ∧ cmpZ x y < 9223372036854775808 := by
  unfold cmpZ
  split
  · decide
  · split <;> decide

/-- A call without arguments, wherever it stands. -/
theorem wp_call0 {f : FuncId} {o : Oper} {ts : Array TypeId} {a : Act} {w : World} {K : Act → World → Prop} {Q : Exit → Act → World → Prop} (hen : Enters f) (hop : o.op = .call { callee := .value (.func f), args := #[], argTypes := ts }) (R : Ending → World → Prop) (hc : Calls Try.prog f #[] w R)
    (h : ∀ e w', R e w' → ∃ v, e = .returned v ∧ K (a.put o.dst v) w') : o.wp Try.prog a w K Q := by
  have he : (execOp a.eval o).run Try.prog w = .ok (.enter f #[]) w := by
    obtain ⟨dst, op, ty, pos, after, guard⟩ := o
    subst hop
    rw [execOp_call_go, hen]
    simp
  unfold Oper.wp
  rw [he]
  refine hc.mono ?_
  intro e w' hr
  obtain ⟨v, rfl, hk⟩ := h e w' hr
  exact hk

theorem nz_bd {b : Bool} {l : List Nat} (hl : l.length ≤ 8) (hlt : ∀ x ∈ l, x < 4294967296) : Bd 8 (nz (b, l)) := by
  have h : (nz (b, l)).natAbs = vl 4294967296 l := sg_natAbs _ _
  unfold Bd
  rw [h]
  exact Nat.lt_of_lt_of_le (vl_lt l hlt) (Nat.pow_le_pow_right (by decide) hl)
theorem allLe3 {a b c k : Nat} (h : allLe [a, b, c] k = true) : a ≤ k ∧ b ≤ k ∧ c ≤ k := by
  have h' := of_decide_eq_true h
  exact ⟨h' 0 (by simp), h' 1 (by simp), h' 2 (by simp)⟩

theorem neqF {a b : Int} (h : a = b) : false = !(a == b) := by subst h; simp
theorem cmpZ_anti (x y : Int) : cmpZ x y = -(cmpZ y x) := by unfold cmpZ; repeat' split <;> omega
theorem cmpZ_add (x y z : Int) : cmpZ (x + z) (y + z) = cmpZ x y := by unfold cmpZ; repeat' split <;> omega
theorem cmpZ_le (x y : Int) : cmpZ x y ≤ 0 ↔ x ≤ y := by unfold cmpZ; repeat' split <;> omega
theorem cmpZ_trans (x y z : Int) (h1 : cmpZ x y ≤ 0) (h2 : cmpZ y z ≤ 0) : ¬ cmpZ x z > 0 := by
  rw [cmpZ_le] at h1 h2
  have := (cmpZ_le x z).2 (Int.le_trans h1 h2)
  omega
theorem cmpZ_mul (x y z : Int) (h : sgnZ z > 0) : cmpZ (x * z) (y * z) = cmpZ x y := by
  have hz : 0 < z := by
    unfold sgnZ at h
    split at h
    · omega
    · split at h
      · omega
      · omega
  unfold cmpZ
  simp only [Int.mul_lt_mul_right hz]

end Go.Proofs.Ytfieecdedilonaa
