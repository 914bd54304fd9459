/-  R7  -/
import Derived.Test.YtghgcbedajaldaaGreatMpaw
import Derived.Test.YtghgcbedajaldaaGreatMpao
/-  Layer 3's Of.  -/
namespace Go.Proofs.YtghgcbedajaldaaGreat
section
open Go.RowKit Digs
theorem nz_bdq {b : Bool} {l : List Nat} {k : Nat} (hl : l.length ≤ k) (hlt : ∀ x ∈ l, x < 4294967296) : Bd k (nz (b, l)) := by
 have h : (nz (b, l)).natAbs = vl 4294967296 l := sg_natAbs _ _
 unfold Bd
 rw [h]
 exact Nat.lt_of_lt_of_le (vl_lt l hlt) (Nat.pow_le_pow_right (by decide) hl)
theorem Z4b.oth4 {p R : Nat} {W : World} (h : Z4b p W) (hne : p ≠ R) (x y s t : Value) : Z4b p ((((W.setCell ⟨R, 0, none⟩ x).setCell ⟨R, 1, none⟩ y).setCell ⟨R, 2, none⟩ s).setCell ⟨R, 3, none⟩ t) :=
 ⟨(cell_store4 hne).trans h.r0, (cell_store4 hne).trans h.r1, (cell_store4 hne).trans h.r2, (cell_store4 hne).trans h.r3, by simpa using h.f0, by simpa using h.f1, by simpa using h.f2, by simpa using h.f3⟩
theorem Z4b.putI {p : Nat} {W : World} (h : Z4b p W) {v : Value} {z : Int} (hv : IntV W v z) (x y s t : Value) : IntV ((((W.setCell ⟨p, 0, none⟩ x).setCell ⟨p, 1, none⟩ y).setCell ⟨p, 2, none⟩ s).setCell ⟨p, 3, none⟩ t) v z :=
 hv.st4 h.r0 h.r1 h.r2 h.r3 (by intro n h; cases h) (by intro n h; cases h) (by intro n h; cases h) (by intro n h; cases h) x y s t
theorem rat8 {P1 P2 : Nat} {W : World} {v : Value} {n d : Int} (z1 : Z4b P1 W) (z2 : Z4b P2 W) (hne : P2 ≠ P1) (h : RatV W v n d) (a b c e a' b' c' e' : Value) :
  RatV ((((((((W.setCell ⟨P1, 0, none⟩ a).setCell ⟨P1, 1, none⟩ b).setCell ⟨P1, 2, none⟩ c).setCell ⟨P1, 3, none⟩ e).setCell ⟨P2, 0, none⟩ a').setCell ⟨P2, 1, none⟩ b').setCell ⟨P2, 2, none⟩ c').setCell ⟨P2, 3, none⟩ e') v n d := by
 obtain ⟨q, r, s, t, rfl, h1, h2⟩ := h
 exact ⟨_, _, _, _, rfl, (z2.oth4 hne _ _ _ _).putI (z1.putI h1 _ _ _ _) _ _ _ _, (z2.oth4 hne _ _ _ _).putI (z1.putI h2 _ _ _ _) _ _ _ _⟩
theorem rq8 {P1 P2 : Nat} {W : World} {v : Value} {n d : Int} (z1 : Z4b P1 W) (z2 : Z4b P2 W) (hne : P2 ≠ P1) (h : RQV W v n d) (a b c e a' b' c' e' : Value) :
  RQV ((((((((W.setCell ⟨P1, 0, none⟩ a).setCell ⟨P1, 1, none⟩ b).setCell ⟨P1, 2, none⟩ c).setCell ⟨P1, 3, none⟩ e).setCell ⟨P2, 0, none⟩ a').setCell ⟨P2, 1, none⟩ b').setCell ⟨P2, 2, none⟩ c').setCell ⟨P2, 3, none⟩ e') v n d := by
 obtain ⟨q, r, s, t, rfl, h1, h2⟩ := h
 exact ⟨_, _, _, _, rfl, (z2.oth4 hne _ _ _ _).put (z1.put h1 _ _ _ _) _ _ _ _, (z2.oth4 hne _ _ _ _).put (z1.put h2 _ _ _ _) _ _ _ _⟩
theorem below8 {w W : World} {P1 P2 : Nat} (h : Below w.heap.size w W) (h1 : w.heap.size ≤ P1) (h2 : w.heap.size ≤ P2) (a b c e a' b' c' e' : Value) :
    Below w.heap.size w ((((((((W.setCell ⟨P1, 0, none⟩ a).setCell ⟨P1, 1, none⟩ b).setCell ⟨P1, 2, none⟩ c).setCell ⟨P1, 3, none⟩ e).setCell ⟨P2, 0, none⟩ a').setCell ⟨P2, 1, none⟩ b').setCell ⟨P2, 2, none⟩ c').setCell ⟨P2, 3, none⟩ e') :=
  (((((((h.setCell h1 _).setCell h1 _).setCell h1 _).setCell h1 _).setCell h2 _).setCell h2 _).setCell h2 _).setCell h2 _

structure C4 (p : Nat) (a b c e : Value) (W : World) : Prop where
 c0 : W.cell? ⟨p, 0, none⟩ = some a
 c1 : W.cell? ⟨p, 1, none⟩ = some b
 c2 : W.cell? ⟨p, 2, none⟩ = some c
 c3 : W.cell? ⟨p, 3, none⟩ = some e
theorem C4.lt {p : Nat} {a b c e : Value} {W : World} (h : C4 p a b c e W) : p < W.heap.size := World.block_lt_of_cell? W _ h.c0
theorem C4.keep {p : Nat} {a b c e : Value} {W W' : World} (h : C4 p a b c e W) (hb : Below W.heap.size W W') : C4 p a b c e W' :=
 ⟨(hb.cell (p := ⟨p, 0, none⟩) h.lt).trans h.c0, (hb.cell (p := ⟨p, 1, none⟩) h.lt).trans h.c1, (hb.cell (p := ⟨p, 2, none⟩) h.lt).trans h.c2, (hb.cell (p := ⟨p, 3, none⟩) h.lt).trans h.c3⟩
theorem C4.made {w : World} {a b c e : Value} {t : TypeId} : C4 w.heap.size a b c e (w.alloc (.cells #[a, b, c, e] t)) := by
 have h := cells4 (w := w) (a := a) (b := b) (c := c) (d := e) (t := t) (Below.refl _ _)
 exact ⟨h.1, h.2.1, h.2.2.1, h.2.2.2.1⟩
structure O3 (w : World) (a b c e : Value) (W : World) : Prop where
 x : C4 w.heap.size a b c e W
 y : Z4b (w.heap.size + 1) W
 z : Z4b (w.heap.size + 1 + 1) W
 below : Below w.heap.size w W
theorem O3.keep {w : World} {a b c e : Value} {W W' : World} (h : O3 w a b c e W) (hb : Below W.heap.size W W') : O3 w a b c e W' := ⟨h.x.keep hb, h.y.keep hb, h.z.keep hb, h.below.trans (hb.mono h.below.size)⟩
theorem O3.made {w : World} {a b c e : Value} {t u s : TypeId} : O3 w a b c e (((w.alloc (.cells #[a, b, c, e] t)).alloc (.cells #[.bool false, .slice none 0 0, .bool false, .slice none 0 0] u)).alloc (.cells #[.bool false, .slice none 0 0, .bool false, .slice none 0 0] s)) := by
 have hal : ∀ (W : World) (o : Obj), Below W.heap.size W (W.alloc o) := fun W o => (Below.refl _ _).alloc (Nat.le_refl _) _
 have hy := Z4b.made (w := w.alloc (.cells #[a, b, c, e] t)) (t := u)
 have hz := Z4b.made (w := (w.alloc (.cells #[a, b, c, e] t)).alloc (.cells #[.bool false, .slice none 0 0, .bool false, .slice none 0 0] u)) (t := s)
 simp only [World.size_alloc] at hy hz
 exact ⟨(C4.made.keep (hal _ _)).keep (hal _ _), hy.keep (hal _ _), hz, below3w _ _ _ _⟩
structure BR (p : Nat) (u v u' v' : Value) (z : Int) (W : World) : Prop where
 b : BX p u v z W
 r : RX (p + 1) u' v' z W
theorem BR.keep {p : Nat} {u v u' v' : Value} {z : Int} {W W' : World} (h : BR p u v u' v' z W) (hb : Below W.heap.size W W') : BR p u v u' v' z W' := ⟨h.b.keep hb, h.r.keep hb⟩
theorem BR.made {w : World} {u v u' v' : Value} {z : Int} {t s : TypeId} (h1 : IntV w (.agg #[u, v]) z) (h2 : RefV w (.agg #[u', v']) z) : BR w.heap.size u v u' v' z ((w.alloc (.cells #[u, v] t)).alloc (.cells #[u', v'] s)) := by
 have h := RX.made (t := s) (h2.keep ((Below.refl w.heap.size w).alloc (Nat.le_refl _) (.cells #[u, v] t)))
 rw [World.size_alloc] at h
 exact ⟨(BX.made h1).keep ((Below.refl _ _).alloc (Nat.le_refl _) _), h⟩
theorem BR.c4 {p : Nat} {u v u' v' : Value} {z : Int} {W : World} (h : BR p u v u' v' z W) : (W.cell? ⟨p, 0, none⟩ = some u ∧ W.cell? ⟨p, 1, none⟩ = some v) ∧ W.cell? ⟨p + 1, 0, none⟩ = some u' ∧ W.cell? ⟨p + 1, 1, none⟩ = some v' := ⟨h.b.cells, h.r.cells⟩
theorem BR.c4s {p P1 : Nat} {u v u' v' : Value} {z : Int} {W : World} (h : BR p u v u' v' z W) (n1 : p ≠ P1) (n2 : p + 1 ≠ P1) {a b c e : Value} :
    (((((W.setCell ⟨P1, 0, none⟩ a).setCell ⟨P1, 1, none⟩ b).setCell ⟨P1, 2, none⟩ c).setCell ⟨P1, 3, none⟩ e).cell? ⟨p, 0, none⟩ = some u ∧ ((((W.setCell ⟨P1, 0, none⟩ a).setCell ⟨P1, 1, none⟩ b).setCell ⟨P1, 2, none⟩ c).setCell ⟨P1, 3, none⟩ e).cell? ⟨p, 1, none⟩ = some v) ∧ ((((W.setCell ⟨P1, 0, none⟩ a).setCell ⟨P1, 1, none⟩ b).setCell ⟨P1, 2, none⟩ c).setCell ⟨P1, 3, none⟩ e).cell? ⟨p + 1, 0, none⟩ = some u' ∧ ((((W.setCell ⟨P1, 0, none⟩ a).setCell ⟨P1, 1, none⟩ b).setCell ⟨P1, 2, none⟩ c).setCell ⟨P1, 3, none⟩ e).cell? ⟨p + 1, 1, none⟩ = some v' :=
  ⟨⟨(cell_store4 n1).trans h.b.c0, (cell_store4 n1).trans h.b.c1⟩, (cell_store4 n2).trans h.r.c0, (cell_store4 n2).trans h.r.c1⟩
theorem BR.c4ss {p P1 P2 : Nat} {u v u' v' : Value} {z : Int} {W : World} (h : BR p u v u' v' z W) (n1 : p ≠ P1) (n2 : p + 1 ≠ P1) (n3 : p ≠ P2) (n4 : p + 1 ≠ P2) {a b c e a' b' c' e' : Value} :
    (((((((((W.setCell ⟨P1, 0, none⟩ a).setCell ⟨P1, 1, none⟩ b).setCell ⟨P1, 2, none⟩ c).setCell ⟨P1, 3, none⟩ e).setCell ⟨P2, 0, none⟩ a').setCell ⟨P2, 1, none⟩ b').setCell ⟨P2, 2, none⟩ c').setCell ⟨P2, 3, none⟩ e').cell? ⟨p, 0, none⟩ = some u ∧ ((((((((W.setCell ⟨P1, 0, none⟩ a).setCell ⟨P1, 1, none⟩ b).setCell ⟨P1, 2, none⟩ c).setCell ⟨P1, 3, none⟩ e).setCell ⟨P2, 0, none⟩ a').setCell ⟨P2, 1, none⟩ b').setCell ⟨P2, 2, none⟩ c').setCell ⟨P2, 3, none⟩ e').cell? ⟨p, 1, none⟩ = some v) ∧ ((((((((W.setCell ⟨P1, 0, none⟩ a).setCell ⟨P1, 1, none⟩ b).setCell ⟨P1, 2, none⟩ c).setCell ⟨P1, 3, none⟩ e).setCell ⟨P2, 0, none⟩ a').setCell ⟨P2, 1, none⟩ b').setCell ⟨P2, 2, none⟩ c').setCell ⟨P2, 3, none⟩ e').cell? ⟨p + 1, 0, none⟩ = some u' ∧ ((((((((W.setCell ⟨P1, 0, none⟩ a).setCell ⟨P1, 1, none⟩ b).setCell ⟨P1, 2, none⟩ c).setCell ⟨P1, 3, none⟩ e).setCell ⟨P2, 0, none⟩ a').setCell ⟨P2, 1, none⟩ b').setCell ⟨P2, 2, none⟩ c').setCell ⟨P2, 3, none⟩ e').cell? ⟨p + 1, 1, none⟩ = some v' :=
  have k := h.c4s (a := a) (b := b) (c := c) (e := e) n1 n2
  ⟨⟨(cell_store4 n3).trans k.1.1, (cell_store4 n3).trans k.1.2⟩, (cell_store4 n4).trans k.2.1, (cell_store4 n4).trans k.2.2⟩

theorem PQ.c8s {p q P1 : Nat} {a b c e a' b' c' e' : Value} {n d : Int} {W : World} (h : PQ p q a b c e a' b' c' e' n d W) (n1 : p ≠ P1) (n2 : q ≠ P1) {r0 r1 r2 r3 : Value} :
    (((((W.setCell ⟨P1, 0, none⟩ r0).setCell ⟨P1, 1, none⟩ r1).setCell ⟨P1, 2, none⟩ r2).setCell ⟨P1, 3, none⟩ r3).cell? ⟨p, 0, none⟩ = some a ∧ ((((W.setCell ⟨P1, 0, none⟩ r0).setCell ⟨P1, 1, none⟩ r1).setCell ⟨P1, 2, none⟩ r2).setCell ⟨P1, 3, none⟩ r3).cell? ⟨p, 1, none⟩ = some b ∧ ((((W.setCell ⟨P1, 0, none⟩ r0).setCell ⟨P1, 1, none⟩ r1).setCell ⟨P1, 2, none⟩ r2).setCell ⟨P1, 3, none⟩ r3).cell? ⟨p, 2, none⟩ = some c ∧ ((((W.setCell ⟨P1, 0, none⟩ r0).setCell ⟨P1, 1, none⟩ r1).setCell ⟨P1, 2, none⟩ r2).setCell ⟨P1, 3, none⟩ r3).cell? ⟨p, 3, none⟩ = some e) ∧ (((((W.setCell ⟨P1, 0, none⟩ r0).setCell ⟨P1, 1, none⟩ r1).setCell ⟨P1, 2, none⟩ r2).setCell ⟨P1, 3, none⟩ r3).cell? ⟨q, 0, none⟩ = some a' ∧ ((((W.setCell ⟨P1, 0, none⟩ r0).setCell ⟨P1, 1, none⟩ r1).setCell ⟨P1, 2, none⟩ r2).setCell ⟨P1, 3, none⟩ r3).cell? ⟨q, 1, none⟩ = some b' ∧ ((((W.setCell ⟨P1, 0, none⟩ r0).setCell ⟨P1, 1, none⟩ r1).setCell ⟨P1, 2, none⟩ r2).setCell ⟨P1, 3, none⟩ r3).cell? ⟨q, 2, none⟩ = some c' ∧ ((((W.setCell ⟨P1, 0, none⟩ r0).setCell ⟨P1, 1, none⟩ r1).setCell ⟨P1, 2, none⟩ r2).setCell ⟨P1, 3, none⟩ r3).cell? ⟨q, 3, none⟩ = some e') :=
  ⟨⟨(cell_store4 n1).trans h.x.c0, (cell_store4 n1).trans h.x.c1, (cell_store4 n1).trans h.x.c2, (cell_store4 n1).trans h.x.c3⟩, (cell_store4 n2).trans h.y.c0, (cell_store4 n2).trans h.y.c1, (cell_store4 n2).trans h.y.c2, (cell_store4 n2).trans h.y.c3⟩
theorem PQ.c8ss {p q P1 P2 : Nat} {a b c e a' b' c' e' : Value} {n d : Int} {W : World} (h : PQ p q a b c e a' b' c' e' n d W) (n1 : p ≠ P1) (n2 : q ≠ P1) (n3 : p ≠ P2) (n4 : q ≠ P2) {r0 r1 r2 r3 s0 s1 s2 s3 : Value} :
    (((((((((W.setCell ⟨P1, 0, none⟩ r0).setCell ⟨P1, 1, none⟩ r1).setCell ⟨P1, 2, none⟩ r2).setCell ⟨P1, 3, none⟩ r3).setCell ⟨P2, 0, none⟩ s0).setCell ⟨P2, 1, none⟩ s1).setCell ⟨P2, 2, none⟩ s2).setCell ⟨P2, 3, none⟩ s3).cell? ⟨p, 0, none⟩ = some a ∧ ((((((((W.setCell ⟨P1, 0, none⟩ r0).setCell ⟨P1, 1, none⟩ r1).setCell ⟨P1, 2, none⟩ r2).setCell ⟨P1, 3, none⟩ r3).setCell ⟨P2, 0, none⟩ s0).setCell ⟨P2, 1, none⟩ s1).setCell ⟨P2, 2, none⟩ s2).setCell ⟨P2, 3, none⟩ s3).cell? ⟨p, 1, none⟩ = some b ∧ ((((((((W.setCell ⟨P1, 0, none⟩ r0).setCell ⟨P1, 1, none⟩ r1).setCell ⟨P1, 2, none⟩ r2).setCell ⟨P1, 3, none⟩ r3).setCell ⟨P2, 0, none⟩ s0).setCell ⟨P2, 1, none⟩ s1).setCell ⟨P2, 2, none⟩ s2).setCell ⟨P2, 3, none⟩ s3).cell? ⟨p, 2, none⟩ = some c ∧ ((((((((W.setCell ⟨P1, 0, none⟩ r0).setCell ⟨P1, 1, none⟩ r1).setCell ⟨P1, 2, none⟩ r2).setCell ⟨P1, 3, none⟩ r3).setCell ⟨P2, 0, none⟩ s0).setCell ⟨P2, 1, none⟩ s1).setCell ⟨P2, 2, none⟩ s2).setCell ⟨P2, 3, none⟩ s3).cell? ⟨p, 3, none⟩ = some e) ∧ (((((((((W.setCell ⟨P1, 0, none⟩ r0).setCell ⟨P1, 1, none⟩ r1).setCell ⟨P1, 2, none⟩ r2).setCell ⟨P1, 3, none⟩ r3).setCell ⟨P2, 0, none⟩ s0).setCell ⟨P2, 1, none⟩ s1).setCell ⟨P2, 2, none⟩ s2).setCell ⟨P2, 3, none⟩ s3).cell? ⟨q, 0, none⟩ = some a' ∧ ((((((((W.setCell ⟨P1, 0, none⟩ r0).setCell ⟨P1, 1, none⟩ r1).setCell ⟨P1, 2, none⟩ r2).setCell ⟨P1, 3, none⟩ r3).setCell ⟨P2, 0, none⟩ s0).setCell ⟨P2, 1, none⟩ s1).setCell ⟨P2, 2, none⟩ s2).setCell ⟨P2, 3, none⟩ s3).cell? ⟨q, 1, none⟩ = some b' ∧ ((((((((W.setCell ⟨P1, 0, none⟩ r0).setCell ⟨P1, 1, none⟩ r1).setCell ⟨P1, 2, none⟩ r2).setCell ⟨P1, 3, none⟩ r3).setCell ⟨P2, 0, none⟩ s0).setCell ⟨P2, 1, none⟩ s1).setCell ⟨P2, 2, none⟩ s2).setCell ⟨P2, 3, none⟩ s3).cell? ⟨q, 2, none⟩ = some c' ∧ ((((((((W.setCell ⟨P1, 0, none⟩ r0).setCell ⟨P1, 1, none⟩ r1).setCell ⟨P1, 2, none⟩ r2).setCell ⟨P1, 3, none⟩ r3).setCell ⟨P2, 0, none⟩ s0).setCell ⟨P2, 1, none⟩ s1).setCell ⟨P2, 2, none⟩ s2).setCell ⟨P2, 3, none⟩ s3).cell? ⟨q, 3, none⟩ = some e') :=
  have k := h.c8s (r0 := r0) (r1 := r1) (r2 := r2) (r3 := r3) n1 n2
  ⟨⟨(cell_store4 n3).trans k.1.1, (cell_store4 n3).trans k.1.2.1, (cell_store4 n3).trans k.1.2.2.1, (cell_store4 n3).trans k.1.2.2.2⟩, (cell_store4 n4).trans k.2.1, (cell_store4 n4).trans k.2.2.1, (cell_store4 n4).trans k.2.2.2.1, (cell_store4 n4).trans k.2.2.2.2⟩

def QOfPost (w : World) (n d : Int) (e : Ending) (w' : World) : Prop :=
 ∃ v u, e = .returned (.tuple #[v, u]) ∧ RatV w' v n d ∧ RQV w' u n d ∧ Below w.heap.size w w'
set_option maxHeartbeats 16000000 in
set_option maxRecDepth 100000 in
theorem qOf_any (b1 b2 : Bool) (a1 a2 : Option Addr) (c1 c2 : Nat) (l1 l2 : List Nat) (w : World) (hl1 : l1.length ≤ 50) (hl2 : l2.length ≤ 50) (h1 : NArg w a1 c1 l1) (h2 : NArg w a2 c2 l2) :
    Calls Tryz.prog 18 #[.agg #[.bool b1, .slice a1 l1.length c1, .bool b2, .slice a2 l2.length c2]] w
      (QOfPost w (if nz (b2, l2) = 0 then nz (b1, l1) else qn (nz (b1, l1)) (nz (b2, l2))) (if nz (b2, l2) = 0 then 1 else qd (nz (b1, l1)) (nz (b2, l2)))) := by
  have k1 : Bd 50 (nz (b1, l1)) := nz_bdq hl1 h1.lt
  have k2 : Bd 50 (nz (b2, l2)) := nz_bdq hl2 h2.lt
  have HO1 := Lib.hid fun W hw => Lib.hid (of_any b1 a1 c1 l1 W (by omega) (h1.keep (w' := W) hw))
  have HO2 := Lib.hid fun W hw => Lib.hid (of_any b2 a2 c2 l2 W (by omega) (h2.keep (w' := W) hw))
  clear h1 h2 hl1 hl2
  generalize nz (b1, l1) = x at *
  generalize nz (b2, l2) = y at *
  generalize l1.length = m1 at *
  generalize l2.length = m2 at *
  obtain ⟨N, hN⟩ : ∃ N : Int, N = if y = 0 then x else qn x y := ⟨_, rfl⟩
  obtain ⟨D, hD⟩ : ∃ D : Int, D = if y = 0 then 1 else qd x y := ⟨_, rfl⟩
  rw [← hN, ← hD]
  have HN := Lib.hid hN
  have HD := Lib.hid hD
  clear hN hD
  have HS := Lib.hid fun W u h => Lib.hid (rSign_any y u W (rlen_bd k2 (by decide)) h)
  have hsg : (sgnZ y == 0) = decide (y = 0) := by
    by_cases h : y = 0
    · rw [decide_eq_true h, sgnZ_z.2 h]; rfl
    · rw [decide_eq_false h]; simp [sgnZ_z, h]
  generalize sgnZ y = sy at *
  have HW0 := Lib.hid (O3.made (w := w) (a := .bool b1) (b := .slice a1 m1 c1) (c := .bool b2) (e := .slice a2 m2 c2) (t := 26) (u := 38) (s := 43))
  go_enter Tryz.func18, Tryz.ntmps18
  go_wp2_with fail
  (with_reducible refine (HO1.out _ HW0.out.below).out.mono ?_)
  rintro e w1 ⟨vx, vu, rfl, hx, hu, hb1⟩
  obtain ⟨p1, ad1, n1, e1, rfl⟩ := intv_shape hx
  obtain ⟨p2, ad2, n2, e2, rfl⟩ := refv_shape hu
  have hal1 := below2 w1 (.cells #[.bool p1, .slice ad1 n1 e1] 31) (.cells #[.bool p2, .slice ad2 n2 e2] 34)
  have HX1 := Lib.hid (BR.made (t := 31) (s := 34) hx hu)
  have HW1 := Lib.hid ((HW0.out.keep hb1).keep hal1)
  have hl1 := (HW0.out.keep hb1).z.lt
  clear hx hu hb1 hal1 HW0 HO1
  obtain ⟨_, _, x2, x3⟩ := HW1.out.x
  go_wp2_with fail
  (with_reducible refine (HO2.out _ HW1.out.below).out.mono ?_)
  rintro e w2 ⟨vx, vu, rfl, hx, hu, hb2⟩
  obtain ⟨p3, ad3, n3, e3, rfl⟩ := intv_shape hx
  obtain ⟨p4, ad4, n4, e4, rfl⟩ := refv_shape hu
  have hal2 := below2 w2 (.cells #[.bool p3, .slice ad3 n3 e3] 31) (.cells #[.bool p4, .slice ad4 n4 e4] 34)
  have HX2 := Lib.hid ((HX1.out.keep hb2).keep hal2)
  have HY2 := Lib.hid (BR.made (t := 31) (s := 34) hx hu)
  have HW2 := Lib.hid ((HW1.out.keep hb2).keep hal2)
  clear hx hu hb2 hal2 HW1 HX1 HO2 x2 x3
  obtain ⟨y0, y1⟩ := HY2.out.r.cells
  go_wp2_with fail
  (with_reducible refine (HS.out _ _ HY2.out.r.rv).out.mono ?_)
  rintro e w3 ⟨rfl, hb3⟩
  have HX3 := Lib.hid (HX2.out.keep hb3)
  have HY3 := Lib.hid (HY2.out.keep hb3)
  have HW3 := Lib.hid (HW2.out.keep hb3)
  clear hb3 HX2 HY2 HW2 y0 y1 HS
  have hn1 : w1.heap.size ≠ w.heap.size + 1 := by omega
  have hn2 : w1.heap.size + 1 ≠ w.heap.size + 1 := by omega
  have hn3 : w1.heap.size ≠ w.heap.size + 1 + 1 := by omega
  have hn4 : w1.heap.size + 1 ≠ w.heap.size + 1 + 1 := by omega
  by_cases h0 : y = 0
  · obtain rfl : N = x := HN.out.trans (if_pos h0)
    obtain rfl : D = 1 := HD.out.trans (if_pos h0)
    clear HN HD
    have HQ1 := Lib.hid fun W u h => Lib.hid (ratOf_any N u W h)
    have HQ2 := Lib.hid fun W u h => Lib.hid (rOf_any N u W h)
    go_upto_region 4 with fail
    have hx0 := HX3.out.keep (Below.refl _ _).drew
    have hw0 := HW3.out.keep (Below.refl _ _).drew
    clear HX3 HY3 HW3 k1 k2 hl1
    go_region_held3 (fun w' => (w'.cell? ⟨w1.heap.size, 0, none⟩ = some (.bool p1) ∧ w'.cell? ⟨w1.heap.size, 1, none⟩ = some (.slice ad1 n1 e1)) ∧ w'.cell? ⟨w1.heap.size + 1, 0, none⟩ = some (.bool p2) ∧ w'.cell? ⟨w1.heap.size + 1, 1, none⟩ = some (.slice ad2 n2 e2))
      (first | with_reducible exact hx2.c4 | with_reducible exact hx1.c4 | with_reducible exact hx0.c4 | with_reducible exact hx2.c4s hn1 hn2 | with_reducible exact hx2.c4ss hn1 hn2 hn3 hn4 | go_keep)
      ((first
      | (go_at_call 20; (with_reducible refine (HQ1.out _ _ hx0.b.iv).out.mono ?_); rintro e wA ⟨vA, rfl, hqA, hbA⟩; have hx1 := hx0.keep hbA; have hw1 := hw0.keep hbA; obtain ⟨p5, ad5, n5, e5, p6, ad6, n6, e6, rfl⟩ := ratv_shape hqA)
      | (go_at_call 21; (with_reducible refine (HQ2.out _ _ hx1.r.rv).out.mono ?_); rintro e wB ⟨vB, rfl, hqB, hbB⟩; have hx2 := hx1.keep hbB; have hw2 := hw1.keep hbB; have hqA2 := hqA.keep hbB; obtain ⟨p7, ad7, n7, e7, p8, ad8, n8, e8, rfl, _, _⟩ := rqv_shape hqB; obtain ⟨r0, r1, r2, r3, f0, f1, f2, f3⟩ := hw2.y; obtain ⟨s0, s1, s2, s3, q0, q1, q2, q3⟩ := hw2.z)))
    all_goals
      have g1 := Lib.hid (rat8 hw2.y hw2.z (by omega) hqA2)
      have g2 := Lib.hid (rq8 hw2.y hw2.z (by omega) hqB)
      have g3 := Lib.hid (below8 (P1 := w.heap.size + 1) (P2 := w.heap.size + 1 + 1) hw2.below (by omega) (by omega))
      clear hx0 hx1 hx2 hw0 hw1 hw2 hqA hqA2 hqB hbA hbB HQ1 HQ2
      go_wp2_with fail
      refine bodyPost_ret (v := .tuple #[.agg #[.bool p5, .slice ad5 n5 e5, .bool p6, .slice ad6 n6 e6], .agg #[.bool p7, .slice ad7 n7 e7, .bool p8, .slice ad8 n8 e8]]) (by simp [results, Tryz.results18, go_sem, r0, r1, r2, r3, s0, s1, s2, s3]) rfl ⟨_, _, rfl, g1.out _ _ _ _ _ _ _ _, g2.out _ _ _ _ _ _ _ _, g3.out _ _ _ _ _ _ _ _⟩
  · obtain rfl : N = qn x y := HN.out.trans (if_neg h0)
    obtain rfl : D = qd x y := HD.out.trans (if_neg h0)
    clear HN HD
    have HQ1 := Lib.hid fun W u v h h' => Lib.hid (show Calls Tryz.prog 16 #[u, v] W (RatRes W (qn x y) (qd x y) 0) from by
      have := ratNew_any x y u v W (len_le (by decide) k1) (len_le (by decide) k2) h h'
      rwa [if_neg h0, if_neg h0, if_neg h0] at this)
    have HQ2 := Lib.hid fun W u v h h' => Lib.hid (show Calls Tryz.prog 17 #[u, v] W (RQRes W (qn x y) (qd x y) 0) from by
      have := rNew_any x y u v W (rlen_bd k1 (by decide)) (rlen_bd k2 (by decide)) h h'
      rwa [if_neg h0, if_neg h0, if_neg h0] at this)
    generalize qn x y = qN at *
    generalize qd x y = qD at *
    clear k1 k2 hn1 hn2 hn3 hn4 hl1
    obtain ⟨⟨x0, x1⟩, _, _⟩ := HX3.out.c4
    obtain ⟨⟨y0, y1⟩, _, _⟩ := HY3.out.c4
    go_wp2_with fail
    (with_reducible refine (HQ1.out _ _ _ HX3.out.b.iv HY3.out.b.iv).out.mono ?_)
    rintro e w4 ⟨vA, rfl, hqA, hbA⟩
    obtain ⟨p5, ad5, n5, e5, p6, ad6, n6, e6, rfl⟩ := ratv_shape hqA
    have hlw4 := (HW3.out.keep hbA).z.lt
    have hal4 := (Below.refl w4.heap.size w4).alloc (Nat.le_refl _) (.cells #[.bool p5, .slice ad5 n5 e5, .bool p6, .slice ad6 n6 e6] 38)
    have HP4 := Lib.hid (PX.made (t := 38) hqA)
    have HX4 := Lib.hid ((HX3.out.keep hbA).keep hal4)
    have HY4 := Lib.hid ((HY3.out.keep hbA).keep hal4)
    have HW4 := Lib.hid ((HW3.out.keep hbA).keep hal4)
    clear hqA hbA hal4 HX3 HY3 HW3 x0 x1 y0 y1 HQ1
    obtain ⟨_, x0, x1⟩ := HX4.out.c4
    obtain ⟨_, y0, y1⟩ := HY4.out.c4
    go_wp2_with fail
    (with_reducible refine (HQ2.out _ _ _ HX4.out.r.rv HY4.out.r.rv).out.mono ?_)
    rintro e w5 ⟨vB, rfl, hqB, hbB⟩
    obtain ⟨p7, ad7, n7, e7, p8, ad8, n8, e8, rfl, hqB1, hqB2⟩ := rqv_shape hqB
    have hal5 := (Below.refl w5.heap.size w5).alloc (Nat.le_refl _) (.cells #[.bool p7, .slice ad7 n7 e7, .bool p8, .slice ad8 n8 e8] 43)
    have hp5 := (HP4.out.keep hbB).keep hal5
    have hq5 := QX.made (t := 43) hqB1 hqB2
    have hw5 := (HW4.out.keep hbB).keep hal5
    have hx0 := Lib.hid (PQ.mk hp5 hq5)
    have hw0 := Lib.hid hw5
    have hlw5 := (HW4.out.keep hbB).z.lt
    have hn1 : w4.heap.size ≠ w.heap.size + 1 := by omega
    have hn3 : w4.heap.size ≠ w.heap.size + 1 + 1 := by omega
    have hn2 : w5.heap.size ≠ w.heap.size + 1 := by omega
    have hn4 : w5.heap.size ≠ w.heap.size + 1 + 1 := by omega
    clear hqB hqB1 hqB2 hbB hal5 hp5 hq5 hw5 HX4 HY4 HW4 HP4 HQ2 x0 x1 y0 y1 hlw4 hlw5
    go_upto_region 7 with fail
    generalize hX : w5.alloc (.cells #[.bool p7, .slice ad7 n7 e7, .bool p8, .slice ad8 n8 e8] 43) = X at *
    clear hX
    have hx0 := hx0.out
    have hw00 := hw0.out
    obtain ⟨r0, r1, r2, r3, f0, f1, f2, f3⟩ := hw00.y
    obtain ⟨s0, s1, s2, s3, q0, q1, q2, q3⟩ := hw00.z
    go_region_held3 (fun w' => (w'.cell? ⟨w4.heap.size, 0, none⟩ = some (.bool p5) ∧ w'.cell? ⟨w4.heap.size, 1, none⟩ = some (.slice ad5 n5 e5) ∧ w'.cell? ⟨w4.heap.size, 2, none⟩ = some (.bool p6) ∧ w'.cell? ⟨w4.heap.size, 3, none⟩ = some (.slice ad6 n6 e6)) ∧ (w'.cell? ⟨w5.heap.size, 0, none⟩ = some (.bool p7) ∧ w'.cell? ⟨w5.heap.size, 1, none⟩ = some (.slice ad7 n7 e7) ∧ w'.cell? ⟨w5.heap.size, 2, none⟩ = some (.bool p8) ∧ w'.cell? ⟨w5.heap.size, 3, none⟩ = some (.slice ad8 n8 e8)))
      (first | ((try simp only [World.cell?_drew]); with_reducible exact hx0.c8) | ((try simp only [World.cell?_drew]); with_reducible exact hx0.c8s hn1 hn2) | ((try simp only [World.cell?_drew]); with_reducible exact hx0.c8ss hn1 hn2 hn3 hn4) | go_keep)
      (fail)
    all_goals
      have g1 := Lib.hid (rat8 hw00.y hw00.z (by omega) hx0.x.rv)
      have g2 := Lib.hid (rq8 hw00.y hw00.z (by omega) hx0.y.rq)
      have g3 := Lib.hid (below8 (P1 := w.heap.size + 1) (P2 := w.heap.size + 1 + 1) hw00.below (by omega) (by omega))
      have g1' := Lib.hid fun a b c e a' b' c' e' => (g1.out a b c e a' b' c' e').keep (Below.refl _ _).drew
      have g2' := Lib.hid fun a b c e a' b' c' e' => (g2.out a b c e a' b' c' e').keep (Below.refl _ _).drew
      have g3' := Lib.hid fun a b c e a' b' c' e' => (g3.out a b c e a' b' c' e').drew
      clear hx0 hw0 hw00
      go_wp2_with fail
      refine bodyPost_ret (v := .tuple #[.agg #[.bool p5, .slice ad5 n5 e5, .bool p6, .slice ad6 n6 e6], .agg #[.bool p7, .slice ad7 n7 e7, .bool p8, .slice ad8 n8 e8]]) (by simp [results, Tryz.results18, go_sem, r0, r1, r2, r3, s0, s1, s2, s3]) rfl ⟨_, _, rfl, (by with_reducible exact g1'.out _ _ _ _ _ _ _ _), (by with_reducible exact g2'.out _ _ _ _ _ _ _ _), (by with_reducible exact g3'.out _ _ _ _ _ _ _ _)⟩

end
end Go.Proofs.YtghgcbedajaldaaGreat
