/-  RGc  -/
import Derived.Deep.CutRange
import Derived.Test.YtghgcbedajaldaaGreatMpap
/- Gcd, in the reference. -/
namespace Go.Proofs.YtghgcbedajaldaaGreat
section
open Go.RowKit Digs
theorem below_of {B : Nat} {X W w' : World} (h : Below W.heap.size W w') (hX : Below B X W) (hB : B ≤ X.heap.size) : Below B X w' := hX.trans (h.mono (Nat.le_trans hB hX.size))
def Zb (p : Nat) (W : World) : Prop := W.cell? ⟨p, 0, none⟩ = some (.bool false) ∧ W.cell? ⟨p, 1, none⟩ = some (.slice none 0 0) ∧ W.frozen? ⟨p, 0, none⟩ = false ∧ W.frozen? ⟨p, 1, none⟩ = false
theorem Zb.keep {p : Nat} {W w' : World} (h : Zb p W) (hb : Below W.heap.size W w') : Zb p w' := by
 have hp : p < W.heap.size := World.block_lt_of_cell? W _ h.1
 exact ⟨(hb.cell (p := ⟨p, 0, none⟩) hp).trans h.1, (hb.cell (p := ⟨p, 1, none⟩) hp).trans h.2.1, (hb.frozen (p := ⟨p, 0, none⟩) hp).trans h.2.2.1, (hb.frozen (p := ⟨p, 1, none⟩) hp).trans h.2.2.2⟩
theorem Zb.lt {p : Nat} {W : World} (h : Zb p W) : p < W.heap.size := World.block_lt_of_cell? W _ h.1
theorem zone {X w' : World} {t : TypeId} (h : Below (X.alloc (.cells #[.bool false, .slice none 0 0] t)).heap.size (X.alloc (.cells #[.bool false, .slice none 0 0] t)) w') : Zb X.heap.size w' := by
 obtain ⟨a, b, c, d, _⟩ := box2 h
 exact ⟨a, b, c, d⟩
theorem zoneD {X w' : World} {t : TypeId} (h : Below (X.alloc (.cells #[.bool false, .slice none 0 0] t)).drew.heap.size (X.alloc (.cells #[.bool false, .slice none 0 0] t)).drew w') : Zb X.heap.size w' := zone ((Below.refl _ _).drew.trans h)
theorem ztwo {X w' : World} {t : TypeId} (h : Below ((X.alloc (.cells #[.bool false, .slice none 0 0] t)).alloc (.cells #[.bool false, .slice none 0 0] t)).heap.size ((X.alloc (.cells #[.bool false, .slice none 0 0] t)).alloc (.cells #[.bool false, .slice none 0 0] t)) w') : Zb X.heap.size w' ∧ Zb (X.heap.size + 1) w' := by
 have h1 := zone h
 rw [World.size_alloc] at h1
 exact ⟨zone (((Below.refl _ _).alloc (Nat.le_refl _) _).trans (h.mono (by simp))), h1⟩
theorem ztwoD {X w' : World} {t : TypeId} (h : Below ((X.alloc (.cells #[.bool false, .slice none 0 0] t)).alloc (.cells #[.bool false, .slice none 0 0] t)).drew.heap.size ((X.alloc (.cells #[.bool false, .slice none 0 0] t)).alloc (.cells #[.bool false, .slice none 0 0] t)).drew w') : Zb X.heap.size w' ∧ Zb (X.heap.size + 1) w' :=
 ztwo ((Below.refl _ _).drew.trans h)
def numV16 (w : World) (v : Value) : Nat := match v with
 | .slice (some a) n _ => vl 65536 ((List.range n).map fun j => match w.cell? ⟨a.block, a.off + j, none⟩ with | some (.int _ x) => x.toNat | _ => 0)
 | _ => 0
theorem numV16_eq {w : World} {v : Value} {m : Nat} (h : Rd .i64 w v (digs 65536 m)) : numV16 w v = m := by
 rcases h with ⟨rfl, h0⟩ | ⟨b, off, cap, rfl, _, _, _, h4⟩
 ·show 0 = m
  exact ((digs_length_zero (b := 65536) (by decide) m).1 (by rw [h0]; rfl)).symm
 ·show vl 65536 _ = m
  have e : ((List.range (digs 65536 m).length).map fun j => match w.cell? ⟨b, off + j, none⟩ with | some (.int _ x) => x.toNat | _ => 0) = digs 65536 m := by
   apply List.ext_getElem
   ·simp
   ·intro i h1 h2
    simp only [List.getElem_map, List.getElem_range]
    rw [h4 i h2, List.getElem?_eq_getElem h2]
    simp
  rw [e, vl_digs (by decide)]
def numX (w : World) (p : Nat) : Nat := match w.cell? ⟨p, 1, none⟩ with | some v => numV16 w v | none => 0
theorem numX_eq {p : Nat} {u v : Value} {m : Nat} {w : World} (h : RX p u v (m : Int) w) : numX w p = m := by
 unfold numX
 rw [h.c1]
 obtain ⟨ad, n, c, e, hr⟩ := h.rv
 rw [Int.natAbs_natCast] at hr
 have : v = .slice ad n c := by cases e; rfl
 subst this
 exact numV16_eq hr
def RGcRel (X : World) (p5 p6 A B L : Nat) (wr : World) : Prop :=
 ∃ (a b : Nat) (b5 b6 : Bool) (d5 d6 : Option Addr) (n5 e5 n6 e6 : Nat), RX p5 (.bool b5) (.slice d5 n5 e5) (a : Int) wr ∧ RX p6 (.bool b6) (.slice d6 n6 e6) (b : Int) wr ∧ Nat.gcd a b = Nat.gcd A B ∧ rlen (a : Int) ≤ L ∧ rlen (b : Int) ≤ L ∧ Below X.heap.size X wr
section
variable {W : World} {t : TypeId} {b5 b6 : Bool} {d5 d6 : Option Addr} {n5 e5 n6 e6 : Nat} {x y : Int}
theorem RX.drew' {p : Nat} {u v : Value} {z : Int} (h : RX p u v z W) : RX p u v z W.drew := h.keep (Below.refl _ _).drew
theorem Zb.rx {p : Nat} (h : Zb p W) : RX p (.bool false) (.slice none 0 0) 0 W := ⟨h.1, h.2.1, h.2.2.1, h.2.2.2, RefV.zero0 _⟩
theorem fin1 (h5 : RefV W (.agg #[.bool b5, .slice d5 n5 e5]) x) (h6 : RefV W (.agg #[.bool b6, .slice d6 n6 e6]) y) :
  W.heap.size ≠ W.heap.size + 1 ∧ RX W.heap.size (.bool b5) (.slice d5 n5 e5) x ((W.alloc (.cells #[.bool b5, .slice d5 n5 e5] t)).alloc (.cells #[.bool b6, .slice d6 n6 e6] t)) ∧ RX (W.heap.size + 1) (.bool b6) (.slice d6 n6 e6) y ((W.alloc (.cells #[.bool b5, .slice d5 n5 e5] t)).alloc (.cells #[.bool b6, .slice d6 n6 e6] t)) := by
 refine ⟨by omega, (RX.made h5).keep ((Below.refl _ _).alloc (Nat.le_refl _) _), ?_⟩
 have h := RX.made (t := t) (h6.keep ((Below.refl W.heap.size W).alloc (Nat.le_refl _) (.cells #[.bool b5, .slice d5 n5 e5] t)))
 rw [World.size_alloc] at h
 exact h
theorem fin3 {p : Nat} (z : Zb p W) (h5 : RefV W (.agg #[.bool b5, .slice d5 n5 e5]) x) (h6 : RefV W (.agg #[.bool b6, .slice d6 n6 e6]) y) :
  p ≠ W.heap.size ∧ RX p (.bool b5) (.slice d5 n5 e5) x (((W.setCell ⟨p, 0, none⟩ (.bool b5)).setCell ⟨p, 1, none⟩ (.slice d5 n5 e5)).alloc (.cells #[.bool b6, .slice d6 n6 e6] t)) ∧ RX W.heap.size (.bool b6) (.slice d6 n6 e6) y (((W.setCell ⟨p, 0, none⟩ (.bool b5)).setCell ⟨p, 1, none⟩ (.slice d5 n5 e5)).alloc (.cells #[.bool b6, .slice d6 n6 e6] t)) := by
 have hp := z.lt
 refine ⟨by omega, (RX.mine z.rx h5).keep ((Below.refl _ _).alloc (Nat.le_refl _) _), ?_⟩
 have h := RX.made (t := t) (h6.store z.1 z.2.1 (.bool b5) (.slice d5 n5 e5))
 rw [World.size_setCell, World.size_setCell] at h
 exact h
theorem fin5 {p q : Nat} (z : Zb p W) (z2 : Zb q W) (hne : p ≠ q) (h5 : RefV W (.agg #[.bool b5, .slice d5 n5 e5]) x) (h6 : RefV W (.agg #[.bool b6, .slice d6 n6 e6]) y) :
  p ≠ q ∧ RX p (.bool b5) (.slice d5 n5 e5) x ((((W.setCell ⟨p, 0, none⟩ (.bool b5)).setCell ⟨p, 1, none⟩ (.slice d5 n5 e5)).setCell ⟨q, 0, none⟩ (.bool b6)).setCell ⟨q, 1, none⟩ (.slice d6 n6 e6)) ∧ RX q (.bool b6) (.slice d6 n6 e6) y ((((W.setCell ⟨p, 0, none⟩ (.bool b5)).setCell ⟨p, 1, none⟩ (.slice d5 n5 e5)).setCell ⟨q, 0, none⟩ (.bool b6)).setCell ⟨q, 1, none⟩ (.slice d6 n6 e6)) := by
 have hz := z2.rx.other z.1 z.2.1 (Ne.symm hne) (.bool b5) (.slice d5 n5 e5)
 exact ⟨hne, (RX.mine z.rx h5).other hz.c0 hz.c1 hne _ _, RX.mine hz (h6.store z.1 z.2.1 _ _)⟩
end
set_option maxHeartbeats 4000000 in
set_option maxRecDepth 100000 in
theorem rgcd_core (bx by' : Bool) (adx ady : Option Addr) (nx cx ny cy : Nat) (x y : Int) (w : World) (hx : rlen x ≤ 50000) (hy : rlen y ≤ 50000) (ha : RefV w (.agg #[.bool bx, .slice adx nx cx]) x) (hb : RefV w (.agg #[.bool by', .slice ady ny cy]) y) :
  Calls Tryz.prog 80 #[.agg #[.bool bx, .slice adx nx cx], .agg #[.bool by', .slice ady ny cy]] w (RefPost w (Int.gcd x y : Nat)) := by
 have HA1 := Lib.hid fun W hW => Lib.hid (rAbs_any x _ W (ha.keep (w' := W) hW))
 have HA2 := Lib.hid fun W hW => Lib.hid (rAbs_any y _ W (hb.keep (w' := W) hW))
 clear ha hb
 go_enter Tryz.func80, Tryz.ntmps80
 go_wp2_with fail
 have HX0 := Lib.hid (below3 w (.cells #[.bool bx, .slice adx nx cx] 34) (.cells #[.bool by', .slice ady ny cy] 34) (.cells #[.bool false, .slice none 0 0] 34))
 obtain ⟨x0, x1, y0, y1, r0, r1, _, rf0, rf1, hszX⟩ := box3 (w := w) (Below.refl _ (((w.alloc (.cells #[.bool bx, .slice adx nx cx] 34)).alloc (.cells #[.bool by', .slice ady ny cy] 34)).alloc (.cells #[.bool false, .slice none 0 0] 34)))
 generalize (((w.alloc (.cells #[.bool bx, .slice adx nx cx] 34)).alloc (.cells #[.bool by', .slice ady ny cy] 34)).alloc (.cells #[.bool false, .slice none 0 0] 34)) = X at *
 have HKC : Hid (∀ W, Below X.heap.size X W → (W.cell? ⟨w.heap.size, 0, none⟩ = some (.bool bx) ∧ W.cell? ⟨w.heap.size, 1, none⟩ = some (.slice adx nx cx)) ∧ (W.cell? ⟨w.heap.size + 1, 0, none⟩ = some (.bool by') ∧ W.cell? ⟨w.heap.size + 1, 1, none⟩ = some (.slice ady ny cy))) := Lib.hid fun W hW =>
  ⟨⟨(hW.cell (p := ⟨w.heap.size, 0, none⟩) (by show w.heap.size < _; omega)).trans x0, (hW.cell (p := ⟨w.heap.size, 1, none⟩) (by show w.heap.size < _; omega)).trans x1⟩, ⟨(hW.cell (p := ⟨w.heap.size + 1, 0, none⟩) (by show w.heap.size + 1 < _; omega)).trans y0, (hW.cell (p := ⟨w.heap.size + 1, 1, none⟩) (by show w.heap.size + 1 < _; omega)).trans y1⟩⟩
 go_cut [5, 6] from 10 to 13 (fun s5 s6 wx => ∃ (p5 p6 : Nat) (b5 b6 : Bool) (d5 d6 : Option Addr) (n5 e5 n6 e6 : Nat), s5 = .pointer (some ⟨p5, 0, none⟩) ∧ s6 = .pointer (some ⟨p6, 0, none⟩) ∧ p5 ≠ p6 ∧ X.heap.size ≤ p5 ∧ X.heap.size ≤ p6 ∧
  RX p5 (.bool b5) (.slice d5 n5 e5) (x.natAbs : Int) wx ∧ RX p6 (.bool b6) (.slice d6 n6 e6) (y.natAbs : Int) wx ∧ Below X.heap.size X wx)
 case first =>
  go_region_held3 (fun w' => (w'.cell? ⟨w.heap.size, 0, none⟩ = some (.bool bx) ∧ w'.cell? ⟨w.heap.size, 1, none⟩ = some (.slice adx nx cx)) ∧ (w'.cell? ⟨w.heap.size + 1, 0, none⟩ = some (.bool by') ∧ w'.cell? ⟨w.heap.size + 1, 1, none⟩ = some (.slice ady ny cy)))
   (first | (refine HKC.out _ ?_; (repeat (first | exact hbB | exact hbA | exact Below.refl _ _ | (with_reducible refine Below.drew ?_) | (with_reducible refine Below.setCell ?_ (by first | omega | (simp <;> omega)) _) | (with_reducible refine Below.alloc ?_ (by first | omega | (simp <;> omega)) _))); done) | go_keep)
   (first
    | (go_at_call_of 29 (Value.agg #[.bool bx, .slice adx nx cx]); (refine Calls.mono (HA1.out _ (by refine HX0.out.trans (Below.mono ?_ HX0.out.size); (repeat (first | exact hbB | exact hbA | exact Below.refl _ _ | (with_reducible refine Below.drew ?_) | (with_reducible refine Below.setCell ?_ (by first | omega | (simp <;> omega)) _) | (with_reducible refine Below.alloc ?_ (by first | omega | (simp <;> omega)) _))))).out ?_); rintro e wA ⟨vA, rfl, ⟨dA, nA, eA, rfl, hrA⟩, hbA'⟩; have hbA : Below X.heap.size X wA := (by refine below_of hbA' ?_ (Nat.le_refl _); (repeat (first | exact hbB | exact hbA | exact Below.refl _ _ | (with_reducible refine Below.drew ?_) | (with_reducible refine Below.setCell ?_ (by first | omega | (simp <;> omega)) _) | (with_reducible refine Below.alloc ?_ (by first | omega | (simp <;> omega)) _)))); have hsA := hbA.size; (first | (have hz2 := ztwoD hbA'; obtain ⟨⟨za0, za1, za2, za3⟩, ⟨zb0, zb1, zb2, zb3⟩⟩ := hz2) | (have hz1 := zoneD hbA'; obtain ⟨za0, za1, za2, za3⟩ := hz1; have zal := Zb.lt ⟨za0, za1, za2, za3⟩; have hq1 : X.heap.size ≠ wA.heap.size := Nat.ne_of_lt zal; have hq2 : wA.heap.size ≠ X.heap.size := fun h => hq1 h.symm) | skip))
    | (go_at_call_of 29 (Value.agg #[.bool by', .slice ady ny cy]); (refine Calls.mono (HA2.out _ (by refine HX0.out.trans (Below.mono ?_ HX0.out.size); (repeat (first | exact hbB | exact hbA | exact Below.refl _ _ | (with_reducible refine Below.drew ?_) | (with_reducible refine Below.setCell ?_ (by first | omega | (simp <;> omega)) _) | (with_reducible refine Below.alloc ?_ (by first | omega | (simp <;> omega)) _))))).out ?_); rintro e wB ⟨vB, rfl, ⟨dB, nB, eB, rfl, hrB⟩, hbB'⟩; have hbB : Below X.heap.size X wB := (by refine below_of hbB' ?_ (Nat.le_refl _); (repeat (first | exact hbB | exact hbA | exact Below.refl _ _ | (with_reducible refine Below.drew ?_) | (with_reducible refine Below.setCell ?_ (by first | omega | (simp <;> omega)) _) | (with_reducible refine Below.alloc ?_ (by first | omega | (simp <;> omega)) _)))); have hsB := hbB.size; have hAB : Below wA.heap.size wA wB := (by refine below_of hbB' ?_ (Nat.le_refl _); (repeat (first | exact Below.refl _ _ | (with_reducible refine Below.alloc ?_ (by first | omega | (simp <;> omega)) _)))); (first | (have hz3 := Zb.keep ⟨za0, za1, za2, za3⟩ hAB; obtain ⟨ya0, ya1, ya2, ya3⟩ := hz3; have yal := Zb.lt ⟨ya0, ya1, ya2, ya3⟩) | skip); (first | (have hz4 := Zb.keep ⟨zb0, zb1, zb2, zb3⟩ hAB; obtain ⟨yb0, yb1, yb2, yb3⟩ := hz4; have ybl := Zb.lt ⟨yb0, yb1, yb2, yb3⟩) | skip); (first | (have hz5 := ztwo hbB'; obtain ⟨⟨yc0, yc1, yc2, yc3⟩, ⟨yd0, yd1, yd2, yd3⟩⟩ := hz5; have ycl := Zb.lt ⟨yc0, yc1, yc2, yc3⟩; have ydl := Zb.lt ⟨yd0, yd1, yd2, yd3⟩) | (have hz6 := zone hbB'; obtain ⟨yc0, yc1, yc2, yc3⟩ := hz6; have ycl := Zb.lt ⟨yc0, yc1, yc2, yc3⟩) | skip)))
  all_goals
   go_wp2_with fail
   have IA : RefV wB (.agg #[.bool (decide (((x.natAbs : Nat) : Int) < 0)), .slice dA nA eA]) (x.natAbs : Int) := RefV.keep ⟨_, _, _, rfl, hrA⟩ hAB
   have IB : RefV wB (.agg #[.bool (decide (((y.natAbs : Nat) : Int) < 0)), .slice dB nB eB]) (y.natAbs : Int) := ⟨_, _, _, rfl, hrB⟩
   go_meet
   first
    | (have f := fin1 (t := 34) IA IB; exact ⟨_, _, _, _, _, _, _, _, _, _, rfl, rfl, f.1, (by omega), (by omega), f.2.1, f.2.2, (by (repeat (first | exact hbB | exact hbA | exact Below.refl _ _ | (with_reducible refine Below.drew ?_) | (with_reducible refine Below.setCell ?_ (by first | omega | (simp <;> omega)) _) | (with_reducible refine Below.alloc ?_ (by first | omega | (simp <;> omega)) _))))⟩)
    | (have f := fin1 (t := 34) IB IA; exact ⟨_, _, _, _, _, _, _, _, _, _, rfl, rfl, f.1.symm, (by omega), (by omega), f.2.2, f.2.1, (by (repeat (first | exact hbB | exact hbA | exact Below.refl _ _ | (with_reducible refine Below.drew ?_) | (with_reducible refine Below.setCell ?_ (by first | omega | (simp <;> omega)) _) | (with_reducible refine Below.alloc ?_ (by first | omega | (simp <;> omega)) _))))⟩)
    | (have f := fin3 (t := 34) (p := X.heap.size) ⟨ya0, ya1, ya2, ya3⟩ IA IB; exact ⟨_, _, _, _, _, _, _, _, _, _, rfl, rfl, f.1, (by omega), (by omega), f.2.1, f.2.2, (by (repeat (first | exact hbB | exact hbA | exact Below.refl _ _ | (with_reducible refine Below.drew ?_) | (with_reducible refine Below.setCell ?_ (by first | omega | (simp <;> omega)) _) | (with_reducible refine Below.alloc ?_ (by first | omega | (simp <;> omega)) _))))⟩)
    | (have f := fin3 (t := 34) (p := X.heap.size) ⟨ya0, ya1, ya2, ya3⟩ IB IA; exact ⟨_, _, _, _, _, _, _, _, _, _, rfl, rfl, f.1.symm, (by omega), (by omega), f.2.2, f.2.1, (by (repeat (first | exact hbB | exact hbA | exact Below.refl _ _ | (with_reducible refine Below.drew ?_) | (with_reducible refine Below.setCell ?_ (by first | omega | (simp <;> omega)) _) | (with_reducible refine Below.alloc ?_ (by first | omega | (simp <;> omega)) _))))⟩)
    | (have f := fin3 (t := 34) (p := wA.heap.size) ⟨yc0, yc1, yc2, yc3⟩ IA IB; exact ⟨_, _, _, _, _, _, _, _, _, _, rfl, rfl, f.1, (by omega), (by omega), f.2.1, f.2.2, (by (repeat (first | exact hbB | exact hbA | exact Below.refl _ _ | (with_reducible refine Below.drew ?_) | (with_reducible refine Below.setCell ?_ (by first | omega | (simp <;> omega)) _) | (with_reducible refine Below.alloc ?_ (by first | omega | (simp <;> omega)) _))))⟩)
    | (have f := fin3 (t := 34) (p := wA.heap.size) ⟨yc0, yc1, yc2, yc3⟩ IB IA; exact ⟨_, _, _, _, _, _, _, _, _, _, rfl, rfl, f.1.symm, (by omega), (by omega), f.2.2, f.2.1, (by (repeat (first | exact hbB | exact hbA | exact Below.refl _ _ | (with_reducible refine Below.drew ?_) | (with_reducible refine Below.setCell ?_ (by first | omega | (simp <;> omega)) _) | (with_reducible refine Below.alloc ?_ (by first | omega | (simp <;> omega)) _))))⟩)
    | (have f := fin5 (p := X.heap.size) (q := X.heap.size + 1) ⟨ya0, ya1, ya2, ya3⟩ ⟨yb0, yb1, yb2, yb3⟩ (by omega) IA IB; exact ⟨_, _, _, _, _, _, _, _, _, _, rfl, rfl, f.1, (by omega), (by omega), f.2.1, f.2.2, (by (repeat (first | exact hbB | exact hbA | exact Below.refl _ _ | (with_reducible refine Below.drew ?_) | (with_reducible refine Below.setCell ?_ (by first | omega | (simp <;> omega)) _) | (with_reducible refine Below.alloc ?_ (by first | omega | (simp <;> omega)) _))))⟩)
    | (have f := fin5 (p := X.heap.size + 1) (q := X.heap.size) ⟨yb0, yb1, yb2, yb3⟩ ⟨ya0, ya1, ya2, ya3⟩ (by omega) IA IB; exact ⟨_, _, _, _, _, _, _, _, _, _, rfl, rfl, f.1, (by omega), (by omega), f.2.1, f.2.2, (by (repeat (first | exact hbB | exact hbA | exact Below.refl _ _ | (with_reducible refine Below.drew ?_) | (with_reducible refine Below.setCell ?_ (by first | omega | (simp <;> omega)) _) | (with_reducible refine Below.alloc ?_ (by first | omega | (simp <;> omega)) _))))⟩)
    | (have f := fin5 (p := wA.heap.size) (q := wA.heap.size + 1) ⟨yc0, yc1, yc2, yc3⟩ ⟨yd0, yd1, yd2, yd3⟩ (by omega) IA IB; exact ⟨_, _, _, _, _, _, _, _, _, _, rfl, rfl, f.1, (by omega), (by omega), f.2.1, f.2.2, (by (repeat (first | exact hbB | exact hbA | exact Below.refl _ _ | (with_reducible refine Below.drew ?_) | (with_reducible refine Below.setCell ?_ (by first | omega | (simp <;> omega)) _) | (with_reducible refine Below.alloc ?_ (by first | omega | (simp <;> omega)) _))))⟩)
    | (have f := fin5 (p := wA.heap.size + 1) (q := wA.heap.size) ⟨yd0, yd1, yd2, yd3⟩ ⟨yc0, yc1, yc2, yc3⟩ (by omega) IA IB; exact ⟨_, _, _, _, _, _, _, _, _, _, rfl, rfl, f.1, (by omega), (by omega), f.2.1, f.2.2, (by (repeat (first | exact hbB | exact hbA | exact Below.refl _ _ | (with_reducible refine Below.drew ?_) | (with_reducible refine Below.setCell ?_ (by first | omega | (simp <;> omega)) _) | (with_reducible refine Below.alloc ?_ (by first | omega | (simp <;> omega)) _))))⟩)
    | (have f := fin5 (p := X.heap.size) (q := wA.heap.size) ⟨ya0, ya1, ya2, ya3⟩ ⟨yc0, yc1, yc2, yc3⟩ (by omega) IA IB; exact ⟨_, _, _, _, _, _, _, _, _, _, rfl, rfl, f.1, (by omega), (by omega), f.2.1, f.2.2, (by (repeat (first | exact hbB | exact hbA | exact Below.refl _ _ | (with_reducible refine Below.drew ?_) | (with_reducible refine Below.setCell ?_ (by first | omega | (simp <;> omega)) _) | (with_reducible refine Below.alloc ?_ (by first | omega | (simp <;> omega)) _))))⟩)
    | (have f := fin5 (p := wA.heap.size) (q := X.heap.size) ⟨yc0, yc1, yc2, yc3⟩ ⟨ya0, ya1, ya2, ya3⟩ (by omega) IA IB; exact ⟨_, _, _, _, _, _, _, _, _, _, rfl, rfl, f.1, (by omega), (by omega), f.2.1, f.2.2, (by (repeat (first | exact hbB | exact hbA | exact Below.refl _ _ | (with_reducible refine Below.drew ?_) | (with_reducible refine Below.setCell ?_ (by first | omega | (simp <;> omega)) _) | (with_reducible refine Below.alloc ?_ (by first | omega | (simp <;> omega)) _))))⟩)
 case rest =>
  obtain ⟨p5, p6, b5, b6, d5, d6, n5, e5, n6, e6, rfl, rfl, hne, hl5, hl6, K5, K6, hbel⟩ := hcut
  have hR : RGcRel X p5 p6 x.natAbs y.natAbs 50000 wc := ⟨_, _, _, _, _, _, _, _, _, _, K5, K6, rfl, by unfold rlen at hx ⊢; rw [Int.natAbs_natCast]; exact hx, by unfold rlen at hy ⊢; rw [Int.natAbs_natCast]; exact hy, hbel⟩
  have HR := Lib.hid hR
  clear K5 K6 hbel hR hx hy
  go_wp2_with fail
  go_loopw [] (RGcRel X p5 p6 x.natAbs y.natAbs 50000) (fun wr => numX wr p6)
  case atStart => exact HR.out
  case round =>
   obtain ⟨a, b, b5, b6, d5, d6, n5, e5, n6, e6, K5, K6, hg, hla, hlb, hbel⟩ := hrel
   have HG := Lib.hid hg
   have HBEL := Lib.hid hbel
   have HK5 := Lib.hid K5
   have HK6 := Lib.hid K6
   have HSG := Lib.hid (rSign_any (b : Int) _ wr (by omega) K6.rv)
   have c60 := K6.c0
   have c61 := K6.c1
   clear K5 K6 hg hbel
   by_cases hb0 : b = 0
   ·have hs : sgnZ (b : Int) = 0 := by rw [hb0]; rfl
    rw [hs] at HSG
    have HB0 := Lib.hid hb0
    clear hs hb0
    go_wp2_with fail
    (with_reducible refine HSG.out.mono ?_)
    rintro e w2 ⟨rfl, hb2⟩
    have k5 := HK5.out.keep hb2
    have HX2 := Lib.hid (HBEL.out.trans (hb2.mono HBEL.out.size))
    have c50 := k5.c0
    have c51 := k5.c1
    have g0 := (HX2.out.cell (p := ⟨w.heap.size + 2, 0, none⟩) hszX).trans r0
    have g1 := (HX2.out.cell (p := ⟨w.heap.size + 2, 1, none⟩) hszX).trans r1
    have f0 := (HX2.out.frozen (p := ⟨w.heap.size + 2, 0, none⟩) hszX).trans rf0
    have f1 := (HX2.out.frozen (p := ⟨w.heap.size + 2, 1, none⟩) hszX).trans rf1
    have HK := Lib.hid k5
    clear c60 c61 hb2 k5
    go_wp2
    have hga : (a : Int) = ((Int.gcd x y : Nat) : Int) := by
     have h1 := HG.out
     rw [HB0.out, Nat.gcd_zero_right] at h1
     rw [h1]; rfl
    refine bodyPost_ret (v := .agg #[.bool b5, .slice d5 n5 e5]) (by simp [results, Tryz.results80, go_sem, g0, g1]) rfl ⟨_, rfl, ?_, (((HX0.out.trans (HX2.out.mono HX0.out.size)).setCell (by simp; omega) _).setCell (by simp; omega) _)⟩
    rw [← hga]
    exact HK.out.rv.store g0 g1 _ _
   ·have hs : (sgnZ (b : Int) != 0) = true := by unfold sgnZ; split <;> (try split) <;> first | rfl | (exfalso; omega)
    have HDV := Lib.hid fun W hW => rDivide_any (a : Int) (b : Int) _ _ W hla hlb (by omega) (HK5.out.keep (w' := W) hW).rv (HK6.out.keep hW).rv
    unfold RDivOK at HDV
    have HB0 := Lib.hid hb0
    have HLB := Lib.hid hlb
    have hmodb : rlen ((a % b : Nat) : Int) ≤ 50000 := by
     have h1 := HLB.out
     unfold rlen at h1 ⊢
     rw [Int.natAbs_natCast] at h1 ⊢
     exact Nat.le_trans (digs_length_mono (by decide) (Nat.le_of_lt (Nat.mod_lt _ (by omega)))) h1
    have hmd : ((a : Int).tmod (b : Int)) = ((a % b : Nat) : Int) := rfl
    rw [hmd] at HDV
    have HMB := Lib.hid hmodb
    have c50 := HK5.out.c0
    have c51 := HK5.out.c1
    clear hb0 hla hlb hmodb hmd
    generalize sgnZ (b : Int) = sg at *
    go_wp2_with fail
    (with_reducible refine HSG.out.mono ?_)
    rintro e w2 ⟨rfl, hb2⟩
    have k5 := HK5.out.keep hb2
    have k6 := HK6.out.keep hb2
    have HX2 := Lib.hid (HBEL.out.trans (hb2.mono HBEL.out.size))
    have HB2 := Lib.hid hb2
    have HK52 := Lib.hid k5
    have HK62 := Lib.hid k6
    have c502 := k5.c0
    have c512 := k5.c1
    have c602 := k6.c0
    have c612 := k6.c1
    clear c60 c61 c50 c51 hb2 k5 k6
    go_wp2_with fail
    refine (HDV.out _ HB2.out).mono ?_
    rintro e w3 ⟨vq, vr, rfl, ⟨dq, nq, eq, rfl, hrq⟩, ⟨dr, nr, er, rfl, hrr⟩, hb3⟩
    have H3 := Lib.hid hb3
    have HQ : Hid (RefV w3 (.agg #[.bool (decide ((a : Int).tdiv (b : Int) < 0)), .slice dq nq eq]) ((a : Int).tdiv (b : Int))) := Lib.hid ⟨_, _, _, rfl, hrq⟩
    have HRR : Hid (RefV w3 (.agg #[.bool (decide (((a % b : Nat) : Int) < 0)), .slice dr nr er]) ((a % b : Nat) : Int)) := Lib.hid ⟨_, _, _, rfl, hrr⟩
    clear hb3 hrq hrr c502 c512 c602 c612
    generalize decide ((a : Int).tdiv (b : Int) < 0) = bq at *
    generalize decide (((a % b : Nat) : Int) < 0) = br at *
    have hal := below2 w3 (.cells #[.bool bq, .slice dq nq eq] 34) (.cells #[.bool br, .slice dr nr er] 34)
    have k8 : RX (w3.heap.size + 1) (.bool br) (.slice dr nr er) ((a % b : Nat) : Int) ((w3.alloc (.cells #[.bool bq, .slice dq nq eq] 34)).alloc (.cells #[.bool br, .slice dr nr er] 34)) := (fin1 HQ.out HRR.out).2.2
    have k5 := (HK52.out.keep H3.out).keep hal
    have k6 := (HK62.out.keep H3.out).keep hal
    have h5l := (HK52.out.keep H3.out).lt
    have h6l := (HK62.out.keep H3.out).lt
    have HX4 := Lib.hid (HX2.out.trans ((H3.out.trans (hal.mono H3.out.size)).mono HX2.out.size))
    go_wp2_with fail
    generalize hY : ((w3.alloc (.cells #[.bool bq, .slice dq nq eq] 34)).alloc (.cells #[.bool br, .slice dr nr er] 34)) = Y at *
    clear hY hal
    have K5 := Lib.hid k5
    have K6 := Lib.hid k6
    have K8 := Lib.hid k8
    have g50 := k5.c0
    have g51 := k5.c1
    have g60 := k6.c0
    have g61 := k6.c1
    have g80 := k8.c0
    have g81 := k8.c1
    have f50 := k5.f0
    have f51 := k5.f1
    have f60 := k6.f0
    have f61 := k6.f1
    have q1 : p6 ≠ p5 := fun h => hne h.symm
    have q2 : p5 ≠ w3.heap.size + 1 := by omega
    have q3 : p6 ≠ w3.heap.size + 1 := by omega
    have q4 : w3.heap.size + 1 ≠ p5 := by omega
    have q5 : w3.heap.size + 1 ≠ p6 := by omega
    clear k5 k6 k8
    go_region
    all_goals
     go_wp2
     go_roundw
     case rel =>
      have hz := K6.out.other K5.out.c0 K5.out.c1 q1 (.bool b6) (.slice d6 n6 e6)
      refine ⟨b, a % b, b6, br, d6, dr, n6, e6, nr, er, ((RX.mine K5.out K6.out.rv).other hz.c0 hz.c1 hne _ _).drew', (RX.mine hz (K8.out.rv.store K5.out.c0 K5.out.c1 _ _)).drew', ?_, HLB.out, HMB.out, ((((HX4.out.setCell hl5 _).setCell hl5 _).setCell hl6 _).setCell hl6 _).drew⟩
      rw [← HG.out, Nat.gcd_comm b (a % b), ← Nat.gcd_rec, Nat.gcd_comm]
     case measure =>
      have hz := K6.out.other K5.out.c0 K5.out.c1 q1 (.bool b6) (.slice d6 n6 e6)
      rw [numX_eq (RX.mine hz (K8.out.rv.store K5.out.c0 K5.out.c1 _ _)).drew', numX_eq HK6.out]
      exact Nat.mod_lt _ (by have := HB0.out; omega)
theorem rGcd_any (x y : Int) (vx vy : Value) (w : World) (hx : rlen x ≤ 50000) (hy : rlen y ≤ 50000) (ha : RefV w vx x) (hb : RefV w vy y) :
  Calls Tryz.prog 80 #[vx, vy] w (RefPost w (Int.gcd x y : Nat)) := by
 have ha' := ha
 have hb' := hb
 obtain ⟨adx, nx, cx, rfl, _⟩ := ha
 obtain ⟨ady, ny, cy, rfl, _⟩ := hb
 exact rgcd_core _ _ adx ady nx cx ny cy x y w hx hy ha' hb'
end
end Go.Proofs.YtghgcbedajaldaaGreat
