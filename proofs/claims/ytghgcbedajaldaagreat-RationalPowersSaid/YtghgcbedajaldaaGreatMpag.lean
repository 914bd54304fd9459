/-  Qm Q1  -/
import Derived.Test.YtghgcbedajaldaaGreatMpaa
import Derived.Deep.RegionHeld3
import Derived.Deep.CutRange
import Derived.Test.YtghgcbedajaldaaGreatMpaf
/-  Fractions in lowest terms: no run of the model.  -/
namespace Go.Proofs.YtghgcbedajaldaaGreat
def cop (a b : Int) : Prop := Int.gcd a b = 1
theorem cop_comm {a b : Int} (h : cop a b) : cop b a := by unfold cop at *; rw [Int.gcd_comm]; exact h
theorem cop_mul {a b c : Int} (h1 : cop a b) (h2 : cop a c) : cop a (b * c) := by
 unfold cop at *
 rw [Int.gcd_mul_right_right_of_gcd_eq_one h1]; exact h2
theorem cop_dvd {a b c : Int} (h : cop a b) (hc : c ∣ b) : cop a c := by
 unfold cop at *
 rw [Int.gcd_eq_one_iff] at *
 intro k h1 h2
 exact h k h1 (Int.dvd_trans h2 hc)
theorem cop_of_dvd_mul {a b c : Int} (h : cop a b) (hd : a ∣ b * c) : a ∣ c := by
 unfold cop at h
 have h1 : Int.gcd a (b * c) = Int.gcd a c := Int.gcd_mul_right_right_of_gcd_eq_one h
 have h2 : ((Int.gcd a (b * c) : Nat) : Int) ∣ c := by rw [h1]; exact Int.gcd_dvd_right ..
 exact Int.dvd_trans (Int.dvd_coe_gcd (Int.dvd_refl a) hd) h2
def Low (n d : Int) : Prop := 0 < d ∧ cop n d
def qn (a b : Int) : Int := (if b < 0 then -a else a).tdiv (Int.gcd a b)
def qd (a b : Int) : Int := (if b < 0 then -b else b).tdiv (Int.gcd a b)
theorem gcd_split (a b : Int) (h : b ≠ 0) : ∃ g x y : Int, ((Int.gcd a b : Nat) : Int) = g ∧ 0 < g ∧ a = g * x ∧ b = g * y ∧ cop x y := by
 obtain ⟨x, hx⟩ := Int.gcd_dvd_left a b
 obtain ⟨y, hy⟩ := Int.gcd_dvd_right a b
 have hg : ((Int.gcd a b : Nat) : Int) ≠ 0 := by
  intro h0
  exact h (Int.gcd_eq_zero_iff.1 (by omega : Int.gcd a b = 0)).2
 refine ⟨_, x, y, rfl, by omega, hx, hy, ?_⟩
 unfold cop
 have h1 : Int.gcd (((Int.gcd a b : Nat) : Int) * x) (((Int.gcd a b : Nat) : Int) * y) = Int.gcd a b := by rw [← hx, ← hy]
 rw [Int.gcd_mul_left, Int.natAbs_natCast] at h1
 have h3 : 0 < Int.gcd a b := by omega
 exact Nat.eq_of_mul_eq_mul_left h3 (by rw [h1, Nat.mul_one])
theorem tdiv_cancel {g x : Int} (hg : 0 < g) : (g * x).tdiv g = x := Int.mul_tdiv_cancel_left x (by omega)
theorem low_uniq {n d n' d' : Int} (h : Low n d) (h' : Low n' d') (he : n * d' = n' * d) : n = n' ∧ d = d' := by
 have h1 : d ∣ d' := cop_of_dvd_mul (b := n) (cop_comm h.2) ⟨n', by rw [he, Int.mul_comm]⟩
 have h2 : d' ∣ d := cop_of_dvd_mul (b := n') (cop_comm h'.2) ⟨n, by rw [← he, Int.mul_comm]⟩
 have h3 : d = d' := Int.dvd_antisymm (by have := h.1; omega) (by have := h'.1; omega) h1 h2
 subst h3
 exact ⟨Int.eq_of_mul_eq_mul_right (by have := h.1; omega) he, rfl⟩
theorem q_low (a b : Int) (hb : b ≠ 0) : Low (qn a b) (qd a b) ∧ qn a b * b = a * qd a b := by
 obtain ⟨g, x, y, hg, h0, rfl, rfl, hc⟩ := gcd_split a b hb
 have hy : y ≠ 0 := by rintro rfl; simp at hb
 unfold qn qd
 rw [hg]
 by_cases hn : g * y < 0
 ·have hy0 : y < 0 := by
   rcases Int.lt_or_gt_of_ne hy with h | h
   ·exact h
   ·have := Int.mul_pos h0 h; omega
  rw [if_pos hn, if_pos hn, ← Int.mul_neg, ← Int.mul_neg, tdiv_cancel h0, tdiv_cancel h0]
  refine ⟨⟨by omega, ?_⟩, by grind⟩
  unfold cop at *
  rw [Int.gcd_neg, Int.neg_gcd]; exact hc
 ·have hy0 : 0 < y := by
   rcases Int.lt_or_gt_of_ne hy with h | h
   ·have := Int.mul_neg_of_pos_of_neg h0 h; omega
   ·exact h
  rw [if_neg hn, if_neg hn, tdiv_cancel h0, tdiv_cancel h0]
  exact ⟨⟨by omega, hc⟩, by grind⟩
theorem q_uniq {n d a b : Int} (h : Low n d) (hb : b ≠ 0) (hx : n * b = a * d) : qn a b = n ∧ qd a b = d := by
 obtain ⟨h1, h2⟩ := q_low a b hb
 have h3 : qn a b * d = n * qd a b := by
  have : (qn a b * d) * b = (n * qd a b) * b := by grind
  exact Int.eq_of_mul_eq_mul_right hb this
 exact low_uniq h1 h h3
theorem mul_low {n1 d1 n2 d2 : Int} (h1 : Low n1 d1) (h2 : Low n2 d2) :
  ∀ f s : Int, ((Int.gcd n1 d2 : Nat) : Int) = f → ((Int.gcd n2 d1 : Nat) : Int) = s →
   qn (n1 * n2) (d1 * d2) = n1.tdiv f * n2.tdiv s ∧ qd (n1 * n2) (d1 * d2) = d1.tdiv s * d2.tdiv f := by
 intro f s hf hs
 have hd1 := h1.1
 have hd2 := h2.1
 obtain ⟨f', x, y, hf', f0, e1, e2, hxy⟩ := gcd_split n1 d2 (by omega)
 obtain ⟨s', u, v, hs', s0, e3, e4, huv⟩ := gcd_split n2 d1 (by omega)
 rw [hf'] at hf
 rw [hs'] at hs
 subst hf hs
 have a1 : n1.tdiv f' = x := by rw [e1, tdiv_cancel f0]
 have a2 : d2.tdiv f' = y := by rw [e2, tdiv_cancel f0]
 have a3 : n2.tdiv s' = u := by rw [e3, tdiv_cancel s0]
 have a4 : d1.tdiv s' = v := by rw [e4, tdiv_cancel s0]
 rw [a1, a2, a3, a4]
 have hy0 : 0 < y := by
  rcases Int.lt_trichotomy y 0 with h | h | h
  ·have := Int.mul_neg_of_pos_of_neg f0 h; omega
  ·subst h; simp at e2; omega
  ·exact h
 have hv0 : 0 < v := by
  rcases Int.lt_trichotomy v 0 with h | h | h
  ·have := Int.mul_neg_of_pos_of_neg s0 h; omega
  ·subst h; simp at e4; omega
  ·exact h
 have hxv : cop x v := by
  have p : cop n1 v := cop_dvd h1.2 ⟨s', by rw [e4, Int.mul_comm]⟩
  exact cop_comm (cop_dvd (cop_comm p) ⟨f', by rw [e1, Int.mul_comm]⟩)
 have huy : cop u y := by
  have p : cop n2 y := cop_dvd h2.2 ⟨f', by rw [e2, Int.mul_comm]⟩
  exact cop_comm (cop_dvd (cop_comm p) ⟨s', by rw [e3, Int.mul_comm]⟩)
 refine q_uniq ⟨Int.mul_pos hv0 hy0, ?_⟩ (by have := Int.mul_pos hd1 hd2; omega) ?_
 ·exact cop_comm (cop_mul (cop_comm (cop_mul hxv hxy)) (cop_comm (cop_mul huv huy)))
 ·rw [e1, e2, e3, e4]; grind
end Go.Proofs.YtghgcbedajaldaaGreat
/-  Fractions: the program's one, Denominator, lowest.  -/
namespace Go.Proofs.YtghgcbedajaldaaGreat
section
open Go.RowKit Digs
def dz (d : Int) : Int := if d = 1 then 0 else d
def RatV (w : World) (v : Value) (n d : Int) : Prop := ∃ a b c e : Value, v = .agg #[a, b, c, e] ∧ IntV w (.agg #[a, b]) n ∧ IntV w (.agg #[c, e]) (dz d)
def RatPost (w : World) (n d : Int) (e : Ending) (w' : World) : Prop := ∃ v, e = .returned v ∧ RatV w' v n d ∧ Below w.heap.size w w'
def RatRes (w : World) (n d c : Int) (e : Ending) (w' : World) : Prop := ∃ v, e = .returned (.tuple #[v, .int .i64 c]) ∧ RatV w' v n d ∧ Below w.heap.size w w'
theorem RatV.keep {w w' : World} {v : Value} {n d : Int} (h : RatV w v n d) (hb : Below w.heap.size w w') : RatV w' v n d := by
 obtain ⟨a, b, c, e, rfl, h1, h2⟩ := h
 exact ⟨a, b, c, e, rfl, h1.keep hb, h2.keep hb⟩
theorem IntV.st {w : World} {v : Value} {z : Int} (h : IntV w v z) {a : Addr} {u : Value} (hu : w.cell? a = some u) (hne : ∀ n, u ≠ .int .u32 n) (x : Value) : IntV (w.setCell a x) v z := by
 obtain ⟨ad, n, c, rfl, hr⟩ := h
 exact ⟨_, _, _, rfl, hr.store hu hne x⟩
theorem IntV.st2 {w : World} {v : Value} {z : Int} (h : IntV w v z) {R : Nat} {a b : Value} (h0 : w.cell? ⟨R, 0, none⟩ = some a) (h1 : w.cell? ⟨R, 1, none⟩ = some b)
  (n0 : ∀ n, a ≠ .int .u32 n) (n1 : ∀ n, b ≠ .int .u32 n) (x y : Value) : IntV ((w.setCell ⟨R, 0, none⟩ x).setCell ⟨R, 1, none⟩ y) v z :=
 (h.st h0 n0 x).st (u := b) (by rw [World.cell?_setCell_other _ _ _ _ (by simp)]; exact h1) n1 y
theorem IntV.st4 {w : World} {v : Value} {z : Int} (h : IntV w v z) {R : Nat} {a b c d : Value} (h0 : w.cell? ⟨R, 0, none⟩ = some a) (h1 : w.cell? ⟨R, 1, none⟩ = some b) (h2 : w.cell? ⟨R, 2, none⟩ = some c) (h3 : w.cell? ⟨R, 3, none⟩ = some d)
    (n0 : ∀ n, a ≠ .int .u32 n) (n1 : ∀ n, b ≠ .int .u32 n) (n2 : ∀ n, c ≠ .int .u32 n) (n3 : ∀ n, d ≠ .int .u32 n) (x y s t : Value) :
    IntV ((((w.setCell ⟨R, 0, none⟩ x).setCell ⟨R, 1, none⟩ y).setCell ⟨R, 2, none⟩ s).setCell ⟨R, 3, none⟩ t) v z :=
  ((h.st2 h0 h1 n0 n1 x y).st (u := c) (by rw [World.cell?_setCell_other _ _ _ _ (by simp), World.cell?_setCell_other _ _ _ _ (by simp)]; exact h2) n2 s).st (u := d)
    (by rw [World.cell?_setCell_other _ _ _ _ (by simp), World.cell?_setCell_other _ _ _ _ (by simp), World.cell?_setCell_other _ _ _ _ (by simp)]; exact h3) n3 t
theorem IntV.parts {w : World} {a b : Value} {z : Int} (h : IntV w (.agg #[a, b]) z) : ∃ (p : Bool) (ad : Option Addr) (n c : Nat), a = .bool p ∧ b = .slice ad n c ∧ decide (z < 0) = p := by
 obtain ⟨ad, n, c, he, _⟩ := h
 injection he with he
 injection he with he
 injection he with h1 h2
 injection h2 with h2 _
 exact ⟨_, ad, n, c, h1, h2, rfl⟩
theorem IntV.nil0 (w : World) : IntV w (.agg #[.bool false, .slice none 0 0]) 0 := ⟨none, 0, 0, rfl, .inl ⟨rfl, by rw [show Int.natAbs 0 = 0 from rfl, digs_zero]⟩⟩
theorem cells4 {w w2 : World} {a b c d : Value} {t : TypeId} (h : Below (w.alloc (.cells #[a, b, c, d] t)).heap.size (w.alloc (.cells #[a, b, c, d] t)) w2) :
  w2.cell? ⟨w.heap.size, 0, none⟩ = some a ∧ w2.cell? ⟨w.heap.size, 1, none⟩ = some b ∧ w2.cell? ⟨w.heap.size, 2, none⟩ = some c ∧ w2.cell? ⟨w.heap.size, 3, none⟩ = some d ∧
   w2.frozen? ⟨w.heap.size, 0, none⟩ = false ∧ w2.frozen? ⟨w.heap.size, 1, none⟩ = false ∧ w2.frozen? ⟨w.heap.size, 2, none⟩ = false ∧ w2.frozen? ⟨w.heap.size, 3, none⟩ = false ∧ w.heap.size < w2.heap.size := by
 have hs := h.size
 simp only [World.size_alloc] at hs
 refine ⟨?_, ?_, ?_, ?_, ?_, ?_, ?_, ?_, by omega⟩
 ·rw [h.cell (p := ⟨w.heap.size, 0, none⟩) (by simp), World.cell?_alloc_at _ _ _ _ rfl]; rfl
 ·rw [h.cell (p := ⟨w.heap.size, 1, none⟩) (by simp), World.cell?_alloc_at _ _ _ _ rfl]; rfl
 ·rw [h.cell (p := ⟨w.heap.size, 2, none⟩) (by simp), World.cell?_alloc_at _ _ _ _ rfl]; rfl
 ·rw [h.cell (p := ⟨w.heap.size, 3, none⟩) (by simp), World.cell?_alloc_at _ _ _ _ rfl]; rfl
 ·rw [h.frozen (p := ⟨w.heap.size, 0, none⟩) (by simp), World.frozen?_alloc_at _ _ _ _ rfl]
 ·rw [h.frozen (p := ⟨w.heap.size, 1, none⟩) (by simp), World.frozen?_alloc_at _ _ _ _ rfl]
 ·rw [h.frozen (p := ⟨w.heap.size, 2, none⟩) (by simp), World.frozen?_alloc_at _ _ _ _ rfl]
 ·rw [h.frozen (p := ⟨w.heap.size, 3, none⟩) (by simp), World.frozen?_alloc_at _ _ _ _ rfl]
theorem cells2r4 {w w2 : World} {a b c d x y : Value} {t u : TypeId} (h : Below ((w.alloc (.cells #[a, b, c, d] t)).alloc (.cells #[x, y] u)).heap.size ((w.alloc (.cells #[a, b, c, d] t)).alloc (.cells #[x, y] u)) w2) :
  w2.cell? ⟨w.heap.size + 1, 0, none⟩ = some x ∧ w2.cell? ⟨w.heap.size + 1, 1, none⟩ = some y ∧ w2.frozen? ⟨w.heap.size + 1, 0, none⟩ = false ∧ w2.frozen? ⟨w.heap.size + 1, 1, none⟩ = false ∧ w.heap.size + 1 < w2.heap.size := by
 have h2 := box2 (w := w.alloc (.cells #[a, b, c, d] t)) h
 simp only [World.size_alloc] at h2
 exact h2
theorem cells4l {w w2 : World} {a b c d : Value} {t : TypeId} {o : Obj} (h : Below ((w.alloc (.cells #[a, b, c, d] t)).alloc o).heap.size ((w.alloc (.cells #[a, b, c, d] t)).alloc o) w2) :
  w2.cell? ⟨w.heap.size, 0, none⟩ = some a ∧ w2.cell? ⟨w.heap.size, 1, none⟩ = some b ∧ w2.cell? ⟨w.heap.size, 2, none⟩ = some c ∧ w2.cell? ⟨w.heap.size, 3, none⟩ = some d := by
 have h4 := cells4 (((Below.refl (w.alloc (.cells #[a, b, c, d] t)).heap.size (w.alloc (.cells #[a, b, c, d] t))).alloc (Nat.le_refl _) o).trans (h.mono (by simp)))
 exact ⟨h4.1, h4.2.1, h4.2.2.1, h4.2.2.2.1⟩
set_option maxRecDepth 100000 in
theorem one_any (w : World) : Calls Tryz.prog 90 #[] w (IntPost w 1) := by
 have HN := Lib.hid fun W => Lib.hid (new_any 1 W (by decide) (by decide))
 go_enter Tryz.func90, Tryz.ntmps90
 go_wp2_with fail
 refine (HN.out _).out.mono ?_
 rintro e w1 ⟨v1, rfl, ⟨ad, n, c, rfl, hr⟩, hb⟩
 have HI : Hid (IntV w1 (.agg #[.bool (decide ((1 : Int) < 0)), .slice ad n c]) 1) := Lib.hid ⟨_, _, _, rfl, hr⟩
 generalize decide ((1 : Int) < 0) = p at *
 obtain ⟨cE, cF, fE, fF, hsz⟩ := box2 hb
 have HR := Lib.hid (HI.out.st2 cE cF (by intro n h; cases h) (by intro n h; cases h))
 have HB := Lib.hid (((Below.refl w.heap.size w).alloc (Nat.le_refl _) (.cells #[.bool false, .slice none 0 0] 31)).trans (hb.mono (by simp)))
 clear hr hb
 go_wp2_with fail
 refine bodyPost_ret (v := .agg #[.bool p, .slice ad n c]) (by simp [results, Tryz.results90, go_sem, cE, cF]) rfl ⟨_, rfl, HR.out _ _, ?_⟩
 exact (HB.out.setCell (by simp) _).setCell (by simp) _
theorem dz_sgn {d : Int} (h : 0 < d) : (d = 1 → sgnZ (dz d) = 0) ∧ (d ≠ 1 → dz d = d ∧ sgnZ (dz d) = 1) := by
 unfold dz
 refine ⟨fun h1 => by rw [if_pos h1]; rfl, fun h1 => ?_⟩
 rw [if_neg h1]
 refine ⟨rfl, ?_⟩
 unfold sgnZ
 rw [if_neg (by omega), if_neg (by omega)]
theorem dz_len {d : Int} {k : Nat} (h : len d ≤ k) : len (dz d) ≤ k := by
 unfold dz
 split
 ·exact Nat.le_trans (by rw [show len 0 = 0 from by unfold len; rw [show Int.natAbs 0 = 0 from rfl, digs_zero]; rfl]; exact Nat.zero_le _) (Nat.le_refl _)
 ·exact h
set_option maxRecDepth 100000 in
theorem den_any (n d : Int) (v : Value) (w : World) (hd : 0 < d) (hl : len d ≤ 1000000) (h : RatV w v n d) :
  Calls Tryz.prog 67 #[v] w (IntPost w d) := by
 obtain ⟨a, b, c, e, rfl, h1, h2⟩ := h
 obtain ⟨p1, ad1, n1, c1, rfl, rfl, _⟩ := h1.parts
 obtain ⟨p2, ad2, n2, c2, rfl, rfl, _⟩ := h2.parts
 have HI := Lib.hid h2
 clear h1 h2
 have HS := Lib.hid fun W hw => Lib.hid (sign_any (dz d) _ W (dz_len hl) (HI.out.keep hw))
 have HO := Lib.hid fun W => Lib.hid (one_any W)
 have hs := dz_sgn hd
 clear hl hd
 go_enter Tryz.func67, Tryz.ntmps67
 go_wp2_with fail
 refine (HS.out _ (below2 _ _ _)).out.mono ?_
 rintro e w1 ⟨rfl, hb⟩
 obtain ⟨cE, cF, fE, fF, hsz⟩ := cells2r4 hb
 obtain ⟨x0, x1, x2, x3⟩ := cells4l hb
 have HB := Lib.hid ((below2 w _ _).trans (hb.mono (by simp <;> omega)))
 have HI1 := Lib.hid (HI.out.keep HB.out)
 have HR0 := Lib.hid hb.size
 clear hb
 by_cases h1 : d = 1
 ·rw [hs.1 h1]
  go_wp2_with fail
  refine (HO.out _).out.mono ?_
  rintro e w2 ⟨v2, rfl, ⟨ad, n, c, rfl, hr⟩, hb2⟩
  have HI2 : Hid (IntV w2 (.agg #[.bool (decide ((1 : Int) < 0)), .slice ad n c]) 1) := Lib.hid ⟨_, _, _, rfl, hr⟩
  generalize decide ((1 : Int) < 0) = p at *
  have gE := (hb2.cell (p := ⟨w.heap.size + 1, 0, none⟩) hsz).trans cE
  have gF := (hb2.cell (p := ⟨w.heap.size + 1, 1, none⟩) hsz).trans cF
  have kE := (hb2.frozen (p := ⟨w.heap.size + 1, 0, none⟩) hsz).trans fE
  have kF := (hb2.frozen (p := ⟨w.heap.size + 1, 1, none⟩) hsz).trans fF
  have HR := Lib.hid (HI2.out.st2 gE gF (by intro n h; cases h) (by intro n h; cases h))
  have HB2 := Lib.hid (HB.out.trans (hb2.mono HB.out.size))
  clear hr hb2 cE cF fE fF
  subst h1
  go_wp2_with fail
  refine bodyPost_ret (v := .agg #[.bool p, .slice ad n c]) (by simp [results, Tryz.results67, go_sem, gE, gF]) rfl ⟨_, rfl, HR.out _ _, ?_⟩
  exact (HB2.out.setCell (by simp) _).setCell (by simp) _
 ·rw [(hs.2 h1).2]
  have HR := Lib.hid (HI1.out.st2 cE cF (by intro n h; cases h) (by intro n h; cases h))
  rw [(hs.2 h1).1] at HR
  go_wp2_with fail
  refine bodyPost_ret (v := .agg #[.bool p2, .slice ad2 n2 c2]) (by simp [results, Tryz.results67, go_sem, cE, cF]) rfl ⟨_, rfl, HR.out _ _, ?_⟩
  exact (HB.out.setCell (by simp) _).setCell (by simp) _
theorem zcells3 (w : World) (a b c d : Value) (t u : TypeId) {w' : World} (h : Below ((w.alloc (.cells #[a, b] t)).alloc (.cells #[c, d] u)).heap.size ((w.alloc (.cells #[a, b] t)).alloc (.cells #[c, d] u)) w') :
  (w'.cell? ⟨w.heap.size, 0, none⟩ = some a ∧ w'.cell? ⟨w.heap.size, 1, none⟩ = some b) ∧ w'.cell? ⟨w.heap.size + 1, 0, none⟩ = some c ∧ w'.cell? ⟨w.heap.size + 1, 1, none⟩ = some d := by
 have h1 := box2r h
 have h2 := box2 (((Below.refl (w.alloc (.cells #[a, b] t)).heap.size (w.alloc (.cells #[a, b] t))).alloc (Nat.le_refl _) (.cells #[c, d] u)).trans (h.mono (by simp)))
 exact ⟨⟨h2.1, h2.2.1⟩, h1.1, h1.2.1⟩
structure B3 (w : World) (a b c d : Value) (W : World) : Prop where
 a0 : W.cell? ⟨w.heap.size, 0, none⟩ = some a
 a1 : W.cell? ⟨w.heap.size, 1, none⟩ = some b
 b0 : W.cell? ⟨w.heap.size + 1, 0, none⟩ = some c
 b1 : W.cell? ⟨w.heap.size + 1, 1, none⟩ = some d
 r0 : W.cell? ⟨w.heap.size + 1 + 1, 0, none⟩ = some (.bool false)
 r1 : W.cell? ⟨w.heap.size + 1 + 1, 1, none⟩ = some (.slice none 0 0)
 r2 : W.cell? ⟨w.heap.size + 1 + 1, 2, none⟩ = some (.bool false)
 r3 : W.cell? ⟨w.heap.size + 1 + 1, 3, none⟩ = some (.slice none 0 0)
 f0 : W.frozen? ⟨w.heap.size + 1 + 1, 0, none⟩ = false
 f1 : W.frozen? ⟨w.heap.size + 1 + 1, 1, none⟩ = false
 f2 : W.frozen? ⟨w.heap.size + 1 + 1, 2, none⟩ = false
 f3 : W.frozen? ⟨w.heap.size + 1 + 1, 3, none⟩ = false
 ga0 : W.frozen? ⟨w.heap.size, 0, none⟩ = false
 ga1 : W.frozen? ⟨w.heap.size, 1, none⟩ = false
 gb0 : W.frozen? ⟨w.heap.size + 1, 0, none⟩ = false
 gb1 : W.frozen? ⟨w.heap.size + 1, 1, none⟩ = false
 below : Below w.heap.size w W
theorem B3.made {w : World} {a b c d : Value} {t u : TypeId} {W : World} (h : Below (((w.alloc (.cells #[a, b] t)).alloc (.cells #[c, d] t)).alloc (.cells #[.bool false, .slice none 0 0, .bool false, .slice none 0 0] u)).heap.size (((w.alloc (.cells #[a, b] t)).alloc (.cells #[c, d] t)).alloc (.cells #[.bool false, .slice none 0 0, .bool false, .slice none 0 0] u)) W) : B3 w a b c d W := by
  have h4 := cells4 h
  simp only [World.size_alloc] at h4
  have hw := (((Below.refl ((w.alloc (.cells #[a, b] t)).alloc (.cells #[c, d] t)).heap.size ((w.alloc (.cells #[a, b] t)).alloc (.cells #[c, d] t))).alloc (Nat.le_refl _) (.cells #[.bool false, .slice none 0 0, .bool false, .slice none 0 0] u)).trans (h.mono (by simp)))
  have hz := zcells3 w a b c d t t hw
  have hb := box2r hw
  have ha := box2 (((Below.refl (w.alloc (.cells #[a, b] t)).heap.size (w.alloc (.cells #[a, b] t))).alloc (Nat.le_refl _) (.cells #[c, d] t)).trans (hw.mono (by simp)))
  exact ⟨hz.1.1, hz.1.2, hz.2.1, hz.2.2, h4.1, h4.2.1, h4.2.2.1, h4.2.2.2.1, h4.2.2.2.2.1, h4.2.2.2.2.2.1, h4.2.2.2.2.2.2.1, h4.2.2.2.2.2.2.2.1, ha.2.2.1, ha.2.2.2.1, hb.2.2.1, hb.2.2.2.1,
    ((below2 w _ _).alloc (by simp; omega) _).trans (h.mono (by simp; omega))⟩

theorem cmp_one {d : Int} : (cmpZ d 1 == 0) = decide (d = 1) := by
 unfold cmpZ
 by_cases h : d = 1
 ·subst h; rfl
 ·rw [decide_eq_false h]
  split
  ·rfl
  ·first | (rw [if_neg h]; rfl) | (split <;> first | rfl | (exfalso; omega))
set_option maxRecDepth 100000 in
theorem lowest_any (n d : Int) (vn vd : Value) (w : World) (h1 : IntV w vn n) (h2 : IntV w vd d) :
  Calls Tryz.prog 93 #[vn, vd] w (RatPost w n d) := by
 have k1 := h1
 have k2 := h2
 obtain ⟨ad1, n1, c1, rfl, _⟩ := k1
 obtain ⟨ad2, n2, c2, rfl, _⟩ := k2
 have H1 := Lib.hid h1
 have H2 := Lib.hid h2
 clear h1 h2
 generalize decide (n < 0) = p1 at *
 generalize decide (d < 0) = p2 at *
 have HO := Lib.hid fun W => Lib.hid (one_any W)
 have HC := Lib.hid fun W u v h h' => Lib.hid (Cmp_any d 1 u v W h h')
 have hcm : (cmpZ d 1 == 0) = decide (d = 1) := cmp_one
 generalize cmpZ d 1 = cz at *
 go_enter Tryz.func93, Tryz.ntmps93
 go_upto_region 1 with fail
 have HB0 := Lib.hid (fun W h => B3.made (w := w) (a := .bool p1) (b := .slice ad1 n1 c1) (c := .bool p2) (d := .slice ad2 n2 c2) (t := 31) (u := 38) (W := W) h)
 have hc0 : B3 w (.bool p1) (.slice ad1 n1 c1) (.bool p2) (.slice ad2 n2 c2) _ := HB0.out _ ((Below.refl _ _).drew)
 go_region_held3 (fun w' => w'.cell? ⟨w.heap.size + 1, 0, none⟩ = some (.bool p2) ∧ w'.cell? ⟨w.heap.size + 1, 1, none⟩ = some (.slice ad2 n2 c2))
  (first | exact ⟨hc2.b0, hc2.b1⟩ | exact ⟨hc1.b0, hc1.b1⟩ | exact ⟨hc0.b0, hc0.b1⟩ | go_keep)
  (go_loud (first
  | (go_at_call 90; (with_reducible refine (HO.out _).out.mono ?_); rintro e wA ⟨vA, rfl, hiA, hbA'⟩; have hbA := ((Below.refl _ _).drew).trans hbA'; have hc1 := HB0.out _ hbA)
  | (go_at_call 63; (with_reducible refine (HC.out _ _ _ (H2.out.keep hc1.below) hiA).out.mono ?_); rintro e wB ⟨rfl, hbB'⟩; have hbB := hbA.trans (hbB'.mono hbA.size); have hc2 := HB0.out _ hbB)))
 have HX := Lib.hid hc2
 obtain ⟨g0, g1, g2, g3, r0, r1, r2, r3, f0, f1, f2, f3, _, _, _, _, _⟩ := hc2
 have HR := Lib.hid ((H1.out.keep HX.out.below).st4 r0 r1 r2 r3 (by intro n h; cases h) (by intro n h; cases h) (by intro n h; cases h) (by intro n h; cases h))
 have HR2 := Lib.hid ((H2.out.keep HX.out.below).st4 r0 r1 r2 r3 (by intro n h; cases h) (by intro n h; cases h) (by intro n h; cases h) (by intro n h; cases h))
 clear hc0 hc1 hbA hbA' hbB hbB' hiA HB0 HC HO
 by_cases h1 : d = 1
 ·have hz : dz d = 0 := if_pos h1
  clear hcm
  go_wp2_with fail
  refine bodyPost_ret (v := .agg #[.bool p1, .slice ad1 n1 c1, .bool false, .slice none 0 0]) (by simp [results, Tryz.results93, go_sem, r0, r1, r2, r3]) rfl ⟨_, rfl, ⟨_, _, _, _, rfl, HR.out _ _ _ _, hz ▸ IntV.nil0 _⟩, ?_⟩
  exact (((HX.out.below.setCell (by simp; omega) _).setCell (by simp; omega) _).setCell (by simp; omega) _).setCell (by simp; omega) _
 ·have hz : dz d = d := if_neg h1
  clear hcm
  go_wp2_with fail
  refine bodyPost_ret (v := .agg #[.bool p1, .slice ad1 n1 c1, .bool p2, .slice ad2 n2 c2]) (by simp [results, Tryz.results93, go_sem, r0, r1, r2, r3]) rfl ⟨_, rfl, ⟨_, _, _, _, rfl, HR.out _ _ _ _, hz.symm ▸ HR2.out _ _ _ _⟩, ?_⟩
  exact (((HX.out.below.setCell (by simp; omega) _).setCell (by simp; omega) _).setCell (by simp; omega) _).setCell (by simp; omega) _
end
end Go.Proofs.YtghgcbedajaldaaGreat
