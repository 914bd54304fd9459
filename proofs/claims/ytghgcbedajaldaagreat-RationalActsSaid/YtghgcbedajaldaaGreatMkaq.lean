/-  RPow  -/
import Derived.Test.YtghgcbedajaldaaGreatMkap
import Derived.Test.YtghgcbedajaldaaGreatMkak
/-  RPower RPower2 RRoot  -/
namespace Go.Proofs.YtghgcbedajaldaaGreat
section
open Go.RowKit Digs
theorem rlen_bd {k : Nat} {z : Int} (h : Bd k z) {M : Nat} (hM : 2 * k ≤ M) : rlen z ≤ M := by
 unfold Bd at h
 rw [pow_two_base] at h
 exact Nat.le_trans (digs_length_le (by decide) _ _ h) hM
theorem bl_bd {k : Nat} {z : Int} (h : Bd k z) : bl z.natAbs ≤ 32 * k := by
 unfold Bd at h
 rw [pow32] at h
 exact bl_le_iff.2 h
theorem Bd.pow' {k : Nat} {x : Int} (h : Bd k x) (n : Nat) : Bd (k * n + 1) (x ^ n) := by
 induction n with
 | zero => unfold Bd; rw [Int.pow_zero, Nat.mul_zero]; decide
 | succ n ih => rw [Int.pow_succ, Nat.mul_succ, Nat.add_right_comm]; exact Bd.mul ih h
theorem RefV.zero0 (w : World) : RefV w (.agg #[.bool false, .slice none 0 0]) 0 := ⟨none, 0, 0, rfl, .inl ⟨rfl, by rw [show Int.natAbs 0 = 0 from rfl, digs_zero]⟩⟩
structure RX (p : Nat) (u v : Value) (z : Int) (w : World) : Prop where
 c0 : w.cell? ⟨p, 0, none⟩ = some u
 c1 : w.cell? ⟨p, 1, none⟩ = some v
 f0 : w.frozen? ⟨p, 0, none⟩ = false
 f1 : w.frozen? ⟨p, 1, none⟩ = false
 rv : RefV w (.agg #[u, v]) z
theorem RX.lt {p : Nat} {u v : Value} {z : Int} {w : World} (h : RX p u v z w) : p < w.heap.size := World.block_lt_of_cell? w _ h.c0
theorem RX.keep {p : Nat} {u v : Value} {z : Int} {w w' : World} (h : RX p u v z w) (hb : Below w.heap.size w w') : RX p u v z w' :=
 ⟨(hb.cell (p := ⟨p, 0, none⟩) h.lt).trans h.c0, (hb.cell (p := ⟨p, 1, none⟩) h.lt).trans h.c1, (hb.frozen (p := ⟨p, 0, none⟩) h.lt).trans h.f0, (hb.frozen (p := ⟨p, 1, none⟩) h.lt).trans h.f1, h.rv.keep hb⟩
theorem RX.made {u v : Value} {z : Int} {w : World} {t : TypeId} (h : RefV w (.agg #[u, v]) z) : RX w.heap.size u v z (w.alloc (.cells #[u, v] t)) :=
 ⟨by rw [World.cell?_alloc_at _ _ _ _ rfl]; rfl, by rw [World.cell?_alloc_at _ _ _ _ rfl]; rfl, World.frozen?_alloc_at _ _ _ _ rfl, World.frozen?_alloc_at _ _ _ _ rfl, h.keep ((Below.refl _ _).alloc (Nat.le_refl _) _)⟩
theorem RX.cells {p : Nat} {u v : Value} {z : Int} {w : World} (h : RX p u v z w) : w.cell? ⟨p, 0, none⟩ = some u ∧ w.cell? ⟨p, 1, none⟩ = some v := ⟨h.c0, h.c1⟩
theorem RefV.store {R : Nat} {vz : Value} {z : Int} {w : World} (h : RefV w vz z) {a : Bool} {ad : Option Addr} {n c : Nat} (h0 : w.cell? ⟨R, 0, none⟩ = some (.bool a)) (h1 : w.cell? ⟨R, 1, none⟩ = some (.slice ad n c)) (y1 y2 : Value) :
  RefV ((w.setCell ⟨R, 0, none⟩ y1).setCell ⟨R, 1, none⟩ y2) vz z := by
 obtain ⟨ad', n', c', e, hr⟩ := h
 exact ⟨ad', n', c', e, hr.store2 h0 h1 (by intro n h; cases h) (by intro n h; cases h) _ _⟩
theorem RX.other {X R : Nat} {u v : Value} {z : Int} {w : World} (h : RX X u v z w) {a : Bool} {ad : Option Addr} {n c : Nat} (h0 : w.cell? ⟨R, 0, none⟩ = some (.bool a)) (h1 : w.cell? ⟨R, 1, none⟩ = some (.slice ad n c)) (hne : X ≠ R) (y1 y2 : Value) :
  RX X u v z ((w.setCell ⟨R, 0, none⟩ y1).setCell ⟨R, 1, none⟩ y2) :=
 ⟨(cell_store2 hne).trans h.c0, (cell_store2 hne).trans h.c1, by simpa using h.f0, by simpa using h.f1, h.rv.store h0 h1 y1 y2⟩
theorem RX.mine {R : Nat} {a a' : Bool} {ad ad' : Option Addr} {n c n' c' : Nat} {z z' : Int} {w : World} (h : RX R (.bool a) (.slice ad n c) z w) (hi : RefV w (.agg #[.bool a', .slice ad' n' c']) z') :
  RX R (.bool a') (.slice ad' n' c') z' ((w.setCell ⟨R, 0, none⟩ (.bool a')).setCell ⟨R, 1, none⟩ (.slice ad' n' c')) := by
 refine ⟨?_, ?_, by simpa using h.f0, by simpa using h.f1, hi.store h.c0 h.c1 _ _⟩
 ·rw [World.cell?_setCell_other _ _ _ _ (by simp)]
  exact World.cell?_setCell_same _ _ _ h.c0
 ·exact World.cell?_setCell_same _ _ _ (by rw [World.cell?_setCell_other _ _ _ _ (by simp)]; exact h.c1)
def RefOK (w : World) (z : Int) (e : Ending) (w' : World) : Prop := ∃ v, e = .returned (.tuple #[v, .int .i64 0]) ∧ RefV w' v z ∧ Below w.heap.size w w'
def RefErr (w : World) (c : Int) (e : Ending) (w' : World) : Prop := e = .returned (.tuple #[.agg #[.bool false, .slice none 0 0], .int .i64 c]) ∧ Below w.heap.size w w'
set_option maxHeartbeats 2000000 in
set_option maxRecDepth 100000 in
theorem rPower_unit (x : Int) (v : Value) (n : Nat) (w : World) (hx : bl x.natAbs ≤ 1) (h : RefV w v x) (hn : n < 9223372036854775808) :
  Calls Tryz.prog 94 #[v, .int .i64 (n : Int)] w (RefOK w (x ^ n)) := by
 have hxx : x = 0 ∨ x = 1 ∨ x = -1 := by have := bl_le_iff.1 hx; omega
 have hl : rlen x ≤ 1000000 := Nat.le_trans (rlen_small x (by omega)) (by decide)
 have HW := fun W hw => Lib.hid (width_any x v W hl (h.keep (w' := W) hw))
 have HS := fun W hw => Lib.hid (rSign_any x v W hl (h.keep (w' := W) hw))
 have HN := fun W => Lib.hid (rnew_any 1 W (by decide) (by decide))
 have HW := Lib.hid HW
 have HS := Lib.hid HS
 have HN := Lib.hid HN
 have h' := h
 obtain ⟨ad, k, c, rfl, hr⟩ := h
 have HX := Lib.hid h'
 clear hr h' hl
 generalize hb : decide (x < 0) = b at *
 clear hb
 go_enter Tryz.func94, Tryz.ntmps94
 have KX0 : Hid (RX w.heap.size (.bool b) (.slice ad k c) x (w.alloc (.cells #[.bool b, .slice ad k c] 34))) := Lib.hid (RX.made HX.out)
 have KR0 : Hid (RX (w.heap.size + 1) (.bool false) (.slice none 0 0) 0 ((w.alloc (.cells #[.bool b, .slice ad k c] 34)).alloc (.cells #[.bool false, .slice none 0 0] 34))) := Lib.hid (by
  have h := RX.made (t := 34) (RefV.zero0 (w.alloc (.cells #[.bool b, .slice ad k c] 34)))
  rw [World.size_alloc] at h
  exact h)
 go_wp2_with fail
 (with_reducible refine (HN.out _).out.mono ?_)
 rintro e w1 ⟨v1, rfl, ⟨d1, n1, e1, rfl, hr1⟩, hb1⟩
 have kx1 := (KX0.out.keep ((Below.refl _ _).alloc (Nat.le_refl _) _)).keep hb1
 have kr1 := KR0.out.keep hb1
 have ho1 : RefV w1 (.agg #[.bool (decide ((1 : Int) < 0)), .slice d1 n1 e1]) 1 := ⟨_, _, _, rfl, hr1⟩
 have HW1 := Lib.hid ((below2 w _ _).trans (hb1.mono (by simp <;> omega)))
 have HO1 := Lib.hid kr1.lt
 have hal := (Below.refl _ w1).alloc (Nat.le_refl _) (.cells #[.bool (decide ((1 : Int) < 0)), .slice d1 n1 e1] 34)
 have HW2 := Lib.hid (HW1.out.alloc HW1.out.size (.cells #[.bool (decide ((1 : Int) < 0)), .slice d1 n1 e1] 34))
 have ko2 := RX.made (t := 34) ho1
 have kx2 := kx1.keep hal
 have kr2 := kr1.keep hal
 have gx0 := kx2.c0
 have gx1 := kx2.c1
 clear hr1 hb1 kx1 kr1 ho1 hal
 generalize decide ((1 : Int) < 0) = b1 at *
 go_wp2_with fail
 (with_reducible refine (HW.out _ HW2.out).out.mono ?_)
 rintro e w3 ⟨rfl, hb3⟩
 have HW3 := Lib.hid (HW2.out.trans (hb3.mono HW2.out.size))
 have ko := ko2.keep hb3
 have kx := kx2.keep hb3
 have kr := kr2.keep hb3
 clear ko2 kx2 kr2 hb3 gx0 gx1
 have hx1 : ((bl x.natAbs : Nat) : Int) ≤ 1 := by omega
 generalize bl x.natAbs = bx at *
 have gx30 := kx.c0
 have gx31 := kx.c1
 have go30 := ko.c0
 have go31 := ko.c1
 have gk30 := kr.c0
 have gk31 := kr.c1
 have gr30 := kr.f0
 have gr31 := kr.f1
 have hne1 : w1.heap.size ≠ w.heap.size + 1 := fun h => by have h1 := HO1.out; omega
 by_cases hn0 : n = 0
 ·subst hn0
  go_wp2_with fail
  refine bodyPost_ret (v := .tuple #[.agg #[.bool b1, .slice d1 n1 e1], .int .i64 0]) (by simp [results, Tryz.results94, go_sem, kr.c0, kr.c1]) rfl ⟨_, rfl, ?_, (HW3.out.setCell (by simp) _).setCell (by simp) _⟩
  rw [Int.pow_zero]
  exact ko.rv.store kr.c0 kr.c1 _ _
 ·have hnb : ((n : Int) == 0) = false := by rw [beq_eq_false_iff_ne]; omega
  rcases hxx with rfl | rfl | rfl
  ·have hs : sgnZ 0 = 0 := rfl
   rw [hs] at HS
   go_wp2_with fail
   (with_reducible refine (HS.out _ HW3.out).out.mono ?_)
   rintro e w4 ⟨rfl, hb4⟩
   have HW4 := Lib.hid (HW3.out.trans (hb4.mono HW3.out.size))
   have ko4 := ko.keep hb4
   have kx4 := kx.keep hb4
   have kr4 := kr.keep hb4
   have gx40 := kx4.c0
   have gx41 := kx4.c1
   have go40 := ko4.c0
   have go41 := ko4.c1
   have gk40 := kr4.c0
   have gk41 := kr4.c1
   have gr40 := kr4.f0
   have gr41 := kr4.f1
   clear hb4
   go_wp2_with fail
   (with_reducible refine (HS.out _ HW4.out).out.mono ?_)
   rintro e w5 ⟨rfl, hb5⟩
   have HW5 := Lib.hid (HW4.out.trans (hb5.mono HW4.out.size))
   have ko5 := ko4.keep hb5
   have kx5 := kx4.keep hb5
   have kr5 := kr4.keep hb5
   have gx50 := kx5.c0
   have gx51 := kx5.c1
   have go50 := ko5.c0
   have go51 := ko5.c1
   have gk50 := kr5.c0
   have gk51 := kr5.c1
   have gr50 := kr5.f0
   have gr51 := kr5.f1
   clear hb5
   go_wp2_with fail
   refine bodyPost_ret (v := .tuple #[.agg #[.bool b, .slice ad k c], .int .i64 0]) (by simp [results, Tryz.results94, go_sem, kr5.c0, kr5.c1]) rfl ⟨_, rfl, ?_, (HW5.out.setCell (by simp) _).setCell (by simp) _⟩
   rw [Int.zero_pow hn0]
   exact kx5.rv.store kr5.c0 kr5.c1 _ _
  ·have hs : sgnZ 1 = 1 := rfl
   rw [hs] at HS
   go_wp2_with fail
   (with_reducible refine (HS.out _ HW3.out).out.mono ?_)
   rintro e w4 ⟨rfl, hb4⟩
   have HW4 := Lib.hid (HW3.out.trans (hb4.mono HW3.out.size))
   have ko4 := ko.keep hb4
   have kx4 := kx.keep hb4
   have kr4 := kr.keep hb4
   have gx40 := kx4.c0
   have gx41 := kx4.c1
   have go40 := ko4.c0
   have go41 := ko4.c1
   have gk40 := kr4.c0
   have gk41 := kr4.c1
   have gr40 := kr4.f0
   have gr41 := kr4.f1
   clear hb4
   go_wp2_with fail
   refine bodyPost_ret (v := .tuple #[.agg #[.bool b1, .slice d1 n1 e1], .int .i64 0]) (by simp [results, Tryz.results94, go_sem, kr4.c0, kr4.c1]) rfl ⟨_, rfl, ?_, (HW4.out.setCell (by simp) _).setCell (by simp) _⟩
   rw [Int.one_pow]
   exact ko4.rv.store kr4.c0 kr4.c1 _ _
  ·have hs : sgnZ (-1) = -1 := rfl
   rw [hs] at HS
   have hpar := neg_pow_par 1 n
   rw [Int.one_pow] at hpar
   by_cases hev : n % 2 = 1
   ·rw [if_pos hev] at hpar
    have hp : ((n : Int).tmod 2 == 0) = false := by rw [beq_eq_false_iff_ne]; rw [Int.tmod_eq_emod_of_nonneg (by omega)]; omega
    go_wp2_with fail
    (with_reducible refine (HS.out _ HW3.out).out.mono ?_)
    rintro e w4 ⟨rfl, hb4⟩
    have HW4 := Lib.hid (HW3.out.trans (hb4.mono HW3.out.size))
    have ko4 := ko.keep hb4
    have kx4 := kx.keep hb4
    have kr4 := kr.keep hb4
    have gx40 := kx4.c0
    have gx41 := kx4.c1
    have go40 := ko4.c0
    have go41 := ko4.c1
    have gk40 := kr4.c0
    have gk41 := kr4.c1
    have gr40 := kr4.f0
    have gr41 := kr4.f1
    clear hb4
    go_wp2_with fail
    (with_reducible refine (HS.out _ HW4.out).out.mono ?_)
    rintro e w5 ⟨rfl, hb5⟩
    have HW5 := Lib.hid (HW4.out.trans (hb5.mono HW4.out.size))
    have ko5 := ko4.keep hb5
    have kx5 := kx4.keep hb5
    have kr5 := kr4.keep hb5
    have gx50 := kx5.c0
    have gx51 := kx5.c1
    have go50 := ko5.c0
    have go51 := ko5.c1
    have gk50 := kr5.c0
    have gk51 := kr5.c1
    have gr50 := kr5.f0
    have gr51 := kr5.f1
    clear hb5
    go_wp2_with fail
    refine bodyPost_ret (v := .tuple #[.agg #[.bool b, .slice ad k c], .int .i64 0]) (by simp [results, Tryz.results94, go_sem, kr5.c0, kr5.c1]) rfl ⟨_, rfl, ?_, (HW5.out.setCell (by simp) _).setCell (by simp) _⟩
    rw [hpar]
    exact kx5.rv.store kr5.c0 kr5.c1 _ _
   ·rw [if_neg hev] at hpar
    have hp : ((n : Int).tmod 2 == 0) = true := by rw [beq_iff_eq]; rw [Int.tmod_eq_emod_of_nonneg (by omega)]; omega
    go_wp2_with fail
    (with_reducible refine (HS.out _ HW3.out).out.mono ?_)
    rintro e w4 ⟨rfl, hb4⟩
    have HW4 := Lib.hid (HW3.out.trans (hb4.mono HW3.out.size))
    have ko4 := ko.keep hb4
    have kx4 := kx.keep hb4
    have kr4 := kr.keep hb4
    have gx40 := kx4.c0
    have gx41 := kx4.c1
    have go40 := ko4.c0
    have go41 := ko4.c1
    have gk40 := kr4.c0
    have gk41 := kr4.c1
    have gr40 := kr4.f0
    have gr41 := kr4.f1
    clear hb4
    go_wp2_with fail
    (with_reducible refine (HS.out _ HW4.out).out.mono ?_)
    rintro e w5 ⟨rfl, hb5⟩
    have HW5 := Lib.hid (HW4.out.trans (hb5.mono HW4.out.size))
    have ko5 := ko4.keep hb5
    have kx5 := kx4.keep hb5
    have kr5 := kr4.keep hb5
    have gx50 := kx5.c0
    have gx51 := kx5.c1
    have go50 := ko5.c0
    have go51 := ko5.c1
    have gk50 := kr5.c0
    have gk51 := kr5.c1
    have gr50 := kr5.f0
    have gr51 := kr5.f1
    clear hb5
    go_wp2_with fail
    refine bodyPost_ret (v := .tuple #[.agg #[.bool b1, .slice d1 n1 e1], .int .i64 0]) (by simp [results, Tryz.results94, go_sem, kr5.c0, kr5.c1]) rfl ⟨_, rfl, ?_, (HW5.out.setCell (by simp) _).setCell (by simp) _⟩
    rw [hpar]
    exact ko5.rv.store kr5.c0 kr5.c1 _ _
end
section
open Go.RowKit Digs
theorem lenZ_bda {k M : Nat} {z : Int} (h : Bd k z) (hk : 32 * k ≤ M) : lenZ z ≤ M := by
 unfold Bd at h
 rw [pow32] at h
 have h2 : (2 : Nat) ^ (32 * k) ≤ 2 ^ M := Nat.pow_le_pow_right (by decide) hk
 unfold lenZ
 split
 ·exact bl_le_iff.2 (by omega)
 ·exact bl_le_iff.2 (by omega)
def RPowRel (w : World) (px pr po n : Nat) (x : Int) (u v : Value) (i : Value) (wr : World) : Prop :=
 ∃ (k : Nat) (b : Bool) (d : Option Addr) (m c : Nat), k ≤ n ∧ i = .int .i64 k ∧ RX px u v x wr ∧ RX pr (.bool false) (.slice none 0 0) 0 wr ∧ RX po (.bool b) (.slice d m c) (x ^ k) wr ∧ Below w.heap.size w wr
end
section
open Go.RowKit Digs
def RRootOK (w : World) (m : Nat) (e : Ending) (w' : World) : Prop := ∃ r : Nat, r * r ≤ m ∧ m < (r + 1) * (r + 1) ∧ RefOK w (r : Int) e w'
def RRootRel (w : World) (px pr po m : Nat) (u v : Value) (i : Value) (wr : World) : Prop :=
 ∃ (j r : Nat) (z : Int) (b : Bool) (d : Option Addr) (n c : Nat), j ≤ 129 ∧ i = .int .i64 z ∧ z = (j : Int) - 1 ∧ r * r ≤ m ∧ m < (r + 2 ^ j) * (r + 2 ^ j) ∧
  RX px u v (m : Int) wr ∧ RX pr (.bool false) (.slice none 0 0) 0 wr ∧ RX po (.bool b) (.slice d n c) (r : Int) wr ∧ Below w.heap.size w wr
theorem root_start (m : Nat) : m < (0 + 2 ^ (bl m / 2 + 1)) * (0 + 2 ^ (bl m / 2 + 1)) := by
 rw [Nat.zero_add, ← Nat.pow_add]
 exact Nat.lt_of_lt_of_le (bl_lt m) (Nat.pow_le_pow_right (by decide) (by omega))
theorem root_double (r j : Nat) : r + 2 ^ (j + 1) = (r + 2 ^ j) + 2 ^ j := by rw [Nat.pow_succ]; omega
theorem two_bd {i : Nat} (hi : i ≤ 128) : Bd 5 ((2 ^ i : Nat) : Int) := by
 unfold Bd
 rw [Int.natAbs_natCast, pow32]
 exact Nat.pow_lt_pow_right (by decide) (by omega)
theorem root_bd {r m : Nat} (h : r * r ≤ m) (hm : Bd 8 (m : Int)) : Bd 8 (r : Int) := by
 unfold Bd at *
 rw [Int.natAbs_natCast] at *
 have h1 := Nat.le_mul_self r
 omega
theorem next_bd {r i : Nat} (h : Bd 8 (r : Int)) (hi : i ≤ 128) : Bd 14 ((r + 2 ^ i : Nat) : Int) := by
 have h1 := h.add (two_bd hi)
 rw [← Int.natCast_add] at h1
 exact h1
theorem bd_cmp {a : Int} {m : Nat} (h : Bd 28 a) (hm : Bd 8 (m : Int)) : rlen (a - (m : Int)) ≤ 1000000 := rlen_bd (h.sub hm) (by decide)
theorem sgn_le (a m : Nat) : (sgnZ ((a : Int) - (m : Int)) ≤ 0) ↔ a ≤ m := by
 unfold sgnZ
 split
 ·constructor <;> intro h <;> omega
 ·split
  ·constructor <;> intro h <;> omega
  ·constructor <;> intro h <;> omega
set_option maxHeartbeats 1000000 in
set_option maxRecDepth 100000 in
theorem rRoot_neg (x : Int) (v : Value) (w : World) (hx : x < 0) (hl : rlen x ≤ 1000000) (h : RefV w v x) :
  Calls Tryz.prog 96 #[v] w (RefErr w 1) := by
 have HS := fun W hw => Lib.hid (rSign_any x v W hl (h.keep (w' := W) hw))
 have HS := Lib.hid HS
 rw [show sgnZ x = -1 by unfold sgnZ; rw [if_pos hx]] at HS
 obtain ⟨ad, k, c, rfl, hr⟩ := h
 clear hr
 generalize decide (x < 0) = b at *
 go_enter Tryz.func96, Tryz.ntmps96
 go_wp2_with fail
 (with_reducible refine (HS.out _ (below2 w _ _)).out.mono ?_)
 rintro e w1 ⟨rfl, hb1⟩
 obtain ⟨cE, cF, fE, fF, hsz⟩ := box2r hb1
 have HB := Lib.hid ((below2 w _ _).trans (hb1.mono (by simp <;> omega)))
 clear hb1
 go_wp2_with fail
 refine bodyPost_ret (v := .tuple #[.agg #[.bool false, .slice none 0 0], .int .i64 1]) (by simp [results, Tryz.results96, go_sem, cE, cF]) rfl ⟨rfl, ?_⟩
 exact (HB.out.setCell (by simp) _).setCell (by simp) _
set_option maxHeartbeats 4000000 in
set_option maxRecDepth 100000 in
theorem rRoot_any (m : Nat) (v : Value) (w : World) (hB : Bd 8 (m : Int)) (h : RefV w v (m : Int)) :
  Calls Tryz.prog 96 #[v] w (RRootOK w m) := by
 have hl : rlen (m : Int) ≤ 1000000 := rlen_bd hB (by decide)
 have HS := fun W hw => Lib.hid (rSign_any (m : Int) v W hl (h.keep (w' := W) hw))
 have HW := fun W hw => Lib.hid (width_any (m : Int) v W hl (h.keep (w' := W) hw))
 have HN := fun W => Lib.hid (rnew_any 0 W (by decide) (by decide))
 have HBL := Lib.hid (bl_bd hB)
 have HS := Lib.hid HS
 have HW := Lib.hid HW
 have HN := Lib.hid HN
 have hsg : ¬ sgnZ (m : Int) < 0 := by
  unfold sgnZ
  rw [if_neg (by omega)]
  split <;> decide
 have HBD := Lib.hid hB
 obtain ⟨ad, k, c, rfl, hr⟩ := id h
 have HX := Lib.hid h
 clear hr h hl hB
 rw [Int.natAbs_natCast] at HW HBL
 generalize sgnZ (m : Int) = sz at *
 generalize hb : decide ((m : Int) < 0) = b at *
 clear hb
 go_enter Tryz.func96, Tryz.ntmps96
 have KX0 : Hid (RX w.heap.size (.bool b) (.slice ad k c) (m : Int) (w.alloc (.cells #[.bool b, .slice ad k c] 34))) := Lib.hid (RX.made HX.out)
 have KR0 : Hid (RX (w.heap.size + 1) (.bool false) (.slice none 0 0) 0 ((w.alloc (.cells #[.bool b, .slice ad k c] 34)).alloc (.cells #[.bool false, .slice none 0 0] 34))) := Lib.hid (by
  have h := RX.made (t := 34) (RefV.zero0 (w.alloc (.cells #[.bool b, .slice ad k c] 34)))
  rw [World.size_alloc] at h
  exact h)
 go_wp2_with fail
 (with_reducible refine (HS.out _ (below2 w _ _)).out.mono ?_)
 rintro e w0 ⟨rfl, hb0⟩
 have HW0 := Lib.hid ((below2 w _ _).trans (hb0.mono (by simp <;> omega)))
 have kx0 := (KX0.out.keep ((Below.refl _ _).alloc (Nat.le_refl _) _)).keep hb0
 have kr0 := KR0.out.keep hb0
 go_wp2_with fail
 (with_reducible refine (HN.out _).out.mono ?_)
 rintro e w1 ⟨v1, rfl, ⟨d1, n1, e1, rfl, hr1⟩, hb1⟩
 have kx1 := kx0.keep hb1
 have kr1 := kr0.keep hb1
 have ho1 : RefV w1 (.agg #[.bool (decide ((0 : Int) < 0)), .slice d1 n1 e1]) 0 := ⟨_, _, _, rfl, hr1⟩
 have HW1 := Lib.hid (HW0.out.trans (hb1.mono HW0.out.size))
 have HO1 := Lib.hid kr1.lt
 have hal := (Below.refl _ w1).alloc (Nat.le_refl _) (.cells #[.bool (decide ((0 : Int) < 0)), .slice d1 n1 e1] 34)
 have HW2 := Lib.hid (HW1.out.alloc HW1.out.size (.cells #[.bool (decide ((0 : Int) < 0)), .slice d1 n1 e1] 34))
 have ko2 := RX.made (t := 34) ho1
 have kx2 := kx1.keep hal
 have kr2 := kr1.keep hal
 have gx0 := kx2.c0
 have gx1 := kx2.c1
 clear hr1 hb0 hb1 kx1 kr1 ho1 hal kx0 kr0
 generalize decide ((0 : Int) < 0) = b1 at *
 go_wp2_with fail
 (with_reducible refine (HW.out _ HW2.out).out.mono ?_)
 rintro e w3 ⟨rfl, hb3⟩
 have HW3 := Lib.hid (HW2.out.trans (hb3.mono HW2.out.size))
 have HK := Lib.hid (And.intro (ko2.keep hb3) (And.intro (kx2.keep hb3) (kr2.keep hb3)))
 clear ko2 kx2 kr2 hb3 gx0 gx1
 have hne1 : w1.heap.size ≠ w.heap.size + 1 := fun h => by have h1 := HO1.out; omega
 have hne2 : w1.heap.size ≠ w.heap.size := fun h => by have h1 := HO1.out; omega
 have hne3 : w.heap.size + 1 ≠ w.heap.size := by omega
 have HST := Lib.hid (root_start m)
 have hbl := HBL.out
 generalize bl m = B at *
 go_wp2_with fail
 go_loopw [5] (RRootRel w w.heap.size (w.heap.size + 1) w1.heap.size m (.bool b) (.slice ad k c)) (fun i _ => (intOf i + 1).toNat)
 case atStart => exact ⟨B / 2 + 1, 0, _, _, _, _, _, by omega, rfl, by first | omega | (rw [Int.tdiv_eq_ediv_of_nonneg (by omega)]; omega), by omega, HST.out, HK.out.2.1, HK.out.2.2, HK.out.1, HW3.out⟩
 case round =>
  obtain ⟨j, r, z, bo, d, n, co, hj, rfl, hz, hr1, hr2, kx, kr, ko, hbw⟩ := hrel
  have HBW := Lib.hid hbw
  have HKO := Lib.hid ko
  have HKX := Lib.hid kx
  have HKR := Lib.hid kr
  have HR1 := Lib.hid hr1
  have HR2 := Lib.hid hr2
  clear hbw hr1 hr2
  by_cases hj0 : j = 0
  ·subst hj0
   have hzz : ¬ (0 : Int) ≤ z := by omega
   have go60 := ko.c0
   have go61 := ko.c1
   have gk60 := kr.c0
   have gk61 := kr.c1
   have gr60 := kr.f0
   have gr61 := kr.f1
   clear kx kr ko
   go_wp2_with fail
   refine bodyPost_ret (v := .tuple #[.agg #[.bool bo, .slice d n co], .int .i64 0]) (by simp [results, Tryz.results96, go_sem, HKR.out.c0, HKR.out.c1]) rfl ⟨r, HR1.out, HR2.out, _, rfl, ?_, (HBW.out.setCell (by simp) _).setCell (by simp) _⟩
   exact HKO.out.rv.store HKR.out.c0 HKR.out.c1 _ _
  ·obtain ⟨i, rfl⟩ : ∃ i, j = i + 1 := ⟨j - 1, by omega⟩
   obtain rfl : z = (i : Int) := by omega
   clear hz hj0
   have hrb := root_bd HR1.out HBD.out
   have HTW := fun W => Lib.hid (two_any i W (by omega))
   have hrl1 : rlen (r : Int) ≤ 1000000 := rlen_bd hrb (by decide)
   have hrl2 : rlen ((2 ^ i : Nat) : Int) ≤ 1000000 := rlen_bd (two_bd (i := i) (by omega)) (by decide)
   have HADD := fun W v hw h => Lib.hid (show Calls Tryz.prog 86 #[.agg #[.bool bo, .slice d n co], v] W (RefPost W ((r + 2 ^ i : Nat) : Int)) from by
    rw [Int.natCast_add]
    exact rAdd_any (r : Int) ((2 ^ i : Nat) : Int) _ v W hrl1 hrl2 (HKO.out.keep (w' := W) hw).rv h)
   have HNB : Hid (Bd 14 ((r + 2 ^ i : Nat) : Int)) := Lib.hid (next_bd hrb (by omega))
   have HTW := Lib.hid HTW
   have HADD := Lib.hid HADD
   have HNX := Lib.hid (root_double r i)
   generalize hP : (2 : Nat) ^ i = P at *
   have HP := Lib.hid hP
   clear hP
   have hc := ko.cells
   obtain ⟨co0, co1⟩ := hc
   clear kx kr ko hrb hrl1 hrl2
   have HKr := Lib.hid (show ∀ w', Below wr.heap.size wr w' → (w'.cell? ⟨w1.heap.size, 0, none⟩ = some (.bool bo) ∧ w'.cell? ⟨w1.heap.size, 1, none⟩ = some (.slice d n co)) from fun w' hb => (HKO.out.keep hb).cells)
   go_upto_region 7 with fail
   go_cut [6] from 19 to 22 (fun s6 wx => ∃ (p : Nat) (bq' : Bool) (dq' : Option Addr) (nq' eq' : Nat), s6 = .pointer (some ⟨p, 0, none⟩) ∧ RX p (.bool bq') (.slice dq' nq' eq') ((r + P : Nat) : Int) wx ∧ Below wr.heap.size wr wx)
   case first =>
    go_region_held3 (fun w' => w'.cell? ⟨w1.heap.size, 0, none⟩ = some (.bool bo) ∧ w'.cell? ⟨w1.heap.size, 1, none⟩ = some (.slice d n co))
     (first | exact ⟨(cell_store2 (by have h7 := HKO.out.lt; have h8 := hbN.size; have h9 := hbA.size; omega)).trans (HKr.out _ hbA).1, (cell_store2 (by have h7 := HKO.out.lt; have h8 := hbN.size; have h9 := hbA.size; omega)).trans (HKr.out _ hbA).2⟩ | exact HKr.out _ (hbA.alloc hbA.size _) | exact HKr.out _ hbA | exact HKr.out _ (hbN.alloc hbN.size _) | exact HKr.out _ hbN | exact HKr.out _ ((Below.refl _ _).drew) | exact HKr.out _ (((Below.refl _ _).alloc (Nat.le_refl _) _).drew) | go_keep)
     (first
      | (go_at_call 133; (with_reducible refine (HTW.out _).out.mono ?_); rintro e wN ⟨vN, rfl, hiN, hbN'⟩; have hbN : Below wr.heap.size wr wN := (by first | exact below_dt hbN' | exact (((Below.refl wr.heap.size wr).alloc (Nat.le_refl _) _).drew).trans (hbN'.mono (by simp))); have HADDa := HADD.out wN vN hbN hiN; have HADDb := fun o => HADD.out (wN.alloc o) vN (hbN.alloc hbN.size o) (hiN.keep ((Below.refl _ _).alloc (Nat.le_refl _) o)); (first | (have zz := zbox1 hbN') | skip))
      | (go_at_call 86; (first | (with_reducible refine HADDa.out.mono ?_) | (with_reducible refine (HADDb _).out.mono ?_)); rintro e wA ⟨vA', rfl, ⟨dA, nA, eA, rfl, hrA⟩, hbA'⟩; have hbA : Below wr.heap.size wr wA := (by first | exact hbN.trans (hbA'.mono hbN.size) | exact (hbN.alloc hbN.size _).trans (hbA'.mono (by have := hbN.size; simp; omega))); (first | (have zz := zbox2 hbA') | (have zy := zbox3 hbN' hbA') | skip)))
    all_goals
     go_wp2_with fail
     go_meet
     first
      | exact ⟨_, _, _, _, _, rfl, RX.made ⟨_, _, _, rfl, hrA⟩, hbA.alloc hbA.size _⟩
      | exact ⟨_, _, _, _, _, rfl, RX.mine (z := 0) ⟨zy.1, zy.2.1, zy.2.2.1, zy.2.2.2, RefV.zero0 _⟩ ⟨_, _, _, rfl, hrA⟩, (hbA.setCell (Nat.le_refl _) _).setCell (Nat.le_refl _) _⟩
      | exact ⟨_, _, _, _, _, rfl, RX.mine (z := 0) ⟨zz.1, zz.2.1, zz.2.2.1, zz.2.2.2, RefV.zero0 _⟩ ⟨_, _, _, rfl, hrA⟩, (hbA.setCell hbN.size _).setCell hbN.size _⟩
   case rest =>
    obtain ⟨p, bn', dn', nn', en', rfl, hbxn, hbW⟩ := hcut
    have hmm : Bd 28 ((r + P : Nat) * (r + P : Nat) : Int) := HNB.out.mul HNB.out
    rw [← Int.natCast_mul] at hmm
    have hbs := bd_cmp hmm HBD.out
    have hrl1 : rlen ((r + P : Nat) : Int) ≤ 1000000 := rlen_bd HNB.out (by decide)
    have hrl2 : rlen (((r + P) * (r + P) : Nat) : Int) ≤ 1000000 := rlen_bd hmm (by decide)
    have hrl3 : rlen (m : Int) ≤ 1000000 := rlen_bd HBD.out (by decide)
    have HKX1 := Lib.hid (HKX.out.keep hbW)
    have HKO1 := Lib.hid (HKO.out.keep hbW)
    have HKR1 := Lib.hid (HKR.out.keep hbW)
    have HKN1 := Lib.hid hbxn
    have HWx := Lib.hid (HBW.out.trans (hbW.mono HBW.out.size))
    clear hbxn hbW co0 co1 hmm
    have HMM := fun W hw => Lib.hid (show Calls Tryz.prog 89 #[.agg #[.bool bn', .slice dn' nn' en'], .agg #[.bool bn', .slice dn' nn' en']] W (RefPost W (((r + P) * (r + P) : Nat) : Int)) from by
     rw [Int.natCast_mul]
     exact rMul_any ((r + P : Nat) : Int) ((r + P : Nat) : Int) _ _ W hrl1 hrl1 (HKN1.out.keep (w' := W) hw).rv (HKN1.out.keep hw).rv)
    have HCC := fun W v hw h => Lib.hid (rCmp_any (((r + P) * (r + P) : Nat) : Int) (m : Int) v _ W hrl2 hrl3 hbs h (HKX1.out.keep (w' := W) hw).rv)
    have HMM := Lib.hid HMM
    have HCC := Lib.hid HCC
    have HSG := Lib.hid (sgn_le ((r + P) * (r + P)) m)
    clear hrl1 hrl2 hrl3 hbs
    generalize sgnZ ((((r + P) * (r + P) : Nat) : Int) - (m : Int)) = sg8 at *
    have HKK := Lib.hid (fun w' hb => And.intro (HKN1.out.keep (w' := w') hb).cells (HKX1.out.keep hb).cells)
    obtain ⟨cn0, cn1⟩ := HKN1.out.cells
    obtain ⟨cx0, cx1⟩ := HKX1.out.cells
    go_upto_region 8 with fail
    go_region_held3 (fun w' => (w'.cell? ⟨p, 0, none⟩ = some (.bool bn') ∧ w'.cell? ⟨p, 1, none⟩ = some (.slice dn' nn' en')) ∧ (w'.cell? ⟨w.heap.size, 0, none⟩ = some (.bool b) ∧ w'.cell? ⟨w.heap.size, 1, none⟩ = some (.slice ad k c)))
     (first | exact HKK.out _ hbB2 | exact HKK.out _ hbA1 | exact HKK.out _ (Below.refl _ _).drew | go_keep)
     (first
      | (go_at_call 89; (with_reducible refine (HMM.out _ (Below.refl _ _).drew).out.mono ?_); rintro e wA ⟨vA, rfl, hiA, hbA'⟩; have hbA1 := below_dt hbA')
      | (go_at_call 83; (with_reducible refine (HCC.out _ vA hbA1 hiA).out.mono ?_); rintro e wB ⟨rfl, hbB'⟩; have hbB2 := hbA1.trans (hbB'.mono hbA1.size)))
    have HKXb := Lib.hid (HKX1.out.keep hbB2)
    have HKOb := Lib.hid (HKO1.out.keep hbB2)
    have HKRb := Lib.hid (HKR1.out.keep hbB2)
    have HKNb := Lib.hid (HKN1.out.keep hbB2)
    have HWb := Lib.hid (HWx.out.trans (hbB2.mono HWx.out.size))
    clear hbA1 hbB2 hbA' hbB' cn0 cn1 cx0 cx1
    have hsg8 := HSG.out
    have h2 := HR2.out
    rw [HNX.out] at h2
    have H2 := Lib.hid h2
    clear h2
    by_cases hle : (r + P) * (r + P) ≤ m
    ·have hs8 : sg8 ≤ 0 := hsg8.2 hle
     have HLE := Lib.hid hle
     clear hsg8 hle
     have gn0 := HKNb.out.c0
     have gn1 := HKNb.out.c1
     have go0 := HKOb.out.c0
     have go1 := HKOb.out.c1
     have gf0 := HKOb.out.f0
     have gf1 := HKOb.out.f1
     go_wp2_with fail
     go_roundw
     case rel =>
      refine ⟨i, r + P, (i : Int) - 1, bn', dn', nn', en', by omega, by go_num, rfl, HLE.out, by rw [HP.out]; exact H2.out, HKXb.out.other HKOb.out.c0 HKOb.out.c1 hne2.symm _ _, HKRb.out.other HKOb.out.c0 HKOb.out.c1 hne1.symm _ _, HKOb.out.mine HKNb.out.rv, (HWb.out.setCell HW1.out.size _).setCell HW1.out.size _⟩
     case measure => simp [intOf] <;> omega
    ·have hs8 : ¬ sg8 ≤ 0 := fun h => hle (hsg8.1 h)
     have HLE := Lib.hid hle
     clear hsg8 hle
     go_wp2_with fail
     go_roundw
     case rel =>
      refine ⟨i, r, (i : Int) - 1, bo, d, n, co, by omega, by go_num, rfl, HR1.out, by rw [HP.out]; have := HLE.out; omega, HKXb.out, HKRb.out, HKOb.out, HWb.out⟩
     case measure => simp [intOf] <;> omega
end
end Go.Proofs.YtghgcbedajaldaaGreat
