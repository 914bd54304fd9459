/-  R4 R6 Q7 R5  -/
import Derived.Test.YtghgcbedajaldaaGreatMpav
import Derived.Test.YtghgcbedajaldaaGreatMpal
import Derived.Test.YtghgcbedajaldaaGreatMpau
import Derived.Test.YtghgcbedajaldaaGreatMpar
/-  The reference's fractions: Add, Sub, Cmp.  -/
namespace Go.Proofs.YtghgcbedajaldaaGreat
section
open Go.RowKit Digs
structure G3 (w : World) (a b c e : Value) (n d : Int) (a' b' c' e' : Value) (n' d' : Int) (W : World) : Prop where
 x : QX w.heap.size a b c e n d W
 y : QX (w.heap.size + 1) a' b' c' e' n' d' W
 z : Z4b (w.heap.size + 1 + 1) W
 below : Below w.heap.size w W
theorem G3.keep {w : World} {a b c e a' b' c' e' : Value} {n d n' d' : Int} {W W' : World} (h : G3 w a b c e n d a' b' c' e' n' d' W) (hb : Below W.heap.size W W') : G3 w a b c e n d a' b' c' e' n' d' W' :=
 ⟨h.x.keep hb, h.y.keep hb, h.z.keep hb, h.below.trans (hb.mono h.below.size)⟩
theorem G3.made {w : World} {a b c e a' b' c' e' : Value} {n d n' d' : Int} {t : TypeId} (h1 : RefV w (.agg #[a, b]) n) (h2 : RefV w (.agg #[c, e]) d) (h3 : RefV w (.agg #[a', b']) n') (h4 : RefV w (.agg #[c', e']) d') :
  G3 w a b c e n d a' b' c' e' n' d' (((w.alloc (.cells #[a, b, c, e] t)).alloc (.cells #[a', b', c', e'] t)).alloc (.cells #[.bool false, .slice none 0 0, .bool false, .slice none 0 0] t)) := by
 have hal : ∀ (W : World) (o : Obj), Below W.heap.size W (W.alloc o) := fun W o => (Below.refl _ _).alloc (Nat.le_refl _) _
 have hx := (QX.made (t := t) h1 h2).keep (hal _ (.cells #[a', b', c', e'] t))
 have hy := QX.made (w := w.alloc (.cells #[a, b, c, e] t)) (t := t) (h3.keep (hal _ _)) (h4.keep (hal _ _))
 have hz := Z4b.made (w := (w.alloc (.cells #[a, b, c, e] t)).alloc (.cells #[a', b', c', e'] t)) (t := t)
 simp only [World.size_alloc] at hy hz
 exact ⟨hx.keep (hal _ _), hy.keep (hal _ _), hz, below3w _ _ _ _⟩
theorem G3.c8 {w : World} {a b c e a' b' c' e' : Value} {n d n' d' : Int} {W : World} (h : G3 w a b c e n d a' b' c' e' n' d' W) :
  (W.cell? ⟨w.heap.size, 0, none⟩ = some a ∧ W.cell? ⟨w.heap.size, 1, none⟩ = some b ∧ W.cell? ⟨w.heap.size, 2, none⟩ = some c ∧ W.cell? ⟨w.heap.size, 3, none⟩ = some e) ∧
  W.cell? ⟨w.heap.size + 1, 0, none⟩ = some a' ∧ W.cell? ⟨w.heap.size + 1, 1, none⟩ = some b' ∧ W.cell? ⟨w.heap.size + 1, 2, none⟩ = some c' ∧ W.cell? ⟨w.heap.size + 1, 3, none⟩ = some e' := ⟨h.x.c4, h.y.c4⟩
theorem G3.c8s {w : World} {a b c e a' b' c' e' : Value} {n d n' d' : Int} {W : World} (h : G3 w a b c e n d a' b' c' e' n' d' W) {r0 r1 r2 r3 : Value} :
    (((((W.setCell ⟨w.heap.size + 1 + 1, 0, none⟩ r0).setCell ⟨w.heap.size + 1 + 1, 1, none⟩ r1).setCell ⟨w.heap.size + 1 + 1, 2, none⟩ r2).setCell ⟨w.heap.size + 1 + 1, 3, none⟩ r3).cell? ⟨w.heap.size, 0, none⟩ = some a ∧ ((((W.setCell ⟨w.heap.size + 1 + 1, 0, none⟩ r0).setCell ⟨w.heap.size + 1 + 1, 1, none⟩ r1).setCell ⟨w.heap.size + 1 + 1, 2, none⟩ r2).setCell ⟨w.heap.size + 1 + 1, 3, none⟩ r3).cell? ⟨w.heap.size, 1, none⟩ = some b ∧ ((((W.setCell ⟨w.heap.size + 1 + 1, 0, none⟩ r0).setCell ⟨w.heap.size + 1 + 1, 1, none⟩ r1).setCell ⟨w.heap.size + 1 + 1, 2, none⟩ r2).setCell ⟨w.heap.size + 1 + 1, 3, none⟩ r3).cell? ⟨w.heap.size, 2, none⟩ = some c ∧ ((((W.setCell ⟨w.heap.size + 1 + 1, 0, none⟩ r0).setCell ⟨w.heap.size + 1 + 1, 1, none⟩ r1).setCell ⟨w.heap.size + 1 + 1, 2, none⟩ r2).setCell ⟨w.heap.size + 1 + 1, 3, none⟩ r3).cell? ⟨w.heap.size, 3, none⟩ = some e) ∧
    ((((W.setCell ⟨w.heap.size + 1 + 1, 0, none⟩ r0).setCell ⟨w.heap.size + 1 + 1, 1, none⟩ r1).setCell ⟨w.heap.size + 1 + 1, 2, none⟩ r2).setCell ⟨w.heap.size + 1 + 1, 3, none⟩ r3).cell? ⟨w.heap.size + 1, 0, none⟩ = some a' ∧ ((((W.setCell ⟨w.heap.size + 1 + 1, 0, none⟩ r0).setCell ⟨w.heap.size + 1 + 1, 1, none⟩ r1).setCell ⟨w.heap.size + 1 + 1, 2, none⟩ r2).setCell ⟨w.heap.size + 1 + 1, 3, none⟩ r3).cell? ⟨w.heap.size + 1, 1, none⟩ = some b' ∧ ((((W.setCell ⟨w.heap.size + 1 + 1, 0, none⟩ r0).setCell ⟨w.heap.size + 1 + 1, 1, none⟩ r1).setCell ⟨w.heap.size + 1 + 1, 2, none⟩ r2).setCell ⟨w.heap.size + 1 + 1, 3, none⟩ r3).cell? ⟨w.heap.size + 1, 2, none⟩ = some c' ∧ ((((W.setCell ⟨w.heap.size + 1 + 1, 0, none⟩ r0).setCell ⟨w.heap.size + 1 + 1, 1, none⟩ r1).setCell ⟨w.heap.size + 1 + 1, 2, none⟩ r2).setCell ⟨w.heap.size + 1 + 1, 3, none⟩ r3).cell? ⟨w.heap.size + 1, 3, none⟩ = some e' := by
  have n1 : w.heap.size ≠ w.heap.size + 1 + 1 := by omega
  have n2 : w.heap.size + 1 ≠ w.heap.size + 1 + 1 := by omega
  exact ⟨⟨(cell_store4 n1).trans h.x.c0, (cell_store4 n1).trans h.x.c1, (cell_store4 n1).trans h.x.c2, (cell_store4 n1).trans h.x.c3⟩, (cell_store4 n2).trans h.y.c0, (cell_store4 n2).trans h.y.c1, (cell_store4 n2).trans h.y.c2, (cell_store4 n2).trans h.y.c3⟩

end
end Go.Proofs.YtghgcbedajaldaaGreat
/-  Layer 3's Short.  -/
namespace Go.Proofs.YtghgcbedajaldaaGreat
section
open Go.RowKit Digs
abbrev rowp (b1 b2 : Bool) (a1 a2 : Option Addr) (n1 n2 c1 c2 : Nat) : Obj := .cells #[.bool b1, .slice a1 n1 c1, .bool b2, .slice a2 n2 c2] 24
theorem nrowp (b1 b2 : Bool) (a1 a2 : Option Addr) (n1 n2 c1 c2 : Nat) (w : World) (h1 : n1 ≤ maxLen) (h2 : n2 ≤ maxLen) : NRow (w.alloc (rowp b1 b2 a1 a2 n1 n2 c1 c2)) w.heap.size [n1, n2] := by
 refine ⟨by simp, fun j hj => ?_⟩
 match j, hj with
 | 0, _ => exact ⟨b1, a1, c1, by rw [World.cell?_alloc_at _ _ _ _ rfl]; rfl, by rw [World.cell?_alloc_at _ _ _ _ rfl]; rfl, h1⟩
 | 1, _ => exact ⟨b2, a2, c2, by rw [World.cell?_alloc_at _ _ _ _ rfl]; rfl, by rw [World.cell?_alloc_at _ _ _ _ rfl]; rfl, h2⟩
theorem shortp (k : Nat) (b1 b2 : Bool) (a1 a2 : Option Addr) (n1 n2 c1 c2 : Nat) (w : World) (N : Nat) (hN : w.heap.size = N) (h1 : n1 ≤ maxLen) (h2 : n2 ≤ maxLen) :
  Calls Tryz.prog 12 #[.int .i64 k, .slice (some ⟨N, 0, none⟩) 2 2] (w.alloc (rowp b1 b2 a1 a2 n1 n2 c1 c2)) (BoolPost (w.alloc (rowp b1 b2 a1 a2 n1 n2 c1 c2)) (allLe [n1, n2] k)) := by
 subst hN
 exact Short_any w.heap.size k 2 [n1, n2] _ (show 2 ≤ 1000 by decide) (nrowp b1 b2 a1 a2 n1 n2 c1 c2 w h1 h2)
set_option maxHeartbeats 4000000 in
set_option maxRecDepth 100000 in
theorem qshort1_any (b1 b2 : Bool) (a1 a2 : Option Addr) (n1 n2 c1 c2 k M : Nat) (w : World) (hM : w.cell? ⟨M, 0, none⟩ = some (.int .i64 k)) (hMl : M < w.heap.size) (h1 : n1 ≤ maxLen) (h2 : n2 ≤ maxLen) :
  Calls Tryz.prog 73 #[.agg #[.bool b1, .slice a1 n1 c1, .bool b2, .slice a2 n2 c2], .pointer (some ⟨M, 0, none⟩)] w (BoolPost w (!allLe [n1, n2] k)) := by
 have hM' : ∀ o : Obj, (w.alloc o).cell? ⟨M, 0, none⟩ = some (.int .i64 k) := fun o => by rw [World.cell?_alloc_past _ _ _ hMl]; exact hM
 have HS := Lib.hid (shortp k b1 b2 a1 a2 n1 n2 c1 c2 (w.alloc (.cells #[.bool b1, .slice a1 n1 c1, .bool b2, .slice a2 n2 c2] 26)) (w.heap.size + 1) (by simp) h1 h2)
 generalize allLe [n1, n2] k = r at *
 clear h1 h2
 go_enter Tryz.func73, Tryz.ntmps73
 go_wp2_with fail
 (with_reducible refine HS.out.mono ?_)
 rintro e w1 ⟨rfl, hb⟩
 have HB := Lib.hid ((below2 w (.cells #[.bool b1, .slice a1 n1 c1, .bool b2, .slice a2 n2 c2] 26) (rowp b1 b2 a1 a2 n1 n2 c1 c2)).trans (hb.mono (by simp <;> omega)))
 clear hb
 cases r
 all_goals
  go_wp2
  go_ret
  exact ⟨rfl, HB.out⟩
def QRow (w : World) (L : Nat) (qs : List (Nat × Nat)) : Prop := L < w.heap.size ∧ ∀ j : Nat, j < qs.length → ∃ (b1 : Bool) (a1 : Option Addr) (c1 : Nat) (b2 : Bool) (a2 : Option Addr) (c2 : Nat),
 w.cell? ⟨L, j * 4, none⟩ = some (.bool b1) ∧ w.cell? ⟨L, j * 4 + 1, none⟩ = some (.slice a1 (qs[j]?.getD (0, 0)).1 c1) ∧ w.cell? ⟨L, j * 4 + 2, none⟩ = some (.bool b2) ∧ w.cell? ⟨L, j * 4 + 3, none⟩ = some (.slice a2 (qs[j]?.getD (0, 0)).2 c2) ∧
 (qs[j]?.getD (0, 0)).1 ≤ maxLen ∧ (qs[j]?.getD (0, 0)).2 ≤ maxLen
theorem QRow.keep {w w' : World} {L : Nat} {qs : List (Nat × Nat)} (h : QRow w L qs) (hb : Below w.heap.size w w') : QRow w' L qs :=
 ⟨Nat.lt_of_lt_of_le h.1 hb.size, fun j hj => by
  obtain ⟨b, ad, c, b', ad', c', h1, h2, h3, h4, h5⟩ := h.2 j hj
  exact ⟨b, ad, c, b', ad', c', (hb.cell (p := ⟨L, j * 4, none⟩) h.1).trans h1, (hb.cell (p := ⟨L, j * 4 + 1, none⟩) h.1).trans h2, (hb.cell (p := ⟨L, j * 4 + 2, none⟩) h.1).trans h3, (hb.cell (p := ⟨L, j * 4 + 3, none⟩) h.1).trans h4, h5⟩⟩
def qle (q : Nat × Nat) (k : Nat) : Bool := allLe [q.1, q.2] k
def qsLe (qs : List (Nat × Nat)) (k : Nat) : Bool := decide (∀ q : Nat, q < qs.length → qle (qs[q]?.getD (0, 0)) k = true)
def QIdxRel (qs : List (Nat × Nat)) (k : Nat) (w : World) (i : Value) (wr : World) : Prop :=
 ∃ j : Nat, i = .int .i64 j ∧ j ≤ qs.length ∧ (∀ q : Nat, q < j → qle (qs[q]?.getD (0, 0)) k = true) ∧ Below w.heap.size w wr
def QIdxPost (qs : List (Nat × Nat)) (k : Nat) (w : World) (e : Ending) (w' : World) : Prop :=
 Below w.heap.size w w' ∧ ((e = .returned (.int .i64 (-1)) ∧ ∀ q : Nat, q < qs.length → qle (qs[q]?.getD (0, 0)) k = true) ∨ ∃ q : Nat, e = .returned (.int .i64 q) ∧ q < qs.length ∧ qle (qs[q]?.getD (0, 0)) k = false)
set_option maxHeartbeats 4000000 in
set_option maxRecDepth 100000 in
theorem qindex_any (L M k c : Nat) (qs : List (Nat × Nat)) (w : World) (hl : qs.length ≤ 1000) (hr : QRow w L qs) (hM : w.cell? ⟨M, 0, none⟩ = some (.int .i64 k)) :
  Calls Tryz.prog 120 #[.slice (some ⟨L, 0, none⟩) qs.length c, .func (.func 73) #[] #[.pointer (some ⟨M, 0, none⟩)]] w (QIdxPost qs k w) := by
 have hMl := World.block_lt_of_cell? w _ hM
 have HR := Lib.hid hr
 have HM := Lib.hid hM
 clear hr hM
 go_enter Tryz.func120, Tryz.ntmps120
 go_wp2
 go_loopw [8] (QIdxRel qs k w) (fun i _ => qs.length - (intOf i).toNat)
 case atStart => exact ⟨0, rfl, Nat.zero_le _, fun q h => absurd h (Nat.not_lt_zero _), Below.refl _ _⟩
 case round =>
  obtain ⟨j, rfl, hj, hall, hnx⟩ := hrel
  have HALL := Lib.hid hall
  have HNX := Lib.hid hnx
  clear hall hnx
  by_cases hjl : j < qs.length
  ·obtain ⟨b, ad, c1, b', ad', c2, g1, g2, g3, g4, hm1, hm2⟩ := (HR.out.keep HNX.out).2 j hjl
   obtain ⟨pr, hpr⟩ : ∃ pr, pr = qs[j]?.getD (0, 0) := ⟨_, rfl⟩
   rw [← hpr] at g2 g4 hm1 hm2
   have HN := Lib.hid hpr
   have HS := Lib.hid (qshort1_any b b' ad ad' pr.1 pr.2 c1 c2 k M wr ((HNX.out.cell (p := ⟨M, 0, none⟩) hMl).trans HM.out) (Nat.lt_of_lt_of_le hMl HNX.out.size) hm1 hm2)
   have hq : allLe [pr.1, pr.2] k = qle pr k := rfl
   rw [hq] at HS
   clear hpr hm1 hm2 hq
   generalize pr.1 = m1 at *
   generalize pr.2 = m2 at *
   cases hkn : qle pr k
   ·rw [hkn] at HS
    have HK := Lib.hid hkn
    clear hkn
    simp only [Bool.not_false] at HS
    go_wp2_with fail
    refine HS.out.mono ?_
    rintro e w1 ⟨rfl, hb1⟩
    go_wp2
    go_ret
    exact ⟨HNX.out.trans (hb1.mono HNX.out.size), .inr ⟨j, rfl, hjl, by rw [← HN.out]; exact HK.out⟩⟩
   ·rw [hkn] at HS
    have HK := Lib.hid hkn
    clear hkn
    simp only [Bool.not_true] at HS
    go_wp2_with fail
    refine HS.out.mono ?_
    rintro e w1 ⟨rfl, hb1⟩
    go_wp2
    go_roundw
    case rel =>
     refine ⟨j + 1, by go_num, by omega, fun q hq => ?_, HNX.out.trans (hb1.mono HNX.out.size)⟩
     by_cases hqj : q = j
     ·rw [hqj, ← HN.out]; exact HK.out
     ·exact HALL.out q (by omega)
    case measure => simp [intOf]; omega
  ·go_wp2
   go_ret
   exact ⟨HNX.out, .inl ⟨rfl, fun q hq => HALL.out q (by omega)⟩⟩
set_option maxHeartbeats 1000000 in
set_option maxRecDepth 100000 in
theorem qcontains_any (L M k c : Nat) (qs : List (Nat × Nat)) (w : World) (hl : qs.length ≤ 1000) (hr : QRow w L qs) (hM : w.cell? ⟨M, 0, none⟩ = some (.int .i64 k)) :
  Calls Tryz.prog 72 #[.slice (some ⟨L, 0, none⟩) qs.length c, .func (.func 73) #[] #[.pointer (some ⟨M, 0, none⟩)]] w (BoolPost w (!qsLe qs k)) := by
 have HI := Lib.hid (qindex_any L M k c qs w hl hr hM)
 clear hr hM
 go_enter Tryz.func72, Tryz.ntmps72
 go_wp2_with fail
 refine HI.out.mono ?_
 rintro e w1 ⟨hb, ⟨rfl, hall⟩ | ⟨q, rfl, hq, hk⟩⟩
 ·have e : qsLe qs k = true := decide_eq_true hall
  have E := Lib.hid e
  clear hall e
  go_wp2
  go_ret
  exact ⟨by rw [E.out]; rfl, hb⟩
 ·have e : qsLe qs k = false := decide_eq_false (fun h => by have := h q hq; rw [hk] at this; cases this)
  have E := Lib.hid e
  clear hk e
  go_wp2
  go_ret
  exact ⟨by rw [E.out]; rfl, hb⟩
set_option maxHeartbeats 1000000 in
set_option maxRecDepth 100000 in
theorem qShort_any (L k c : Nat) (qs : List (Nat × Nat)) (w : World) (hl : qs.length ≤ 1000) (hr : QRow w L qs) :
  Calls Tryz.prog 13 #[.int .i64 k, .slice (some ⟨L, 0, none⟩) qs.length c] w (BoolPost w (qsLe qs k)) := by
 have hmf : ∀ (fn : Fn) (first cap : Array Value) (w : World), (Instr.makeFunc fn first cap).run Tryz.prog w = .ok (.func fn first cap) w := fun _ _ _ _ => rfl
 have HC := Lib.hid (qcontains_any L w.heap.size k c qs (w.alloc (.cells #[.int .i64 k] 3)) hl (hr.keep ((Below.refl _ _).alloc (Nat.le_refl _) _)) (by rw [World.cell?_alloc_at _ _ _ _ rfl]; rfl))
 clear hr
 generalize qsLe qs k = b at *
 go_enter Tryz.func13, Tryz.ntmps13
 go_wp2_with fail
 refine HC.out.mono ?_
 rintro e w1 ⟨rfl, hb⟩
 cases b
 all_goals
  go_wp2
  go_ret
  exact ⟨rfl, ((Below.refl _ _).alloc (Nat.le_refl _) _).trans (hb.mono (by simp))⟩
end
end Go.Proofs.YtghgcbedajaldaaGreat
/-  Fractions: the program's Cmp.  -/
namespace Go.Proofs.YtghgcbedajaldaaGreat
section
open Go.RowKit Digs
structure G2 (w : World) (a b c d a' b' c' d' : Value) (W : World) : Prop where
 a0 : W.cell? ⟨w.heap.size, 0, none⟩ = some a
 a1 : W.cell? ⟨w.heap.size, 1, none⟩ = some b
 a2 : W.cell? ⟨w.heap.size, 2, none⟩ = some c
 a3 : W.cell? ⟨w.heap.size, 3, none⟩ = some d
 b0 : W.cell? ⟨w.heap.size + 1, 0, none⟩ = some a'
 b1 : W.cell? ⟨w.heap.size + 1, 1, none⟩ = some b'
 b2 : W.cell? ⟨w.heap.size + 1, 2, none⟩ = some c'
 b3 : W.cell? ⟨w.heap.size + 1, 3, none⟩ = some d'
 below : Below w.heap.size w W
theorem G2.made {w : World} {a b c d a' b' c' d' : Value} {t : TypeId} {W : World} (h : Below ((w.alloc (.cells #[a, b, c, d] t)).alloc (.cells #[a', b', c', d'] t)).heap.size ((w.alloc (.cells #[a, b, c, d] t)).alloc (.cells #[a', b', c', d'] t)) W) : G2 w a b c d a' b' c' d' W := by
 have h4 := cells4 h
 simp only [World.size_alloc] at h4
 have hx := cells4l h
 exact ⟨hx.1, hx.2.1, hx.2.2.1, hx.2.2.2, h4.1, h4.2.1, h4.2.2.1, h4.2.2.2.1, (below2 w _ _).trans (h.mono (by simp <;> omega))⟩
set_option maxHeartbeats 8000000 in
set_option maxRecDepth 100000 in
theorem ratCmp_any (n1 d1 n2 d2 : Int) (v1 v2 : Value) (w : World) (hd1 : 0 < d1) (hd2 : 0 < d2) (l1 : len n1 ≤ 1000000) (l2 : len d1 ≤ 1000000) (l3 : len n2 ≤ 1000000) (l4 : len d2 ≤ 1000000) (h1 : RatV w v1 n1 d1) (h2 : RatV w v2 n2 d2) :
  Calls Tryz.prog 26 #[v1, v2] w fun e w' => e = .returned (.int .i64 (cmpZ (n1 * d2) (n2 * d1))) ∧ Below w.heap.size w w' := by
 have HX := Lib.hid h1
 have HY := Lib.hid h2
 obtain ⟨a, b, c, e, rfl, q1, q2⟩ := h1
 obtain ⟨a', b', c', e', rfl, q3, q4⟩ := h2
 obtain ⟨p1, ad1, k1, c1, rfl, rfl, _⟩ := q1.parts
 obtain ⟨p2, ad2, k2, c2, rfl, rfl, _⟩ := q2.parts
 obtain ⟨p3, ad3, k3, c3, rfl, rfl, _⟩ := q3.parts
 obtain ⟨p4, ad4, k4, c4, rfl, rfl, _⟩ := q4.parts
 have HXn := Lib.hid q1
 have HYn := Lib.hid q3
 clear q1 q2 q3 q4
 have HD1 := Lib.hid fun W u h => Lib.hid (den_any n1 d1 u W hd1 l2 h)
 have HD2 := Lib.hid fun W u h => Lib.hid (den_any n2 d2 u W hd2 l4 h)
 have HM1 := Lib.hid fun W u v h h' => Lib.hid (Mul_any n1 d2 u v W l1 l4 h h')
 have HM2 := Lib.hid fun W u v h h' => Lib.hid (Mul_any n2 d1 u v W l3 l2 h h')
 have HC := Lib.hid fun W u v h h' => Lib.hid (Cmp_any (n1 * d2) (n2 * d1) u v W h h')
 clear hd1 hd2 l1 l2 l3 l4
 generalize cmpZ (n1 * d2) (n2 * d1) = cz at *
 generalize n1 * d2 = m1 at *
 generalize n2 * d1 = m2 at *
 go_enter Tryz.func26, Tryz.ntmps26
 have HB0 := Lib.hid (fun W h => G2.made (w := w) (a := .bool p1) (b := .slice ad1 k1 c1) (c := .bool p2) (d := .slice ad2 k2 c2) (a' := .bool p3) (b' := .slice ad3 k3 c3) (c' := .bool p4) (d' := .slice ad4 k4 c4) (t := 38) (W := W) h)
 go_upto_region 1 with fail
 have hc0 := (Below.refl ((w.alloc (.cells #[.bool p1, .slice ad1 k1 c1, .bool p2, .slice ad2 k2 c2] 38)).alloc (.cells #[.bool p3, .slice ad3 k3 c3, .bool p4, .slice ad4 k4 c4] 38)).heap.size ((w.alloc (.cells #[.bool p1, .slice ad1 k1 c1, .bool p2, .slice ad2 k2 c2] 38)).alloc (.cells #[.bool p3, .slice ad3 k3 c3, .bool p4, .slice ad4 k4 c4] 38))).drew
 have hb0 := HB0.out _ hc0
 go_region_held3 (fun w' => (w'.cell? ⟨w.heap.size, 0, none⟩ = some (.bool p1) ∧ w'.cell? ⟨w.heap.size, 1, none⟩ = some (.slice ad1 k1 c1) ∧ w'.cell? ⟨w.heap.size, 2, none⟩ = some (.bool p2) ∧ w'.cell? ⟨w.heap.size, 3, none⟩ = some (.slice ad2 k2 c2)) ∧ w'.cell? ⟨w.heap.size + 1, 0, none⟩ = some (.bool p3) ∧ w'.cell? ⟨w.heap.size + 1, 1, none⟩ = some (.slice ad3 k3 c3) ∧ w'.cell? ⟨w.heap.size + 1, 2, none⟩ = some (.bool p4) ∧ w'.cell? ⟨w.heap.size + 1, 3, none⟩ = some (.slice ad4 k4 c4))
  (first | exact ⟨⟨hb5.a0, hb5.a1, hb5.a2, hb5.a3⟩, hb5.b0, hb5.b1, hb5.b2, hb5.b3⟩ | exact ⟨⟨hb4.a0, hb4.a1, hb4.a2, hb4.a3⟩, hb4.b0, hb4.b1, hb4.b2, hb4.b3⟩ | exact ⟨⟨hb3.a0, hb3.a1, hb3.a2, hb3.a3⟩, hb3.b0, hb3.b1, hb3.b2, hb3.b3⟩ | exact ⟨⟨hb2.a0, hb2.a1, hb2.a2, hb2.a3⟩, hb2.b0, hb2.b1, hb2.b2, hb2.b3⟩ | exact ⟨⟨hb1.a0, hb1.a1, hb1.a2, hb1.a3⟩, hb1.b0, hb1.b1, hb1.b2, hb1.b3⟩ | exact ⟨⟨hb0.a0, hb0.a1, hb0.a2, hb0.a3⟩, hb0.b0, hb0.b1, hb0.b2, hb0.b3⟩ | go_keep)
  (go_loud (first
  | (go_at_call 67; (with_reducible refine (HD2.out _ _ (HY.out.keep hb0.below)).out.mono ?_); rintro e wA ⟨vA, rfl, hiA, hbA⟩; have hc1 := hc0.trans (hbA.mono hc0.size); have hb1 := HB0.out _ hc1)
  | (go_at_call 84; (with_reducible refine (HM1.out _ _ _ (HXn.out.keep hb1.below) hiA).out.mono ?_); rintro e wB ⟨vB, rfl, hiB, hbB⟩; have hc2 := hc1.trans (hbB.mono hc1.size); have hb2 := HB0.out _ hc2)
  | (go_at_call 67; (with_reducible refine (HD1.out _ _ (HX.out.keep hb2.below)).out.mono ?_); rintro e wC ⟨vC, rfl, hiC, hbC⟩; have hc3 := hc2.trans (hbC.mono hc2.size); have hb3 := HB0.out _ hc3; have hiB3 := hiB.keep hbC)
  | (go_at_call 84; (with_reducible refine (HM2.out _ _ _ (HYn.out.keep hb3.below) hiC).out.mono ?_); rintro e wD ⟨vD, rfl, hiD, hbD⟩; have hc4 := hc3.trans (hbD.mono hc3.size); have hb4 := HB0.out _ hc4; have hiB4 := hiB3.keep hbD)
  | (go_at_call 63; (with_reducible refine (HC.out _ _ _ hiB4 hiD).out.mono ?_); rintro e wE ⟨rfl, hbE⟩; have hc5 := hc4.trans (hbE.mono hc4.size); have hb5 := HB0.out _ hc5)))
 all_goals
  have HBL := Lib.hid hb5.below
  go_wp2
  go_ret
  exact ⟨rfl, HBL.out⟩
end
end Go.Proofs.YtghgcbedajaldaaGreat
/-  Layer 3's Is.  -/
namespace Go.Proofs.YtghgcbedajaldaaGreat
section
open Go.RowKit Digs
theorem ratv_shape {w : World} {v : Value} {n d : Int} (h : RatV w v n d) : ∃ (p : Bool) (ad : Option Addr) (m c : Nat) (p2 : Bool) (ad2 : Option Addr) (m2 c2 : Nat), v = .agg #[.bool p, .slice ad m c, .bool p2, .slice ad2 m2 c2] := by
 obtain ⟨a, b, c, e, rfl, h1, h2⟩ := h
 obtain ⟨p1, ad1, n1, c1, rfl, rfl, _⟩ := h1.parts
 obtain ⟨p2, ad2, n2, c2, rfl, rfl, _⟩ := h2.parts
 exact ⟨_, _, _, _, _, _, _, _, rfl⟩
structure PX (p : Nat) (a b c e : Value) (n d : Int) (W : World) : Prop where
 c0 : W.cell? ⟨p, 0, none⟩ = some a
 c1 : W.cell? ⟨p, 1, none⟩ = some b
 c2 : W.cell? ⟨p, 2, none⟩ = some c
 c3 : W.cell? ⟨p, 3, none⟩ = some e
 f0 : W.frozen? ⟨p, 0, none⟩ = false
 f1 : W.frozen? ⟨p, 1, none⟩ = false
 f2 : W.frozen? ⟨p, 2, none⟩ = false
 f3 : W.frozen? ⟨p, 3, none⟩ = false
 rv : RatV W (.agg #[a, b, c, e]) n d
theorem PX.lt {p : Nat} {a b c e : Value} {n d : Int} {W : World} (h : PX p a b c e n d W) : p < W.heap.size := World.block_lt_of_cell? W _ h.c0
theorem PX.keep {p : Nat} {a b c e : Value} {n d : Int} {W W' : World} (h : PX p a b c e n d W) (hb : Below W.heap.size W W') : PX p a b c e n d W' :=
 ⟨(hb.cell (p := ⟨p, 0, none⟩) h.lt).trans h.c0, (hb.cell (p := ⟨p, 1, none⟩) h.lt).trans h.c1, (hb.cell (p := ⟨p, 2, none⟩) h.lt).trans h.c2, (hb.cell (p := ⟨p, 3, none⟩) h.lt).trans h.c3,
  (hb.frozen (p := ⟨p, 0, none⟩) h.lt).trans h.f0, (hb.frozen (p := ⟨p, 1, none⟩) h.lt).trans h.f1, (hb.frozen (p := ⟨p, 2, none⟩) h.lt).trans h.f2, (hb.frozen (p := ⟨p, 3, none⟩) h.lt).trans h.f3, h.rv.keep hb⟩
theorem PX.made {w : World} {a b c e : Value} {n d : Int} {t : TypeId} (h1 : RatV w (.agg #[a, b, c, e]) n d) : PX w.heap.size a b c e n d (w.alloc (.cells #[a, b, c, e] t)) := by
 have h := cells4 (w := w) (a := a) (b := b) (c := c) (d := e) (t := t) (Below.refl _ _)
 have hb := (Below.refl w.heap.size w).alloc (Nat.le_refl _) (.cells #[a, b, c, e] t)
 exact ⟨h.1, h.2.1, h.2.2.1, h.2.2.2.1, h.2.2.2.2.1, h.2.2.2.2.2.1, h.2.2.2.2.2.2.1, h.2.2.2.2.2.2.2.1, h1.keep hb⟩
theorem PX.c4 {p : Nat} {a b c e : Value} {n d : Int} {W : World} (h : PX p a b c e n d W) : W.cell? ⟨p, 0, none⟩ = some a ∧ W.cell? ⟨p, 1, none⟩ = some b ∧ W.cell? ⟨p, 2, none⟩ = some c ∧ W.cell? ⟨p, 3, none⟩ = some e := ⟨h.c0, h.c1, h.c2, h.c3⟩
structure PQ (p q : Nat) (a b c e a' b' c' e' : Value) (n d : Int) (W : World) : Prop where
 x : PX p a b c e n d W
 y : QX q a' b' c' e' n d W
theorem PQ.keep {p q : Nat} {a b c e a' b' c' e' : Value} {n d : Int} {W W' : World} (h : PQ p q a b c e a' b' c' e' n d W) (hb : Below W.heap.size W W') : PQ p q a b c e a' b' c' e' n d W' := ⟨h.x.keep hb, h.y.keep hb⟩
theorem PQ.c8 {p q : Nat} {a b c e a' b' c' e' : Value} {n d : Int} {W : World} (h : PQ p q a b c e a' b' c' e' n d W) :
  (W.cell? ⟨p, 0, none⟩ = some a ∧ W.cell? ⟨p, 1, none⟩ = some b ∧ W.cell? ⟨p, 2, none⟩ = some c ∧ W.cell? ⟨p, 3, none⟩ = some e) ∧
  W.cell? ⟨q, 0, none⟩ = some a' ∧ W.cell? ⟨q, 1, none⟩ = some b' ∧ W.cell? ⟨q, 2, none⟩ = some c' ∧ W.cell? ⟨q, 3, none⟩ = some e' := ⟨h.x.c4, h.y.c4⟩
end
end Go.Proofs.YtghgcbedajaldaaGreat
