/-  Layer 3's Is.  -/
import Derived.Test.YtiegkjfpdiohkaaGreatR4
import Derived.Test.YtiegkjfpdiohkaaGreatQ7
import Derived.Test.YtiegkjfpdiohkaaGreatQ8
import Derived.Test.YtiegkjfpdiohkaaGreatPowers
import Derived.Test.YtiegkjfpdiohkaaGreatRingA
import Derived.Test.YtiegkjfpdiohkaaGreatRMk
import Derived.Test.YtiegkjfpdiohkaaGreatQk
namespace Go.Proofs.YtiegkjfpdiohkaaGreat
section
open Go.RowKit Digs

theorem ratv_shape {w : World} {v : Value} {n d : Int} (h : RatV w v n d) : ∃ (p : Bool) (ad : Option Addr) (m c : Nat) (p2 : Bool) (ad2 : Option Addr) (m2 c2 : Nat), v = .agg #[.bool p, .slice ad m c, .bool p2, .slice ad2 m2 c2] := by
  obtain ⟨a, b, c, e, rfl, h1, h2⟩ := h
  obtain ⟨p1, ad1, n1, c1, rfl, rfl, _⟩ := h1.parts
  obtain ⟨p2, ad2, n2, c2, rfl, rfl, _⟩ := h2.parts
  exact ⟨_, _, _, _, _, _, _, _, rfl⟩

/-- A box of the program's fraction. -/
structure PX (p : Nat) (a b c e : Value) (n d : Int) (W : World) : Prop where
  c0 : W.cell? ⟨p, 0, none⟩ = some a
  c1 : W.cell? ⟨p, 1, none⟩ = some b
  c2 : W.cell? ⟨p, 2, none⟩ = some c
  c3 : W.cell? ⟨p, 3, none⟩ = some e
  f0 : W.frozen? ⟨p, 0, none⟩ = false
  f1 : W.frozen? ⟨p, 1, none⟩ = false
  f2 : W.frozen? ⟨p, 2, none⟩ = false
  f3 : W.frozen? ⟨p, 3, none⟩ = false
  rv : RatV W (.agg #[a, b, c, e]) n d
theorem PX.lt {p : Nat} {a b c e : Value} {n d : Int} {W : World} (h : PX p a b c e n d W) : p < W.heap.size := World.block_lt_of_cell? W _ h.c0
theorem PX.keep {p : Nat} {a b c e : Value} {n d : Int} {W W' : World} (h : PX p a b c e n d W) (hb : Below W.heap.size W W') : PX p a b c e n d W' :=
  ⟨(hb.cell (p := ⟨p, 0, none⟩) h.lt).trans h.c0, (hb.cell (p := ⟨p, 1, none⟩) h.lt).trans h.c1, (hb.cell (p := ⟨p, 2, none⟩) h.lt).trans h.c2, (hb.cell (p := ⟨p, 3, none⟩) h.lt).trans h.c3,
    (hb.frozen (p := ⟨p, 0, none⟩) h.lt).trans h.f0, (hb.frozen (p := ⟨p, 1, none⟩) h.lt).trans h.f1, (hb.frozen (p := ⟨p, 2, none⟩) h.lt).trans h.f2, (hb.frozen (p := ⟨p, 3, none⟩) h.lt).trans h.f3, h.rv.keep hb⟩
theorem PX.made {w : World} {a b c e : Value} {n d : Int} {t : TypeId} (h1 : RatV w (.agg #[a, b, c, e]) n d) : PX w.heap.size a b c e n d (w.alloc (.cells #[a, b, c, e] t)) := by
  have h := cells4 (w := w) (a := a) (b := b) (c := c) (d := e) (t := t) (Below.refl _ _)
  have hb := (Below.refl w.heap.size w).alloc (Nat.le_refl _) (.cells #[a, b, c, e] t)
  exact ⟨h.1, h.2.1, h.2.2.1, h.2.2.2.1, h.2.2.2.2.1, h.2.2.2.2.2.1, h.2.2.2.2.2.2.1, h.2.2.2.2.2.2.2.1, h1.keep hb⟩
theorem PX.c4 {p : Nat} {a b c e : Value} {n d : Int} {W : World} (h : PX p a b c e n d W) : W.cell? ⟨p, 0, none⟩ = some a ∧ W.cell? ⟨p, 1, none⟩ = some b ∧ W.cell? ⟨p, 2, none⟩ = some c ∧ W.cell? ⟨p, 3, none⟩ = some e := ⟨h.c0, h.c1, h.c2, h.c3⟩

structure PQ (p q : Nat) (a b c e a' b' c' e' : Value) (n d : Int) (W : World) : Prop where
  x : PX p a b c e n d W
  y : QX q a' b' c' e' n d W
theorem PQ.keep {p q : Nat} {a b c e a' b' c' e' : Value} {n d : Int} {W W' : World} (h : PQ p q a b c e a' b' c' e' n d W) (hb : Below W.heap.size W W') : PQ p q a b c e a' b' c' e' n d W' := ⟨h.x.keep hb, h.y.keep hb⟩
theorem PQ.c8 {p q : Nat} {a b c e a' b' c' e' : Value} {n d : Int} {W : World} (h : PQ p q a b c e a' b' c' e' n d W) :
    (W.cell? ⟨p, 0, none⟩ = some a ∧ W.cell? ⟨p, 1, none⟩ = some b ∧ W.cell? ⟨p, 2, none⟩ = some c ∧ W.cell? ⟨p, 3, none⟩ = some e) ∧
    W.cell? ⟨q, 0, none⟩ = some a' ∧ W.cell? ⟨q, 1, none⟩ = some b' ∧ W.cell? ⟨q, 2, none⟩ = some c' ∧ W.cell? ⟨q, 3, none⟩ = some e' := ⟨h.x.c4, h.y.c4⟩

set_option maxHeartbeats 8000000 in
set_option maxRecDepth 100000 in
theorem rqIs_any (n d : Int) (v u : Value) (w : World) (hd0 : 0 < d) (l1 : Bd 100 n) (l2 : Bd 100 d) (h1 : RatV w v n d) (h2 : RQV w u n d) :
    Calls Tryz.prog 19 #[v, u] w (BoolPost w true) := by
  obtain ⟨p1, ad1, k1, c1, p2, ad2, k2, c2, rfl⟩ := ratv_shape h1
  obtain ⟨p3, ad3, k3, c3, p4, ad4, k4, c4, rfl, q3, q4⟩ := rqv_shape h2
  have HN := Lib.hid fun W u h => Lib.hid (ratNum_any n d u W h)
  have HD := Lib.hid fun W u h => Lib.hid (den_any n d u W hd0 (len_le (by decide) l2) h)
  have HI1 := Lib.hid fun W u v h h' => Lib.hid (is_same n u v W (len_le (by decide) l1) (rlen_bd l1 (by decide)) h h')
  have HI2 := Lib.hid fun W u v h h' => Lib.hid (is_same d u v W (len_le (by decide) l2) (rlen_bd l2 (by decide)) h h')
  have hy := QX.made (w := w.alloc (.cells #[.bool p1, .slice ad1 k1 c1, .bool p2, .slice ad2 k2 c2] 38)) (t := 43) (q3.keep ((Below.refl _ _).alloc (Nat.le_refl _) _)) (q4.keep ((Below.refl _ _).alloc (Nat.le_refl _) _))
  simp only [World.size_alloc] at hy
  have HX0 := Lib.hid (PQ.mk ((PX.made (t := 38) h1).keep ((Below.refl _ _).alloc (Nat.le_refl _) (.cells #[.bool p3, .slice ad3 k3 c3, .bool p4, .slice ad4 k4 c4] 43))) hy |>.keep (Below.refl _ _).drew)
  have HB0 := Lib.hid (below2 w (.cells #[.bool p1, .slice ad1 k1 c1, .bool p2, .slice ad2 k2 c2] 38) (.cells #[.bool p3, .slice ad3 k3 c3, .bool p4, .slice ad4 k4 c4] 43)).drew
  clear hd0 l1 l2 h1 h2 q3 q4 hy
  go_enter Tryz.func19, Tryz.ntmps19
  go_upto_region 1 with fail
  have hx0 := HX0.out
  have hb0 := HB0.out
  clear HX0 HB0
  go_region_held3 (fun w' => (w'.cell? ⟨w.heap.size, 0, none⟩ = some (.bool p1) ∧ w'.cell? ⟨w.heap.size, 1, none⟩ = some (.slice ad1 k1 c1) ∧ w'.cell? ⟨w.heap.size, 2, none⟩ = some (.bool p2) ∧ w'.cell? ⟨w.heap.size, 3, none⟩ = some (.slice ad2 k2 c2)) ∧ w'.cell? ⟨w.heap.size + 1, 0, none⟩ = some (.bool p3) ∧ w'.cell? ⟨w.heap.size + 1, 1, none⟩ = some (.slice ad3 k3 c3) ∧ w'.cell? ⟨w.heap.size + 1, 2, none⟩ = some (.bool p4) ∧ w'.cell? ⟨w.heap.size + 1, 3, none⟩ = some (.slice ad4 k4 c4))
    (first | with_reducible exact hx4.c8 | with_reducible exact hx3.c8 | with_reducible exact hx2.c8 | with_reducible exact hx1.c8 | with_reducible exact hx0.c8 | go_keep)
    (go_loud (first
    | (go_at_call 68; (with_reducible refine (HN.out _ _ hx0.x.rv).out.mono ?_); rintro e wA ⟨vA, rfl, hiA, hbA⟩; have hx1 := hx0.keep hbA; have hb1 := hb0.trans (hbA.mono hb0.size))
    | (go_at_call 48; (with_reducible refine (HI1.out _ _ _ hiA hx1.y.n).out.mono ?_); rintro e wB ⟨rfl, hbB⟩; have hx2 := hx1.keep hbB; have hb2 := hb1.trans (hbB.mono hb1.size))
    | (go_at_call 67; (with_reducible refine (HD.out _ _ hx2.x.rv).out.mono ?_); rintro e wC ⟨vC, rfl, hiC, hbC⟩; have hx3 := hx2.keep hbC; have hb3 := hb2.trans (hbC.mono hb2.size))
    | (go_at_call 48; (with_reducible refine (HI2.out _ _ _ hiC hx3.y.d).out.mono ?_); rintro e wD ⟨rfl, hbD⟩; have hx4 := hx3.keep hbD; have hb4 := hb3.trans (hbD.mono hb3.size))))
  all_goals
    have HBL := Lib.hid hb4
    go_wp2
    go_ret
    exact ⟨rfl, HBL.out⟩

end
end Go.Proofs.YtiegkjfpdiohkaaGreat

namespace Go.Proofs.YtiegkjfpdiohkaaGreat
section
open Go.RowKit Digs

abbrev rowp (b1 b2 : Bool) (a1 a2 : Option Addr) (n1 n2 c1 c2 : Nat) : Obj := .cells #[.bool b1, .slice a1 n1 c1, .bool b2, .slice a2 n2 c2] 24
theorem nrowp (b1 b2 : Bool) (a1 a2 : Option Addr) (n1 n2 c1 c2 : Nat) (w : World) (h1 : n1 ≤ maxLen) (h2 : n2 ≤ maxLen) : NRow (w.alloc (rowp b1 b2 a1 a2 n1 n2 c1 c2)) w.heap.size [n1, n2] := by
  refine ⟨by simp, fun j hj => ?_⟩
  match j, hj with
  | 0, _ => exact ⟨b1, a1, c1, by rw [World.cell?_alloc_at _ _ _ _ rfl]; rfl, by rw [World.cell?_alloc_at _ _ _ _ rfl]; rfl, h1⟩
  | 1, _ => exact ⟨b2, a2, c2, by rw [World.cell?_alloc_at _ _ _ _ rfl]; rfl, by rw [World.cell?_alloc_at _ _ _ _ rfl]; rfl, h2⟩

/-- Short of two numbers of a row that is laid just now. -/
theorem shortp (k : Nat) (b1 b2 : Bool) (a1 a2 : Option Addr) (n1 n2 c1 c2 : Nat) (w : World) (N : Nat) (hN : w.heap.size = N) (h1 : n1 ≤ maxLen) (h2 : n2 ≤ maxLen) :
    Calls Tryz.prog 12 #[.int .i64 k, .slice (some ⟨N, 0, none⟩) 2 2] (w.alloc (rowp b1 b2 a1 a2 n1 n2 c1 c2)) (BoolPost (w.alloc (rowp b1 b2 a1 a2 n1 n2 c1 c2)) (allLe [n1, n2] k)) := by
  subst hN
  exact Short_any w.heap.size k 2 [n1, n2] _ (show 2 ≤ 1000 by decide) (nrowp b1 b2 a1 a2 n1 n2 c1 c2 w h1 h2)

set_option maxHeartbeats 4000000 in
set_option maxRecDepth 100000 in
theorem qshort1_any (b1 b2 : Bool) (a1 a2 : Option Addr) (n1 n2 c1 c2 k M : Nat) (w : World) (hM : w.cell? ⟨M, 0, none⟩ = some (.int .i64 k)) (hMl : M < w.heap.size) (h1 : n1 ≤ maxLen) (h2 : n2 ≤ maxLen) :
    Calls Tryz.prog 73 #[.agg #[.bool b1, .slice a1 n1 c1, .bool b2, .slice a2 n2 c2], .pointer (some ⟨M, 0, none⟩)] w (BoolPost w (!allLe [n1, n2] k)) := by
  have hM' : ∀ o : Obj, (w.alloc o).cell? ⟨M, 0, none⟩ = some (.int .i64 k) := fun o => by rw [World.cell?_alloc_past _ _ _ hMl]; exact hM
  have HS := Lib.hid (shortp k b1 b2 a1 a2 n1 n2 c1 c2 (w.alloc (.cells #[.bool b1, .slice a1 n1 c1, .bool b2, .slice a2 n2 c2] 26)) (w.heap.size + 1) (by simp) h1 h2)
  generalize allLe [n1, n2] k = r at *
  clear h1 h2
  go_enter Tryz.func73, Tryz.ntmps73
  go_wp2_with fail
  (with_reducible refine HS.out.mono ?_)
  rintro e w1 ⟨rfl, hb⟩
  have HB := Lib.hid ((below2 w (.cells #[.bool b1, .slice a1 n1 c1, .bool b2, .slice a2 n2 c2] 26) (rowp b1 b2 a1 a2 n1 n2 c1 c2)).trans (hb.mono (by simp <;> omega)))
  clear hb
  cases r
  all_goals
    go_wp2
    go_ret
    exact ⟨rfl, HB.out⟩

/-- A row of fractions as plain data: four cells each. -/
def QRow (w : World) (L : Nat) (qs : List (Nat × Nat)) : Prop := L < w.heap.size ∧ ∀ j : Nat, j < qs.length → ∃ (b1 : Bool) (a1 : Option Addr) (c1 : Nat) (b2 : Bool) (a2 : Option Addr) (c2 : Nat),
  w.cell? ⟨L, j * 4, none⟩ = some (.bool b1) ∧ w.cell? ⟨L, j * 4 + 1, none⟩ = some (.slice a1 (qs[j]?.getD (0, 0)).1 c1) ∧ w.cell? ⟨L, j * 4 + 2, none⟩ = some (.bool b2) ∧ w.cell? ⟨L, j * 4 + 3, none⟩ = some (.slice a2 (qs[j]?.getD (0, 0)).2 c2) ∧
  (qs[j]?.getD (0, 0)).1 ≤ maxLen ∧ (qs[j]?.getD (0, 0)).2 ≤ maxLen
theorem QRow.keep {w w' : World} {L : Nat} {qs : List (Nat × Nat)} (h : QRow w L qs) (hb : Below w.heap.size w w') : QRow w' L qs :=
  ⟨Nat.lt_of_lt_of_le h.1 hb.size, fun j hj => by
    obtain ⟨b, ad, c, b', ad', c', h1, h2, h3, h4, h5⟩ := h.2 j hj
    exact ⟨b, ad, c, b', ad', c', (hb.cell (p := ⟨L, j * 4, none⟩) h.1).trans h1, (hb.cell (p := ⟨L, j * 4 + 1, none⟩) h.1).trans h2, (hb.cell (p := ⟨L, j * 4 + 2, none⟩) h.1).trans h3, (hb.cell (p := ⟨L, j * 4 + 3, none⟩) h.1).trans h4, h5⟩⟩

def qle (q : Nat × Nat) (k : Nat) : Bool := allLe [q.1, q.2] k
def qsLe (qs : List (Nat × Nat)) (k : Nat) : Bool := decide (∀ q : Nat, q < qs.length → qle (qs[q]?.getD (0, 0)) k = true)
def QIdxRel (qs : List (Nat × Nat)) (k : Nat) (w : World) (i : Value) (wr : World) : Prop :=
  ∃ j : Nat, i = .int .i64 j ∧ j ≤ qs.length ∧ (∀ q : Nat, q < j → qle (qs[q]?.getD (0, 0)) k = true) ∧ Below w.heap.size w wr
def QIdxPost (qs : List (Nat × Nat)) (k : Nat) (w : World) (e : Ending) (w' : World) : Prop :=
  Below w.heap.size w w' ∧ ((e = .returned (.int .i64 (-1)) ∧ ∀ q : Nat, q < qs.length → qle (qs[q]?.getD (0, 0)) k = true) ∨ ∃ q : Nat, e = .returned (.int .i64 q) ∧ q < qs.length ∧ qle (qs[q]?.getD (0, 0)) k = false)

set_option maxHeartbeats 4000000 in
set_option maxRecDepth 100000 in
theorem qindex_any (L M k c : Nat) (qs : List (Nat × Nat)) (w : World) (hl : qs.length ≤ 1000) (hr : QRow w L qs) (hM : w.cell? ⟨M, 0, none⟩ = some (.int .i64 k)) :
    Calls Tryz.prog 120 #[.slice (some ⟨L, 0, none⟩) qs.length c, .func (.func 73) #[] #[.pointer (some ⟨M, 0, none⟩)]] w (QIdxPost qs k w) := by
  have hMl := World.block_lt_of_cell? w _ hM
  have HR := Lib.hid hr
  have HM := Lib.hid hM
  clear hr hM
  go_enter Tryz.func120, Tryz.ntmps120
  go_wp2
  go_loopw [8] (QIdxRel qs k w) (fun i _ => qs.length - (intOf i).toNat)
  case atStart => exact ⟨0, rfl, Nat.zero_le _, fun q h => absurd h (Nat.not_lt_zero _), Below.refl _ _⟩
  case round =>
    obtain ⟨j, rfl, hj, hall, hnx⟩ := hrel
    have HALL := Lib.hid hall
    have HNX := Lib.hid hnx
    clear hall hnx
    by_cases hjl : j < qs.length
    · obtain ⟨b, ad, c1, b', ad', c2, g1, g2, g3, g4, hm1, hm2⟩ := (HR.out.keep HNX.out).2 j hjl
      obtain ⟨pr, hpr⟩ : ∃ pr, pr = qs[j]?.getD (0, 0) := ⟨_, rfl⟩
      rw [← hpr] at g2 g4 hm1 hm2
      have HN := Lib.hid hpr
      have HS := Lib.hid (qshort1_any b b' ad ad' pr.1 pr.2 c1 c2 k M wr ((HNX.out.cell (p := ⟨M, 0, none⟩) hMl).trans HM.out) (Nat.lt_of_lt_of_le hMl HNX.out.size) hm1 hm2)
      have hq : allLe [pr.1, pr.2] k = qle pr k := rfl
      rw [hq] at HS
      clear hpr hm1 hm2 hq
      generalize pr.1 = m1 at *
      generalize pr.2 = m2 at *
      cases hkn : qle pr k
      · rw [hkn] at HS
        have HK := Lib.hid hkn
        clear hkn
        simp only [Bool.not_false] at HS
        go_wp2_with fail
        refine HS.out.mono ?_
        rintro e w1 ⟨rfl, hb1⟩
        go_wp2
        go_ret
        exact ⟨HNX.out.trans (hb1.mono HNX.out.size), .inr ⟨j, rfl, hjl, by rw [← HN.out]; exact HK.out⟩⟩
      · rw [hkn] at HS
        have HK := Lib.hid hkn
        clear hkn
        simp only [Bool.not_true] at HS
        go_wp2_with fail
        refine HS.out.mono ?_
        rintro e w1 ⟨rfl, hb1⟩
        go_wp2
        go_roundw
        case rel =>
          refine ⟨j + 1, by go_num, by omega, fun q hq => ?_, HNX.out.trans (hb1.mono HNX.out.size)⟩
          by_cases hqj : q = j
          · rw [hqj, ← HN.out]; exact HK.out
          · exact HALL.out q (by omega)
        case measure => simp [intOf]; omega
    · go_wp2
      go_ret
      exact ⟨HNX.out, .inl ⟨rfl, fun q hq => HALL.out q (by omega)⟩⟩

set_option maxHeartbeats 1000000 in
set_option maxRecDepth 100000 in
theorem qcontains_any (L M k c : Nat) (qs : List (Nat × Nat)) (w : World) (hl : qs.length ≤ 1000) (hr : QRow w L qs) (hM : w.cell? ⟨M, 0, none⟩ = some (.int .i64 k)) :
    Calls Tryz.prog 72 #[.slice (some ⟨L, 0, none⟩) qs.length c, .func (.func 73) #[] #[.pointer (some ⟨M, 0, none⟩)]] w (BoolPost w (!qsLe qs k)) := by
  have HI := Lib.hid (qindex_any L M k c qs w hl hr hM)
  clear hr hM
  go_enter Tryz.func72, Tryz.ntmps72
  go_wp2_with fail
  refine HI.out.mono ?_
  rintro e w1 ⟨hb, ⟨rfl, hall⟩ | ⟨q, rfl, hq, hk⟩⟩
  · have e : qsLe qs k = true := decide_eq_true hall
    have E := Lib.hid e
    clear hall e
    go_wp2
    go_ret
    exact ⟨by rw [E.out]; rfl, hb⟩
  · have e : qsLe qs k = false := decide_eq_false (fun h => by have := h q hq; rw [hk] at this; cases this)
    have E := Lib.hid e
    clear hk e
    go_wp2
    go_ret
    exact ⟨by rw [E.out]; rfl, hb⟩

set_option maxHeartbeats 1000000 in
set_option maxRecDepth 100000 in
theorem qShort_any (L k c : Nat) (qs : List (Nat × Nat)) (w : World) (hl : qs.length ≤ 1000) (hr : QRow w L qs) :
    Calls Tryz.prog 13 #[.int .i64 k, .slice (some ⟨L, 0, none⟩) qs.length c] w (BoolPost w (qsLe qs k)) := by
  have hmf : ∀ (fn : Fn) (first cap : Array Value) (w : World), (Instr.makeFunc fn first cap).run Tryz.prog w = .ok (.func fn first cap) w := fun _ _ _ _ => rfl
  have HC := Lib.hid (qcontains_any L w.heap.size k c qs (w.alloc (.cells #[.int .i64 k] 3)) hl (hr.keep ((Below.refl _ _).alloc (Nat.le_refl _) _)) (by rw [World.cell?_alloc_at _ _ _ _ rfl]; rfl))
  clear hr
  generalize qsLe qs k = b at *
  go_enter Tryz.func13, Tryz.ntmps13
  go_wp2_with fail
  refine HC.out.mono ?_
  rintro e w1 ⟨rfl, hb⟩
  cases b
  all_goals
    go_wp2
    go_ret
    exact ⟨rfl, ((Below.refl _ _).alloc (Nat.le_refl _) _).trans (hb.mono (by simp))⟩

abbrev rowq1 (b1 b2 : Bool) (a1 a2 : Option Addr) (n1 n2 c1 c2 : Nat) : Obj := .cells #[.bool b1, .slice a1 n1 c1, .bool b2, .slice a2 n2 c2] 26
theorem qshortA (k : Nat) (b1 b2 : Bool) (a1 a2 : Option Addr) (n1 n2 c1 c2 : Nat) (w : World) (N : Nat) (hN : w.heap.size = N) (h1 : n1 ≤ maxLen) (h2 : n2 ≤ maxLen) :
    Calls Tryz.prog 13 #[.int .i64 k, .slice (some ⟨N, 0, none⟩) 1 1] (w.alloc (rowq1 b1 b2 a1 a2 n1 n2 c1 c2)) (BoolPost (w.alloc (rowq1 b1 b2 a1 a2 n1 n2 c1 c2)) (qsLe [(n1, n2)] k)) := by
  subst hN
  refine qShort_any w.heap.size k 1 [(n1, n2)] _ (show 1 ≤ 1000 by decide) ⟨by simp, fun j hj => ?_⟩
  match j, hj with
  | 0, _ => exact ⟨b1, a1, c1, b2, a2, c2, by rw [World.cell?_alloc_at _ _ _ _ rfl]; rfl, by rw [World.cell?_alloc_at _ _ _ _ rfl]; rfl, by rw [World.cell?_alloc_at _ _ _ _ rfl]; rfl, by rw [World.cell?_alloc_at _ _ _ _ rfl]; rfl, h1, h2⟩
theorem qsLe1 {n1 n2 k : Nat} (h : qsLe [(n1, n2)] k = true) : n1 ≤ k ∧ n2 ≤ k := by
  have h' := of_decide_eq_true h
  have h2 := of_decide_eq_true (h' 0 (by simp))
  exact ⟨h2 0 (by simp), h2 1 (by simp)⟩

end
end Go.Proofs.YtiegkjfpdiohkaaGreat

namespace Go.Proofs.YtiegkjfpdiohkaaGreat
section
open Go.RowKit Digs

theorem nz_bdq {b : Bool} {l : List Nat} {k : Nat} (hl : l.length ≤ k) (hlt : ∀ x ∈ l, x < 4294967296) : Bd k (nz (b, l)) := by
  have h : (nz (b, l)).natAbs = vl 4294967296 l := sg_natAbs _ _
  unfold Bd
  rw [h]
  exact Nat.lt_of_lt_of_le (vl_lt l hlt) (Nat.pow_le_pow_right (by decide) hl)

theorem Z4b.oth4 {p R : Nat} {W : World} (h : Z4b p W) (hne : p ≠ R) (x y s t : Value) : Z4b p ((((W.setCell ⟨R, 0, none⟩ x).setCell ⟨R, 1, none⟩ y).setCell ⟨R, 2, none⟩ s).setCell ⟨R, 3, none⟩ t) :=
  ⟨(cell_store4 hne).trans h.r0, (cell_store4 hne).trans h.r1, (cell_store4 hne).trans h.r2, (cell_store4 hne).trans h.r3, by simpa using h.f0, by simpa using h.f1, by simpa using h.f2, by simpa using h.f3⟩
theorem Z4b.putI {p : Nat} {W : World} (h : Z4b p W) {v : Value} {z : Int} (hv : IntV W v z) (x y s t : Value) : IntV ((((W.setCell ⟨p, 0, none⟩ x).setCell ⟨p, 1, none⟩ y).setCell ⟨p, 2, none⟩ s).setCell ⟨p, 3, none⟩ t) v z :=
  hv.st4 h.r0 h.r1 h.r2 h.r3 (by intro n h; cases h) (by intro n h; cases h) (by intro n h; cases h) (by intro n h; cases h) x y s t
theorem rat8 {P1 P2 : Nat} {W : World} {v : Value} {n d : Int} (z1 : Z4b P1 W) (z2 : Z4b P2 W) (hne : P2 ≠ P1) (h : RatV W v n d) (a b c e a' b' c' e' : Value) :
    RatV ((((((((W.setCell ⟨P1, 0, none⟩ a).setCell ⟨P1, 1, none⟩ b).setCell ⟨P1, 2, none⟩ c).setCell ⟨P1, 3, none⟩ e).setCell ⟨P2, 0, none⟩ a').setCell ⟨P2, 1, none⟩ b').setCell ⟨P2, 2, none⟩ c').setCell ⟨P2, 3, none⟩ e') v n d := by
  obtain ⟨q, r, s, t, rfl, h1, h2⟩ := h
  exact ⟨_, _, _, _, rfl, (z2.oth4 hne _ _ _ _).putI (z1.putI h1 _ _ _ _) _ _ _ _, (z2.oth4 hne _ _ _ _).putI (z1.putI h2 _ _ _ _) _ _ _ _⟩
theorem rq8 {P1 P2 : Nat} {W : World} {v : Value} {n d : Int} (z1 : Z4b P1 W) (z2 : Z4b P2 W) (hne : P2 ≠ P1) (h : RQV W v n d) (a b c e a' b' c' e' : Value) :
    RQV ((((((((W.setCell ⟨P1, 0, none⟩ a).setCell ⟨P1, 1, none⟩ b).setCell ⟨P1, 2, none⟩ c).setCell ⟨P1, 3, none⟩ e).setCell ⟨P2, 0, none⟩ a').setCell ⟨P2, 1, none⟩ b').setCell ⟨P2, 2, none⟩ c').setCell ⟨P2, 3, none⟩ e') v n d := by
  obtain ⟨q, r, s, t, rfl, h1, h2⟩ := h
  exact ⟨_, _, _, _, rfl, (z2.oth4 hne _ _ _ _).put (z1.put h1 _ _ _ _) _ _ _ _, (z2.oth4 hne _ _ _ _).put (z1.put h2 _ _ _ _) _ _ _ _⟩
theorem below8 {w W : World} {P1 P2 : Nat} (h : Below w.heap.size w W) (h1 : w.heap.size ≤ P1) (h2 : w.heap.size ≤ P2) (a b c e a' b' c' e' : Value) :
    Below w.heap.size w ((((((((W.setCell ⟨P1, 0, none⟩ a).setCell ⟨P1, 1, none⟩ b).setCell ⟨P1, 2, none⟩ c).setCell ⟨P1, 3, none⟩ e).setCell ⟨P2, 0, none⟩ a').setCell ⟨P2, 1, none⟩ b').setCell ⟨P2, 2, none⟩ c').setCell ⟨P2, 3, none⟩ e') :=
  (((((((h.setCell h1 _).setCell h1 _).setCell h1 _).setCell h1 _).setCell h2 _).setCell h2 _).setCell h2 _).setCell h2 _

/-- The argument's box: four cells that are only read. -/
structure C4 (p : Nat) (a b c e : Value) (W : World) : Prop where
  c0 : W.cell? ⟨p, 0, none⟩ = some a
  c1 : W.cell? ⟨p, 1, none⟩ = some b
  c2 : W.cell? ⟨p, 2, none⟩ = some c
  c3 : W.cell? ⟨p, 3, none⟩ = some e
theorem C4.lt {p : Nat} {a b c e : Value} {W : World} (h : C4 p a b c e W) : p < W.heap.size := World.block_lt_of_cell? W _ h.c0
theorem C4.keep {p : Nat} {a b c e : Value} {W W' : World} (h : C4 p a b c e W) (hb : Below W.heap.size W W') : C4 p a b c e W' :=
  ⟨(hb.cell (p := ⟨p, 0, none⟩) h.lt).trans h.c0, (hb.cell (p := ⟨p, 1, none⟩) h.lt).trans h.c1, (hb.cell (p := ⟨p, 2, none⟩) h.lt).trans h.c2, (hb.cell (p := ⟨p, 3, none⟩) h.lt).trans h.c3⟩
theorem C4.made {w : World} {a b c e : Value} {t : TypeId} : C4 w.heap.size a b c e (w.alloc (.cells #[a, b, c, e] t)) := by
  have h := cells4 (w := w) (a := a) (b := b) (c := c) (d := e) (t := t) (Below.refl _ _)
  exact ⟨h.1, h.2.1, h.2.2.1, h.2.2.2.1⟩

/-- The state of Of: the argument, both results untouched. -/
structure O3 (w : World) (a b c e : Value) (W : World) : Prop where
  x : C4 w.heap.size a b c e W
  y : Z4b (w.heap.size + 1) W
  z : Z4b (w.heap.size + 1 + 1) W
  below : Below w.heap.size w W
theorem O3.keep {w : World} {a b c e : Value} {W W' : World} (h : O3 w a b c e W) (hb : Below W.heap.size W W') : O3 w a b c e W' := ⟨h.x.keep hb, h.y.keep hb, h.z.keep hb, h.below.trans (hb.mono h.below.size)⟩
theorem O3.made {w : World} {a b c e : Value} {t u s : TypeId} : O3 w a b c e (((w.alloc (.cells #[a, b, c, e] t)).alloc (.cells #[.bool false, .slice none 0 0, .bool false, .slice none 0 0] u)).alloc (.cells #[.bool false, .slice none 0 0, .bool false, .slice none 0 0] s)) := by
  have hal : ∀ (W : World) (o : Obj), Below W.heap.size W (W.alloc o) := fun W o => (Below.refl _ _).alloc (Nat.le_refl _) _
  have hy := Z4b.made (w := w.alloc (.cells #[a, b, c, e] t)) (t := u)
  have hz := Z4b.made (w := (w.alloc (.cells #[a, b, c, e] t)).alloc (.cells #[.bool false, .slice none 0 0, .bool false, .slice none 0 0] u)) (t := s)
  simp only [World.size_alloc] at hy hz
  exact ⟨(C4.made.keep (hal _ _)).keep (hal _ _), hy.keep (hal _ _), hz, below3w _ _ _ _⟩

/-- A number's box on each side. -/
structure BR (p : Nat) (u v u' v' : Value) (z : Int) (W : World) : Prop where
  b : BX p u v z W
  r : RX (p + 1) u' v' z W
theorem BR.keep {p : Nat} {u v u' v' : Value} {z : Int} {W W' : World} (h : BR p u v u' v' z W) (hb : Below W.heap.size W W') : BR p u v u' v' z W' := ⟨h.b.keep hb, h.r.keep hb⟩
theorem BR.made {w : World} {u v u' v' : Value} {z : Int} {t s : TypeId} (h1 : IntV w (.agg #[u, v]) z) (h2 : RefV w (.agg #[u', v']) z) : BR w.heap.size u v u' v' z ((w.alloc (.cells #[u, v] t)).alloc (.cells #[u', v'] s)) := by
  have h := RX.made (t := s) (h2.keep ((Below.refl w.heap.size w).alloc (Nat.le_refl _) (.cells #[u, v] t)))
  rw [World.size_alloc] at h
  exact ⟨(BX.made h1).keep ((Below.refl _ _).alloc (Nat.le_refl _) _), h⟩
theorem BR.c4 {p : Nat} {u v u' v' : Value} {z : Int} {W : World} (h : BR p u v u' v' z W) : (W.cell? ⟨p, 0, none⟩ = some u ∧ W.cell? ⟨p, 1, none⟩ = some v) ∧ W.cell? ⟨p + 1, 0, none⟩ = some u' ∧ W.cell? ⟨p + 1, 1, none⟩ = some v' := ⟨h.b.cells, h.r.cells⟩
theorem BR.c4s {p P1 : Nat} {u v u' v' : Value} {z : Int} {W : World} (h : BR p u v u' v' z W) (n1 : p ≠ P1) (n2 : p + 1 ≠ P1) {a b c e : Value} :
    (((((W.setCell ⟨P1, 0, none⟩ a).setCell ⟨P1, 1, none⟩ b).setCell ⟨P1, 2, none⟩ c).setCell ⟨P1, 3, none⟩ e).cell? ⟨p, 0, none⟩ = some u ∧ ((((W.setCell ⟨P1, 0, none⟩ a).setCell ⟨P1, 1, none⟩ b).setCell ⟨P1, 2, none⟩ c).setCell ⟨P1, 3, none⟩ e).cell? ⟨p, 1, none⟩ = some v) ∧ ((((W.setCell ⟨P1, 0, none⟩ a).setCell ⟨P1, 1, none⟩ b).setCell ⟨P1, 2, none⟩ c).setCell ⟨P1, 3, none⟩ e).cell? ⟨p + 1, 0, none⟩ = some u' ∧ ((((W.setCell ⟨P1, 0, none⟩ a).setCell ⟨P1, 1, none⟩ b).setCell ⟨P1, 2, none⟩ c).setCell ⟨P1, 3, none⟩ e).cell? ⟨p + 1, 1, none⟩ = some v' :=
  ⟨⟨(cell_store4 n1).trans h.b.c0, (cell_store4 n1).trans h.b.c1⟩, (cell_store4 n2).trans h.r.c0, (cell_store4 n2).trans h.r.c1⟩
theorem BR.c4ss {p P1 P2 : Nat} {u v u' v' : Value} {z : Int} {W : World} (h : BR p u v u' v' z W) (n1 : p ≠ P1) (n2 : p + 1 ≠ P1) (n3 : p ≠ P2) (n4 : p + 1 ≠ P2) {a b c e a' b' c' e' : Value} :
    (((((((((W.setCell ⟨P1, 0, none⟩ a).setCell ⟨P1, 1, none⟩ b).setCell ⟨P1, 2, none⟩ c).setCell ⟨P1, 3, none⟩ e).setCell ⟨P2, 0, none⟩ a').setCell ⟨P2, 1, none⟩ b').setCell ⟨P2, 2, none⟩ c').setCell ⟨P2, 3, none⟩ e').cell? ⟨p, 0, none⟩ = some u ∧ ((((((((W.setCell ⟨P1, 0, none⟩ a).setCell ⟨P1, 1, none⟩ b).setCell ⟨P1, 2, none⟩ c).setCell ⟨P1, 3, none⟩ e).setCell ⟨P2, 0, none⟩ a').setCell ⟨P2, 1, none⟩ b').setCell ⟨P2, 2, none⟩ c').setCell ⟨P2, 3, none⟩ e').cell? ⟨p, 1, none⟩ = some v) ∧ ((((((((W.setCell ⟨P1, 0, none⟩ a).setCell ⟨P1, 1, none⟩ b).setCell ⟨P1, 2, none⟩ c).setCell ⟨P1, 3, none⟩ e).setCell ⟨P2, 0, none⟩ a').setCell ⟨P2, 1, none⟩ b').setCell ⟨P2, 2, none⟩ c').setCell ⟨P2, 3, none⟩ e').cell? ⟨p + 1, 0, none⟩ = some u' ∧ ((((((((W.setCell ⟨P1, 0, none⟩ a).setCell ⟨P1, 1, none⟩ b).setCell ⟨P1, 2, none⟩ c).setCell ⟨P1, 3, none⟩ e).setCell ⟨P2, 0, none⟩ a').setCell ⟨P2, 1, none⟩ b').setCell ⟨P2, 2, none⟩ c').setCell ⟨P2, 3, none⟩ e').cell? ⟨p + 1, 1, none⟩ = some v' :=
  have k := h.c4s (a := a) (b := b) (c := c) (e := e) n1 n2
  ⟨⟨(cell_store4 n3).trans k.1.1, (cell_store4 n3).trans k.1.2⟩, (cell_store4 n4).trans k.2.1, (cell_store4 n4).trans k.2.2⟩

theorem PQ.c8s {p q P1 : Nat} {a b c e a' b' c' e' : Value} {n d : Int} {W : World} (h : PQ p q a b c e a' b' c' e' n d W) (n1 : p ≠ P1) (n2 : q ≠ P1) {r0 r1 r2 r3 : Value} :
    (((((W.setCell ⟨P1, 0, none⟩ r0).setCell ⟨P1, 1, none⟩ r1).setCell ⟨P1, 2, none⟩ r2).setCell ⟨P1, 3, none⟩ r3).cell? ⟨p, 0, none⟩ = some a ∧ ((((W.setCell ⟨P1, 0, none⟩ r0).setCell ⟨P1, 1, none⟩ r1).setCell ⟨P1, 2, none⟩ r2).setCell ⟨P1, 3, none⟩ r3).cell? ⟨p, 1, none⟩ = some b ∧ ((((W.setCell ⟨P1, 0, none⟩ r0).setCell ⟨P1, 1, none⟩ r1).setCell ⟨P1, 2, none⟩ r2).setCell ⟨P1, 3, none⟩ r3).cell? ⟨p, 2, none⟩ = some c ∧ ((((W.setCell ⟨P1, 0, none⟩ r0).setCell ⟨P1, 1, none⟩ r1).setCell ⟨P1, 2, none⟩ r2).setCell ⟨P1, 3, none⟩ r3).cell? ⟨p, 3, none⟩ = some e) ∧ (((((W.setCell ⟨P1, 0, none⟩ r0).setCell ⟨P1, 1, none⟩ r1).setCell ⟨P1, 2, none⟩ r2).setCell ⟨P1, 3, none⟩ r3).cell? ⟨q, 0, none⟩ = some a' ∧ ((((W.setCell ⟨P1, 0, none⟩ r0).setCell ⟨P1, 1, none⟩ r1).setCell ⟨P1, 2, none⟩ r2).setCell ⟨P1, 3, none⟩ r3).cell? ⟨q, 1, none⟩ = some b' ∧ ((((W.setCell ⟨P1, 0, none⟩ r0).setCell ⟨P1, 1, none⟩ r1).setCell ⟨P1, 2, none⟩ r2).setCell ⟨P1, 3, none⟩ r3).cell? ⟨q, 2, none⟩ = some c' ∧ ((((W.setCell ⟨P1, 0, none⟩ r0).setCell ⟨P1, 1, none⟩ r1).setCell ⟨P1, 2, none⟩ r2).setCell ⟨P1, 3, none⟩ r3).cell? ⟨q, 3, none⟩ = some e') :=
  ⟨⟨(cell_store4 n1).trans h.x.c0, (cell_store4 n1).trans h.x.c1, (cell_store4 n1).trans h.x.c2, (cell_store4 n1).trans h.x.c3⟩, (cell_store4 n2).trans h.y.c0, (cell_store4 n2).trans h.y.c1, (cell_store4 n2).trans h.y.c2, (cell_store4 n2).trans h.y.c3⟩
theorem PQ.c8ss {p q P1 P2 : Nat} {a b c e a' b' c' e' : Value} {n d : Int} {W : World} (h : PQ p q a b c e a' b' c' e' n d W) (n1 : p ≠ P1) (n2 : q ≠ P1) (n3 : p ≠ P2) (n4 : q ≠ P2) {r0 r1 r2 r3 s0 s1 s2 s3 : Value} :
    (((((((((W.setCell ⟨P1, 0, none⟩ r0).setCell ⟨P1, 1, none⟩ r1).setCell ⟨P1, 2, none⟩ r2).setCell ⟨P1, 3, none⟩ r3).setCell ⟨P2, 0, none⟩ s0).setCell ⟨P2, 1, none⟩ s1).setCell ⟨P2, 2, none⟩ s2).setCell ⟨P2, 3, none⟩ s3).cell? ⟨p, 0, none⟩ = some a ∧ ((((((((W.setCell ⟨P1, 0, none⟩ r0).setCell ⟨P1, 1, none⟩ r1).setCell ⟨P1, 2, none⟩ r2).setCell ⟨P1, 3, none⟩ r3).setCell ⟨P2, 0, none⟩ s0).setCell ⟨P2, 1, none⟩ s1).setCell ⟨P2, 2, none⟩ s2).setCell ⟨P2, 3, none⟩ s3).cell? ⟨p, 1, none⟩ = some b ∧ ((((((((W.setCell ⟨P1, 0, none⟩ r0).setCell ⟨P1, 1, none⟩ r1).setCell ⟨P1, 2, none⟩ r2).setCell ⟨P1, 3, none⟩ r3).setCell ⟨P2, 0, none⟩ s0).setCell ⟨P2, 1, none⟩ s1).setCell ⟨P2, 2, none⟩ s2).setCell ⟨P2, 3, none⟩ s3).cell? ⟨p, 2, none⟩ = some c ∧ ((((((((W.setCell ⟨P1, 0, none⟩ r0).setCell ⟨P1, 1, none⟩ r1).setCell ⟨P1, 2, none⟩ r2).setCell ⟨P1, 3, none⟩ r3).setCell ⟨P2, 0, none⟩ s0).setCell ⟨P2, 1, none⟩ s1).setCell ⟨P2, 2, none⟩ s2).setCell ⟨P2, 3, none⟩ s3).cell? ⟨p, 3, none⟩ = some e) ∧ (((((((((W.setCell ⟨P1, 0, none⟩ r0).setCell ⟨P1, 1, none⟩ r1).setCell ⟨P1, 2, none⟩ r2).setCell ⟨P1, 3, none⟩ r3).setCell ⟨P2, 0, none⟩ s0).setCell ⟨P2, 1, none⟩ s1).setCell ⟨P2, 2, none⟩ s2).setCell ⟨P2, 3, none⟩ s3).cell? ⟨q, 0, none⟩ = some a' ∧ ((((((((W.setCell ⟨P1, 0, none⟩ r0).setCell ⟨P1, 1, none⟩ r1).setCell ⟨P1, 2, none⟩ r2).setCell ⟨P1, 3, none⟩ r3).setCell ⟨P2, 0, none⟩ s0).setCell ⟨P2, 1, none⟩ s1).setCell ⟨P2, 2, none⟩ s2).setCell ⟨P2, 3, none⟩ s3).cell? ⟨q, 1, none⟩ = some b' ∧ ((((((((W.setCell ⟨P1, 0, none⟩ r0).setCell ⟨P1, 1, none⟩ r1).setCell ⟨P1, 2, none⟩ r2).setCell ⟨P1, 3, none⟩ r3).setCell ⟨P2, 0, none⟩ s0).setCell ⟨P2, 1, none⟩ s1).setCell ⟨P2, 2, none⟩ s2).setCell ⟨P2, 3, none⟩ s3).cell? ⟨q, 2, none⟩ = some c' ∧ ((((((((W.setCell ⟨P1, 0, none⟩ r0).setCell ⟨P1, 1, none⟩ r1).setCell ⟨P1, 2, none⟩ r2).setCell ⟨P1, 3, none⟩ r3).setCell ⟨P2, 0, none⟩ s0).setCell ⟨P2, 1, none⟩ s1).setCell ⟨P2, 2, none⟩ s2).setCell ⟨P2, 3, none⟩ s3).cell? ⟨q, 3, none⟩ = some e') :=
  have k := h.c8s (r0 := r0) (r1 := r1) (r2 := r2) (r3 := r3) n1 n2
  ⟨⟨(cell_store4 n3).trans k.1.1, (cell_store4 n3).trans k.1.2.1, (cell_store4 n3).trans k.1.2.2.1, (cell_store4 n3).trans k.1.2.2.2⟩, (cell_store4 n4).trans k.2.1, (cell_store4 n4).trans k.2.2.1, (cell_store4 n4).trans k.2.2.2.1, (cell_store4 n4).trans k.2.2.2.2⟩

/-- What Of hands back: the fraction on both sides. -/
def QOfPost (w : World) (n d : Int) (e : Ending) (w' : World) : Prop :=
  ∃ v u, e = .returned (.tuple #[v, u]) ∧ RatV w' v n d ∧ RQV w' u n d ∧ Below w.heap.size w w'

set_option maxHeartbeats 16000000 in
set_option maxRecDepth 100000 in
theorem qOf_any (b1 b2 : Bool) (a1 a2 : Option Addr) (c1 c2 : Nat) (l1 l2 : List Nat) (w : World) (hl1 : l1.length ≤ 50) (hl2 : l2.length ≤ 50) (h1 : NArg w a1 c1 l1) (h2 : NArg w a2 c2 l2) :
    Calls Tryz.prog 18 #[.agg #[.bool b1, .slice a1 l1.length c1, .bool b2, .slice a2 l2.length c2]] w
      (QOfPost w (if nz (b2, l2) = 0 then nz (b1, l1) else qn (nz (b1, l1)) (nz (b2, l2))) (if nz (b2, l2) = 0 then 1 else qd (nz (b1, l1)) (nz (b2, l2)))) := by
  have k1 : Bd 50 (nz (b1, l1)) := nz_bdq hl1 h1.lt
  have k2 : Bd 50 (nz (b2, l2)) := nz_bdq hl2 h2.lt
  have HO1 := Lib.hid fun W hw => Lib.hid (of_any b1 a1 c1 l1 W (by omega) (h1.keep (w' := W) hw))
  have HO2 := Lib.hid fun W hw => Lib.hid (of_any b2 a2 c2 l2 W (by omega) (h2.keep (w' := W) hw))
  clear h1 h2 hl1 hl2
  generalize nz (b1, l1) = x at *
  generalize nz (b2, l2) = y at *
  generalize l1.length = m1 at *
  generalize l2.length = m2 at *
  obtain ⟨N, hN⟩ : ∃ N : Int, N = if y = 0 then x else qn x y := ⟨_, rfl⟩
  obtain ⟨D, hD⟩ : ∃ D : Int, D = if y = 0 then 1 else qd x y := ⟨_, rfl⟩
  rw [← hN, ← hD]
  have HN := Lib.hid hN
  have HD := Lib.hid hD
  clear hN hD
  have HS := Lib.hid fun W u h => Lib.hid (rSign_any y u W (rlen_bd k2 (by decide)) h)
  have hsg : (sgnZ y == 0) = decide (y = 0) := by
    by_cases h : y = 0
    · rw [decide_eq_true h, sgnZ_z.2 h]; rfl
    · rw [decide_eq_false h]; simp [sgnZ_z, h]
  generalize sgnZ y = sy at *
  have HW0 := Lib.hid (O3.made (w := w) (a := .bool b1) (b := .slice a1 m1 c1) (c := .bool b2) (e := .slice a2 m2 c2) (t := 26) (u := 38) (s := 43))
  go_enter Tryz.func18, Tryz.ntmps18
  go_wp2_with fail
  (with_reducible refine (HO1.out _ HW0.out.below).out.mono ?_)
  rintro e w1 ⟨vx, vu, rfl, hx, hu, hb1⟩
  obtain ⟨p1, ad1, n1, e1, rfl⟩ := intv_shape hx
  obtain ⟨p2, ad2, n2, e2, rfl⟩ := refv_shape hu
  have hal1 := below2 w1 (.cells #[.bool p1, .slice ad1 n1 e1] 31) (.cells #[.bool p2, .slice ad2 n2 e2] 34)
  have HX1 := Lib.hid (BR.made (t := 31) (s := 34) hx hu)
  have HW1 := Lib.hid ((HW0.out.keep hb1).keep hal1)
  have hl1 := (HW0.out.keep hb1).z.lt
  clear hx hu hb1 hal1 HW0 HO1
  obtain ⟨_, _, x2, x3⟩ := HW1.out.x
  go_wp2_with fail
  (with_reducible refine (HO2.out _ HW1.out.below).out.mono ?_)
  rintro e w2 ⟨vx, vu, rfl, hx, hu, hb2⟩
  obtain ⟨p3, ad3, n3, e3, rfl⟩ := intv_shape hx
  obtain ⟨p4, ad4, n4, e4, rfl⟩ := refv_shape hu
  have hal2 := below2 w2 (.cells #[.bool p3, .slice ad3 n3 e3] 31) (.cells #[.bool p4, .slice ad4 n4 e4] 34)
  have HX2 := Lib.hid ((HX1.out.keep hb2).keep hal2)
  have HY2 := Lib.hid (BR.made (t := 31) (s := 34) hx hu)
  have HW2 := Lib.hid ((HW1.out.keep hb2).keep hal2)
  clear hx hu hb2 hal2 HW1 HX1 HO2 x2 x3
  obtain ⟨y0, y1⟩ := HY2.out.r.cells
  go_wp2_with fail
  (with_reducible refine (HS.out _ _ HY2.out.r.rv).out.mono ?_)
  rintro e w3 ⟨rfl, hb3⟩
  have HX3 := Lib.hid (HX2.out.keep hb3)
  have HY3 := Lib.hid (HY2.out.keep hb3)
  have HW3 := Lib.hid (HW2.out.keep hb3)
  clear hb3 HX2 HY2 HW2 y0 y1 HS
  have hn1 : w1.heap.size ≠ w.heap.size + 1 := by omega
  have hn2 : w1.heap.size + 1 ≠ w.heap.size + 1 := by omega
  have hn3 : w1.heap.size ≠ w.heap.size + 1 + 1 := by omega
  have hn4 : w1.heap.size + 1 ≠ w.heap.size + 1 + 1 := by omega
  by_cases h0 : y = 0
  · obtain rfl : N = x := HN.out.trans (if_pos h0)
    obtain rfl : D = 1 := HD.out.trans (if_pos h0)
    clear HN HD
    have HQ1 := Lib.hid fun W u h => Lib.hid (ratOf_any N u W h)
    have HQ2 := Lib.hid fun W u h => Lib.hid (rOf_any N u W h)
    go_upto_region 4 with fail
    have hx0 := HX3.out.keep (Below.refl _ _).drew
    have hw0 := HW3.out.keep (Below.refl _ _).drew
    clear HX3 HY3 HW3 k1 k2 hl1
    go_region_held3 (fun w' => (w'.cell? ⟨w1.heap.size, 0, none⟩ = some (.bool p1) ∧ w'.cell? ⟨w1.heap.size, 1, none⟩ = some (.slice ad1 n1 e1)) ∧ w'.cell? ⟨w1.heap.size + 1, 0, none⟩ = some (.bool p2) ∧ w'.cell? ⟨w1.heap.size + 1, 1, none⟩ = some (.slice ad2 n2 e2))
      (first | with_reducible exact hx2.c4 | with_reducible exact hx1.c4 | with_reducible exact hx0.c4 | with_reducible exact hx2.c4s hn1 hn2 | with_reducible exact hx2.c4ss hn1 hn2 hn3 hn4 | go_keep)
      ((first
      | (go_at_call 20; (with_reducible refine (HQ1.out _ _ hx0.b.iv).out.mono ?_); rintro e wA ⟨vA, rfl, hqA, hbA⟩; have hx1 := hx0.keep hbA; have hw1 := hw0.keep hbA; obtain ⟨p5, ad5, n5, e5, p6, ad6, n6, e6, rfl⟩ := ratv_shape hqA)
      | (go_at_call 21; (with_reducible refine (HQ2.out _ _ hx1.r.rv).out.mono ?_); rintro e wB ⟨vB, rfl, hqB, hbB⟩; have hx2 := hx1.keep hbB; have hw2 := hw1.keep hbB; have hqA2 := hqA.keep hbB; obtain ⟨p7, ad7, n7, e7, p8, ad8, n8, e8, rfl, _, _⟩ := rqv_shape hqB; obtain ⟨r0, r1, r2, r3, f0, f1, f2, f3⟩ := hw2.y; obtain ⟨s0, s1, s2, s3, q0, q1, q2, q3⟩ := hw2.z)))
    all_goals
      have g1 := Lib.hid (rat8 hw2.y hw2.z (by omega) hqA2)
      have g2 := Lib.hid (rq8 hw2.y hw2.z (by omega) hqB)
      have g3 := Lib.hid (below8 (P1 := w.heap.size + 1) (P2 := w.heap.size + 1 + 1) hw2.below (by omega) (by omega))
      clear hx0 hx1 hx2 hw0 hw1 hw2 hqA hqA2 hqB hbA hbB HQ1 HQ2
      go_wp2_with fail
      refine bodyPost_ret (v := .tuple #[.agg #[.bool p5, .slice ad5 n5 e5, .bool p6, .slice ad6 n6 e6], .agg #[.bool p7, .slice ad7 n7 e7, .bool p8, .slice ad8 n8 e8]]) (by simp [results, Tryz.results18, go_sem, r0, r1, r2, r3, s0, s1, s2, s3]) rfl ⟨_, _, rfl, g1.out _ _ _ _ _ _ _ _, g2.out _ _ _ _ _ _ _ _, g3.out _ _ _ _ _ _ _ _⟩
  · obtain rfl : N = qn x y := HN.out.trans (if_neg h0)
    obtain rfl : D = qd x y := HD.out.trans (if_neg h0)
    clear HN HD
    have HQ1 := Lib.hid fun W u v h h' => Lib.hid (show Calls Tryz.prog 16 #[u, v] W (RatRes W (qn x y) (qd x y) 0) from by
      have := ratNew_any x y u v W (len_le (by decide) k1) (len_le (by decide) k2) h h'
      rwa [if_neg h0, if_neg h0, if_neg h0] at this)
    have HQ2 := Lib.hid fun W u v h h' => Lib.hid (show Calls Tryz.prog 17 #[u, v] W (RQRes W (qn x y) (qd x y) 0) from by
      have := rNew_any x y u v W (rlen_bd k1 (by decide)) (rlen_bd k2 (by decide)) h h'
      rwa [if_neg h0, if_neg h0, if_neg h0] at this)
    generalize qn x y = qN at *
    generalize qd x y = qD at *
    clear k1 k2 hn1 hn2 hn3 hn4 hl1
    obtain ⟨⟨x0, x1⟩, _, _⟩ := HX3.out.c4
    obtain ⟨⟨y0, y1⟩, _, _⟩ := HY3.out.c4
    go_wp2_with fail
    (with_reducible refine (HQ1.out _ _ _ HX3.out.b.iv HY3.out.b.iv).out.mono ?_)
    rintro e w4 ⟨vA, rfl, hqA, hbA⟩
    obtain ⟨p5, ad5, n5, e5, p6, ad6, n6, e6, rfl⟩ := ratv_shape hqA
    have hlw4 := (HW3.out.keep hbA).z.lt
    have hal4 := (Below.refl w4.heap.size w4).alloc (Nat.le_refl _) (.cells #[.bool p5, .slice ad5 n5 e5, .bool p6, .slice ad6 n6 e6] 38)
    have HP4 := Lib.hid (PX.made (t := 38) hqA)
    have HX4 := Lib.hid ((HX3.out.keep hbA).keep hal4)
    have HY4 := Lib.hid ((HY3.out.keep hbA).keep hal4)
    have HW4 := Lib.hid ((HW3.out.keep hbA).keep hal4)
    clear hqA hbA hal4 HX3 HY3 HW3 x0 x1 y0 y1 HQ1
    obtain ⟨_, x0, x1⟩ := HX4.out.c4
    obtain ⟨_, y0, y1⟩ := HY4.out.c4
    go_wp2_with fail
    (with_reducible refine (HQ2.out _ _ _ HX4.out.r.rv HY4.out.r.rv).out.mono ?_)
    rintro e w5 ⟨vB, rfl, hqB, hbB⟩
    obtain ⟨p7, ad7, n7, e7, p8, ad8, n8, e8, rfl, hqB1, hqB2⟩ := rqv_shape hqB
    have hal5 := (Below.refl w5.heap.size w5).alloc (Nat.le_refl _) (.cells #[.bool p7, .slice ad7 n7 e7, .bool p8, .slice ad8 n8 e8] 43)
    have hp5 := (HP4.out.keep hbB).keep hal5
    have hq5 := QX.made (t := 43) hqB1 hqB2
    have hw5 := (HW4.out.keep hbB).keep hal5
    have hx0 := Lib.hid (PQ.mk hp5 hq5)
    have hw0 := Lib.hid hw5
    have hlw5 := (HW4.out.keep hbB).z.lt
    have hn1 : w4.heap.size ≠ w.heap.size + 1 := by omega
    have hn3 : w4.heap.size ≠ w.heap.size + 1 + 1 := by omega
    have hn2 : w5.heap.size ≠ w.heap.size + 1 := by omega
    have hn4 : w5.heap.size ≠ w.heap.size + 1 + 1 := by omega
    clear hqB hqB1 hqB2 hbB hal5 hp5 hq5 hw5 HX4 HY4 HW4 HP4 HQ2 x0 x1 y0 y1 hlw4 hlw5
    go_upto_region 7 with fail
    generalize hX : w5.alloc (.cells #[.bool p7, .slice ad7 n7 e7, .bool p8, .slice ad8 n8 e8] 43) = X at *
    clear hX
    have hx0 := hx0.out
    have hw00 := hw0.out
    obtain ⟨r0, r1, r2, r3, f0, f1, f2, f3⟩ := hw00.y
    obtain ⟨s0, s1, s2, s3, q0, q1, q2, q3⟩ := hw00.z
    go_region_held3 (fun w' => (w'.cell? ⟨w4.heap.size, 0, none⟩ = some (.bool p5) ∧ w'.cell? ⟨w4.heap.size, 1, none⟩ = some (.slice ad5 n5 e5) ∧ w'.cell? ⟨w4.heap.size, 2, none⟩ = some (.bool p6) ∧ w'.cell? ⟨w4.heap.size, 3, none⟩ = some (.slice ad6 n6 e6)) ∧ (w'.cell? ⟨w5.heap.size, 0, none⟩ = some (.bool p7) ∧ w'.cell? ⟨w5.heap.size, 1, none⟩ = some (.slice ad7 n7 e7) ∧ w'.cell? ⟨w5.heap.size, 2, none⟩ = some (.bool p8) ∧ w'.cell? ⟨w5.heap.size, 3, none⟩ = some (.slice ad8 n8 e8)))
      (first | ((try simp only [World.cell?_drew]); with_reducible exact hx0.c8) | ((try simp only [World.cell?_drew]); with_reducible exact hx0.c8s hn1 hn2) | ((try simp only [World.cell?_drew]); with_reducible exact hx0.c8ss hn1 hn2 hn3 hn4) | go_keep)
      (fail)
    all_goals
      have g1 := Lib.hid (rat8 hw00.y hw00.z (by omega) hx0.x.rv)
      have g2 := Lib.hid (rq8 hw00.y hw00.z (by omega) hx0.y.rq)
      have g3 := Lib.hid (below8 (P1 := w.heap.size + 1) (P2 := w.heap.size + 1 + 1) hw00.below (by omega) (by omega))
      have g1' := Lib.hid fun a b c e a' b' c' e' => (g1.out a b c e a' b' c' e').keep (Below.refl _ _).drew
      have g2' := Lib.hid fun a b c e a' b' c' e' => (g2.out a b c e a' b' c' e').keep (Below.refl _ _).drew
      have g3' := Lib.hid fun a b c e a' b' c' e' => (g3.out a b c e a' b' c' e').drew
      clear hx0 hw0 hw00
      go_wp2_with fail
      refine bodyPost_ret (v := .tuple #[.agg #[.bool p5, .slice ad5 n5 e5, .bool p6, .slice ad6 n6 e6], .agg #[.bool p7, .slice ad7 n7 e7, .bool p8, .slice ad8 n8 e8]]) (by simp [results, Tryz.results18, go_sem, r0, r1, r2, r3, s0, s1, s2, s3]) rfl ⟨_, _, rfl, (by with_reducible exact g1'.out _ _ _ _ _ _ _ _), (by with_reducible exact g2'.out _ _ _ _ _ _ _ _), (by with_reducible exact g3'.out _ _ _ _ _ _ _ _)⟩

end
end Go.Proofs.YtiegkjfpdiohkaaGreat

namespace Go.Proofs.YtiegkjfpdiohkaaGreat
section
open Go.RowKit Digs

/-- What the law holds in its boxes: two fractions on both sides, and a number. -/
structure L8 (pz qz pp qp px : Nat) (z1 z2 z3 z4 y1 y2 y3 y4 a1 a2 a3 a4 b1 b2 b3 b4 x1 x2 x3 x4 : Value) (N D N2 D2 x : Int) (w : World) (W : World) : Prop where
  z : PX pz z1 z2 z3 z4 N D W
  y : QX qz y1 y2 y3 y4 N D W
  a : PX pp a1 a2 a3 a4 N2 D2 W
  b : QX qp b1 b2 b3 b4 N2 D2 W
  x : BR px x1 x2 x3 x4 x W
  below : Below w.heap.size w W
theorem L8.keep {pz qz pp qp px : Nat} {z1 z2 z3 z4 y1 y2 y3 y4 a1 a2 a3 a4 b1 b2 b3 b4 x1 x2 x3 x4 : Value} {N D N2 D2 x : Int} {w W W' : World} (h : L8 pz qz pp qp px z1 z2 z3 z4 y1 y2 y3 y4 a1 a2 a3 a4 b1 b2 b3 b4 x1 x2 x3 x4 N D N2 D2 x w W) (hb : Below W.heap.size W W') : L8 pz qz pp qp px z1 z2 z3 z4 y1 y2 y3 y4 a1 a2 a3 a4 b1 b2 b3 b4 x1 x2 x3 x4 N D N2 D2 x w W' :=
  ⟨h.z.keep hb, h.y.keep hb, h.a.keep hb, h.b.keep hb, h.x.keep hb, h.below.trans (hb.mono h.below.size)⟩
theorem L8.cs {pz qz pp qp px : Nat} {z1 z2 z3 z4 y1 y2 y3 y4 a1 a2 a3 a4 b1 b2 b3 b4 x1 x2 x3 x4 : Value} {N D N2 D2 x : Int} {w W : World} (h : L8 pz qz pp qp px z1 z2 z3 z4 y1 y2 y3 y4 a1 a2 a3 a4 b1 b2 b3 b4 x1 x2 x3 x4 N D N2 D2 x w W) :
    (W.cell? ⟨pz, 0, none⟩ = some z1 ∧ W.cell? ⟨pz, 1, none⟩ = some z2 ∧ W.cell? ⟨pz, 2, none⟩ = some z3 ∧ W.cell? ⟨pz, 3, none⟩ = some z4) ∧
    (W.cell? ⟨qz, 0, none⟩ = some y1 ∧ W.cell? ⟨qz, 1, none⟩ = some y2 ∧ W.cell? ⟨qz, 2, none⟩ = some y3 ∧ W.cell? ⟨qz, 3, none⟩ = some y4) ∧
    (W.cell? ⟨pp, 0, none⟩ = some a1 ∧ W.cell? ⟨pp, 1, none⟩ = some a2 ∧ W.cell? ⟨pp, 2, none⟩ = some a3 ∧ W.cell? ⟨pp, 3, none⟩ = some a4) ∧
    (W.cell? ⟨qp, 0, none⟩ = some b1 ∧ W.cell? ⟨qp, 1, none⟩ = some b2 ∧ W.cell? ⟨qp, 2, none⟩ = some b3 ∧ W.cell? ⟨qp, 3, none⟩ = some b4) ∧
    W.cell? ⟨px, 0, none⟩ = some x1 ∧ W.cell? ⟨px, 1, none⟩ = some x2 ∧ W.cell? ⟨px + 1, 0, none⟩ = some x3 ∧ W.cell? ⟨px + 1, 1, none⟩ = some x4 := ⟨h.z.c4, h.y.c4, h.a.c4, h.b.c4, h.x.b.c0, h.x.b.c1, h.x.r.c0, h.x.r.c1⟩

theorem ifq_pos {x y : Int} : 0 < (if y = 0 then (1 : Int) else qd x y) := by
  by_cases h : y = 0
  · rw [if_pos h]; decide
  · rw [if_neg h]; exact (q_low x y h).1.1
theorem ifq_n {x y x' : Int} {k : Nat} (h : Bd k x) (h' : Bd k x') : Bd k (if y = 0 then x' else qn x y) := by
  split
  · exact h'
  · exact bd_qn h
theorem ifq_d {x y : Int} {k : Nat} (h : Bd (k + 1) y) : Bd (k + 1) (if y = 0 then (1 : Int) else qd x y) := by
  split
  · exact Bd.up (show Bd 1 1 from by unfold Bd; decide) (by omega)
  · exact bd_qd h

theorem shortp4 (b1 b2 : Bool) (a1 a2 : Option Addr) (n1 n2 c1 c2 : Nat) (w : World) (N : Nat) (hN : w.heap.size = N) (h1 : n1 ≤ maxLen) (h2 : n2 ≤ maxLen) :
    Calls Tryz.prog 12 #[.int .i64 4, .slice (some ⟨N, 0, none⟩) 2 2] (w.alloc (.cells #[.bool b1, .slice a1 n1 c1, .bool b2, .slice a2 n2 c2] 24)) (BoolPost (w.alloc (.cells #[.bool b1, .slice a1 n1 c1, .bool b2, .slice a2 n2 c2] 24)) (allLe [n1, n2] 4)) := shortp 4 b1 b2 a1 a2 n1 n2 c1 c2 w N hN h1 h2
theorem qshortA4 (b1 b2 : Bool) (a1 a2 : Option Addr) (n1 n2 c1 c2 : Nat) (w : World) (N : Nat) (hN : w.heap.size = N) (h1 : n1 ≤ maxLen) (h2 : n2 ≤ maxLen) :
    Calls Tryz.prog 13 #[.int .i64 4, .slice (some ⟨N, 0, none⟩) 1 1] (w.alloc (.cells #[.bool b1, .slice a1 n1 c1, .bool b2, .slice a2 n2 c2] 26)) (BoolPost (w.alloc (.cells #[.bool b1, .slice a1 n1 c1, .bool b2, .slice a2 n2 c2] 26)) (qsLe [(n1, n2)] 4)) := qshortA 4 b1 b2 a1 a2 n1 n2 c1 c2 w N hN h1 h2

set_option maxHeartbeats 40000000 in
set_option maxRecDepth 100000 in
theorem numbers_any (b0 b1 b2 b3 : Bool) (a0 a1 a2 a3 : Option Addr) (c0 c1 c2 c3 : Nat) (l0 l1 l2 l3 : List Nat) (w : World) (h0 : NArg w a0 c0 l0) (h1 : NArg w a1 c1 l1) (h2 : NArg w a2 c2 l2) (h3 : NArg w a3 c3 l3) :
    Calls Tryz.prog 3 #[.agg #[.bool b0, .slice a0 l0.length c0], .agg #[.bool b1, .slice a1 l1.length c1], .agg #[.bool b2, .slice a2 l2.length c2, .bool b3, .slice a3 l3.length c3]] w (BoolPost w true) := by
  have HAW := Lib.hid fun W => Lib.hid (awake3_any W)
  have HA0 := Lib.hid h0
  have HA1 := Lib.hid h1
  have HA2 := Lib.hid h2
  have HA3 := Lib.hid h3
  clear h0 h1 h2 h3
  go_enter Tryz.func3, Tryz.ntmps3
  have HB0 := Lib.hid (below3w w (.cells #[.bool b0, .slice a0 l0.length c0] 24) (.cells #[.bool b1, .slice a1 l1.length c1] 24) (.cells #[.bool b2, .slice a2 l2.length c2, .bool b3, .slice a3 l3.length c3] 26))
  have hal : ∀ (W : World) (o : Obj), Below W.heap.size W (W.alloc o) := fun W o => (Below.refl _ _).alloc (Nat.le_refl _) _
  have HCx := Lib.hid (zcells3 w (.bool b0) (.slice a0 l0.length c0) (.bool b1) (.slice a1 l1.length c1) 24 24 (hal _ (.cells #[.bool b2, .slice a2 l2.length c2, .bool b3, .slice a3 l3.length c3] 26)))
  have hc3 := C4.made (w := (w.alloc (.cells #[.bool b0, .slice a0 l0.length c0] 24)).alloc (.cells #[.bool b1, .slice a1 l1.length c1] 24)) (a := .bool b2) (b := .slice a2 l2.length c2) (c := .bool b3) (e := .slice a3 l3.length c3) (t := 26)
  simp only [World.size_alloc] at hc3
  have HC3 := Lib.hid hc3
  have HS1 := Lib.hid (shortp4 b0 b1 a0 a1 l0.length l1.length c0 c1 (((w.alloc (.cells #[.bool b0, .slice a0 l0.length c0] 24)).alloc (.cells #[.bool b1, .slice a1 l1.length c1] 24)).alloc (.cells #[.bool b2, .slice a2 l2.length c2, .bool b3, .slice a3 l3.length c3] 26)) (w.heap.size + 1 + 1 + 1) (by simp) HA0.out.mx HA1.out.mx)
  clear hc3 hal
  go_wp2_with fail
  (with_reducible refine HS1.out.mono ?_)
  rintro e w1 ⟨rfl, hb1⟩
  have hb1' := ((Below.refl _ _).alloc (Nat.le_refl _) (rowp b0 b1 a0 a1 l0.length l1.length c0 c1)).trans (hb1.mono (by simp))
  have HB1 := Lib.hid (HB0.out.trans (hb1'.mono HB0.out.size))
  have HC1 := Lib.hid (HC3.out.keep hb1')
  have hx0 := (hb1'.cell (p := ⟨w.heap.size, 0, none⟩) (by simp <;> omega)).trans HCx.out.1.1
  have hx1 := (hb1'.cell (p := ⟨w.heap.size, 1, none⟩) (by simp <;> omega)).trans HCx.out.1.2
  have hy0 := (hb1'.cell (p := ⟨w.heap.size + 1, 0, none⟩) (by simp <;> omega)).trans HCx.out.2.1
  have hy1 := (hb1'.cell (p := ⟨w.heap.size + 1, 1, none⟩) (by simp <;> omega)).trans HCx.out.2.2
  have HXY := Lib.hid (And.intro (And.intro hx0 hx1) (And.intro hy0 hy1))
  clear hb1 hb1' HC3 HCx HS1 hx0 hx1 hy0 hy1
  cases hall : allLe [l0.length, l1.length] 4 with
  | false =>
    clear hall HC1 HXY
    go_wp2_with fail
    (with_reducible refine (HAW.out _).out.mono ?_)
    rintro e w2 ⟨rfl, hb2⟩
    go_wp2
    go_ret
    exact ⟨rfl, HB1.out.trans (hb2.mono HB1.out.size)⟩
  | true =>
    have hle0 : l0.length ≤ 4 := of_decide_eq_true hall 0 (by simp)
    have hle1 : l1.length ≤ 4 := of_decide_eq_true hall 1 (by simp)
    have HLE := Lib.hid (And.intro hle0 hle1)
    clear hall hle0 hle1
    have HS2 := Lib.hid (qshortA4 b2 b3 a2 a3 l2.length l3.length c2 c3 w1 w1.heap.size rfl HA2.out.mx HA3.out.mx)
    obtain ⟨i0, i1, i2, i3⟩ := HC1.out
    go_wp2_with fail
    (with_reducible refine HS2.out.mono ?_)
    rintro e w2 ⟨rfl, hb2⟩
    have hb2' := ((Below.refl _ _).alloc (Nat.le_refl _) (rowq1 b2 b3 a2 a3 l2.length l3.length c2 c3)).trans (hb2.mono (by simp))
    have HB2 := Lib.hid (HB1.out.trans (hb2'.mono HB1.out.size))
    have HC2 := Lib.hid (HC1.out.keep hb2')
    have hlt := HC1.out.lt
    have hx0 := (hb2'.cell (p := ⟨w.heap.size, 0, none⟩) (show w.heap.size < _ by omega)).trans HXY.out.1.1
    have hx1 := (hb2'.cell (p := ⟨w.heap.size, 1, none⟩) (show w.heap.size < _ by omega)).trans HXY.out.1.2
    have hy0 := (hb2'.cell (p := ⟨w.heap.size + 1, 0, none⟩) (show w.heap.size + 1 < _ by omega)).trans HXY.out.2.1
    have hy1 := (hb2'.cell (p := ⟨w.heap.size + 1, 1, none⟩) (show w.heap.size + 1 < _ by omega)).trans HXY.out.2.2
    have HXY2 := Lib.hid (And.intro (And.intro hx0 hx1) (And.intro hy0 hy1))
    clear hb2 hb2' HC1 HXY HS2 hx0 hx1 hy0 hy1 i0 i1 i2 i3 hlt
    cases hall : qsLe [(l2.length, l3.length)] 4 with
    | false =>
      clear hall HC2 HXY2
      go_wp2_with fail
      (with_reducible refine (HAW.out _).out.mono ?_)
      rintro e w3 ⟨rfl, hb3⟩
      go_wp2
      go_ret
      exact ⟨rfl, HB2.out.trans (hb3.mono HB2.out.size)⟩
    | true =>
      have hle2 := (qsLe1 hall).1
      have hle3 := (qsLe1 hall).2
      have hle0 := HLE.out.1
      have hle1 := HLE.out.2
      clear hall HLE
      have HO0 := Lib.hid fun W hw => Lib.hid (of_any b0 a0 c0 l0 W (by omega) (HA0.out.keep (w' := W) hw))
      have HO1 := Lib.hid fun W hw => Lib.hid (of_any b1 a1 c1 l1 W (by omega) (HA1.out.keep (w' := W) hw))
      have HQ := Lib.hid fun W hw => Lib.hid (qOf_any b2 b3 a2 a3 c2 c3 l2 l3 W (by omega) (by omega) (HA2.out.keep (w' := W) hw) (HA3.out.keep (w' := W) hw))
      have k0 : Bd 4 (nz (b0, l0)) := nz_bdq hle0 HA0.out.lt
      have k1 : Bd 4 (nz (b1, l1)) := nz_bdq hle1 HA1.out.lt
      have k2 : Bd 4 (nz (b2, l2)) := nz_bdq hle2 HA2.out.lt
      have k3 : Bd 4 (nz (b3, l3)) := nz_bdq hle3 HA3.out.lt
      clear hle0 hle1 hle2 hle3 HA0 HA1 HA2 HA3
      generalize nz (b0, l0) = x at *
      generalize nz (b1, l1) = y at *
      generalize nz (b2, l2) = x2 at *
      generalize nz (b3, l3) = y2 at *
      generalize l0.length = o0 at *
      generalize l1.length = o1 at *
      generalize l2.length = o2 at *
      generalize l3.length = o3 at *
      have HN1 := Lib.hid fun W u v h h' => Lib.hid (ratNew_any x y u v W (len_le (by decide) k0) (len_le (by decide) k1) h h')
      have HN2 := Lib.hid fun W u v h h' => Lib.hid (rNew_any x y u v W (rlen_bd k0 (by decide)) (rlen_bd k1 (by decide)) h h')
      have hD : 0 < (if y = 0 then (1 : Int) else qd x y) := ifq_pos
      have hD2 : 0 < (if y2 = 0 then (1 : Int) else qd x2 y2) := ifq_pos
      have bN : Bd 4 (if y = 0 then 0 else qn x y) := ifq_n k0 (Bd.up Bd.zero (by decide))
      have bD : Bd 4 (if y = 0 then (1 : Int) else qd x y) := ifq_d k1
      have bN2 : Bd 4 (if y2 = 0 then x2 else qn x2 y2) := ifq_n k2 k2
      have bD2 : Bd 4 (if y2 = 0 then (1 : Int) else qd x2 y2) := ifq_d k3
      generalize (if y = 0 then (0 : Int) else qn x y) = N at *
      generalize (if y = 0 then (1 : Int) else qd x y) = D at *
      generalize (if y = 0 then (6 : Int) else 0) = C at *
      generalize (if y2 = 0 then x2 else qn x2 y2) = N2 at *
      generalize (if y2 = 0 then (1 : Int) else qd x2 y2) = D2 at *
      have u4 : 4 ≤ 100 := by decide
      have HIZ := Lib.hid fun W u v h h' => Lib.hid (rqIs_any N D u v W hD (bN.up u4) (bD.up u4) h h')
      have HIX := Lib.hid fun W u v h h' => Lib.hid (rqIs_any x 1 u v W (by decide) (k0.up u4) (Bd.up (show Bd 1 1 from by unfold Bd; decide) (by decide)) h h')
      have HIP := Lib.hid fun W u v h h' => Lib.hid (rqIs_any N2 D2 u v W hD2 (bN2.up u4) (bD2.up u4) h h')
      have HRO := Lib.hid fun W u h => Lib.hid (ratOf_any x u W h)
      have HQO := Lib.hid fun W u h => Lib.hid (rOf_any x u W h)
      have HWP := Lib.hid fun W u h => Lib.hid (ratWhole_any N D u W hD (len_le (by decide) bD) h)
      have HWR := Lib.hid fun W u h => Lib.hid (rqWhole_any N D u W (bD.up u4) h)
      have HSP := Lib.hid fun W u h => Lib.hid (ratSign_any N D u W (len_le (by decide) bN) h)
      have HSR := Lib.hid fun W u h => Lib.hid (rqSign_any N D u W (rlen_bd bN (by decide)) h)
      have HCP := Lib.hid fun W u v h h' => Lib.hid (ratCmp_any N D N2 D2 u v W hD hD2 (len_le (by decide) bN) (len_le (by decide) bD) (len_le (by decide) bN2) (len_le (by decide) bD2) h h')
      have HCR := Lib.hid fun W u v h h' => Lib.hid (rqCmp_any N D N2 D2 u v W hD hD2 (bN.up u4) (bD.up u4) (bN2.up u4) (bD2.up u4) h h')
      clear hD hD2 bN bD bN2 bD2 k0 k1 k2 k3 u4
      generalize decide (D = 1) = wb at *
      generalize sgnZ N = sn at *
      generalize cmpZ (N * D2) (N2 * D) = cm at *
      obtain ⟨⟨hx0, hx1⟩, hy0, hy1⟩ := HXY2.out
      go_wp2_with fail
      (with_reducible refine (HO0.out _ HB2.out).out.mono ?_)
      rintro e w3 ⟨vx, vu, rfl, hx, hu, hb3⟩
      obtain ⟨p1, ad1, n1, e1, rfl⟩ := intv_shape hx
      obtain ⟨p2, ad2, n2, e2, rfl⟩ := refv_shape hu
      have hal3 := below2 w3 (.cells #[.bool p1, .slice ad1 n1 e1] 31) (.cells #[.bool p2, .slice ad2 n2 e2] 34)
      have HX3 := Lib.hid (BR.made (t := 31) (s := 34) hx hu)
      have hab3 := hb3.trans (hal3.mono hb3.size)
      have HB3 := Lib.hid (HB2.out.trans (hab3.mono HB2.out.size))
      have HC4 := Lib.hid (HC2.out.keep hab3)
      have hlt := HC2.out.lt
      have HYY := Lib.hid (And.intro ((hab3.cell (p := ⟨w.heap.size + 1, 0, none⟩) (show w.heap.size + 1 < _ by omega)).trans hy0) ((hab3.cell (p := ⟨w.heap.size + 1, 1, none⟩) (show w.heap.size + 1 < _ by omega)).trans hy1))
      clear hx hu hb3 hal3 hab3 HC2 HXY2 hx0 hx1 hy0 hy1 HO0 hlt
      obtain ⟨hy0, hy1⟩ := HYY.out
      go_wp2_with fail
      (with_reducible refine (HO1.out _ HB3.out).out.mono ?_)
      rintro e w4 ⟨vx, vu, rfl, hx, hu, hb4⟩
      obtain ⟨p3, ad3, n3, e3, rfl⟩ := intv_shape hx
      obtain ⟨p4, ad4, n4, e4, rfl⟩ := refv_shape hu
      have hal4 := below2 w4 (.cells #[.bool p3, .slice ad3 n3 e3] 31) (.cells #[.bool p4, .slice ad4 n4 e4] 34)
      have hab4 := hb4.trans (hal4.mono hb4.size)
      have HX4 := Lib.hid (HX3.out.keep hab4)
      have HY4 := Lib.hid (BR.made (t := 31) (s := 34) hx hu)
      have HB4 := Lib.hid (HB3.out.trans (hab4.mono HB3.out.size))
      have HC5 := Lib.hid (HC4.out.keep hab4)
      clear hx hu hb4 hal4 hab4 HC4 HX3 HYY hy0 hy1 HO1
      obtain ⟨⟨x0, x1⟩, _, _⟩ := HX4.out.c4
      obtain ⟨⟨y0, y1⟩, _, _⟩ := HY4.out.c4
      go_wp2_with fail
      (with_reducible refine (HN1.out _ _ _ HX4.out.b.iv HY4.out.b.iv).out.mono ?_)
      rintro e w5 ⟨vA, rfl, hqA, hbA⟩
      obtain ⟨p5, ad5, n5, e5, p6, ad6, n6, e6, rfl⟩ := ratv_shape hqA
      have hal5 := (Below.refl w5.heap.size w5).alloc (Nat.le_refl _) (.cells #[.bool p5, .slice ad5 n5 e5, .bool p6, .slice ad6 n6 e6] 38)
      have hab5 := hbA.trans (hal5.mono hbA.size)
      have HP5 := Lib.hid (PX.made (t := 38) hqA)
      have HX5 := Lib.hid (HX4.out.keep hab5)
      have HY5 := Lib.hid (HY4.out.keep hab5)
      have HB5 := Lib.hid (HB4.out.trans (hab5.mono HB4.out.size))
      have HC6 := Lib.hid (HC5.out.keep hab5)
      clear hqA hbA hal5 hab5 HX4 HY4 HC5 x0 x1 y0 y1 HN1
      obtain ⟨_, x0, x1⟩ := HX5.out.c4
      obtain ⟨_, y0, y1⟩ := HY5.out.c4
      go_wp2_with fail
      (with_reducible refine (HN2.out _ _ _ HX5.out.r.rv HY5.out.r.rv).out.mono ?_)
      rintro e w6 ⟨vB, rfl, hqB, hbB⟩
      obtain ⟨p7, ad7, n7, e7, p8, ad8, n8, e8, rfl, hqB1, hqB2⟩ := rqv_shape hqB
      have hal6 := (Below.refl w6.heap.size w6).alloc (Nat.le_refl _) (.cells #[.bool p7, .slice ad7 n7 e7, .bool p8, .slice ad8 n8 e8] 43)
      have hab6 := hbB.trans (hal6.mono hbB.size)
      have HP6 := Lib.hid (HP5.out.keep hab6)
      have HQ6 := Lib.hid (QX.made (t := 43) hqB1 hqB2)
      have HX6 := Lib.hid (HX5.out.keep hab6)
      have HB6 := Lib.hid (HB5.out.trans (hab6.mono HB5.out.size))
      have HC7 := Lib.hid (HC6.out.keep hab6)
      clear hqB hqB1 hqB2 hbB hal6 hab6 HX5 HY5 HP5 HC6 x0 x1 y0 y1 HN2
      obtain ⟨i0, i1, i2, i3⟩ := HC7.out
      go_wp2_with fail
      (with_reducible refine (HQ.out _ HB6.out).out.mono ?_)
      rintro e w7 ⟨vA, vB, rfl, hqA, hqB, hb7⟩
      obtain ⟨q5, bd5, m5, f5, q6, bd6, m6, f6, rfl⟩ := ratv_shape hqA
      obtain ⟨q7, bd7, m7, f7, q8, bd8, m8, f8, rfl, hqB1, hqB2⟩ := rqv_shape hqB
      have hal7 := below2 w7 (.cells #[.bool q5, .slice bd5 m5 f5, .bool q6, .slice bd6 m6 f6] 38) (.cells #[.bool q7, .slice bd7 m7 f7, .bool q8, .slice bd8 m8 f8] 43)
      have hab7 := hb7.trans (hal7.mono hb7.size)
      have hpa := (PX.made (t := 38) hqA).keep ((Below.refl _ _).alloc (Nat.le_refl _) (.cells #[.bool q7, .slice bd7 m7 f7, .bool q8, .slice bd8 m8 f8] 43))
      have hpb := QX.made (w := w7.alloc (.cells #[.bool q5, .slice bd5 m5 f5, .bool q6, .slice bd6 m6 f6] 38)) (t := 43) (hqB1.keep ((Below.refl _ _).alloc (Nat.le_refl _) _)) (hqB2.keep ((Below.refl _ _).alloc (Nat.le_refl _) _))
      rw [World.size_alloc] at hpb
      have HL := Lib.hid (L8.mk (HP6.out.keep hab7) (HQ6.out.keep hab7) hpa hpb (HX6.out.keep hab7) (HB6.out.trans (hab7.mono HB6.out.size)))
      clear hqA hqB hqB1 hqB2 hb7 hal7 hab7 hpa hpb HP6 HQ6 HX6 HB6 HB5 HB4 HB3 HB2 HB1 HB0 HC7 HQ i0 i1 i2 i3
      go_upto_region 8 with fail
      generalize hX : (w7.alloc (.cells #[.bool q5, .slice bd5 m5 f5, .bool q6, .slice bd6 m6 f6] 38)).alloc (.cells #[.bool q7, .slice bd7 m7 f7, .bool q8, .slice bd8 m8 f8] 43) = X at *
      clear hX
      have g0 := HL.out.keep (Below.refl _ _).drew
      clear HL
      go_region_held3 (fun w' => (w'.cell? ⟨w5.heap.size, 0, none⟩ = some (.bool p5) ∧ w'.cell? ⟨w5.heap.size, 1, none⟩ = some (.slice ad5 n5 e5) ∧ w'.cell? ⟨w5.heap.size, 2, none⟩ = some (.bool p6) ∧ w'.cell? ⟨w5.heap.size, 3, none⟩ = some (.slice ad6 n6 e6)) ∧ (w'.cell? ⟨w6.heap.size, 0, none⟩ = some (.bool p7) ∧ w'.cell? ⟨w6.heap.size, 1, none⟩ = some (.slice ad7 n7 e7) ∧ w'.cell? ⟨w6.heap.size, 2, none⟩ = some (.bool p8) ∧ w'.cell? ⟨w6.heap.size, 3, none⟩ = some (.slice ad8 n8 e8)) ∧ (w'.cell? ⟨w7.heap.size, 0, none⟩ = some (.bool q5) ∧ w'.cell? ⟨w7.heap.size, 1, none⟩ = some (.slice bd5 m5 f5) ∧ w'.cell? ⟨w7.heap.size, 2, none⟩ = some (.bool q6) ∧ w'.cell? ⟨w7.heap.size, 3, none⟩ = some (.slice bd6 m6 f6)) ∧ (w'.cell? ⟨w7.heap.size + 1, 0, none⟩ = some (.bool q7) ∧ w'.cell? ⟨w7.heap.size + 1, 1, none⟩ = some (.slice bd7 m7 f7) ∧ w'.cell? ⟨w7.heap.size + 1, 2, none⟩ = some (.bool q8) ∧ w'.cell? ⟨w7.heap.size + 1, 3, none⟩ = some (.slice bd8 m8 f8)) ∧ w'.cell? ⟨w3.heap.size, 0, none⟩ = some (.bool p1) ∧ w'.cell? ⟨w3.heap.size, 1, none⟩ = some (.slice ad1 n1 e1) ∧ w'.cell? ⟨w3.heap.size + 1, 0, none⟩ = some (.bool p2) ∧ w'.cell? ⟨w3.heap.size + 1, 1, none⟩ = some (.slice ad2 n2 e2))
        (first | with_reducible exact g12.cs | with_reducible exact g11.cs | with_reducible exact g10.cs | with_reducible exact g9.cs | with_reducible exact g8.cs | with_reducible exact g7.cs | with_reducible exact g6.cs | with_reducible exact g5.cs | with_reducible exact g4.cs | with_reducible exact g3.cs | with_reducible exact g2.cs | with_reducible exact g1.cs | with_reducible exact g0.cs | go_keep)
        (first
        | (go_at_call 19; (with_reducible refine (HIZ.out _ _ _ g0.z.rv g0.y.rq).out.mono ?_); rintro e v1 ⟨rfl, hk1⟩; have g1 := g0.keep hk1)
        | (go_at_call 20; (with_reducible refine (HRO.out _ _ g1.x.b.iv).out.mono ?_); rintro e v2 ⟨t2, rfl, hr2, hk2⟩; have g2 := g1.keep hk2)
        | (go_at_call 21; (with_reducible refine (HQO.out _ _ g2.x.r.rv).out.mono ?_); rintro e v3 ⟨t3, rfl, hr3, hk3⟩; have g3 := g2.keep hk3; have hr2b := hr2.keep hk3)
        | (go_at_call 19; (with_reducible refine (HIX.out _ _ _ hr2b hr3).out.mono ?_); rintro e v4 ⟨rfl, hk4⟩; have g4 := g3.keep hk4)
        | (go_at_call 19; (with_reducible refine (HIP.out _ _ _ g4.a.rv g4.b.rq).out.mono ?_); rintro e v5 ⟨rfl, hk5⟩; have g5 := g4.keep hk5)
        | (go_at_call 22; (with_reducible refine (HWP.out _ _ g5.z.rv).out.mono ?_); rintro e v6 ⟨rfl, hk6⟩; have g6 := g5.keep hk6)
        | (go_at_call 23; (with_reducible refine (HWR.out _ _ g6.y.rq).out.mono ?_); rintro e v7 ⟨rfl, hk7⟩; have g7 := g6.keep hk7)
        | (go_at_call 24; (with_reducible refine (HSP.out _ _ g7.z.rv).out.mono ?_); rintro e v8 ⟨rfl, hk8⟩; have g8 := g7.keep hk8)
        | (go_at_call 25; (with_reducible refine (HSR.out _ _ g8.y.rq).out.mono ?_); rintro e v9 ⟨rfl, hk9⟩; have g9 := g8.keep hk9)
        | (go_at_call 26; (with_reducible refine (HCP.out _ _ _ g9.z.rv g9.a.rv).out.mono ?_); rintro e v10 ⟨rfl, hk10⟩; have g10 := g9.keep hk10)
        | (go_at_call 27; (with_reducible refine (HCR.out _ _ _ g10.y.rq g10.b.rq).out.mono ?_); rintro e v11 ⟨rfl, hk11⟩; have g11 := g10.keep hk11)
        | (go_at_call 14; (with_reducible refine (HAW.out _).out.mono ?_); rintro e v12 ⟨rfl, hk12⟩; have g12 := g11.keep hk12))
      all_goals
        have HBL := Lib.hid g12.below
        go_wp2
        go_ret
        exact ⟨rfl, HBL.out⟩

end
end Go.Proofs.YtiegkjfpdiohkaaGreat
