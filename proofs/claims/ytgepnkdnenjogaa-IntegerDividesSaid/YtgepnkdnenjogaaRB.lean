/-  The reference's Bits.  -/
import Derived.Test.YtgepnkdnenjogaaBm
import Derived.Test.YtgepnkdnenjogaaRInt64
namespace Go.Proofs.Ytgepnkdnenjogaa
open Go.RowKit Digs

theorem Try.infoBool : (Try.prog.info? 4).map (fun i => (i.zero, i.size, i.bytes)) = some (some (.bool false), 1, 1) := by kernel_rfl

/-- Bools as values. -/
def bv (l : List Bool) : List Value := l.map Value.bool
theorem bv_length (l : List Bool) : (bv l).length = l.length := by simp [bv]
theorem bv_append (l m : List Bool) : bv (l ++ m) = bv l ++ bv m := by simp [bv]
theorem bv_oneCell (l : List Bool) : ∀ u ∈ bv l, u.oneCell' = true := by
  intro u hu
  simp only [bv, List.mem_map] at hu
  obtain ⟨n, _, rfl⟩ := hu
  rfl
theorem bv_get (l : List Bool) (j : Nat) (h : j < l.length) : (bv l)[j]? = some (.bool (l[j]?.getD false)) := by
  simp [bv, List.getElem?_map, List.getElem?_eq_getElem h]
/-- A slice of bools of the call's own. -/
def Oo (w : World) (base : Nat) (v : Value) (l : List Bool) : Prop := w.ownsRow base 4 1 v l.length (bv l)
/-- A slice of bools that reads as l. -/
def RdB (w : World) (v : Value) (l : List Bool) : Prop :=
  ∃ ad cap, v = .slice ad l.length cap ∧ cap ≤ maxLen ∧ l.length ≤ cap ∧ ∀ j : Nat, j < l.length → ∃ b off, ad = some ⟨b, off, none⟩ ∧ b < w.heap.size ∧ w.cell? ⟨b, off + j, none⟩ = some (.bool (l[j]?.getD false))
theorem RdB.keep {w w' : World} {v : Value} {l : List Bool} (h : RdB w v l) (hb : Below w.heap.size w w') : RdB w' v l := by
  obtain ⟨ad, cap, rfl, hm, hc, h1⟩ := h
  refine ⟨ad, cap, rfl, hm, hc, fun j hj => ?_⟩
  obtain ⟨b, off, e, h2, h3⟩ := h1 j hj
  exact ⟨b, off, e, Nat.lt_of_lt_of_le h2 hb.size, (hb.cell (p := ⟨b, off + j, none⟩) h2).trans h3⟩
theorem Oo.rd {w : World} {base : Nat} {v : Value} {l : List Bool} (h : Oo w base v l) : RdB w v l := by
  obtain ⟨_, ⟨rfl, hn⟩ | ⟨g, cap, cur, rfl, _, hg, hc, hm, _, ht⟩⟩ := h
  · exact ⟨none, 0, by rw [hn], Nat.zero_le _, by omega, fun j hj => by omega⟩
  · refine ⟨_, cap, rfl, hm, hc, fun j hj => ⟨g, 0, rfl, (Array.getElem?_eq_some_iff.1 hg).1, ?_⟩⟩
    rw [Nat.zero_add, World.cell?]
    simp only [hg]
    have h1 := bv_get l j hj
    rw [← ht, List.getElem?_take, if_pos (by omega)] at h1
    simpa using h1
theorem Oo.keep {w w' : World} {base : Nat} {v : Value} {l : List Bool} (h : Oo w base v l) (hb : Below w.heap.size w w') : Oo w' base v l := by
  refine ⟨h.1, ?_⟩
  rcases h.2 with hn | ⟨g, cap, cur, rfl, hg, hgg, rest⟩
  · exact .inl hn
  · exact .inr ⟨g, cap, cur, rfl, hg, by rw [hb.block g (Array.getElem?_eq_some_iff.1 hgg).1]; exact hgg, rest⟩

theorem Oo.low {w : World} {base base' : Nat} {v : Value} {l : List Bool} (h : Oo w base v l) (hb : base' ≤ base) : Oo w base' v l := by
  obtain ⟨h1, h2⟩ := h
  refine ⟨h1, ?_⟩
  rcases h2 with hn | ⟨g, cap, cur, e, hg, rest⟩
  · exact .inl hn
  · exact .inr ⟨g, cap, cur, e, Nat.le_trans hb hg, rest⟩

/-- The bits of z, from 0 to n - 1. -/
def bitsL (z : Int) (n : Nat) : List Bool := (List.range n).map (bitZ z)
theorem bitsL_length (z : Int) (n : Nat) : (bitsL z n).length = n := by simp [bitsL]
theorem bitsL_succ (z : Int) (n : Nat) : bitsL z (n + 1) = bitsL z n ++ [bitZ z n] := by simp [bitsL, List.range_succ]
theorem bitsL_get (z : Int) (n j : Nat) (h : j < n) : (bitsL z n)[j]?.getD false = bitZ z j := by
  unfold bitsL
  rw [List.getElem?_map, List.getElem?_range h]
  rfl

def OoPost (w : World) (l : List Bool) (e : Ending) (w' : World) : Prop := ∃ v, e = .returned v ∧ Oo w' w.heap.size v l ∧ Below w.heap.size w w'

theorem zc2 {w : World} {a b c d : Value} {t u : TypeId} {w' : World} (h : Below ((w.alloc (.cells #[a, b] t)).alloc (.cells #[c, d] u)).heap.size ((w.alloc (.cells #[a, b] t)).alloc (.cells #[c, d] u)) w') :
    (w'.cell? ⟨w.heap.size, 0, none⟩ = some a ∧ w'.cell? ⟨w.heap.size, 1, none⟩ = some b) ∧ (w'.cell? ⟨w.heap.size + 1, 0, none⟩ = some c ∧ w'.cell? ⟨w.heap.size + 1, 1, none⟩ = some d ∧ w'.frozen? ⟨w.heap.size + 1, 0, none⟩ = false ∧ w'.frozen? ⟨w.heap.size + 1, 1, none⟩ = false) := by
  have k1 := box2r h
  have k0 := box2 (w := w) (((Below.refl (w.alloc (.cells #[a, b] t)).heap.size _).alloc (Nat.le_refl _) (.cells #[c, d] u)).trans (h.mono (by simp)))
  exact ⟨⟨k0.1, k0.2.1⟩, k1.1, k1.2.1, k1.2.2.1, k1.2.2.2.1⟩

def BitsRel (z : Int) (n : Nat) (X : World) (v i : Value) (wr : World) : Prop :=
  ∃ k : Nat, k ≤ n ∧ i = .int .i64 k ∧ Oo wr X.heap.size v (bitsL z k) ∧ Below X.heap.size X wr

set_option maxHeartbeats 2000000 in
set_option maxRecDepth 100000 in
theorem rBits_pos (z : Int) (v : Value) (n : Nat) (w : World) (hn : n ≤ 1000000) (hneg : ¬ z < 0) (h : RefV w v z) :
    Calls Try.prog 79 #[v, .int .i64 (n : Int)] w (OoPost w (bitsL z n)) := by
  obtain ⟨ad, m, c, rfl, hr⟩ := h
  rw [decide_eq_false hneg]
  have HV : Hid (RefV w (.agg #[.bool false, .slice ad m c]) z) := Lib.hid ⟨_, _, _, by rw [decide_eq_false hneg], hr⟩
  have HW := fun (i : Nat) (hi : i < n) W u (hu : RefV W u z) => Lib.hid (set_any z u i W (by omega) hu)
  have HW := Lib.hid HW
  have HBZ : Hid (∀ i, bitZ z i = z.natAbs.testBit i) := Lib.hid fun i => by unfold bitZ; rw [if_neg hneg]
  obtain ⟨i0, hi, hz0, hz1, hz2⟩ := info_parts Try.infoBool
  clear hr hneg
  go_enter Try.func79, Try.ntmps79
  go_wp2_with fail
  have HX0 : Hid (RX w.heap.size (.bool false) (.slice ad m c) z ((w.alloc (.cells #[.bool false, .slice ad m c] 31)).alloc (.cells #[.bool false, .slice ad m c] 31))) :=
    Lib.hid ((RX.made (t := 31) HV.out).keep ((Below.refl _ _).alloc (Nat.le_refl _) _))
  have HY0 : Hid (RX (w.heap.size + 1) (.bool false) (.slice ad m c) z ((w.alloc (.cells #[.bool false, .slice ad m c] 31)).alloc (.cells #[.bool false, .slice ad m c] 31))) :=
    Lib.hid (by have h1 := RX.made (t := 31) (HV.out.keep ((Below.refl w.heap.size w).alloc (Nat.le_refl _) (.cells #[.bool false, .slice ad m c] 31))); rw [World.size_alloc] at h1; exact h1)
  have HB0 := Lib.hid (below2 w (.cells #[.bool false, .slice ad m c] 31) (.cells #[.bool false, .slice ad m c] 31))
  generalize hX : (w.alloc (.cells #[.bool false, .slice ad m c] 31)).alloc (.cells #[.bool false, .slice ad m c] 31) = X at *
  clear hX
  go_loopw [6, 7] (BitsRel z n X) (fun _ i _ => n - (intOf i).toNat)
  case atStart => exact ⟨0, Nat.zero_le _, rfl, World.ownsRow_nil _ _ _ _, Below.refl _ _⟩
  case round =>
    obtain ⟨k, hk, rfl, hown, hnx⟩ := hrel
    have HO := Lib.hid hown
    have HNX := Lib.hid hnx
    clear hown hnx
    by_cases hkn : k < n
    · have KX := Lib.hid (HX0.out.keep HNX.out)
      have KY := Lib.hid (HY0.out.keep HNX.out)
      have HWk := Lib.hid (HW.out k hkn)
      have gx0 := KX.out.c0
      obtain ⟨gy0, gy1⟩ := KY.out.cells
      have HBK := Lib.hid (HBZ.out k)
      have HSU := Lib.hid (bitsL_succ z k)
      have HLE := Lib.hid (bitsL_length z k)
      generalize z.natAbs.testBit k = bk at *
      generalize bitsL z k = s at *
      go_upto_region 8 with fail
      go_region_held3 (fun w' => w'.cell? ⟨w.heap.size, 0, none⟩ = some (.bool false) ∧ w'.cell? ⟨w.heap.size + 1, 0, none⟩ = some (.bool false) ∧ w'.cell? ⟨w.heap.size + 1, 1, none⟩ = some (.slice ad m c))
        (first | exact ⟨hr0, hr1, hr2⟩ | exact ⟨hq0, hq1, hq2⟩ | go_keep)
        (go_loud (first
          | (go_at_call 103; (with_reducible refine (HWk.out _ _ ?_).out.mono ?_); (exact (KY.out.keep (Below.refl _ _).drew).rv); rintro e w1 ⟨rfl, hb1'⟩; have hb1 := below_dr hb1'; have hx1 := HNX.out.trans (hb1.mono HNX.out.size); have hq0 := (HX0.out.keep hx1).c0; have hq1 := (HY0.out.keep hx1).c0; have hq2 := (HY0.out.keep hx1).c1)
          | (refine step_append_lies _ (by rfl) _ _ _ (by rfl) X.heap.size 4 i0 (.bool false) 1 1 Try.underlying102 hi hz0 hz1 hz2 rfl (by decide) u6 s.length (bv s) (by rfl) ((HO.out.keep hb1).alloc _)
              ⟨w1.heap.size, 0, none⟩ 1 1 [.bool bk] (by rfl) (by rfl) (World.news_of_block (cs := #[.bool bk]) (t := 4) (fr := (0, 0)) (heap_alloc_new w1 _)) (by simp [Value.oneCell'])
              (by omega) (by have := HLE.out; unfold maxLen; omega) (by have := HLE.out; omega) (by have := hx1.size; simp; omega) (w1.heap.size + 1) (by simp) ?_; intro gg cap w2 hown2 hgrow hat hlt; have hbz : Below X.heap.size X w2 := (hx1.alloc hx1.size _).grown hgrow (by have := hx1.size; simp; omega) (fun q hq => (HO.out.lt q hq).1); have hr0 := (HX0.out.keep hbz).c0; have hr1 := (HY0.out.keep hbz).c0; have hr2 := (HY0.out.keep hbz).c1)))
      have HOW := Lib.hid hown2
      have HBZ2 := Lib.hid hbz
      clear hown2 hgrow hat hbz hr0 hr1 hr2 hq0 hq1 hq2 hb1 hb1' hx1
      go_wp2
      go_roundw
      case rel =>
        refine ⟨k + 1, hkn, by go_num, ?_, HBZ2.out⟩
        have h9 := HOW.out
        rw [HSU.out, HBK.out]
        unfold Oo
        rw [List.length_append, bv_append]
        exact h9
      case measure => simp [intOf] <;> omega
    · obtain rfl : k = n := by omega
      go_wp2
      go_ret
      exact ⟨_, rfl, HO.out.low HB0.out.size, HB0.out.trans (HNX.out.mono HB0.out.size)⟩

set_option maxHeartbeats 2000000 in
set_option maxRecDepth 100000 in
theorem rBits_neg (z : Int) (v : Value) (n : Nat) (w : World) (hz : rlen z ≤ 999999) (hn : n ≤ 1000000) (hneg : z < 0) (h : RefV w v z) :
    Calls Try.prog 79 #[v, .int .i64 (n : Int)] w (OoPost w (bitsL z n)) := by
  have h' := h
  obtain ⟨ad, m, c, rfl, hr⟩ := h
  have HN := fun W => Lib.hid (rnew_any (-1) W (by decide) (by decide))
  have HA := fun W u hw hu => Lib.hid (rSub_any (-1) z u _ W (Nat.le_trans (rlen_small (-1) (by decide)) (by decide)) (by omega) hu (h'.keep (w' := W) hw))
  have HV := Lib.hid h'
  rw [decide_eq_true hneg] at HV HA ⊢
  have HN := Lib.hid HN
  have HA := Lib.hid HA
  have HW := fun (i : Nat) (hi : i < n) W u (hu : RefV W u (-1 - z)) => Lib.hid (set_any (-1 - z) u i W (by omega) hu)
  have HW := Lib.hid HW
  have HBZ : Hid (∀ i, bitZ z i = !(-1 - z).natAbs.testBit i) := Lib.hid fun i => by unfold bitZ; rw [if_pos hneg]
  have hd0 : decide (-1 - z < 0) = false := decide_eq_false (by omega)
  obtain ⟨i0, hi, hz0, hz1, hz2⟩ := info_parts Try.infoBool
  clear hr hneg h' hz
  go_enter Try.func79, Try.ntmps79
  go_wp2_with fail
  go_region_held3 (fun w' => w'.cell? ⟨w.heap.size, 0, none⟩ = some (.bool true) ∧ w'.cell? ⟨w.heap.size, 1, none⟩ = some (.slice ad m c))
    (first | exact ⟨cB0, cB1⟩ | exact ⟨cA0, cA1⟩ | go_keep)
    (go_loud (first
      | (go_at_call 18; (with_reducible refine (HN.out _).out.mono ?_); rintro e w1 ⟨v1, rfl, hi1, hb1'⟩; have hb1 := below_dr hb1'; obtain ⟨cA0, cA1⟩ := (zc2 hb1).1; have hbw := (below2 w _ _).trans (hb1.mono (by simp <;> omega)))
      | (go_at_call 41; (with_reducible refine (HA.out _ v1 hbw hi1).out.mono ?_); rintro e w2 ⟨v2, rfl, ⟨ad2, m2, c2, rfl, hr2⟩, hb2'⟩; have hb2 := hb1.trans (hb2'.mono hb1.size); obtain ⟨⟨cB0, cB1⟩, cC0, cC1, fC0, fC1⟩ := zc2 hb2; have hbw2 := (below2 w _ _).trans (hb2.mono (by simp <;> omega)))))
  have hI2 : RefV w2 (.agg #[.bool (decide (-1 - z < 0)), .slice ad2 m2 c2]) (-1 - z) := ⟨_, _, _, rfl, hr2⟩
  have hX2 : RX w.heap.size (.bool true) (.slice ad m c) z w2 := ((RX.made (t := 31) HV.out).keep ((Below.refl _ _).alloc (Nat.le_refl _) _)).keep hb2
  have hY2 : RX (w.heap.size + 1) (.bool true) (.slice ad m c) z w2 := by
    have h1 := RX.made (t := 31) (HV.out.keep ((Below.refl w.heap.size w).alloc (Nat.le_refl _) (.cells #[.bool true, .slice ad m c] 31)))
    rw [World.size_alloc] at h1
    exact h1.keep hb2
  have HX0 := Lib.hid (hX2.other cC0 cC1 (show w.heap.size ≠ w.heap.size + 1 by omega) (.bool (decide (-1 - z < 0))) (.slice ad2 m2 c2))
  have HY0 := Lib.hid (hY2.mine hI2)
  have HB0 := Lib.hid ((hbw2.setCell (p := ⟨w.heap.size + 1, 0, none⟩) (by simp) (.bool (decide (-1 - z < 0)))).setCell (p := ⟨w.heap.size + 1, 1, none⟩) (by simp) (.slice ad2 m2 c2))
  rw [hd0] at HX0 HY0 HB0
  clear hI2 hX2 hY2 hr2 hb2 hb2' hbw2 hb1 hb1' hbw hi1 cA0 cA1 cB0 cB1 cC0 cC1 fC0 fC1 hd0
  generalize ((w2.setCell ⟨w.heap.size + 1, 0, none⟩ (.bool false)).setCell ⟨w.heap.size + 1, 1, none⟩ (.slice ad2 m2 c2)) = X at *
  go_wp2_with fail
  go_loopw [6, 7] (BitsRel z n X) (fun _ i _ => n - (intOf i).toNat)
  case atStart => exact ⟨0, Nat.zero_le _, rfl, World.ownsRow_nil _ _ _ _, Below.refl _ _⟩
  case round =>
    obtain ⟨k, hk, rfl, hown, hnx⟩ := hrel
    have HO := Lib.hid hown
    have HNX := Lib.hid hnx
    clear hown hnx
    by_cases hkn : k < n
    · have KX := Lib.hid (HX0.out.keep HNX.out)
      have KY := Lib.hid (HY0.out.keep HNX.out)
      have HWk := Lib.hid (HW.out k hkn)
      have gx0 := KX.out.c0
      obtain ⟨gy0, gy1⟩ := KY.out.cells
      have HBK := Lib.hid (HBZ.out k)
      have HSU := Lib.hid (bitsL_succ z k)
      have HLE := Lib.hid (bitsL_length z k)
      generalize (-1 - z).natAbs.testBit k = bk at *
      generalize bitsL z k = s at *
      go_upto_region 8 with fail
      go_region_held3 (fun w' => w'.cell? ⟨w.heap.size, 0, none⟩ = some (.bool true) ∧ w'.cell? ⟨w.heap.size + 1, 0, none⟩ = some (.bool false) ∧ w'.cell? ⟨w.heap.size + 1, 1, none⟩ = some (.slice ad2 m2 c2))
        (first | exact ⟨hr0, hr1, hr2⟩ | exact ⟨hq0, hq1, hq2⟩ | go_keep)
        (go_loud (first
          | (go_at_call 103; (with_reducible refine (HWk.out _ _ ?_).out.mono ?_); (exact (KY.out.keep (Below.refl _ _).drew).rv); rintro e w1 ⟨rfl, hb1'⟩; have hb1 := below_dr hb1'; have hx1 := HNX.out.trans (hb1.mono HNX.out.size); have hq0 := (HX0.out.keep hx1).c0; have hq1 := (HY0.out.keep hx1).c0; have hq2 := (HY0.out.keep hx1).c1)
          | (refine step_append_lies _ (by rfl) _ _ _ (by rfl) X.heap.size 4 i0 (.bool false) 1 1 Try.underlying102 hi hz0 hz1 hz2 rfl (by decide) u6 s.length (bv s) (by rfl) ((HO.out.keep hb1).alloc _)
              ⟨w1.heap.size, 0, none⟩ 1 1 [.bool (!bk)] (by rfl) (by rfl) (World.news_of_block (cs := #[.bool (!bk)]) (t := 4) (fr := (0, 0)) (heap_alloc_new w1 _)) (by simp [Value.oneCell'])
              (by omega) (by have := HLE.out; unfold maxLen; omega) (by have := HLE.out; omega) (by have := hx1.size; simp; omega) (w1.heap.size + 1) (by simp) ?_; intro gg cap w2 hown2 hgrow hat hlt; have hbz : Below X.heap.size X w2 := (hx1.alloc hx1.size _).grown hgrow (by have := hx1.size; simp; omega) (fun q hq => (HO.out.lt q hq).1); have hr0 := (HX0.out.keep hbz).c0; have hr1 := (HY0.out.keep hbz).c0; have hr2 := (HY0.out.keep hbz).c1)))
      have HOW := Lib.hid hown2
      have HBZ2 := Lib.hid hbz
      clear hown2 hgrow hat hbz hr0 hr1 hr2 hq0 hq1 hq2 hb1 hb1' hx1
      go_wp2
      go_roundw
      case rel =>
        refine ⟨k + 1, hkn, by go_num, ?_, HBZ2.out⟩
        have h9 := HOW.out
        rw [HSU.out, HBK.out]
        unfold Oo
        rw [List.length_append, bv_append]
        exact h9
      case measure => simp [intOf] <;> omega
    · obtain rfl : k = n := by omega
      go_wp2
      go_ret
      exact ⟨_, rfl, HO.out.low HB0.out.size, HB0.out.trans (HNX.out.mono HB0.out.size)⟩

theorem rBits_any (z : Int) (v : Value) (n : Nat) (w : World) (hz : rlen z ≤ 999999) (hn : n ≤ 1000000) (h : RefV w v z) :
    Calls Try.prog 79 #[v, .int .i64 (n : Int)] w (OoPost w (bitsL z n)) := by
  by_cases hneg : z < 0
  · exact rBits_neg z v n w hz hn hneg h
  · exact rBits_pos z v n w hn hneg h

end Go.Proofs.Ytgepnkdnenjogaa
