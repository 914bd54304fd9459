/-  The reference's Deposit.  -/
import Derived.Test.YtnbnbjgdplpemaaRFd
namespace Go.Proofs.Ytnbnbjgdplpemaa
open Go.RowKit Digs

set_option maxHeartbeats 1000000 in
set_option maxRecDepth 100000 in
theorem rDeposit_bad (x y s p : Int) (vx vy : Value) (w : World) (hbad : s < 0 ∨ 65536 < s ∨ p < 0 ∨ 65536 < p) (ha : RefV w vx x) (hb : RefV w vy y) :
    Calls Try.prog 59 #[vx, vy, .int .i64 s, .int .i64 p] w (RefErr w 1) := by
  obtain ⟨adx, nx, cx, rfl, _⟩ := ha
  obtain ⟨ady, ny, cy, rfl, _⟩ := hb
  generalize decide (x < 0) = bx at *
  generalize decide (y < 0) = by' at *
  rcases bad_cases hbad with h1 | ⟨⟨k', rfl, h1⟩, h2⟩
  · have HW := Lib.hid fun W => Lib.hid (within_bad s W h1)
    clear hbad h1
    go_enter Try.func59, Try.ntmps59
    go_wp2_with fail
    (with_reducible refine (HW.out _).out.mono ?_)
    rintro e w1 ⟨rfl, rfl⟩
    go_wp2_with fail
    refine bodyPost_ret (v := .tuple #[.agg #[.bool false, .slice none 0 0], .int .i64 1]) (by simp [results, Try.results59, go_sem]) rfl ⟨rfl, ?_⟩
    first | exact below3 w _ _ _ | exact Below.setCell (Below.setCell (below3 w _ _ _) (by simp <;> omega) _) (by simp <;> omega) _
  · have HW := Lib.hid fun W => Lib.hid (within_ok k' W h1)
    have HP := Lib.hid fun W => Lib.hid (within_bad p W h2)
    clear hbad h1 h2
    go_enter Try.func59, Try.ntmps59
    go_wp2_with fail
    (with_reducible refine (HW.out _).out.mono ?_)
    rintro e w1 ⟨rfl, rfl⟩
    go_wp2_with fail
    (with_reducible refine (HP.out _).out.mono ?_)
    rintro e w1 ⟨rfl, rfl⟩
    go_wp2_with fail
    refine bodyPost_ret (v := .tuple #[.agg #[.bool false, .slice none 0 0], .int .i64 1]) (by simp [results, Try.results59, go_sem]) rfl ⟨rfl, ?_⟩
    first | exact below3 w _ _ _ | exact Below.setCell (Below.setCell (below3 w _ _ _) (by simp <;> omega) _) (by simp <;> omega) _

/-- x's bits, the first k of the field's replaced. -/
def depL (x y : Int) (p N k : Nat) : List Bool := (List.range N).map fun i => if p ≤ i ∧ i < p + k then bitZ y (i - p) else bitZ x i
theorem depL_length (x y : Int) (p N k : Nat) : (depL x y p N k).length = N := by simp [depL]
theorem depL_zero (x y : Int) (p N : Nat) : depL x y p N 0 = bitsL x N := by
  unfold depL bitsL
  refine List.map_congr_left fun i _ => ?_
  rw [if_neg (by omega)]
theorem depL_set (x y : Int) (p N k : Nat) : (depL x y p N k).set (p + k) (bitZ y k) = depL x y p N (k + 1) := by
  apply List.ext_getElem
  · simp [depL]
  · intro i h1 h2
    rw [List.getElem_set]
    by_cases h : p + k = i
    · subst h
      rw [if_pos rfl]
      simp only [depL, List.getElem_map, List.getElem_range]
      rw [if_pos ⟨by omega, by omega⟩, Nat.add_sub_cancel_left]
    · rw [if_neg h]
      simp only [depL, List.getElem_map, List.getElem_range]
      by_cases h3 : p ≤ i ∧ i < p + k
      · rw [if_pos h3, if_pos ⟨h3.1, by omega⟩]
      · rw [if_neg h3, if_neg (by omega)]
theorem dep_of (x y : Int) (s p N : Nat) (h1 : lenZ x ≤ N) (h2 : p + s ≤ N) : ofB (depL x y p N s) (decide (x < 0)) = depositZ x y s p := by
  apply bitZ_ext
  intro i
  rw [ofB_bit, depositZ_bit, depL_length]
  by_cases h : i < N
  · rw [if_pos h]
    unfold depL
    rw [List.getElem?_map, List.getElem?_range h]
    rfl
  · rw [if_neg h, if_neg (by omega), bitZ_sign x i (by omega)]

/-- A row of bools of the call's own, at the head of block g. -/
def RoC (w : World) (base g n cap : Nat) (p : List Bool) : Prop := p.length = n ∧ w.ownsRow base 4 1 (.slice (some ⟨g, 0, none⟩) n cap) n (bv p)
theorem RoC.cell {w : World} {base g n cap : Nat} {p : List Bool} (h : RoC w base g n cap p) (j : Nat) (hj : j < n) : w.cell? ⟨g, j, none⟩ = some (.bool (p[j]?.getD false)) := by
  rw [h.2.cellAt j (by omega), bv_get _ _ (by rw [h.1]; exact hj)]
theorem RoC.frozen {w : World} {base g n cap : Nat} {p : List Bool} (h : RoC w base g n cap p) (j : Nat) : w.frozen? ⟨g, j, none⟩ = false := h.2.frozenAt j
theorem bv_set (p : List Bool) (j : Nat) (b : Bool) : bv (p.set j b) = (bv p).set j (.bool b) := by unfold bv; rw [List.map_set]
theorem RoC.store {w : World} {base g n cap : Nat} {p : List Bool} (h : RoC w base g n cap p) (j : Nat) (b : Bool) : RoC (w.setCell ⟨g, j, none⟩ (.bool b)) base g n cap (p.set j b) :=
  ⟨by rw [List.length_set, h.1], by rw [bv_set]; exact (h.2.stored j _).1⟩
theorem RoC.rd {w : World} {base g n cap : Nat} {p : List Bool} (h : RoC w base g n cap p) : RdB w (.slice (some ⟨g, 0, none⟩) n cap) p := by
  have h1 := h.1
  subst h1
  exact (show Oo w base (.slice (some ⟨g, 0, none⟩) p.length cap) p from h.2).rd
theorem Oo.far {w : World} {base : Nat} {v : Value} {l : List Bool} (h : Oo w base v l) {g j : Nat} (u : Value) (hg : g < base) : Oo (w.setCell ⟨g, j, none⟩ u) base v l := by
  refine ⟨h.1, ?_⟩
  rcases h.2 with hn | ⟨g', cap, cur, e, hb, hgg, rest⟩
  · exact .inl hn
  · exact .inr ⟨g', cap, cur, e, hb, by rw [heap_setCell_other _ _ _ _ (by simp; omega)]; exact hgg, rest⟩

def DepRel (x y : Int) (s p N base g cap base2 : Nat) (v11 : Value) (W : World) (i : Value) (wr : World) : Prop :=
  ∃ k : Nat, k ≤ s ∧ i = .int .i64 k ∧ RoC wr base g N cap (depL x y p N k) ∧ Oo wr base2 v11 (bitsL y s) ∧ Below g W wr

set_option maxHeartbeats 4000000 in
set_option maxRecDepth 100000 in
theorem rDeposit_any (x y : Int) (s p : Nat) (vx vy : Value) (w : World) (hs : s ≤ 65536) (hp : p ≤ 65536) (hx : rlen x ≤ 40000) (hy : rlen y ≤ 40000) (ha : RefV w vx x) (hb : RefV w vy y) :
    Calls Try.prog 59 #[vx, vy, .int .i64 (s : Int), .int .i64 (p : Int)] w (RefOK w (depositZ x y s p)) := by
  obtain ⟨N, hN⟩ : ∃ N, N = max (lenZ x) (p + s) := ⟨_, rfl⟩
  have hlx := lenZ_rlen x
  have hNb : N ≤ 800000 := by omega
  have hps : p + s ≤ N := by omega
  have HWS := Lib.hid fun W => Lib.hid (within_ok s W hs)
  have HWP := Lib.hid fun W => Lib.hid (within_ok p W hp)
  have HLN := Lib.hid fun W hw => Lib.hid (rLength_any x vx W (by omega) (ha.keep (w' := W) hw))
  have HBX := Lib.hid fun W hw => Lib.hid (rBits_any x vx N W (by omega) (by omega) (ha.keep (w' := W) hw))
  have HBY := Lib.hid fun W hw => Lib.hid (rBits_any y vy s W (by omega) (by omega) (hb.keep (w' := W) hw))
  have HOF := Lib.hid fun b u W hu => Lib.hid (rOf_any (depL x y p N s) b u W (by rw [depL_length]; omega) hu)
  have HZ := Lib.hid (dep_of x y s p N (by omega) hps)
  have hmax0 : IntKind.i64.wrap ((p : Int) + (s : Int)) = (p : Int) + (s : Int) := by rw [IntKind.wrap_i64]; omega
  have hmax : max ((lenZ x : Nat) : Int) ((p : Int) + (s : Int)) = (N : Int) := by omega
  have hmax2 : max ((lenZ x : Nat) : Int) (IntKind.i64.wrap ((p : Int) + (s : Int))) = (N : Int) := by rw [hmax0]; exact hmax
  have HGY := Lib.hid (bitsL_get y s)
  have HEY := Lib.hid (bitsL_length y s)
  have hlxb : lenZ x ≤ 800000 := by omega
  obtain ⟨adx, nx, cx, rfl, _⟩ := ha
  obtain ⟨ady, ny, cy, rfl, _⟩ := hb
  clear hx hy hlx hN
  generalize lenZ x = lx at *
  generalize depositZ x y s p = Z at *
  generalize decide (x < 0) = bx at *
  generalize decide (y < 0) = by' at *
  go_enter Try.func59, Try.ntmps59
  have HB0 := Lib.hid (below3 w (.cells #[.bool bx, .slice adx nx cx] 31) (.cells #[.bool by', .slice ady ny cy] 31) (.cells #[.bool false, .slice none 0 0] 31))
  go_wp2_with fail
  (with_reducible refine (HWS.out _).out.mono ?_)
  rintro e w1 ⟨rfl, rfl⟩
  go_wp2_with fail
  (with_reducible refine (HWP.out _).out.mono ?_)
  rintro e w1 ⟨rfl, rfl⟩
  go_wp2_with fail
  go_region_held3 (fun w' => w'.cell? ⟨w.heap.size, 0, none⟩ = some (.bool bx) ∧ w'.cell? ⟨w.heap.size, 1, none⟩ = some (.slice adx nx cx))
    (first | exact ⟨cA2, cB2⟩ | exact ⟨cA, cB⟩ | go_keep)
    (go_loud (first
      | (go_at_call 27; (with_reducible refine (HLN.out _ ?_).out.mono ?_); (exact (below3 _ _ _ _).drew); rintro e w1 ⟨rfl, hb1'⟩; have hb1 := (Below.refl _ _).drew.trans hb1'; obtain ⟨cA, cB, cC, cD, cE, cF, fC, fE, fF, hsz⟩ := box3 hb1; have hb0 := (below3 w _ _ _).trans (hb1.mono (by simp <;> omega)))
      | (go_at_call 79; (with_reducible refine (HBX.out _ hb0).out.mono ?_); rintro e w2 ⟨v2, rfl, ho2, hb2'⟩; have hb2 := hb1.trans (hb2'.mono hb1.size); obtain ⟨cA2, cB2, cC2, cD2, cE2, cF2, fC2, fE2, fF2, hsz2⟩ := box3 hb2; have hb02 := (below3 w _ _ _).trans (hb2.mono (by simp <;> omega)))))
  have hsz1 := hsz
  clear cA cB cC cD cE cF fC fE fF
  go_wp2_with fail
  (with_reducible refine (HBY.out _ hb02).out.mono ?_)
  rintro e w3 ⟨v3, rfl, ho3, hb3'⟩
  have hb3 := hb2.trans (hb3'.mono hb2.size)
  obtain ⟨cA3, _, _, _, kc0, kc1, _, kf0, kf1, hsz3⟩ := box3 hb3
  have HR3 : Hid (RX (w.heap.size + 2) (.bool false) (.slice none 0 0) 0 w3) := Lib.hid ⟨kc0, kc1, kf0, kf1, RefV.zero0 _⟩
  have HB3 := Lib.hid (hb02.trans (hb3'.mono hb02.size))
  have HA3 := Lib.hid cA3
  have HO2 := Lib.hid (ho2.keep hb3')
  have HO3 := Lib.hid ho3
  obtain ⟨ay, cy2, hv3, _, _, _⟩ := HO3.out.rd
  have hle : (bitsL y s).length = s := HEY.out
  rw [hle] at hv3
  subst hv3
  rcases ho2.2 with ⟨rfl, hn0⟩ | ⟨g, cap, cur, rfl, hg, hgg, hc, hm, _, _⟩
  · have hN0 : N = 0 := by rw [bitsL_length] at hn0; exact hn0
    have hs0 : s = 0 := by omega
    subst hs0
    subst hN0
    have HO4 := Lib.hid (HOF.out bx (.slice none 0 0) w3 (RdB.none rfl (depL_length _ _ _ _ _)))
    rw [HZ.out] at HO4
    have HRW := HR3
    have HBW := HB3
    have kb0 := HA3.out
    clear HO2 ho2 ho3 hb3 hb3' hb2 hb2' hb02 hb1 hb1' hb0 cA2 cB2 cC2 cD2 cE2 cF2 fC2 fE2 fF2 hsz2 kc0 kc1 kf0 kf1 cA3 hsz3 hmax hmax0 hmax2 HLN HBX HBY hn0
    go_wp2_with fail
    go_loopw [12] (fun i wr => i = .int .i64 0 ∧ w3 = wr) (fun _ _ => 0)
    case atStart => exact ⟨rfl, rfl⟩
    case round =>
      obtain ⟨rfl, rfl⟩ := hrel
      go_wp2_with fail
      (with_reducible refine HO4.out.out.mono ?_)
      rintro e w5 ⟨v5, rfl, ⟨ad5, n5, c5, rfl, hr5⟩, hb5⟩
      have hI5 : RefV w5 (.agg #[.bool (decide (Z < 0)), .slice ad5 n5 c5]) Z := ⟨_, _, _, rfl, hr5⟩
      obtain ⟨kc0, kc1, kf0, kf1, _⟩ := HRW.out.keep hb5
      have HX9 := Lib.hid ((HRW.out.keep hb5).mine hI5)
      have hc9 := HX9.out.cells
      have HB9 := Lib.hid (HBW.out.trans (hb5.mono HBW.out.size))
      clear hI5 hr5 hb5
      go_wp2_with fail
      refine bodyPost_ret (v := .tuple #[.agg #[.bool (decide (Z < 0)), .slice ad5 n5 c5], .int .i64 0]) (by simp [results, Try.results59, go_sem, hc9.1, hc9.2]) rfl ⟨_, rfl, HX9.out.rv, ?_⟩
      exact (HB9.out.setCell (by simp <;> omega) _).setCell (by simp <;> omega) _
  · have hgl : g < w2.heap.size := (Array.getElem?_eq_some_iff.1 hgg).1
    have hll : (bitsL x N).length = N := bitsL_length x N
    have hrow : RoC w3 w1.heap.size g N cap (depL x y p N 0) := by
      rw [depL_zero]
      have h9 := HO2.out
      unfold Oo at h9
      rw [hll] at h9
      exact ⟨hll, h9⟩
    have HROW := Lib.hid hrow
    have hgsz : w.heap.size + 2 < g := by omega
    rw [hll] at *
    clear hrow HO2 ho2 ho3 hgg hb3 hb3' hb2 hb2' hb02 hb1 hb1' hb0 cA2 cB2 cC2 cD2 cE2 cF2 fC2 fE2 fF2 hsz2 kc0 kc1 kf0 kf1 cA3 hsz3 hmax hmax0 hmax2 HLN HBX HBY
    go_wp2_with fail
    go_loopw [12] (DepRel x y s p N w1.heap.size g cap w2.heap.size (.slice ay s cy2) w3) (fun i _ => s - (intOf i).toNat)
    case atStart => exact ⟨0, Nat.zero_le _, rfl, HROW.out, HO3.out, Below.refl _ _⟩
    case round =>
      obtain ⟨k, hk, rfl, hrow, hoy, hnx⟩ := hrel
      by_cases hks : k < s
      · obtain ⟨ad', cap', e, _, _, hxx⟩ := hoy.rd
        obtain ⟨e1, e2, e3⟩ := Value.slice.inj e
        subst e1
        clear e2 e3
        obtain ⟨bb, ob, e4, _, h2⟩ := hxx k (by rw [HEY.out]; exact hks)
        subst e4
        rw [HGY.out k hks] at h2
        have hpk : p + k < N := by omega
        have gz := hrow.cell (p + k) hpk
        have gf := hrow.frozen (p + k)
        have HSE := Lib.hid (depL_set x y p N k)
        have HRO := Lib.hid hrow
        have HOY := Lib.hid hoy
        have HNX := Lib.hid hnx
        generalize bitZ y k = t at *
        generalize (depL x y p N k)[p + k]?.getD false = z0 at *
        clear hrow hoy hnx hxx e
        go_wp2
        go_roundw
        case rel => exact ⟨k + 1, hks, by go_num, by rw [← HSE.out]; exact HRO.out.store _ _, HOY.out.far _ hgl, HNX.out.setCell (Nat.le_refl _) _⟩
        case measure => simp [intOf] <;> omega
      · obtain rfl : k = s := by omega
        have HO4 := Lib.hid (HOF.out bx (.slice (some ⟨g, 0, none⟩) N cap) wr hrow.rd)
        rw [HZ.out] at HO4
        have kb0 : wr.cell? ⟨w.heap.size, 0, none⟩ = some (.bool bx) := (hnx.cell (p := ⟨w.heap.size, 0, none⟩) (by show w.heap.size < _; omega)).trans HA3.out
        have HRW : Hid (RX (w.heap.size + 2) (.bool false) (.slice none 0 0) 0 wr) := Lib.hid ⟨(hnx.cell (p := ⟨w.heap.size + 2, 0, none⟩) hgsz).trans HR3.out.c0, (hnx.cell (p := ⟨w.heap.size + 2, 1, none⟩) hgsz).trans HR3.out.c1, (hnx.frozen (p := ⟨w.heap.size + 2, 0, none⟩) hgsz).trans HR3.out.f0, (hnx.frozen (p := ⟨w.heap.size + 2, 1, none⟩) hgsz).trans HR3.out.f1, RefV.zero0 _⟩
        have HBW := Lib.hid (HB3.out.trans (hnx.mono (by omega)))
        clear hrow hoy hnx
        go_wp2_with fail
        (with_reducible refine HO4.out.out.mono ?_)
        rintro e w5 ⟨v5, rfl, ⟨ad5, n5, c5, rfl, hr5⟩, hb5⟩
        have hI5 : RefV w5 (.agg #[.bool (decide (Z < 0)), .slice ad5 n5 c5]) Z := ⟨_, _, _, rfl, hr5⟩
        obtain ⟨kc0, kc1, kf0, kf1, _⟩ := HRW.out.keep hb5
        have HX9 := Lib.hid ((HRW.out.keep hb5).mine hI5)
        have hc9 := HX9.out.cells
        have HB9 := Lib.hid (HBW.out.trans (hb5.mono HBW.out.size))
        clear hI5 hr5 hb5
        go_wp2_with fail
        refine bodyPost_ret (v := .tuple #[.agg #[.bool (decide (Z < 0)), .slice ad5 n5 c5], .int .i64 0]) (by simp [results, Try.results59, go_sem, hc9.1, hc9.2]) rfl ⟨_, rfl, HX9.out.rv, ?_⟩
        exact (HB9.out.setCell (by simp <;> omega) _).setCell (by simp <;> omega) _

end Go.Proofs.Ytnbnbjgdplpemaa
