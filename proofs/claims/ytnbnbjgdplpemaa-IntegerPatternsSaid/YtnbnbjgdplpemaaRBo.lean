/-  The reference's Boole.  -/
import Derived.Test.YtnbnbjgdplpemaaROf
import Derived.Test.YtnbnbjgdplpemaaRC
namespace Go.Proofs.Ytnbnbjgdplpemaa
open Go.RowKit Digs

/-- The bits that an operation makes, from 0 to n - 1. -/
def boolsL (op : Nat) (x y : Int) (n : Nat) : List Bool := (List.range n).map fun i => opB op (bitZ x i) (bitZ y i)
theorem boolsL_length (op : Nat) (x y : Int) (n : Nat) : (boolsL op x y n).length = n := by simp [boolsL]
theorem boolsL_succ (op : Nat) (x y : Int) (n : Nat) : boolsL op x y (n + 1) = boolsL op x y n ++ [opB op (bitZ x n) (bitZ y n)] := by simp [boolsL, List.range_succ]
theorem boolsL_get (op : Nat) (x y : Int) (n j : Nat) (h : j < n) : (boolsL op x y n)[j]?.getD false = opB op (bitZ x j) (bitZ y j) := by
  unfold boolsL
  rw [List.getElem?_map, List.getElem?_range h]
  rfl
theorem boolZ_of (op : Nat) (x y : Int) (n : Nat) (hx : lenZ x ≤ n) (hy : lenZ y ≤ n) : ofB (boolsL op x y n) (opB op (decide (x < 0)) (decide (y < 0))) = boolZ op x y := by
  apply bitZ_ext
  intro i
  rw [ofB_bit, boolZ_bit, boolsL_length]
  by_cases h : i < n
  · rw [if_pos h, boolsL_get _ _ _ _ _ h]
  · rw [if_neg h, bitZ_sign x i (by omega), bitZ_sign y i (by omega)]

theorem run_max2 (a b n : Nat) (hn : n = max a b) (w : World) (ts : Array TypeId) (t : TypeId) : (Builtin.max_ ts t #[.int .i64 (a : Int), .int .i64 (b : Int)]).run Try.prog w = .ok (.int .i64 (n : Int)) w := by
  have e : (if (b : Int) > (a : Int) then (b : Int) else (a : Int)) = (n : Int) := by split <;> omega
  have h : (Builtin.max_ ts t #[.int .i64 (a : Int), .int .i64 (b : Int)]).run Try.prog w = .ok (.int .i64 (if (b : Int) > (a : Int) then (b : Int) else (a : Int))) w := rfl
  rw [h, e]

theorem run_max2' (a b n : Nat) (hn : n = max a b) : ∀ (w : World) (ts : Array TypeId) (t : TypeId), (Builtin.max_ ts t #[.int .i64 (a : Int), .int .i64 (b : Int)]).run Try.prog w = .ok (.int .i64 (n : Int)) w := run_max2 a b n hn

def BooRel (op : Nat) (x y : Int) (n : Nat) (X : World) (v i : Value) (wr : World) : Prop :=
  ∃ k : Nat, k ≤ n ∧ i = .int .i64 k ∧ Oo wr X.heap.size v (boolsL op x y k) ∧ Below X.heap.size X wr

set_option maxHeartbeats 4000000 in
set_option maxRecDepth 100000 in
theorem rBoole_any (op : Nat) (x y : Int) (vx vy : Value) (w : World) (hop : op ≤ 15) (hx : rlen x ≤ 50000) (hy : rlen y ≤ 50000) (ha : RefV w vx x) (hb : RefV w vy y) :
    Calls Try.prog 52 #[.int .i64 (op : Int), vx, vy] w (RefOK w (boolZ op x y)) := by
  obtain ⟨n, hn⟩ : ∃ n, n = max (lenZ x) (lenZ y) := ⟨_, rfl⟩
  have hlx := lenZ_rlen x
  have hly := lenZ_rlen y
  have hnb : n ≤ 900000 := by omega
  have HLX := Lib.hid fun W hw => Lib.hid (rLength_any x vx W (by omega) (ha.keep (w' := W) hw))
  have HLY := Lib.hid fun W hw => Lib.hid (rLength_any y vy W (by omega) (hb.keep (w' := W) hw))
  have HBX := Lib.hid fun W hw => Lib.hid (rBits_any x vx n W (by omega) (by omega) (ha.keep (w' := W) hw))
  have HBY := Lib.hid fun W hw => Lib.hid (rBits_any y vy n W (by omega) (by omega) (hb.keep (w' := W) hw))
  have HCH := Lib.hid fun a b W => Lib.hid (chosen_any op a b W hop)
  have HOF := Lib.hid fun l s v W hl h => Lib.hid (rOf_any l s v W hl h)
  have hmax := run_max2' (lenZ x) (lenZ y) n hn
  have HZ := Lib.hid (boolZ_of op x y n (by omega) (by omega))
  have hle := Lib.hid (boolsL_length op x y)
  have HSU := Lib.hid (boolsL_succ op x y)
  have HGX := Lib.hid (bitsL_get x n)
  have HGY := Lib.hid (bitsL_get y n)
  have HEX := Lib.hid (bitsL_length x n)
  have HEY := Lib.hid (bitsL_length y n)
  obtain ⟨i0, hi, hz0, hz1, hz2⟩ := info_parts Try.infoBool
  obtain ⟨adx, nx, cx, rfl, hrx⟩ := ha
  obtain ⟨ady, ny, cy, rfl, hry⟩ := hb
  clear hrx hry hlx hly hx hy hn
  generalize lenZ x = lx at *
  generalize lenZ y = ly at *
  generalize bitsL x n = Lx at *
  generalize bitsL y n = Ly at *
  generalize boolZ op x y = Z at *
  generalize decide (x < 0) = bx at *
  generalize decide (y < 0) = by' at *
  have ho1 : ¬ (15 : Int) < (op : Int) := by omega
  go_enter Try.func52, Try.ntmps52
  go_wp2_with fail
  go_region_held3 (fun w' => w'.cell? ⟨w.heap.size, 0, none⟩ = some (.bool bx) ∧ w'.cell? ⟨w.heap.size, 1, none⟩ = some (.slice adx nx cx) ∧ w'.cell? ⟨w.heap.size + 1, 0, none⟩ = some (.bool by') ∧ w'.cell? ⟨w.heap.size + 1, 1, none⟩ = some (.slice ady ny cy))
    (first | exact ⟨cA2, cB2, cC2, cD2⟩ | exact ⟨cA, cB, cC, cD⟩ | go_keep)
    (go_loud (first
      | (go_at_call_of 27 (Value.agg #[.bool bx, .slice adx nx cx]); (with_reducible refine (HLX.out _ ?_).out.mono ?_); (exact (below3 _ _ _ _).drew); rintro e w1 ⟨rfl, hb1'⟩; have hb1 := (Below.refl _ _).drew.trans hb1'; obtain ⟨cA, cB, cC, cD, cE, cF, fC, fE, fF, hsz⟩ := box3 hb1; have hb0 := (below3 w _ _ _).trans (hb1.mono (by simp <;> omega)))
      | (go_at_call_of 27 (Value.agg #[.bool by', .slice ady ny cy]); (with_reducible refine (HLY.out _ hb0).out.mono ?_); rintro e w2 ⟨rfl, hb2'⟩; have hb2 := hb1.trans (hb2'.mono hb1.size); obtain ⟨cA2, cB2, cC2, cD2, cE2, cF2, fC2, fE2, fF2, hsz2⟩ := box3 hb2; have hb02 := (below3 w _ _ _).trans (hb2.mono (by simp <;> omega)))))
  clear hb1 hb1' hb0 cA cB cC cD cE cF fC fE fF cE2 cF2 fC2 fE2 fF2 hsz hsz2
  go_upto_region 4 with fail
  go_region_held3 (fun w' => w'.cell? ⟨w.heap.size, 0, none⟩ = some (.bool bx) ∧ w'.cell? ⟨w.heap.size, 1, none⟩ = some (.slice adx nx cx) ∧ w'.cell? ⟨w.heap.size + 1, 0, none⟩ = some (.bool by') ∧ w'.cell? ⟨w.heap.size + 1, 1, none⟩ = some (.slice ady ny cy))
    (first | exact ⟨cA4, cB4, cC4, cD4⟩ | exact ⟨cA3, cB3, cC3, cD3⟩ | exact ⟨cA2, cB2, cC2, cD2⟩ | go_keep)
    (go_loud (first
      | (go_at_call_of 79 (Value.agg #[.bool bx, .slice adx nx cx]); (with_reducible refine (HBX.out _ ?_).out.mono ?_); (exact hb02.drew); rintro e w3 ⟨v3, rfl, ho3, hb3'⟩; have hb3x := below_dr hb3'; have hb3 := hb2.trans (hb3x.mono hb2.size); obtain ⟨cA3, cB3, cC3, cD3, cE3, cF3, fC3, fE3, fF3, hsz3⟩ := box3 hb3; have hb03 := (below3 w _ _ _).trans (hb3.mono (by simp <;> omega)))
      | (go_at_call_of 79 (Value.agg #[.bool by', .slice ady ny cy]); (with_reducible refine (HBY.out _ hb03).out.mono ?_); rintro e w4 ⟨v4, rfl, ho4, hb4'⟩; have hb4 := hb3.trans (hb4'.mono hb3.size); obtain ⟨cA4, cB4, cC4, cD4, cE4, cF4, fC4, fE4, fF4, hsz4⟩ := box3 hb4; have hb04 := (below3 w _ _ _).trans (hb4.mono (by simp <;> omega)))))
  have hrx := ho3.rd.keep hb4'
  have hry := ho4.rd
  obtain ⟨ax2, cx2, rfl, _, _, hx2⟩ := hrx
  obtain ⟨ay2, cy2, rfl, _, _, hy2⟩ := hry
  have HX : Hid (∀ W, Below w4.heap.size w4 W → ∀ j, j < n → ∃ b off, ax2 = some ⟨b, off, none⟩ ∧ W.cell? ⟨b, off + j, none⟩ = some (.bool (bitZ x j))) := Lib.hid fun W hb j hj => by
    obtain ⟨b, o, e1, e2, e3⟩ := hx2 j (by rw [HEX.out]; exact hj)
    rw [HGX.out j hj] at e3
    exact ⟨b, o, e1, (hb.cell (p := ⟨b, o + j, none⟩) e2).trans e3⟩
  have HY : Hid (∀ W, Below w4.heap.size w4 W → ∀ j, j < n → ∃ b off, ay2 = some ⟨b, off, none⟩ ∧ W.cell? ⟨b, off + j, none⟩ = some (.bool (bitZ y j))) := Lib.hid fun W hb j hj => by
    obtain ⟨b, o, e1, e2, e3⟩ := hy2 j (by rw [HEY.out]; exact hj)
    rw [HGY.out j hj] at e3
    exact ⟨b, o, e1, (hb.cell (p := ⟨b, o + j, none⟩) e2).trans e3⟩
  have hll : Lx.length = n := HEX.out
  have hll2 : Ly.length = n := HEY.out
  rw [hll, hll2] at *
  have hRX : RX (w.heap.size + 2) (.bool false) (.slice none 0 0) 0 w4 := ⟨cE4, cF4, fE4, fF4, RefV.zero0 _⟩
  have HRX := Lib.hid hRX
  have HNX0 : Hid (w4.cell? ⟨w.heap.size, 0, none⟩ = some (.bool bx) ∧ w4.cell? ⟨w.heap.size + 1, 0, none⟩ = some (.bool by') ∧ w.heap.size + 2 < w4.heap.size) := Lib.hid ⟨cA4, cC4, hsz4⟩
  have HB4 := Lib.hid hb04
  clear hRX hx2 hy2 hll hll2 ho3 ho4 hb04 hb03 hb02 hb2 hb3 hb3' hb3x hb4 hb4' cA2 cB2 cC2 cD2 cA3 cB3 cC3 cD3 cE3 cF3 fC3 fE3 fF3 hsz3 cA4 cB4 cC4 cD4 cE4 cF4 fC4 fE4 fF4 hsz4 hmax HLX HLY HBX HBY HEX HEY HGX HGY
  go_wp2_with fail
  go_loopw [11, 12] (BooRel op x y n w4) (fun _ i _ => n - (intOf i).toNat)
  case atStart => exact ⟨0, Nat.zero_le _, rfl, World.ownsRow_nil _ _ _ _, Below.refl _ _⟩
  case round =>
    obtain ⟨k, hk, rfl, hown, hnx⟩ := hrel
    have HO := Lib.hid hown
    have HNX := Lib.hid hnx
    clear hown hnx
    by_cases hkn : k < n
    · have HSK := Lib.hid (HSU.out k)
      have HLE := Lib.hid (hle.out k)
      obtain ⟨bbx, obx, rfl, gx⟩ := HX.out wr HNX.out k hkn
      obtain ⟨bby, oby, rfl, gy⟩ := HY.out wr HNX.out k hkn
      have HGG : Hid (∀ W, Below w4.heap.size w4 W → W.cell? ⟨bbx, obx + k, none⟩ = some (.bool (bitZ x k)) ∧ W.cell? ⟨bby, oby + k, none⟩ = some (.bool (bitZ y k))) := Lib.hid fun W hb => by
        obtain ⟨b1, o1, e1, h1⟩ := HX.out W hb k hkn
        obtain ⟨b2, o2, e2, h2⟩ := HY.out W hb k hkn
        cases e1
        cases e2
        exact ⟨h1, h2⟩
      generalize bitZ x k = p at *
      generalize bitZ y k = q at *
      generalize boolsL op x y k = s at *
      have HCC := Lib.hid (HCH.out p q)
      generalize opB op p q = r at *
      have hbd := (Below.refl wr.heap.size wr).drew
      have hr1 := HGG.out _ HNX.out.drew
      go_upto_region 9 with fail
      go_region_held3 (fun w' => w'.cell? ⟨bbx, obx + k, none⟩ = some (.bool p) ∧ w'.cell? ⟨bby, oby + k, none⟩ = some (.bool q))
        (first | exact hr2 | exact hr1 | go_keep)
        (go_loud (first
          | (go_at_call 101; (with_reducible refine (HCC.out _).out.mono ?_); rintro e w5 ⟨rfl, rfl⟩)
          | (refine step_append_lies _ (by rfl) _ _ _ (by rfl) w4.heap.size 4 i0 (.bool false) 1 1 Try.underlying102 hi hz0 hz1 hz2 rfl (by decide) u11 s.length (bv s) (by rfl) ((HO.out.keep hbd).alloc _)
              ⟨wr.heap.size, 0, none⟩ 1 1 [.bool r] (by rfl) (by rfl) (World.news_of_block (cs := #[.bool r]) (t := 4) (fr := (0, 0)) (heap_alloc_new wr.drew _)) (by simp [Value.oneCell'])
              (by omega) (by have := HLE.out; unfold maxLen; omega) (by have := HLE.out; omega) (by have := HNX.out.size; simp; omega) (wr.heap.size + 1) (by simp) ?_; intro gg cap w6 hown2 hgrow hat hlt; have hbz : Below w4.heap.size w4 w6 := (HNX.out.drew.alloc HNX.out.size _).grown hgrow (by have := HNX.out.size; simp; omega) (fun q hq => (HO.out.lt q hq).1); have hr2 := HGG.out _ hbz)))
      have HOW := Lib.hid hown2
      have HBZ2 := Lib.hid hbz
      clear hown2 hgrow hat hbz hr1 hr2 hbd
      go_wp2
      go_roundw
      case rel =>
        refine ⟨k + 1, hkn, by go_num, ?_, HBZ2.out⟩
        have h9 := HOW.out
        rw [HSK.out]
        unfold Oo
        rw [List.length_append, bv_append]
        exact h9
      case measure => simp [intOf] <;> omega
    · obtain rfl : k = n := by omega
      obtain ⟨z0, z1, z2⟩ := HNX0.out
      have kb0 : wr.cell? ⟨w.heap.size, 0, none⟩ = some (.bool bx) := (HNX.out.cell (p := ⟨w.heap.size, 0, none⟩) (by show w.heap.size < _; omega)).trans z0
      have kb1 : wr.cell? ⟨w.heap.size + 1, 0, none⟩ = some (.bool by') := (HNX.out.cell (p := ⟨w.heap.size + 1, 0, none⟩) (by show w.heap.size + 1 < _; omega)).trans z1
      have HCC := Lib.hid (HCH.out bx by')
      have HO2 := Lib.hid (HOF.out (boolsL op x y k) (opB op bx by') u11 wr (by have := hle.out k; omega) HO.out.rd)
      rw [HZ.out] at HO2
      generalize opB op bx by' = r at *
      clear z0 z1
      go_wp2_with fail
      (with_reducible refine (HCC.out _).out.mono ?_)
      rintro e w5 ⟨rfl, rfl⟩
      go_wp2_with fail
      (with_reducible refine HO2.out.out.mono ?_)
      rintro e w6 ⟨v6, rfl, ⟨d6, n6, c6, rfl, hr6⟩, hb6⟩
      have hI6 : RefV w6 (.agg #[.bool (decide (Z < 0)), .slice d6 n6 c6]) Z := ⟨_, _, _, rfl, hr6⟩
      have hb46 := HNX.out.trans (hb6.mono HNX.out.size)
      have hX6 := HRX.out.keep hb46
      obtain ⟨kc0, kc1, kf0, kf1, _⟩ := hX6
      have HX7 := Lib.hid ((HRX.out.keep hb46).mine hI6)
      have HB7 := Lib.hid (HB4.out.trans (hb46.mono HB4.out.size))
      have hc7 := HX7.out.cells
      clear hI6 hb46 hb6 hr6
      go_wp2_with fail
      refine bodyPost_ret (v := .tuple #[.agg #[.bool (decide (Z < 0)), .slice d6 n6 c6], .int .i64 0]) (by simp [results, Try.results52, go_sem, hc7.1, hc7.2]) rfl ⟨_, rfl, HX7.out.rv, ?_⟩
      exact (HB7.out.setCell (by simp <;> omega) _).setCell (by simp <;> omega) _

end Go.Proofs.Ytnbnbjgdplpemaa
