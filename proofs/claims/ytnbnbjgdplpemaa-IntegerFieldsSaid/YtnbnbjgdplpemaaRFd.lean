/-  The reference's within and Field.  -/
import Derived.Test.YtnbnbjgdplpemaaRSh
import Derived.Test.YtnbnbjgdplpemaaPat
namespace Go.Proofs.Ytnbnbjgdplpemaa
open Go.RowKit Digs

set_option maxHeartbeats 1000000 in
set_option maxRecDepth 100000 in
theorem within_ok (n : Nat) (w : World) (h : n ≤ 65536) : Calls Try.prog 107 #[.int .i64 (n : Int)] w fun e w' => e = .returned (.bool true) ∧ w = w' := by
  have h1 : (n : Int) ≤ 65536 := by omega
  go_enter Try.func107, Try.ntmps107
  go_wp2
  go_ret
  exact ⟨rfl, rfl⟩

set_option maxHeartbeats 1000000 in
set_option maxRecDepth 100000 in
theorem within_bad (n : Int) (w : World) (h : n < 0 ∨ 65536 < n) : Calls Try.prog 107 #[.int .i64 n] w fun e w' => e = .returned (.bool false) ∧ w = w' := by
  rcases h with h | h
  · go_enter Try.func107, Try.ntmps107
    go_wp2
    go_ret
    exact ⟨rfl, rfl⟩
  · have h0 : 0 ≤ n := by omega
    have h1 : decide (n ≤ 65536) = false := decide_eq_false (by omega)
    go_enter Try.func107, Try.ntmps107
    go_wp2
    go_ret
    refine ⟨?_, rfl⟩
    first | rfl | (show Ending.returned (.bool (decide (n ≤ 65536))) = _; rw [h1])

theorem bad_cases {s p : Int} (h : s < 0 ∨ 65536 < s ∨ p < 0 ∨ 65536 < p) : (s < 0 ∨ 65536 < s) ∨ ((∃ k : Nat, s = (k : Int) ∧ k ≤ 65536) ∧ (p < 0 ∨ 65536 < p)) := by
  by_cases h1 : s < 0 ∨ 65536 < s
  · exact .inl h1
  · exact .inr ⟨⟨s.toNat, by omega, by omega⟩, by omega⟩

set_option maxHeartbeats 1000000 in
set_option maxRecDepth 100000 in
theorem rField_bad (x s p : Int) (v : Value) (w : World) (hb : s < 0 ∨ 65536 < s ∨ p < 0 ∨ 65536 < p) (h : RefV w v x) :
    Calls Try.prog 57 #[v, .int .i64 s, .int .i64 p] w (RefErr w 1) := by
  obtain ⟨ad, k, c, rfl, _⟩ := h
  generalize decide (x < 0) = b at *
  rcases bad_cases hb with h1 | ⟨⟨k', rfl, h1⟩, h2⟩
  · have HW := Lib.hid fun W => Lib.hid (within_bad s W h1)
    clear hb h1
    go_enter Try.func57, Try.ntmps57
    go_wp2_with fail
    (with_reducible refine (HW.out _).out.mono ?_)
    rintro e w1 ⟨rfl, rfl⟩
    go_wp2_with fail
    refine bodyPost_ret (v := .tuple #[.agg #[.bool false, .slice none 0 0], .int .i64 1]) (by simp [results, Try.results57, go_sem]) rfl ⟨rfl, ?_⟩
    first | exact below2 w _ _ | exact Below.setCell (Below.setCell (below2 w _ _) (by simp) _) (by simp) _
  · have HW := Lib.hid fun W => Lib.hid (within_ok k' W h1)
    have HP := Lib.hid fun W => Lib.hid (within_bad p W h2)
    clear hb h1 h2
    go_enter Try.func57, Try.ntmps57
    go_wp2_with fail
    (with_reducible refine (HW.out _).out.mono ?_)
    rintro e w1 ⟨rfl, rfl⟩
    go_wp2_with fail
    (with_reducible refine (HP.out _).out.mono ?_)
    rintro e w1 ⟨rfl, rfl⟩
    go_wp2_with fail
    refine bodyPost_ret (v := .tuple #[.agg #[.bool false, .slice none 0 0], .int .i64 1]) (by simp [results, Try.results57, go_sem]) rfl ⟨rfl, ?_⟩
    first | exact below2 w _ _ | exact Below.setCell (Below.setCell (below2 w _ _) (by simp) _) (by simp) _

theorem RdB.drop {w : World} {g N cap p s : Nat} {l : List Bool} (h : RdB w (.slice (some ⟨g, 0, none⟩) N cap) l) (hN : N = p + s) : RdB w (.slice (some ⟨g, p, none⟩) s (cap - p)) (l.drop p) := by
  obtain ⟨ad, cap', e, hm, hc, hx⟩ := h
  cases e
  have hl : (l.drop p).length = s := by rw [List.length_drop]; omega
  refine ⟨some ⟨g, p, none⟩, cap - p, by rw [hl], by omega, by omega, fun j hj => ?_⟩
  obtain ⟨b, off, e, h1, h2⟩ := hx (p + j) (by omega)
  cases e
  exact ⟨g, p, rfl, h1, by rw [List.getElem?_drop]; simpa using h2⟩
theorem RdB.none {w : World} {ad : Option Addr} {l : List Bool} {n : Nat} (hn : n = 0) (hl : l.length = 0) : RdB w (.slice ad n 0) l := by
  subst hn
  exact ⟨ad, 0, by rw [hl], Nat.zero_le _, by omega, fun j hj => by omega⟩

theorem field_of (x : Int) (s p : Nat) : ofB ((bitsL x (p + s)).drop p) false = fieldZ x s p := by
  apply bitZ_ext
  intro i
  rw [ofB_bit, fieldZ_bit, List.length_drop, bitsL_length, Nat.add_sub_cancel_left]
  by_cases h : i < s
  · rw [if_pos h, List.getElem?_drop, bitsL_get x _ _ (by omega), decide_eq_true h, Bool.and_true, Nat.add_comm]
  · rw [if_neg h, decide_eq_false h, Bool.and_false]

set_option maxHeartbeats 2000000 in
set_option maxRecDepth 100000 in
theorem rField_any (x : Int) (s p : Nat) (v : Value) (w : World) (hs : s ≤ 65536) (hp : p ≤ 65536) (hx : rlen x ≤ 50000) (h : RefV w v x) :
    Calls Try.prog 57 #[v, .int .i64 (s : Int), .int .i64 (p : Int)] w (RefOK w (fieldZ x s p)) := by
  have HWS := Lib.hid fun W => Lib.hid (within_ok s W hs)
  have HWP := Lib.hid fun W => Lib.hid (within_ok p W hp)
  have HBT := Lib.hid fun W hw => Lib.hid (show Calls Try.prog 79 #[v, .int .i64 ((p : Int) + (s : Int))] W (OoPost W (bitsL x (p + s))) from by have h9 := rBits_any x v (p + s) W (by omega) (by omega) (h.keep (w' := W) hw); rw [Int.natCast_add] at h9; exact h9)
  have HOF := Lib.hid fun u W hu => Lib.hid (rOf_any ((bitsL x (p + s)).drop p) false u W (by rw [List.length_drop, bitsL_length]; omega) hu)
  rw [field_of] at HOF
  have HLL := Lib.hid (bitsL_length x (p + s))
  obtain ⟨ad, m, c, rfl, _⟩ := h
  generalize decide (x < 0) = b at *
  generalize fieldZ x s p = Z at *
  generalize bitsL x (p + s) = l at *
  clear hx
  go_enter Try.func57, Try.ntmps57
  go_wp2_with fail
  (with_reducible refine (HWS.out _).out.mono ?_)
  rintro e w1 ⟨rfl, rfl⟩
  go_wp2_with fail
  (with_reducible refine (HWP.out _).out.mono ?_)
  rintro e w1 ⟨rfl, rfl⟩
  go_wp2_with fail
  (with_reducible refine (HBT.out _ (below2 _ _ _)).out.mono ?_)
  rintro e w1 ⟨v1, rfl, ho1, hb1⟩
  have hrd := ho1.rd
  have hll : l.length = p + s := HLL.out
  obtain ⟨_, kc0, kc1, kf0, kf1⟩ := zc2 hb1
  have HR1 : Hid (RX (w.heap.size + 1) (.bool false) (.slice none 0 0) 0 w1) := Lib.hid ⟨kc0, kc1, kf0, kf1, RefV.zero0 _⟩
  have HB1 := Lib.hid ((below2 w _ _).trans (hb1.mono (by simp <;> omega)))
  clear kc0 kc1 kf0 kf1
  rcases ho1.2 with ⟨rfl, hn0⟩ | ⟨g, cap, cur, rfl, hg, hgg, hc, hm, _, _⟩
  · have hp0 : p = 0 := by omega
    have hs0 : s = 0 := by omega
    have HD := Lib.hid (RdB.none (w := w1) (ad := none) (l := l.drop p) (n := 0) rfl (by rw [List.length_drop]; omega))
    subst hp0
    subst hs0
    clear hb1 hrd ho1 hll hn0
    go_wp2_with fail
    (with_reducible refine (HOF.out _ _ HD.out).out.mono ?_)
    rintro e w2 ⟨v2, rfl, ⟨ad2, n2, c2, rfl, hr2⟩, hb2⟩
    have hI2 : RefV w2 (.agg #[.bool (decide (Z < 0)), .slice ad2 n2 c2]) Z := ⟨_, _, _, rfl, hr2⟩
    obtain ⟨kc0, kc1, kf0, kf1, _⟩ := HR1.out.keep hb2
    have HX9 := Lib.hid ((HR1.out.keep hb2).mine hI2)
    have hc9 := HX9.out.cells
    have HB9 := Lib.hid (HB1.out.trans (hb2.mono HB1.out.size))
    clear hI2 hr2 hb2
    go_wp2
    refine bodyPost_ret (v := .tuple #[.agg #[.bool (decide (Z < 0)), .slice ad2 n2 c2], .int .i64 0]) (by simp [results, Try.results57, go_sem, hc9.1, hc9.2]) rfl ⟨_, rfl, HX9.out.rv, ?_⟩
    exact (HB9.out.setCell (by simp) _).setCell (by simp) _
  · have HD1 := Lib.hid (RdB.drop (p := p) (s := s) hrd (by rw [hll]))
    have HD2 : Hid (cap - p = 0 → RdB w1 (.slice (some ⟨g, 0, none⟩) s 0) (l.drop p)) := Lib.hid fun h => RdB.none (by omega) (by rw [List.length_drop]; omega)
    rw [hll] at *
    clear hb1 hgg hrd ho1
    go_wp2_with fail
    all_goals
    first
      | (with_reducible refine (HOF.out _ _ HD1.out).out.mono ?_)
      | (with_reducible refine (HOF.out _ _ (HD2.out (by omega))).out.mono ?_)
    rintro e w2 ⟨v2, rfl, ⟨ad2, n2, c2, rfl, hr2⟩, hb2⟩
    have hI2 : RefV w2 (.agg #[.bool (decide (Z < 0)), .slice ad2 n2 c2]) Z := ⟨_, _, _, rfl, hr2⟩
    obtain ⟨kc0, kc1, kf0, kf1, _⟩ := HR1.out.keep hb2
    have HX9 := Lib.hid ((HR1.out.keep hb2).mine hI2)
    have hc9 := HX9.out.cells
    have HB9 := Lib.hid (HB1.out.trans (hb2.mono HB1.out.size))
    clear hI2 hr2 hb2
    go_wp2
    refine bodyPost_ret (v := .tuple #[.agg #[.bool (decide (Z < 0)), .slice ad2 n2 c2], .int .i64 0]) (by simp [results, Try.results57, go_sem, hc9.1, hc9.2]) rfl ⟨_, rfl, HX9.out.rv, ?_⟩
    exact (HB9.out.setCell (by simp) _).setCell (by simp) _

end Go.Proofs.Ytnbnbjgdplpemaa
