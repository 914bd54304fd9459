/- HeapWords: the walk. -/
import Derived.Test.YtpkhmgbkalhilaaAw
namespace Go.Proofs.Ytpkhmgbkalhilaa
section
open Go.RowKit

theorem fix_minus : fixRes (-1) = (18446744073709551608, 0) := by
  unfold fixRes
  rw [if_pos (by unfold fixIn; omega)]
  rfl

set_option maxHeartbeats 1000000 in
set_option maxRecDepth 100000 in
theorem awake_any (w : World) : Calls Try.prog 14 #[] w fun e w' => e = .returned (.bool true) ∧ Below w.heap.size w w' := by
  have HN := Lib.hid (newHeap_ok 64 64 w (by decide) (by decide) (by decide) (by decide))
  have HF := Lib.hid fun W => fix_any (-1) W (by decide) (by decide)
  rw [fix_minus] at HF
  go_enter Try.func14, Try.ntmps14
  go_wp2_with fail
  refine HN.out.mono ?_
  rintro e w1 ⟨rfl, hH1, hb1⟩
  have HO := Lib.hid (newObj_ok 10 2 w.heap.size w.heap.size 64 64 _ _ 6 0 _ 0 w1 hH1 (by decide) (by decide) (by decide) (by decide) (by decide) (by decide) hb1.size (by decide) (by decide))
  have HB1 := Lib.hid hb1
  clear hH1 hb1
  go_wp2_with fail
  refine HO.out.mono ?_
  rintro e w2 ⟨rfl, hH2, hb2⟩
  have HU := Lib.hid (used_any w.heap.size w.heap.size 64 64 _ _ 6 0 _ 0 w2 hH2 (by simp))
  rw [show (([321, 3, 3, 3, 3, 3] ++ (2 * 64 + 10) :: List.replicate 2 3 : List Nat).length : Int) = 9 from rfl] at HU
  rw [show ((([321, 3, 3, 3, 3, 3] : List Nat).length * 8 + 3 : Nat) : Int) = 51 from rfl]
  have HB2 := Lib.hid (HB1.out.trans hb2)
  clear hH2 hb2
  go_wp2_with (first | (go_at_call 4; refine (HF.out _).mono ?_; rintro e w' ⟨rfl, rfl⟩) | (go_at_call 20; refine HU.out.mono ?_; rintro e w' ⟨rfl, rfl⟩))
  go_ret
  exact ⟨rfl, HB2.out⟩

theorem excl (v : Nat) : ((fixnumRes v).2 && (charNumRes v).2) = false ∧ ((fixnumRes v).2 && isRefB v) = false ∧ ((charNumRes v).2 && isRefB v) = false := by
  unfold fixnumRes charNumRes isRefB isCh
  by_cases h0 : v % 8 = 0
  · rw [if_pos h0, decide_eq_false (show ¬ v % 8 = 1 by omega), decide_eq_false (show ¬ v % 8 = 3 by omega)]
    simp
  · rw [if_neg h0]
    by_cases h1 : v % 8 = 1
    · rw [decide_eq_false (show ¬ v % 8 = 3 by omega)]
      simp
    · rw [decide_eq_false h1]
      simp

set_option maxHeartbeats 2000000 in
set_option maxRecDepth 100000 in
theorem words_any (n c : Int) (y : Nat) (w : World) (hn1 : -9223372036854775808 ≤ n) (hn2 : n ≤ 9223372036854775807) (hc1 : -2147483648 ≤ c) (hc2 : c ≤ 2147483647) (hy : y < 18446744073709551616) :
    Calls Try.prog 3 #[.int .i64 n, .int .i32 c, .int .u64 y] w fun e w' => e = .returned (.bool true) ∧ Below w.heap.size w w' := by
  have HF := Lib.hid fun W => fix_any n W hn1 hn2
  have HFR := Lib.hid fun W => rfix_any n W hn1 hn2
  have HC := Lib.hid fun W => char_any c W hc1 hc2
  have HCR := Lib.hid fun W => rchar_any c W hc1 hc2
  have hx := charRes_lt c
  have HAW := Lib.hid awake_any
  generalize (fixRes n).1 = a1 at *
  generalize (fixRes n).2 = a2 at *
  generalize (charRes c).1 = x at *
  generalize (charRes c).2 = a3 at *
  have HX := Lib.hid hx
  have HY := Lib.hid hy
  clear hn1 hn2 hc1 hc2 hx hy
  go_enter Try.func3, Try.ntmps3
  go_wp2_with (first
    | (go_at_call 4; refine (HF.out _).mono ?_; rintro e w' ⟨rfl, rfl⟩)
    | (go_at_call 5; refine (HFR.out _).mono ?_; rintro e w' ⟨rfl, rfl⟩)
    | (go_at_call 6; refine (HC.out _).mono ?_; rintro e w' ⟨rfl, rfl⟩)
    | (go_at_call 7; refine (HCR.out _).mono ?_; rintro e w' ⟨rfl, rfl⟩))
  go_loop [61] (fun i => ∃ k : Nat, k ≤ 2 ∧ i = .int .i64 k) (fun i => 2 - (intOf i).toNat)
  case atStart => exact ⟨0, by decide, rfl⟩
  case round =>
    obtain ⟨k, hk, rfl⟩ := hrel
    by_cases hk2 : k < 2
    · obtain ⟨v, hv, hcell⟩ : ∃ v : Nat, v < 18446744073709551616 ∧ (w.alloc (.cells #[.int .u64 x, .int .u64 y] 23)).cell? ⟨w.heap.size, k, none⟩ = some (.int .u64 v) := by
        rcases (show k = 0 ∨ k = 1 by omega) with rfl | rfl
        · exact ⟨x, HX.out, by rw [World.cell?_alloc_at _ _ _ _ rfl]; rfl⟩
        · exact ⟨y, HY.out, by rw [World.cell?_alloc_at _ _ _ _ rfl]; rfl⟩
      have H1 := Lib.hid fun W => fixnum_any v W hv
      have H2 := Lib.hid fun W => rfixnum_any v W hv
      have H3 := Lib.hid fun W => character_any v W hv
      have H4 := Lib.hid fun W => rcharacter_any v W hv
      have H5 := Lib.hid fun W => isRef_any v W hv
      have H6 := Lib.hid fun W => risRef_any v W hv
      obtain ⟨e1, e2, e3⟩ := excl v
      generalize (fixnumRes v).1 = p1 at *
      generalize (charNumRes v).1 = p2 at *
      generalize (fixnumRes v).2 = b1 at *
      generalize (charNumRes v).2 = b2 at *
      generalize isRefB v = b3 at *
      cases b1 <;> cases b2 <;> cases b3 <;> first | (exfalso; revert e1; decide) | (exfalso; revert e2; decide) | (exfalso; revert e3; decide) | skip
      all_goals
        clear e1 e2 e3 hv
        go_wp2_with (first
          | (go_at_call 8; refine (H1.out _).mono ?_; rintro e w' ⟨rfl, rfl⟩)
          | (go_at_call 9; refine (H2.out _).mono ?_; rintro e w' ⟨rfl, rfl⟩)
          | (go_at_call 10; refine (H3.out _).mono ?_; rintro e w' ⟨rfl, rfl⟩)
          | (go_at_call 11; refine (H4.out _).mono ?_; rintro e w' ⟨rfl, rfl⟩)
          | (go_at_call 12; refine (H5.out _).mono ?_; rintro e w' ⟨rfl, rfl⟩)
          | (go_at_call 13; refine (H6.out _).mono ?_; rintro e w' ⟨rfl, rfl⟩))
        go_round
        case rel => exact ⟨k + 1, by omega, by go_num⟩
        case measure => simp [intOf]; omega
    · obtain rfl : k = 2 := by omega
      go_wp2_with fail
      refine (HAW.out _).mono ?_
      rintro e w1 ⟨rfl, hb1⟩
      have HB := Lib.hid (((Below.refl w.heap.size w).alloc (Nat.le_refl _) (.cells #[.int .u64 x, .int .u64 y] 23)).trans (hb1.mono (by simp)))
      clear hb1
      go_wp2
      go_ret
      exact ⟨rfl, HB.out⟩

end
end Go.Proofs.Ytpkhmgbkalhilaa
