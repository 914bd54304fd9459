/-  Cmp, and the law's same.  -/
import Derived.Test.YtfieecdedilonaaAwake
namespace Go.Proofs.Ytfieecdedilonaa
open Go.RowKit Digs

theorem cmpN_Z (m n : Nat) : cmpN m n = cmpZ (m : Int) (n : Int) := by
  unfold cmpN cmpZ
  simp only [Int.ofNat_lt]

set_option maxHeartbeats 1000000 in
set_option maxRecDepth 100000 in
theorem Cmp_any (x y : Int) (vx vy : Value) (w : World) (ha : IntV w vx x) (hb : IntV w vy y) :
    Calls Try.prog 32 #[vx, vy] w fun e w' => e = .returned (.int .i64 (cmpZ x y)) ∧ Below w.heap.size w w' := by
  obtain ⟨adx, nx, cx, rfl, hrx⟩ := ha
  obtain ⟨ady, ny, cy, rfl, hry⟩ := hb
  have H1 := fun W hw => Lib.hid (compare_any x.natAbs y.natAbs _ _ W (hrx.keep (w' := W) hw) (hry.keep hw))
  have H2 := fun W hw => Lib.hid (compare_any y.natAbs x.natAbs _ _ W (hry.keep (w' := W) hw) (hrx.keep hw))
  have H1 := Lib.hid H1
  have H2 := Lib.hid H2
  clear hrx hry
  by_cases hx : x < 0
  · have dx : decide (x < 0) = true := by simpa using hx
    rw [dx]
    by_cases hy : y < 0
    · have dy : decide (y < 0) = true := by simpa using hy
      rw [dy]
      have e : cmpN y.natAbs x.natAbs = cmpZ x y := by
        rw [cmpN_Z]
        unfold cmpZ
        repeat' split
        all_goals omega
      rw [← e]
      clear dx dy hx hy e
      go_enter Try.func32, Try.ntmps32
      go_wp2_with fail
      refine (H2.out _ (below2 _ _ _)).out.mono ?_
      rintro e w1 ⟨rfl, d, rfl⟩
      go_wp2
      go_ret
      exact ⟨rfl, below_drewN' (below2 _ _ _) _⟩
    · have dy : decide (y < 0) = false := by simpa using hy
      rw [dy]
      have e : cmpZ x y = -1 := by unfold cmpZ; rw [if_pos (by omega)]
      rw [e]
      clear dx dy hx hy e
      go_enter Try.func32, Try.ntmps32
      go_wp2
      go_ret
      exact ⟨rfl, below2 _ _ _⟩
  · have dx : decide (x < 0) = false := by simpa using hx
    rw [dx]
    by_cases hy : y < 0
    · have dy : decide (y < 0) = true := by simpa using hy
      rw [dy]
      have e : cmpZ x y = 1 := by unfold cmpZ; rw [if_neg (by omega), if_pos (by omega)]
      rw [e]
      clear dx dy hx hy e
      go_enter Try.func32, Try.ntmps32
      go_wp2
      go_ret
      exact ⟨rfl, below2 _ _ _⟩
    · have dy : decide (y < 0) = false := by simpa using hy
      rw [dy]
      have e : cmpN x.natAbs y.natAbs = cmpZ x y := by
        rw [cmpN_Z, Int.natAbs_of_nonneg (by omega), Int.natAbs_of_nonneg (by omega)]
      rw [← e]
      clear dx dy hx hy e
      go_enter Try.func32, Try.ntmps32
      go_wp2_with fail
      refine (H1.out _ (below2 _ _ _)).out.mono ?_
      rintro e w1 ⟨rfl, d, rfl⟩
      go_wp2
      go_ret
      exact ⟨rfl, below_drewN' (below2 _ _ _) _⟩

theorem cmpZ_self (x : Int) : cmpZ x x = 0 := by simp [cmpZ]

set_option maxHeartbeats 1000000 in
set_option maxRecDepth 100000 in
theorem same_eq (x y : Int) (hxy : x = y) (vx vy : Value) (w : World) (ha : IntV w vx x) (hb : IntV w vy y) :
    Calls Try.prog 65 #[vx, vy] w (BoolPost w true) := by
  subst hxy
  have HC := fun W hw => Lib.hid (Cmp_any x x vx vy W (ha.keep hw) (hb.keep hw))
  rw [cmpZ_self] at HC
  have HC := Lib.hid HC
  obtain ⟨adx, nx, cx, rfl, _⟩ := ha
  obtain ⟨ady, ny, cy, rfl, _⟩ := hb
  generalize decide (x < 0) = b at *
  go_enter Try.func65, Try.ntmps65
  go_wp2_with fail
  refine (HC.out _ (below2 _ _ _)).out.mono ?_
  rintro e w1 ⟨rfl, hb1⟩
  go_wp2
  go_ret
  exact ⟨rfl, (below2 _ _ _).trans (hb1.mono (by simp <;> omega))⟩

end Go.Proofs.Ytfieecdedilonaa
