/-  guess: a digit of a quotient.  -/
import Derived.Test.YtfieecdedilonaaShr
import Derived.Test.YtfieecdedilonaaBl
import Derived.RegionTactic
namespace Go.Proofs.Ytfieecdedilonaa
open Go.RowKit Digs

def GuessRel (P D v1 v2 top u0 W : Nat) (w : World) (dg r : Value) (wr : World) : Prop :=
  ∃ d rr n : Nat, dg = .int .u64 d ∧ r = .int .u64 rr ∧ KG P D v1 v2 top u0 W d rr ∧ rr < 4294967296 ∧ d ≤ 4294967297 ∧ wr = w.drewN n
def GuessPost (q : Nat) (w : World) (e : Ending) (w' : World) : Prop := ∃ d n : Nat, e = .returned (.int .u32 d) ∧ q ≤ d ∧ d ≤ q + 1 ∧ d < 4294967296 ∧ w' = w.drewN n

theorem wrap_div (a b : Nat) (h : a / b ≤ 4294967297) : IntKind.u64.wrap ((a : Int) / (b : Int)) = ((a / b : Nat) : Int) := by
  rw [← Int.natCast_ediv, IntKind.wrap_u64]
  generalize a / b = c at *
  omega

set_option maxHeartbeats 2000000 in
set_option maxRecDepth 100000 in
theorem guess_core (g o cp gd od cd n : Nat) (P D v1 v2 u2 u1 u0 W : Nat) (w : World) (hj : n ≤ 1000000) (hn2 : 2 ≤ n)
    (c2 : w.cell? ⟨g, o + n, none⟩ = some (.int .u32 u2)) (c1 : w.cell? ⟨g, o + (n - 1), none⟩ = some (.int .u32 u1)) (c0 : w.cell? ⟨g, o + (n - 2), none⟩ = some (.int .u32 u0))
    (d1 : w.cell? ⟨gd, od + (n - 1), none⟩ = some (.int .u32 v1)) (d2 : w.cell? ⟨gd, od + (n - 2), none⟩ = some (.int .u32 v2)) (hu2 : u2 < 4294967296) (hu1 : u1 < 4294967296)
    (hk : KD P D v1 v2 (u1 + 4294967296 * u2) u0 W) :
    Calls Try.prog 128 #[.slice (some ⟨g, o, none⟩) (n + 1) cp, .slice (some ⟨gd, od, none⟩) n cd] w (GuessPost (P / D) w) := by
  have hv1 := hk.hv1
  have hv1b := hk.hv1b
  have hv2 := hk.hv2
  have hu0 := hk.hu0
  have hor := or_join u2 u1 hu2 hu1
  have HK := Lib.hid hk
  obtain ⟨top, htop⟩ : ∃ top, top = u1 + 4294967296 * u2 := ⟨_, rfl⟩
  have htb : top < 18446744073709551616 := by omega
  rw [← htop] at hor HK
  clear hk htop
  have hv1p : 1 ≤ v1 := by omega
  have HV1 := Lib.hid hv1
  clear hv1
  go_enter Try.func128, Try.ntmps128
  go_wp2_with fail
  go_quiet (fail)
  go_wp2_with fail
  go_quiet (fail)
  go_wp2_with fail
  go_quiet (fail)
  clear hor c1 c2 d1 d2 hu2 hu1
  have HST := Lib.hid (show KG P D v1 v2 top u0 W (top / v1) (top % v1) from HK.out.start)
  have HSL := Lib.hid HK.out.start_le
  have HSR := Lib.hid (show top % v1 < 4294967296 from Nat.lt_trans (Nat.mod_lt _ (by omega)) hv1b)
  clear htb
  go_wp2
  go_loopw [9, 10] (GuessRel P D v1 v2 top u0 W w) (fun d _ _ => (intOf d).toNat)
  case atStart => exact ⟨top / v1, top % v1, _, congrArg (Value.int .u64) (wrap_div _ _ HSL.out), rfl, HST.out, HSR.out, HSL.out, by rw [World.drewN_drewN, World.drewN_drewN]⟩
  case round =>
    obtain ⟨d, rr, nn, rfl, rfl, hg, hrr, hd, rfl⟩ := hrel
    have HG := Lib.hid hg
    clear hg HST HSL HSR
    by_cases hbig : 4294967295 < d
    · obtain ⟨h1, hg2⟩ := HG.out.step HK.out (.inl hbig)
      have HG2 := Lib.hid hg2
      clear hg2
      by_cases hr2 : rr + v1 ≤ 4294967295
      · go_wp2
        go_roundw
        case rel =>
          refine ⟨d - 1, rr + v1, nn, ?_, ?_, HG2.out, by omega, by omega, rfl⟩
          · exact congrArg (Value.int .u64) (by omega)
          · exact congrArg (Value.int .u64) (by omega)
        case measure => simp [intOf]; omega
      · have hr3 : 4294967295 < (rr : Int) + (v1 : Int) := by omega
        go_wp2
        go_ret
        obtain ⟨e1, e2, e3⟩ := KG.brk HK.out HG2.out (by omega)
        exact ⟨d - 1, nn, ret_int (by omega), e1, e2, e3, rfl⟩
    · obtain ⟨dv, hdv⟩ : ∃ dv, dv = d * v2 := ⟨_, rfl⟩
      have hdvi : (d : Int) * (v2 : Int) = (dv : Int) := by rw [hdv, Int.natCast_mul]
      have hdvb : dv < 18446744073709551616 := by
        have : d * v2 ≤ 4294967295 * 4294967295 := Nat.mul_le_mul (by omega) (by omega)
        omega
      have hor := or_join rr u0 hrr hu0
      obtain ⟨t, ht⟩ : ∃ t, t = u0 + 4294967296 * rr := ⟨_, rfl⟩
      rw [← ht] at hor
      have htb : t < 18446744073709551616 := by omega
      have hbig2 : d ≤ 4294967295 := by omega
      by_cases hgt : t < dv
      · obtain ⟨h1, hg2⟩ := HG.out.step HK.out (.inr (by rw [← hdv]; omega))
        have HG2 := Lib.hid hg2
        clear hg2 ht hdv hbig
        by_cases hr2 : rr + v1 ≤ 4294967295
        · go_wp2
          go_roundw
          case rel =>
            refine ⟨d - 1, rr + v1, nn, ?_, ?_, HG2.out, by omega, by omega, rfl⟩
            · exact congrArg (Value.int .u64) (by omega)
            · exact congrArg (Value.int .u64) (by omega)
          case measure => simp [intOf]; omega
        · have hr3 : 4294967295 < (rr : Int) + (v1 : Int) := by omega
          go_wp2
          go_ret
          obtain ⟨e1, e2, e3⟩ := KG.brk HK.out HG2.out (by omega)
          exact ⟨d - 1, nn, ret_int (by omega), e1, e2, e3, rfl⟩
      · obtain ⟨e1, e2, e3⟩ := KG.done HK.out HG.out hbig2 (by rw [← hdv]; omega)
        have HE := Lib.hid (And.intro e1 e2)
        have hgt2 : dv ≤ t := by omega
        clear e1 e2 ht hdv hbig hgt
        go_wp2
        go_ret
        exact ⟨d, nn, rfl, HE.out.1, HE.out.2, e3, rfl⟩

end Go.Proofs.Ytfieecdedilonaa
