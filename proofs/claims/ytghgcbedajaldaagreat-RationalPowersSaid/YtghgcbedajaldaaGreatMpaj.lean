/-  Long  -/
import Derived.RegionTactic
import Derived.Lib.AppendZerosOnto
import Derived.Lib.AppendZeros
import Derived.Test.YtghgcbedajaldaaGreatMpai
import Derived.Test.YtghgcbedajaldaaGreatMpah
import Derived.Test.YtghgcbedajaldaaGreatMpae
/-  Guess Take Zeros Long  -/
namespace Go.Proofs.YtghgcbedajaldaaGreat
section
open Go.RowKit Digs
def GuessRel (P D v1 v2 top u0 W : Nat) (w : World) (dg r : Value) (wr : World) : Prop :=
 ∃ d rr n : Nat, dg = .int .u64 d ∧ r = .int .u64 rr ∧ KG P D v1 v2 top u0 W d rr ∧ rr < 4294967296 ∧ d ≤ 4294967297 ∧ wr = w.drewN n
def GuessPost (q : Nat) (w : World) (e : Ending) (w' : World) : Prop := ∃ d n : Nat, e = .returned (.int .u32 d) ∧ q ≤ d ∧ d ≤ q + 1 ∧ d < 4294967296 ∧ w' = w.drewN n
theorem wrap_div (a b : Nat) (h : a / b ≤ 4294967297) : IntKind.u64.wrap ((a : Int) / (b : Int)) = ((a / b : Nat) : Int) := by
 rw [← Int.natCast_ediv, IntKind.wrap_u64]
 generalize a / b = c at *
 omega
set_option maxHeartbeats 2000000 in
set_option maxRecDepth 100000 in
theorem guess_core (g o cp gd od cd n : Nat) (P D v1 v2 u2 u1 u0 W : Nat) (w : World) (hj : n ≤ 1000000) (hn2 : 2 ≤ n)
  (c2 : w.cell? ⟨g, o + n, none⟩ = some (.int .u32 u2)) (c1 : w.cell? ⟨g, o + (n - 1), none⟩ = some (.int .u32 u1)) (c0 : w.cell? ⟨g, o + (n - 2), none⟩ = some (.int .u32 u0))
  (d1 : w.cell? ⟨gd, od + (n - 1), none⟩ = some (.int .u32 v1)) (d2 : w.cell? ⟨gd, od + (n - 2), none⟩ = some (.int .u32 v2)) (hu2 : u2 < 4294967296) (hu1 : u1 < 4294967296)
  (hk : KD P D v1 v2 (u1 + 4294967296 * u2) u0 W) :
  Calls Tryz.prog 181 #[.slice (some ⟨g, o, none⟩) (n + 1) cp, .slice (some ⟨gd, od, none⟩) n cd] w (GuessPost (P / D) w) := by
 have hv1 := hk.hv1
 have hv1b := hk.hv1b
 have hv2 := hk.hv2
 have hu0 := hk.hu0
 have hor := or_join u2 u1 hu2 hu1
 have HK := Lib.hid hk
 obtain ⟨top, htop⟩ : ∃ top, top = u1 + 4294967296 * u2 := ⟨_, rfl⟩
 have htb : top < 18446744073709551616 := by omega
 rw [← htop] at hor HK
 clear hk htop
 have hv1p : 1 ≤ v1 := by omega
 have HV1 := Lib.hid hv1
 clear hv1
 go_enter Tryz.func181, Tryz.ntmps181
 go_wp2_with fail
 go_quiet (fail)
 go_wp2_with fail
 go_quiet (fail)
 go_wp2_with fail
 go_quiet (fail)
 clear hor c1 c2 d1 d2 hu2 hu1
 have HST := Lib.hid (show KG P D v1 v2 top u0 W (top / v1) (top % v1) from HK.out.start)
 have HSL := Lib.hid HK.out.start_le
 have HSR := Lib.hid (show top % v1 < 4294967296 from Nat.lt_trans (Nat.mod_lt _ (by omega)) hv1b)
 clear htb
 go_wp2
 go_loopw [9, 10] (GuessRel P D v1 v2 top u0 W w) (fun d _ _ => (intOf d).toNat)
 case atStart => exact ⟨top / v1, top % v1, _, congrArg (Value.int .u64) (wrap_div _ _ HSL.out), rfl, HST.out, HSR.out, HSL.out, by rw [World.drewN_drewN, World.drewN_drewN]⟩
 case round =>
  obtain ⟨d, rr, nn, rfl, rfl, hg, hrr, hd, rfl⟩ := hrel
  have HG := Lib.hid hg
  clear hg HST HSL HSR
  by_cases hbig : 4294967295 < d
  ·obtain ⟨h1, hg2⟩ := HG.out.step HK.out (.inl hbig)
   have HG2 := Lib.hid hg2
   clear hg2
   by_cases hr2 : rr + v1 ≤ 4294967295
   ·go_wp2
    go_roundw
    case rel =>
     refine ⟨d - 1, rr + v1, nn, ?_, ?_, HG2.out, by omega, by omega, rfl⟩
     ·exact congrArg (Value.int .u64) (by omega)
     ·exact congrArg (Value.int .u64) (by omega)
    case measure => simp [intOf]; omega
   ·have hr3 : 4294967295 < (rr : Int) + (v1 : Int) := by omega
    go_wp2
    go_ret
    obtain ⟨e1, e2, e3⟩ := KG.brk HK.out HG2.out (by omega)
    exact ⟨d - 1, nn, ret_int (by omega), e1, e2, e3, rfl⟩
  ·obtain ⟨dv, hdv⟩ : ∃ dv, dv = d * v2 := ⟨_, rfl⟩
   have hdvi : (d : Int) * (v2 : Int) = (dv : Int) := by rw [hdv, Int.natCast_mul]
   have hdvb : dv < 18446744073709551616 := by
    have : d * v2 ≤ 4294967295 * 4294967295 := Nat.mul_le_mul (by omega) (by omega)
    omega
   have hor := or_join rr u0 hrr hu0
   obtain ⟨t, ht⟩ : ∃ t, t = u0 + 4294967296 * rr := ⟨_, rfl⟩
   rw [← ht] at hor
   have htb : t < 18446744073709551616 := by omega
   have hbig2 : d ≤ 4294967295 := by omega
   by_cases hgt : t < dv
   ·obtain ⟨h1, hg2⟩ := HG.out.step HK.out (.inr (by rw [← hdv]; omega))
    have HG2 := Lib.hid hg2
    clear hg2 ht hdv hbig
    by_cases hr2 : rr + v1 ≤ 4294967295
    ·go_wp2
     go_roundw
     case rel =>
      refine ⟨d - 1, rr + v1, nn, ?_, ?_, HG2.out, by omega, by omega, rfl⟩
      ·exact congrArg (Value.int .u64) (by omega)
      ·exact congrArg (Value.int .u64) (by omega)
     case measure => simp [intOf]; omega
    ·have hr3 : 4294967295 < (rr : Int) + (v1 : Int) := by omega
     go_wp2
     go_ret
     obtain ⟨e1, e2, e3⟩ := KG.brk HK.out HG2.out (by omega)
     exact ⟨d - 1, nn, ret_int (by omega), e1, e2, e3, rfl⟩
   ·obtain ⟨e1, e2, e3⟩ := KG.done HK.out HG.out hbig2 (by rw [← hdv]; omega)
    have HE := Lib.hid (And.intro e1 e2)
    have hgt2 : dv ≤ t := by omega
    clear e1 e2 ht hdv hbig hgt
    go_wp2
    go_ret
    exact ⟨d, nn, rfl, HE.out.1, HE.out.2, e3, rfl⟩
end
section
open Go.RowKit Digs
theorem gb_trans {w a b : World} {row : Option Nat} (h1 : w.grownBy a row) (h2 : a.grownBy b row) : w.grownBy b row :=
 ⟨h2.os.trans h1.os, h2.tape.trans h1.tape, h2.output.trans h1.output, Nat.le_trans h1.size h2.size, fun k hk hne => (h2.block k (Nat.lt_of_lt_of_le hk h1.size) hne).trans (h1.block k hk hne)⟩
theorem gb_refl (w : World) (row : Option Nat) : w.grownBy w row := World.grownBy.refl w row
def TakeRel (p ld : List Nat) (g cap N base o dg : Nat) (w : World) (cv rv i : Value) (wr : World) : Prop :=
 ∃ (k c r : Nat) (q : List Nat), k ≤ ld.length ∧ i = .int .i64 k ∧ cv = .int .u64 c ∧ rv = .int .u64 r ∧ c < 4294967296 ∧ r ≤ 1 ∧ Rc wr base g cap N q ∧ (∀ x ∈ q, x < 4294967296) ∧ (∀ j, o + k ≤ j → q[j]?.getD 0 = p[j]?.getD 0) ∧
  vl 4294967296 q + 4294967296 ^ o * (dg * vl 4294967296 (ld.take k)) = vl 4294967296 p + 4294967296 ^ (o + k) * (c + r) ∧ w.grownBy wr (some g)
def TakePost (p ld : List Nat) (g cap N base o dg : Nat) (w : World) (e : Ending) (w' : World) : Prop :=
 ∃ (b : Bool) (q : List Nat), e = .returned (.bool b) ∧ Rc w' base g cap N q ∧ (∀ x ∈ q, x < 4294967296) ∧ (∀ j, o + (ld.length + 1) ≤ j → q[j]?.getD 0 = p[j]?.getD 0) ∧
  vl 4294967296 q + 4294967296 ^ o * (dg * vl 4294967296 ld) = vl 4294967296 p + 4294967296 ^ (o + (ld.length + 1)) * b.toNat ∧ w.grownBy w' (some g)
set_option maxHeartbeats 2000000 in
set_option maxRecDepth 100000 in
theorem take_any (p ld : List Nat) (g cap N base o dg cp gd cd : Nat) (w : World) (hon : o + (ld.length + 1) ≤ N) (hN : N ≤ 1000002) (hdg : dg < 4294967296) (hrow : Rc w base g cap N p) (hp : ∀ x ∈ p, x < 4294967296)
  (hg : gd ≠ g) (hd : ∀ j, j < ld.length → w.cell? ⟨gd, j, none⟩ = some (.int .u32 ((ld[j]?.getD 0 : Nat) : Int))) (hld : ∀ x ∈ ld, x < 4294967296) :
  Calls Tryz.prog 182 #[.slice (some ⟨g, o, none⟩) (ld.length + 1) cp, .slice (some ⟨gd, 0, none⟩) ld.length cd, .int .u32 dg] w (TakePost p ld g cap N base o dg w) := by
 have HROW0 := Lib.hid hrow
 have HP := Lib.hid hp
 have HD := Lib.hid hd
 have HLD := Lib.hid hld
 have HG := Lib.hid hg
 clear hrow hp hd hld hg
 obtain ⟨n, hn⟩ : ∃ n, n = ld.length := ⟨_, rfl⟩
 rw [← hn] at hon ⊢
 have HNN := Lib.hid hn
 clear hn
 go_enter Tryz.func182, Tryz.ntmps182
 go_wp2
 go_loopw [7, 8, 16] (TakeRel p ld g cap N base o dg w) (fun _ _ i _ => n - (intOf i).toNat)
 case atStart => exact ⟨0, 0, 0, p, Nat.zero_le _, rfl, rfl, rfl, by omega, by omega, HROW0.out, HP.out, fun _ _ => rfl, by simp [vl], gb_refl _ _⟩
 case round =>
  obtain ⟨k, c, r, q, hk, rfl, rfl, rfl, hc, hr, hrow, hq, hun, hv, hgb⟩ := hrel
  rw [← HNN.out] at hk
  have HROW := Lib.hid hrow
  have HQ := Lib.hid hq
  have HUN := Lib.hid hun
  have HV := Lib.hid hv
  have HGB := Lib.hid hgb
  clear hrow hq hun hv hgb
  by_cases hkl : k < n
  ·have gx : wr.cell? ⟨gd, k, none⟩ = some (.int .u32 ((ld[k]?.getD 0 : Nat) : Int)) := HGB.out.cell (HD.out k (by rw [← HNN.out]; exact hkl)) (fun h => HG.out (Option.some.inj h))
   have gy := HROW.out.cell (o + k) (by omega)
   have gf := HROW.out.frozen (o + k)
   obtain ⟨x, hx⟩ : ∃ x, x = ld[k]?.getD 0 := ⟨_, rfl⟩
   obtain ⟨y, hy⟩ : ∃ y, y = q[o + k]?.getD 0 := ⟨_, rfl⟩
   rw [← hx] at gx
   rw [← hy] at gy
   have hxb : x < 4294967296 := by rw [hx, List.getElem?_eq_getElem (by rw [← HNN.out]; exact hkl)]; exact HLD.out _ (List.getElem_mem _)
   have hkq : o + k < q.length := by rw [HROW.out.1]; omega
   have hyb : y < 4294967296 := by rw [hy, List.getElem?_eq_getElem hkq]; exact HQ.out _ (List.getElem_mem hkq)
   have HX := Lib.hid hx
   have HY := Lib.hid hy
   clear hx hy
   have hb1 := carry_lt (b := 4294967296) (by decide) hxb hdg hc (show 0 < 4294967296 by decide)
   obtain ⟨t, ht⟩ : ∃ t, t = c + x * dg := ⟨_, rfl⟩
   obtain ⟨xd, hxd⟩ : ∃ xd, xd = x * dg := ⟨_, rfl⟩
   have hxi : (x : Int) * (dg : Int) = (xd : Int) := by rw [hxd, Int.natCast_mul]
   have hti : (c : Int) + (xd : Int) = (t : Int) := by rw [ht, hxd]; omega
   have htb : t < 18446744073709551616 := by omega
   have htd : t / 4294967296 < 4294967296 := by omega
   have HT := Lib.hid ht
   have hxb2 : xd < 18446744073709551616 := by rw [hxd]; omega
   clear hb1 ht hxd
   rcases (show t % 4294967296 + r ≤ y ∨ y < t % 4294967296 ∨ (t % 4294967296 ≤ y ∧ y < t % 4294967296 + r) by omega) with h | h | h
   ·have HE : Hid (y + 4294967296 * 0 = (y - t % 4294967296 - r) + t % 4294967296 + r) := by show _ = _; omega
    have hnb : y - t % 4294967296 - r < 4294967296 := by omega
    go_wp2
    go_roundw
    case rel =>
     refine ⟨k + 1, t / 4294967296, 0, q.set (o + k) (y - t % 4294967296 - r), by rw [← HNN.out]; omega, by go_num, by go_num, (by refine congrArg (Value.int .u64) ?_; first | omega | (simp only [IntKind.wrap_u64]; omega)), htd, by omega, HROW.out.store _ _ _ (by first | omega | (simp only [IntKind.wrap_u64]; omega)), all_set HQ.out hnb, fun j hj => ?_, ?_, gb_trans HGB.out (HROW.out.grown _ _)⟩
     ·rw [getD_set_ne _ _ _ _ (by omega)]
      exact HUN.out j (by omega)
     ·have h9 := take_step q o k c r x y dg _ _ (y - t % 4294967296 - r) 0 hkq HY.out.symm HV.out (by rw [← HT.out]; exact HE.out)
      rw [vl_take_succ _ _ _ (by rw [← HNN.out]; exact hkl), ← HX.out]
      rw [← HT.out] at h9
      exact h9
    case measure => simp [intOf]; omega
   ·have HE : Hid (y + 4294967296 * 1 = (y + 4294967296 - t % 4294967296 - r) + t % 4294967296 + r) := by show _ = _; omega
    have hnb : y + 4294967296 - t % 4294967296 - r < 4294967296 := by omega
    go_wp2
    go_roundw
    case rel =>
     refine ⟨k + 1, t / 4294967296, 1, q.set (o + k) (y + 4294967296 - t % 4294967296 - r), by rw [← HNN.out]; omega, by go_num, by go_num, (by refine congrArg (Value.int .u64) ?_; first | omega | (simp only [IntKind.wrap_u64]; omega)), htd, by omega, HROW.out.store _ _ _ (by first | omega | (simp only [IntKind.wrap_u64]; omega)), all_set HQ.out hnb, fun j hj => ?_, ?_, gb_trans HGB.out (HROW.out.grown _ _)⟩
     ·rw [getD_set_ne _ _ _ _ (by omega)]
      exact HUN.out j (by omega)
     ·have h9 := take_step q o k c r x y dg _ _ (y + 4294967296 - t % 4294967296 - r) 1 hkq HY.out.symm HV.out (by rw [← HT.out]; exact HE.out)
      rw [vl_take_succ _ _ _ (by rw [← HNN.out]; exact hkl), ← HX.out]
      rw [← HT.out] at h9
      exact h9
    case measure => simp [intOf]; omega
   ·have HE : Hid (y + 4294967296 * 1 = (y + 4294967296 - t % 4294967296 - r) + t % 4294967296 + r) := by show _ = _; omega
    have hnb : y + 4294967296 - t % 4294967296 - r < 4294967296 := by omega
    go_wp2
    go_roundw
    case rel =>
     refine ⟨k + 1, t / 4294967296, 1, q.set (o + k) (y + 4294967296 - t % 4294967296 - r), by rw [← HNN.out]; omega, by go_num, by go_num, (by refine congrArg (Value.int .u64) ?_; first | omega | (simp only [IntKind.wrap_u64]; omega)), htd, by omega, HROW.out.store _ _ _ (by first | omega | (simp only [IntKind.wrap_u64]; omega)), all_set HQ.out hnb, fun j hj => ?_, ?_, gb_trans HGB.out (HROW.out.grown _ _)⟩
     ·rw [getD_set_ne _ _ _ _ (by omega)]
      exact HUN.out j (by omega)
     ·have h9 := take_step q o k c r x y dg _ _ (y + 4294967296 - t % 4294967296 - r) 1 hkq HY.out.symm HV.out (by rw [← HT.out]; exact HE.out)
      rw [vl_take_succ _ _ _ (by rw [← HNN.out]; exact hkl), ← HX.out]
      rw [← HT.out] at h9
      exact h9
    case measure => simp [intOf]; omega
  ·obtain rfl : k = n := by omega
   have gy := HROW.out.cell (o + k) (by omega)
   have gf := HROW.out.frozen (o + k)
   obtain ⟨y, hy⟩ : ∃ y, y = q[o + k]?.getD 0 := ⟨_, rfl⟩
   rw [← hy] at gy
   have hkq : o + k < q.length := by rw [HROW.out.1]; omega
   have hyb : y < 4294967296 := by rw [hy, List.getElem?_eq_getElem hkq]; exact HQ.out _ (List.getElem_mem hkq)
   have HY := Lib.hid hy
   clear hy
   rcases (show c + r ≤ y ∨ y < c ∨ (c ≤ y ∧ y < c + r) by omega) with h | h | h
   ·have HE : Hid (y + 4294967296 * 0 = (y - c - r) + c + r) := by show _ = _; omega
    have hnb : y - c - r < 4294967296 := by omega
    go_wp2
    go_ret
    refine ⟨false, q.set (o + k) (y - c - r), ret_bool ?_, HROW.out.store _ _ _ (by first | omega | (simp only [IntKind.wrap_u64]; omega)), all_set HQ.out hnb, fun j hj => ?_, ?_, gb_trans HGB.out (HROW.out.grown _ _)⟩
    ·first | (rw [beq_eq_false_iff_ne]; omega) | (simp only [IntKind.wrap_u64]; rw [beq_iff_eq]; omega)
    ·rw [getD_set_ne _ _ _ _ (by rw [← HNN.out] at hj; omega)]
     exact HUN.out j (by rw [← HNN.out] at hj; omega)
    ·have h9 := take_last q o k c r y dg _ _ (y - c - r) 0 hkq HY.out.symm HV.out HE.out
     rw [← HNN.out]
     have e : ld.take k = ld := List.take_of_length_le (by rw [← HNN.out]; omega)
     rw [e] at h9
     exact h9
   ·have HE : Hid (y + 4294967296 * 1 = (y + 4294967296 - c - r) + c + r) := by show _ = _; omega
    have hnb : y + 4294967296 - c - r < 4294967296 := by omega
    go_wp2
    go_ret
    refine ⟨true, q.set (o + k) (y + 4294967296 - c - r), ret_bool ?_, HROW.out.store _ _ _ (by first | omega | (simp only [IntKind.wrap_u64]; omega)), all_set HQ.out hnb, fun j hj => ?_, ?_, gb_trans HGB.out (HROW.out.grown _ _)⟩
    ·first | (rw [beq_eq_false_iff_ne]; omega) | (simp only [IntKind.wrap_u64]; rw [beq_iff_eq]; omega)
    ·rw [getD_set_ne _ _ _ _ (by rw [← HNN.out] at hj; omega)]
     exact HUN.out j (by rw [← HNN.out] at hj; omega)
    ·have h9 := take_last q o k c r y dg _ _ (y + 4294967296 - c - r) 1 hkq HY.out.symm HV.out HE.out
     rw [← HNN.out]
     have e : ld.take k = ld := List.take_of_length_le (by rw [← HNN.out]; omega)
     rw [e] at h9
     exact h9
   ·have HE : Hid (y + 4294967296 * 1 = (y + 4294967296 - c - r) + c + r) := by show _ = _; omega
    have hnb : y + 4294967296 - c - r < 4294967296 := by omega
    go_wp2
    go_ret
    refine ⟨true, q.set (o + k) (y + 4294967296 - c - r), ret_bool ?_, HROW.out.store _ _ _ (by first | omega | (simp only [IntKind.wrap_u64]; omega)), all_set HQ.out hnb, fun j hj => ?_, ?_, gb_trans HGB.out (HROW.out.grown _ _)⟩
    ·first | (rw [beq_eq_false_iff_ne]; omega) | (simp only [IntKind.wrap_u64]; rw [beq_iff_eq]; omega)
    ·rw [getD_set_ne _ _ _ _ (by rw [← HNN.out] at hj; omega)]
     exact HUN.out j (by rw [← HNN.out] at hj; omega)
    ·have h9 := take_last q o k c r y dg _ _ (y + 4294967296 - c - r) 1 hkq HY.out.symm HV.out HE.out
     rw [← HNN.out]
     have e : ld.take k = ld := List.take_of_length_le (by rw [← HNN.out]; omega)
     rw [e] at h9
     exact h9
def BackRel (p ld : List Nat) (g cap N base o : Nat) (w : World) (cv i : Value) (wr : World) : Prop :=
 ∃ (k c : Nat) (q : List Nat), k ≤ ld.length ∧ i = .int .i64 k ∧ cv = .int .u64 c ∧ c ≤ 1 ∧ Rc wr base g cap N q ∧ (∀ x ∈ q, x < 4294967296) ∧ (∀ j, o + k ≤ j → q[j]?.getD 0 = p[j]?.getD 0) ∧
  vl 4294967296 q + 4294967296 ^ (o + k) * c = vl 4294967296 p + 4294967296 ^ o * vl 4294967296 (ld.take k) ∧ w.grownBy wr (some g)
def BackPost (p ld : List Nat) (g cap N base o : Nat) (w : World) (e : Ending) (w' : World) : Prop :=
 ∃ (ga : Nat) (q : List Nat), e = .returned (.tuple #[]) ∧ Rc w' base g cap N q ∧ (∀ x ∈ q, x < 4294967296) ∧ (∀ j, o + (ld.length + 1) ≤ j → q[j]?.getD 0 = p[j]?.getD 0) ∧
  vl 4294967296 q + 4294967296 ^ (o + (ld.length + 1)) * ga = vl 4294967296 p + 4294967296 ^ o * vl 4294967296 ld ∧ w.grownBy w' (some g)
set_option maxHeartbeats 2000000 in
set_option maxRecDepth 100000 in
theorem back_any (p ld : List Nat) (g cap N base o cp gd cd : Nat) (w : World) (hon : o + (ld.length + 1) ≤ N) (hN : N ≤ 1000002) (hrow : Rc w base g cap N p) (hp : ∀ x ∈ p, x < 4294967296)
  (hg : gd ≠ g) (hd : ∀ j, j < ld.length → w.cell? ⟨gd, j, none⟩ = some (.int .u32 ((ld[j]?.getD 0 : Nat) : Int))) (hld : ∀ x ∈ ld, x < 4294967296) :
  Calls Tryz.prog 183 #[.slice (some ⟨g, o, none⟩) (ld.length + 1) cp, .slice (some ⟨gd, 0, none⟩) ld.length cd] w (BackPost p ld g cap N base o w) := by
 have HROW0 := Lib.hid hrow
 have HP := Lib.hid hp
 have HD := Lib.hid hd
 have HLD := Lib.hid hld
 have HG := Lib.hid hg
 clear hrow hp hd hld hg
 obtain ⟨n, hn⟩ : ∃ n, n = ld.length := ⟨_, rfl⟩
 rw [← hn] at hon ⊢
 have HNN := Lib.hid hn
 clear hn
 go_enter Tryz.func183, Tryz.ntmps183
 go_wp2
 go_loopw [4, 9] (BackRel p ld g cap N base o w) (fun _ i _ => n - (intOf i).toNat)
 case atStart => exact ⟨0, 0, p, Nat.zero_le _, rfl, rfl, by omega, HROW0.out, HP.out, fun _ _ => rfl, by simp [vl], gb_refl _ _⟩
 case round =>
  obtain ⟨k, c, q, hk, rfl, rfl, hc, hrow, hq, hun, hv, hgb⟩ := hrel
  rw [← HNN.out] at hk
  have HROW := Lib.hid hrow
  have HQ := Lib.hid hq
  have HUN := Lib.hid hun
  have HV := Lib.hid hv
  have HGB := Lib.hid hgb
  clear hrow hq hun hv hgb
  by_cases hkl : k < n
  ·have gx : wr.cell? ⟨gd, k, none⟩ = some (.int .u32 ((ld[k]?.getD 0 : Nat) : Int)) := HGB.out.cell (HD.out k (by rw [← HNN.out]; exact hkl)) (fun h => HG.out (Option.some.inj h))
   have gy := HROW.out.cell (o + k) (by omega)
   have gf := HROW.out.frozen (o + k)
   obtain ⟨x, hx⟩ : ∃ x, x = ld[k]?.getD 0 := ⟨_, rfl⟩
   obtain ⟨y, hy⟩ : ∃ y, y = q[o + k]?.getD 0 := ⟨_, rfl⟩
   rw [← hx] at gx
   rw [← hy] at gy
   have hxb : x < 4294967296 := by rw [hx, List.getElem?_eq_getElem (by rw [← HNN.out]; exact hkl)]; exact HLD.out _ (List.getElem_mem _)
   have hkq : o + k < q.length := by rw [HROW.out.1]; omega
   have hyb : y < 4294967296 := by rw [hy, List.getElem?_eq_getElem hkq]; exact HQ.out _ (List.getElem_mem hkq)
   have HX := Lib.hid hx
   have HY := Lib.hid hy
   clear hx hy
   go_wp2
   go_roundw
   case rel =>
    refine ⟨k + 1, (c + y + x) / 4294967296, q.set (o + k) ((c + y + x) % 4294967296), by rw [← HNN.out]; omega, by go_num, (by refine congrArg (Value.int .u64) ?_; omega), by omega, HROW.out.store _ _ _ (by omega), all_set HQ.out (Nat.mod_lt _ (by decide)), fun j hj => ?_, ?_, gb_trans HGB.out (HROW.out.grown _ _)⟩
    ·rw [getD_set_ne _ _ _ _ (by omega)]
     exact HUN.out j (by omega)
    ·have h9 := back_step q o k c x y _ _ hkq HY.out.symm HV.out
     rw [vl_take_succ _ _ _ (by rw [← HNN.out]; exact hkl), ← HX.out]
     exact h9
   case measure => simp [intOf]; omega
  ·obtain rfl : k = n := by omega
   have gy := HROW.out.cell (o + k) (by omega)
   have gf := HROW.out.frozen (o + k)
   obtain ⟨y, hy⟩ : ∃ y, y = q[o + k]?.getD 0 := ⟨_, rfl⟩
   rw [← hy] at gy
   have hkq : o + k < q.length := by rw [HROW.out.1]; omega
   have hyb : y < 4294967296 := by rw [hy, List.getElem?_eq_getElem hkq]; exact HQ.out _ (List.getElem_mem hkq)
   have HY := Lib.hid hy
   clear hy
   go_wp2
   refine bodyPost_ret (v := .tuple #[]) (by simp [results, Tryz.results183, go_sem]) rfl ?_
   refine ⟨(y + c) / 4294967296, q.set (o + k) ((y + c) % 4294967296), rfl, HROW.out.store _ _ _ (by first | omega | (simp only [IntKind.wrap_u32']; omega)), all_set HQ.out (Nat.mod_lt _ (by decide)), fun j hj => ?_, ?_, gb_trans HGB.out (HROW.out.grown _ _)⟩
   ·rw [getD_set_ne _ _ _ _ (by rw [← HNN.out] at hj; omega)]
    exact HUN.out j (by rw [← HNN.out] at hj; omega)
   ·have h9 := back_last q o k c y _ _ hkq HY.out.symm HV.out
    rw [← HNN.out]
    have e : ld.take k = ld := List.take_of_length_le (by rw [← HNN.out]; omega)
    rw [e] at h9
    exact h9
end
section
open Go.RowKit Digs
theorem zeroCells_one (z : Value) (n : Nat) : (Builtin.zeroCells #[z] n).toList = List.replicate n z := by
 apply List.ext_getElem?
 intro j
 by_cases hj : j < n
 ·simp [Builtin.zeroCells, hj, Nat.mod_one]
 ·simp [Builtin.zeroCells, hj]
theorem run_append_own_zeros {P : Program} (w : World) (base : Nat) (t tn ty e : TypeId) (i : TypeInfo) (z : Value) (kn kq : IntKind) (ht : P.underlying t = some (.slice e)) (htn : P.underlying tn = some (.int kn)) (hi : P.info? e = some i) (hz : i.zero = some z)
    (hsize : i.size = 1) (hz1 : z.cells = #[z]) (hoc : z.oneCell' = true) (bytes : Nat) (hby : i.bytes = bytes) (v : Value) (n : Nat) (xs : List Value) (hown : w.ownsRow base e 1 v n xs) (k : Nat) (h63 : n + k ≤ maxLen) (hbytes : (n + k) * bytes ≤ 140737488355328) (hbase : base ≤ w.heap.size) :
    ∃ v' w', (Builtin.append_ #[t, tn] ty #[v, .int kq (k : Int)]).run P w = .ok v' w' ∧ w'.ownsRow base e 1 v' (n + k) (xs ++ List.replicate k z) ∧ w.grownBy w' v.ownBlock := by
  subst hby
  have hsmall : n + k ≤ 9223372036854775807 := by simp only [maxLen] at h63; omega
  have hw : IntKind.i64.wrap (k : Int) = k := by rw [IntKind.wrap_i64]; omega
  have hneg : ¬ ((k : Int) < 0) := by omega
  have hb2 : k * i.bytes ≤ (n + k) * i.bytes := Nat.mul_le_mul_right _ (by omega)
  have h48i : ¬ (281474976710656 < (k : Int) * (i.bytes : Int)) := by
    rw [← Int.natCast_mul]
    omega
  have hlen : (xs ++ List.replicate k z).length = (n + k) * 1 := by rw [List.length_append, hown.1, List.length_replicate, Nat.mul_one, Nat.mul_one]
  by_cases hk : k = 0
  · subst hk
    have hw0 : IntKind.i64.wrap 0 = 0 := by decide
    refine ⟨v, w, ?_, by simpa using hown, World.grownBy.refl _ _⟩
    rcases hown.2 with ⟨rfl, rfl⟩ | ⟨g, cap, cur, rfl, hbg, hg, hnc, hcm, hcs, htake⟩
    · simp [Builtin.append_, run_underlying ht, run_underlying htn, sizeOf, typeInfo, hi, asInt, asIntOf, hw0]
    · simp [Builtin.append_, run_underlying ht, run_underlying htn, sizeOf, typeInfo, hi, asInt, asIntOf, hw0, hnc, storeCells]
  · have grown : ∀ (old : Nat) (row : Option Nat),
        (w.drew.alloc (.cells (xs.toArray ++ Builtin.zeroCells z.cells k ++ Builtin.zeroCells z.cells (grownCap w (n + k) old e - (n + k))) e)).ownsRow base e 1
          (.slice (some ⟨w.heap.size, 0, none⟩) (n + k) (grownCap w (n + k) old e)) (n + k) (xs ++ List.replicate k z) ∧
        w.grownBy (w.drew.alloc (.cells (xs.toArray ++ Builtin.zeroCells z.cells k ++ Builtin.zeroCells z.cells (grownCap w (n + k) old e - (n + k))) e)) row := by
      intro old row
      have hge := grownCap_ge w (n + k) old e
      have hcm : grownCap w (n + k) old e ≤ maxLen := grownCap_le_maxLen w (n + k) old e h63
      refine ⟨⟨hlen, .inr ⟨w.heap.size, _, _, rfl, hbase, heap_alloc_new w.drew _, hge, hcm, ?_, ?_⟩⟩, ⟨rfl, rfl, rfl, by simp, fun j hj _ => heap_alloc_old w.drew _ hj⟩⟩
      · have h1 := hown.1
        simp only [Array.size_append, List.size_toArray, size_zeroCells, hz1, List.size_toArray, List.length_cons, List.length_nil]
        omega
      · simp only [Array.toList_append, List.append_assoc, hz1, zeroCells_one]
        rw [← List.append_assoc, ← hlen]
        exact List.take_left
    have hfit : ∀ old, Builtin.nextslicecap (n + k) old * i.bytes ≤ 281474976710656 ∨ n + k ≤ old := fun old => by
      by_cases h : n + k ≤ old
      · exact .inr h
      · exact .inl (growslice_fits (by omega) hbytes)
    rcases hown.2 with ⟨rfl, rfl⟩ | ⟨g, cap, cur, rfl, hbg, hg, hnc, hcm, hcs, htake⟩
    · have hx : xs = [] := List.eq_nil_of_length_eq_zero (by simpa using hown.1)
      subst hx
      have hr := Lib.run_append_grow_zeros (P := P) w t tn ty e i z kq kn ht htn hi hz none 0 0 [] (by simp [Builtin.firstCells]) k (by omega) (by omega) (by omega) (by omega) (by omega) (by rcases hfit 0 with h | h <;> omega)
      have hgr := grown 0 (Value.ownBlock (.slice none 0 0))
      exact ⟨_, _, hr, hgr.1, hgr.2⟩
    · by_cases hroom : n + k ≤ cap
      · have hst := run_storeCells_at P g n e (List.replicate k z) 0 cur w hg (by rw [List.length_replicate]; omega) (by intro u hu; rw [List.eq_of_mem_replicate hu]; exact hoc)
        have hzc : (Builtin.zeroCells z.cells k).toList = List.replicate k z := by rw [hz1, zeroCells_one]
        simp only [Nat.add_zero] at hst
        refine ⟨.slice (some ⟨g, 0, none⟩) (n + k) cap, w.setRow g (cur.toList.take n ++ List.replicate k z ++ cur.toList.drop (n + k)).toArray, ?_, ⟨hlen, .inr ⟨g, cap, _, rfl, hbg, setRow_heap w g cur _ e _ hg, hroom, hcm, ?_, ?_⟩⟩, ⟨rfl, rfl, rfl, by simp, fun k _ hk => setRow_other w g k _ (fun e => hk (by simp [Value.ownBlock, e]))⟩⟩
        · simp [Builtin.append_, run_underlying ht, run_underlying htn, sizeOf, typeInfo, zeroValue, hi, hz, asInt, asIntOf, hw, hneg, h48i, hsize, hk, hroom, Addr.add_lit, hzc, hst]
        · simp only [List.size_toArray, List.length_append, List.length_take, List.length_drop, Array.length_toList, List.length_replicate]
          omega
        · rw [Nat.mul_one] at htake
          rw [htake, ← hlen]
          exact List.take_left
      · have holds : ∀ j u, xs[j]? = some u → w.drew.cell? ((⟨g, 0, none⟩ : Addr).add j) = some u := hown.cells (g := g) rfl
        have hf := run_firstCells_some (P := P) w.drew i.size n ⟨g, 0, none⟩ n cap xs (by rw [hown.1, hsize]) holds
        have hr := Lib.run_append_grow_zeros (P := P) w t tn ty e i z kq kn ht htn hi hz (some ⟨g, 0, none⟩) n cap xs hf k (by omega) (by omega) (by omega) (by omega) (by omega) (by rcases hfit cap with h | h <;> omega)
        have hgr := grown cap (Value.ownBlock (.slice (some ⟨g, 0, none⟩) n cap))
        exact ⟨_, _, hr, hgr.1, hgr.2⟩

set_option maxHeartbeats 400000 in
set_option maxRecDepth 100000 in
theorem lz32_any (x : Nat) (w : World) (h : x < 4294967296) : Calls Tryz.prog 168 #[.int .u32 x] w fun e w' => e = .returned (.int .i64 ((32 - bl x : Nat) : Int)) ∧ w = w' := by
 have hb : bl x ≤ 32 := bl_le_iff.2 (by omega)
 have H := fun W => Lib.hid (len32_any x W h)
 have H := Lib.hid H
 go_enter Tryz.func168, Tryz.ntmps168
 go_wp2_with (go_at_call 179; refine (H.out _).out.mono ?_; rintro e w' ⟨rfl, rfl⟩)
 go_ret
 exact ⟨ret_int (by omega), rfl⟩
end
section
open Go.RowKit Digs
theorem Rc.weak {w : World} {b0 base g cap N : Nat} {p : List Nat} (h : Rc w base g cap N p) (hb : b0 ≤ base) : Rc w b0 g cap N p := by
 refine ⟨h.1, h.2.1, ?_⟩
 rcases h.2.2 with hn | ⟨g', cap', cur, h1, h2, h3⟩
 ·exact .inl hn
 ·exact .inr ⟨g', cap', cur, h1, Nat.le_trans hb h2, h3⟩
theorem Rc.keep {w w' : World} {base g cap N : Nat} {p : List Nat} (h : Rc w base g cap N p) (hb : Below w.heap.size w w') : Rc w' base g cap N p := by
 refine ⟨h.1, h.2.1, ?_⟩
 rcases h.2.2 with hn | ⟨g', cap', cur, h1, h2, h3, h4⟩
 ·exact .inl hn
 ·exact .inr ⟨g', cap', cur, h1, h2, by rw [hb.block g' (Array.getElem?_eq_some_iff.1 h3).1]; exact h3, h4⟩
theorem Rc.kept {w w' : World} {base g cap N : Nat} {p : List Nat} {row : Option Nat} (h : Rc w base g cap N p) (hg : w.grownBy w' row) (hne : some g ≠ row) : Rc w' base g cap N p :=
 ⟨h.1, h.2.kept hg (.inr hne)⟩
theorem below_gb {B : Nat} {a w w' : World} {g : Nat} (h : Below B a w) (hg : w.grownBy w' (some g)) (hB : B ≤ w.heap.size) (hgB : B ≤ g) : Below B a w' :=
 h.grown hg hB (fun k hk => by cases hk; exact hgB)
def LongRel (A D : Nat) (ld : List Nat) (w : World) (gd cd g cap N gq L : Nat) (i : Value) (wr : World) : Prop :=
 ∃ (z : Int) (k : Nat) (p q : List Nat), i = .int .i64 z ∧ z + 1 = k ∧ k ≤ L ∧ Rc wr w.heap.size gd cd ld.length ld ∧ Rc wr w.heap.size g cap N p ∧ Rc wr w.heap.size gq L L q ∧ (∀ x ∈ p, x < 4294967296) ∧ (∀ x ∈ q, x < 4294967296) ∧
  A = D * (4294967296 ^ k * vl 4294967296 (q.drop k)) + vl 4294967296 p ∧ vl 4294967296 p < D * 4294967296 ^ k ∧ Below w.heap.size w wr
set_option maxHeartbeats 4000000 in
set_option maxRecDepth 100000 in
theorem long_any (a b : Nat) (va vb : Value) (w : World) (hal : (digs 4294967296 a).length ≤ 1000000) (hb2 : 2 ≤ (digs 4294967296 b).length) (hab : b ≤ a) (ha : Rd .u32 w va (digs 4294967296 a)) (hb : Rd .u32 w vb (digs 4294967296 b)) :
  Calls Tryz.prog 170 #[va, vb] w (QRPost w (a / b) (a % b)) := by
 have hb0 : b ≠ 0 := by rintro rfl; rw [digs_zero] at hb2; simp at hb2
 obtain ⟨k, t, hk, ht, ht0, htl, hbl⟩ := top_limb b hb0
 have hlb := digs_length_mono (b := 4294967296) (by decide) hab
 obtain ⟨nf1, nf2, nf3⟩ := norm_facts b k t ht0 htl hbl
 have hbt0 : 0 < bl t := by have := mt bl_eq_zero.1 ht0; omega
 obtain ⟨up, hup⟩ : ∃ up, up = 32 - bl t := ⟨_, rfl⟩
 rw [← hup] at nf1 nf2 nf3
 have hup31 : up ≤ 31 := by omega
 obtain ⟨fl1, fl2⟩ := first_lt a (b * 2 ^ up) (digs 4294967296 a).length k up (digs_lt_pow (by decide) a) hup31 (by omega) nf3
 have HSA := fun W hw => Lib.hid (shl_any a up va W (by omega) hal (ha.keep (w' := W) hw))
 have HSB := Lib.hid (shl_any b up vb w (by omega) (by omega) hb)
 have HLZ := fun W => Lib.hid (lz32_any t W htl)
 rw [← hup] at HLZ
 have HSA := Lib.hid HSA
 have HLZ := Lib.hid HLZ
 obtain ⟨ada, ca, rfl, _⟩ := ha.opt
 obtain ⟨adb, cb, rfl, rb⟩ := hb.opt
 obtain ⟨bb, ob, rfl, hbb, gx⟩ := rb k (by omega)
 rw [ht] at gx
 generalize hla : (digs 4294967296 a).length = la at *
 obtain ⟨n, hn⟩ : ∃ n, n = k + 1 := ⟨_, rfl⟩
 have hn2 : 2 ≤ n := by omega
 have gx' : w.cell? ⟨bb, ob + (n - 1), none⟩ = some (.int .u32 (t : Int)) := by rw [hn]; exact gx
 rw [hk, ← hn] at HSB ⊢
 have HF := Lib.hid (And.intro (And.intro nf1 nf2) (And.intro fl1 fl2))
 have HAL := Lib.hid (And.intro hla hn)
 have hnl : n ≤ la := by omega
 clear nf1 nf2 nf3 fl1 fl2 hla hn hk ht ht0 htl hbl hlb hbt0 hup ha hb rb gx hb2
 go_enter Tryz.func170, Tryz.ntmps170
 go_wp2_with fail
 refine (HLZ.out _).out.mono ?_
 rintro e w' ⟨rfl, rfl⟩
 go_wp2_with fail
 refine HSB.out.mono ?_
 rintro e w1 ⟨v1, rfl, ho1, hb1⟩
 go_wp2_with fail
 refine (HSA.out _ hb1).out.mono ?_
 rintro e w2 ⟨v2, rfl, ho2, hb2⟩
 -- the divisor's row
 obtain ⟨gd, cd, rfl, hrd⟩ := ho1.rc (by intro h; have := HF.out.1.1; rw [h] at this; simp at this)
 have hdl : (digs 4294967296 (b * 2 ^ up)).length = n := by rw [HAL.out.2]; exact HF.out.1.1
 rw [hdl] at hrd ⊢
 have hgd := hrd.lt
 have hrd2 := hrd.keep hb2
 -- the rest's row
 obtain ⟨ad2, c2, hv2⟩ := ho2.rd.shape'
 have hl0 : (digs 4294967296 (a * 2 ^ up)).length ≤ la + 1 := digs_length_le (by decide) _ _ HF.out.2.2
 generalize hlz : (digs 4294967296 (a * 2 ^ up)).length = l0 at *
 subst hv2
 obtain ⟨kz, hkz⟩ : ∃ kz : Nat, (la : Int) + 1 - (l0 : Int) = (kz : Int) := ⟨la + 1 - l0, by omega⟩
 obtain ⟨i0, hi, hz0, hz1, hz2⟩ := info_parts Tryz.infoU32
 obtain ⟨v3, w3, hr3, ho3, hg3⟩ := run_append_own_zeros (P := Tryz.prog) w2 w1.heap.size 22 3 22 137 i0 (.int .u32 0) .i64 .i64 Tryz.underlying22 Tryz.underlying3 hi hz0 hz1 rfl rfl 4 hz2 _ _ _ ho2 kz (by rw [hlz]; unfold maxLen; omega) (by rw [hlz]; omega) hb2.size
 have HF2 := Lib.hid (And.intro hdl hlz)
 rw [hlz] at ho3
 have ho3' : Ow w3 w1.heap.size v3 (digs 4294967296 (a * 2 ^ up) ++ List.replicate kz 0) := by
  unfold Ow
  rw [List.length_append, List.length_replicate, hlz, uw_append]
  have e : uw (List.replicate kz 0) = List.replicate kz (.int .u32 0) := by simp [uw]
  rw [e]
  exact ho3
 have hr0l : (digs 4294967296 (a * 2 ^ up) ++ List.replicate kz 0).length = la + 1 := by rw [List.length_append, List.length_replicate, hlz]; omega
 obtain ⟨g, cap, rfl, hrg⟩ := ho3'.rc (by intro h; rw [h] at hr0l; simp at hr0l)
 rw [hr0l] at hrg hr3
 have hr0v : vl 4294967296 (digs 4294967296 (a * 2 ^ up) ++ List.replicate kz 0) = a * 2 ^ up := by rw [vl_append, vl_replicate_zero, Nat.mul_zero, Nat.add_zero, vl_digs (by decide)]
 have hr0b : ∀ x ∈ digs 4294967296 (a * 2 ^ up) ++ List.replicate kz 0, x < 4294967296 := by
  intro x hx
  rcases List.mem_append.1 hx with h | h
  ·exact digs_lt (by decide) _ x h
  ·rw [List.eq_of_mem_replicate h]; decide
 generalize (digs 4294967296 (a * 2 ^ up) ++ List.replicate kz 0) = R0 at *
 have hgl := hrg.lt
 have hne : gd ≠ g := by omega
 -- the worlds
 have hB3 : Below w.heap.size w w3 := (hb1.trans (hb2.mono hb1.size)).grown hg3 (Nat.le_trans hb1.size hb2.size) (fun q hq => Nat.le_trans hb1.size (ho2.lt q hq).1)
 have hrd3 : Rc w3 w.heap.size gd cd n (digs 4294967296 (b * 2 ^ up)) := hrd2.kept hg3 (fun h => by have := (ho2.lt gd h.symm).1; omega)
 have hrg3 := hrg.weak hb1.size
 have hcap := hrg.cap_le
 have HR0 := Lib.hid (And.intro hr0v hr0b)
 have HRG := Lib.hid hrg3
 have HRD := Lib.hid hrd3
 have HB3 := Lib.hid hB3
 have HNE := Lib.hid (And.intro hne (And.intro hgd hgl))
 have HDL := Lib.hid hdl
 clear ho1 ho2 ho3 ho3' hg3 hrd hrd2 hrd3 hrg hrg3 hb1 hb2 hlz hB3 hr0v hr0b hr0l hne hgd hgl hdl
 obtain ⟨L, hL⟩ : ∃ L : Nat, (la : Int) + 1 - (n : Int) = (L : Int) := ⟨la + 1 - n, by omega⟩
 have hL1 : 1 ≤ L := by omega
 have HL := Lib.hid (show L + n = la + 1 by omega)
 go_wp2_with (first | (at_builtin; refine Lib.wpList_append_run _ rfl _ _ _ _ rfl _ _ rfl rfl _ _ hr3 ?_) | (at_make; refine wpList_make_full _ rfl _ _ 22 rfl w3.heap.size 137 i0 (.int .u32 0) 1 Tryz.underlying22 hi hz0 hz1 _ _ _ _ L rfl rfl rfl rfl ?b2 ?b3 (Nat.le_refl _) ?_))
 case b2 => rw [hz2]; omega
 case b3 => unfold maxLen; omega
 intro w4 hown4 hgrow4
 have hq4 : Rc w4 w3.heap.size w3.heap.size L L (List.replicate L 0) := by
  refine ⟨by simp, ?_⟩
  rw [uw_zeros] at hown4
  exact hown4
 have hB4 := HB3.out.grown hgrow4 HB3.out.size (fun q h => by cases h)
 have HQ4 := Lib.hid (hq4.weak HB3.out.size)
 have HRG4 := Lib.hid (HRG.out.kept hgrow4 (by simp))
 have HRD4 := Lib.hid (HRD.out.kept hgrow4 (by simp))
 have HB4 := Lib.hid hB4
 have HBW := Lib.hid HB3.out.size
 have hz6 := HRG.out.lt
 have hz7 := HRD.out.lt
 have HNQ := Lib.hid (show g ≠ w3.heap.size ∧ gd ≠ w3.heap.size by omega)
 have HGE := Lib.hid (show w.heap.size ≤ g ∧ w.heap.size ≤ w3.heap.size by exact ⟨hz6.1, HB3.out.size⟩)
 clear hown4 hgrow4 hq4 hB4 hr3 hz6 hz7
 generalize w3.heap.size = gq at *
 go_wp2
 go_loopw [10] (LongRel (a * 2 ^ up) (b * 2 ^ up) (digs 4294967296 (b * 2 ^ up)) w gd cd g cap (la + 1) gq L) (fun i _ => (intOf i + 1).toNat)
 case atStart =>
  refine ⟨_, L, R0, List.replicate L 0, rfl, by omega, Nat.le_refl _, ?_, HRG4.out, HQ4.out, HR0.out.2, (by intro x hx; rw [List.eq_of_mem_replicate hx]; decide), ?_, ?_, HB4.out⟩
  ·rw [HDL.out]; exact HRD4.out
  ·rw [List.drop_replicate, Nat.sub_self, HR0.out.1]; simp [vl]
  ·rw [HR0.out.1]
   have h := HF.out.2.1
   rw [← HAL.out.2, show la + 1 - n = L by have := HL.out; omega] at h
   exact h
 case round =>
  obtain ⟨z, k1, p, q, rfl, hzk, hk, hrd, hrg, hrq, hp, hq, hA, hV, hnx⟩ := hrel
  rw [HDL.out] at hrd
  have HRDr := Lib.hid hrd
  have HRGr := Lib.hid hrg
  have HRQr := Lib.hid hrq
  have HPL := Lib.hid hp
  have HQL := Lib.hid hq
  have HA := Lib.hid hA
  have HV := Lib.hid hV
  have HNX := Lib.hid hnx
  clear hrd hrg hrq hp hq hA hV hnx
  by_cases h0 : 0 < k1
  ·obtain ⟨m, rfl⟩ : ∃ m : Nat, z = m := ⟨k1 - 1, by omega⟩
   obtain rfl : k1 = m + 1 := by omega
   have hmL : m < L := by omega
   have hmn : m + n + 1 ≤ la + 1 := by have := HL.out; omega
   have HD := Lib.hid (show vl 4294967296 (digs 4294967296 (b * 2 ^ up)) = b * 2 ^ up from vl_digs (by decide) _)
   have HDB := Lib.hid (show ∀ x ∈ digs 4294967296 (b * 2 ^ up), x < 4294967296 from digs_lt (by decide) _)
   have hkd := kd_of p (digs 4294967296 (b * 2 ^ up)) m n HPL.out HDB.out HDL.out hn2 (by have := HF.out.1.2; rw [HAL.out.2, Nat.add_sub_cancel]; exact this) (by rw [HD.out]; exact HV.out)
   rw [HD.out] at hkd
   have hN1 : ∀ j, p[j]?.getD 0 < 4294967296 := fun j => by
    rcases Nat.lt_or_ge j p.length with h1 | h1
    ·rw [List.getElem?_eq_getElem h1]; exact HPL.out _ (List.getElem_mem h1)
    ·rw [List.getElem?_eq_none h1]; decide
   have HGS := Lib.hid (guess_core g m (cap - m) gd 0 cd n _ _ _ _ _ _ _ _ wr (by omega) hn2 (HRGr.out.cell _ (by omega)) (HRGr.out.cell _ (by omega)) (HRGr.out.cell _ (by omega)) (by rw [Nat.zero_add]; exact HRDr.out.cell _ (by omega)) (by rw [Nat.zero_add]; exact HRDr.out.cell _ (by omega)) (hN1 _) (hN1 _) hkd)
   have HTK := fun nn dg hdg => Lib.hid (take_any p (digs 4294967296 (b * 2 ^ up)) g cap (la + 1) w.heap.size m dg (cap - m) gd cd (wr.drewN nn) (by rw [HDL.out]; omega) (by omega) hdg HRGr.out HPL.out HNE.out.1 (fun j hj => HRDr.out.cell j (by rw [HDL.out] at hj; exact hj)) HDB.out)
   rw [HDL.out] at HTK
   have HTK := Lib.hid HTK
   clear hkd hN1 hzk
   have hmn1 : m + n + 1 - m = n + 1 := by omega
   go_wp2_with fail
   (with_reducible refine HGS.out.mono ?_)
   rintro e w5 ⟨d, nn, rfl, hd1, hd2, hdb, rfl⟩
   have HDD := Lib.hid (And.intro hd1 hd2)
   clear hd1 hd2
   go_wp2_with fail
   (with_reducible refine (HTK.out nn d hdb).out.mono ?_)
   rintro e w6 ⟨bo, q1, rfl, hrg1, hq1, hun1, hv1, hgb1⟩
   have HDQ := Lib.hid (vl_lt_of_zeros (b := 4294967296) (by decide) q1 hq1 (m + (n + 1)) (fun j hj => by
    rw [hun1 j (by rw [HDL.out]; exact hj)]
    refine zeros_above (by decide) p HPL.out (m + (n + 1)) j ?_ hj
    refine Nat.lt_of_lt_of_le HV.out ?_
    have h8 := digs_lt_pow (b := 4294967296) (by decide) (b * 2 ^ up)
    rw [HDL.out] at h8
    have h9 := Nat.mul_le_mul_right (4294967296 ^ (m + 1)) (Nat.le_of_lt h8)
    rw [← Nat.pow_add, show n + (m + 1) = m + (n + 1) by omega] at h9
    exact h9))
   rw [HD.out, HDL.out] at hv1
   have HV1 := Lib.hid hv1
   have HRG1 := Lib.hid hrg1
   have HQ1 := Lib.hid hq1
   have HRD1 := Lib.hid (HRDr.out.kept (w := wr.drewN nn) hgb1 (fun h => HNE.out.1 (Option.some.inj h)))
   have HRQ1 := Lib.hid (HRQr.out.kept (w := wr.drewN nn) hgb1 (fun h => HNQ.out.1 (Option.some.inj h).symm))
   have HB6 := Lib.hid (below_gb (below_drewN' HNX.out nn) hgb1 (by exact HNX.out.size) HGE.out.1)
   clear hrg1 hq1 hun1 hv1 hgb1
   have hE : 0 < 4294967296 ^ m := Nat.pow_pos (by decide)
   have hDp : 0 < b * 2 ^ up := Nat.mul_pos (by omega) (Nat.two_pow_pos _)
   cases bo with
   | false =>
    have h10 := HV1.out
    rw [Bool.toNat_false, Nat.mul_zero, Nat.add_zero] at h10
    obtain ⟨e1, e2⟩ := round0 hE hDp rfl HDD.out.1 h10
    have HRR := Lib.hid (And.intro e1 (And.intro e2 h10))
    clear e1 e2 h10 hE hDp
    have gfq := HRQ1.out.frozen m
    have gq0 := HRQ1.out.cell m hmL
    go_wp2
    go_roundw
    case rel =>
     refine ⟨_, m, q1, q.set m d, rfl, by omega, by omega, ?_, HRG1.out.kept (HRQ1.out.grown m _) (fun h => HNQ.out.1 (Option.some.inj h)), HRQ1.out.store m d _ rfl, HQ1.out, all_set HQL.out hdb, ?_, ?_, HB6.out.setCell HGE.out.2 _⟩
     ·rw [HDL.out]; exact HRD1.out.kept (HRQ1.out.grown m _) (fun h => HNQ.out.2 (Option.some.inj h))
     ·rw [HD.out] at *
      exact long_round _ _ m _ _ d q HA.out (by rw [HRQr.out.1]; exact hmL) HRR.out.2.2
     ·exact HRR.out.2.1
    case measure => simp [intOf]
   | true =>
    have h10 := HV1.out
    rw [Bool.toNat_true, Nat.mul_one] at h10
    have hd0 : 1 ≤ d := by
     rcases Nat.eq_zero_or_pos d with h | h
     ·rw [h, Nat.zero_mul, Nat.mul_zero, Nat.add_zero] at h10
      have := HDQ.out
      omega
     ·exact h
    have HBK := Lib.hid (back_any q1 (digs 4294967296 (b * 2 ^ up)) g cap (la + 1) w.heap.size m (cap - m) gd cd w6 (by rw [HDL.out]; omega) (by omega) HRG1.out HQ1.out HNE.out.1 (fun j hj => HRD1.out.cell j (by rw [HDL.out] at hj; exact hj)) HDB.out)
    rw [HDL.out] at HBK
    have H10 := Lib.hid h10
    clear h10
    go_wp2_with fail
    (with_reducible refine HBK.out.mono ?_)
    rintro e w7 ⟨ga, q2, rfl, hrg2, hq2, hun2, hv2, hgb2⟩
    rw [HD.out, HDL.out] at hv2
    have hq2b : vl 4294967296 q2 < 4294967296 ^ (m + (n + 1)) := vl_lt_of_zeros (b := 4294967296) (by decide) q2 hq2 (m + (n + 1)) (fun j hj => by
     rw [hun2 j (by rw [HDL.out]; exact hj)]
     exact zeros_above (by decide) q1 HQ1.out (m + (n + 1)) j HDQ.out hj)
    have hDM : b * 2 ^ up * 4294967296 ^ m ≤ 4294967296 ^ (m + (n + 1)) := by
     have h8 := digs_lt_pow (b := 4294967296) (by decide) (b * 2 ^ up)
     rw [HDL.out] at h8
     have h9 := Nat.mul_le_mul_right (4294967296 ^ m) (Nat.le_of_lt h8)
     rw [← Nat.pow_add] at h9
     exact Nat.le_trans h9 (Nat.pow_le_pow_right (by decide) (by omega))
    obtain ⟨e1, e2, e3⟩ := round1 hE hDp rfl hDM HDD.out.2 HDQ.out H10.out hv2 hq2b
    have HRR := Lib.hid (And.intro e1 (And.intro e2 e3))
    have HRG2 := Lib.hid hrg2
    have HQ2 := Lib.hid hq2
    have HRD2 := Lib.hid (HRD1.out.kept hgb2 (fun h => HNE.out.1 (Option.some.inj h)))
    have HRQ2 := Lib.hid (HRQ1.out.kept hgb2 (fun h => HNQ.out.1 (Option.some.inj h).symm))
    have HB7 := Lib.hid (below_gb HB6.out hgb2 HB6.out.size HGE.out.1)
    clear e1 e2 e3 hrg2 hq2 hun2 hv2 hgb2 hq2b hDM hE hDp
    have gfq := HRQ2.out.frozen m
    have gq0 := HRQ2.out.cell m hmL
    go_wp2
    go_roundw
    case rel =>
     refine ⟨_, m, q2, q.set m (d - 1), rfl, by omega, by omega, ?_, HRG2.out.kept (HRQ2.out.grown m _) (fun h => HNQ.out.1 (Option.some.inj h)), HRQ2.out.store m (d - 1) _ (by omega), HQ2.out, all_set HQL.out (by omega), ?_, HRR.out.2.2, HB7.out.setCell HGE.out.2 _⟩
     ·rw [HDL.out]; exact HRD2.out.kept (HRQ2.out.grown m _) (fun h => HNQ.out.2 (Option.some.inj h))
     ·refine long_round _ _ m _ _ (d - 1) q HA.out (by rw [HRQr.out.1]; exact hmL) ?_
      have h11 := HRR.out.2.1
      rw [show d - 1 = vl 4294967296 p / 4294967296 ^ m / (b * 2 ^ up) by have := HRR.out.1; omega]
      exact h11
    case measure => simp [intOf]
  ·obtain rfl : k1 = 0 := by omega
   obtain rfl : z = -1 := by omega
   have hA0 := HA.out
   have hV0 := HV.out
   rw [Nat.pow_zero, Nat.one_mul, List.drop_zero] at hA0
   rw [Nat.pow_zero, Nat.mul_one] at hV0
   obtain ⟨e1, e2⟩ := long_done a b up _ _ (by omega) hA0 hV0
   have HT1 := Lib.hid (trim_ow HRQr.out.ow HQL.out)
   have HT2 := Lib.hid (trim_ow HRGr.out.ow HPL.out)
   rw [e1] at HT1
   have hpl := digs_length_mono (b := 4294967296) (by decide) (Nat.le_of_lt hV0)
   rw [HDL.out] at hpl
   have HSR := fun v (h : Ow wr w.heap.size v (digs 4294967296 (vl 4294967296 p))) => Lib.hid (shr_any (vl 4294967296 p) up v wr (by omega) (by omega) h.rd)
   rw [e2] at HSR
   have HSR := Lib.hid HSR
   clear e1 e2 hA0 hV0 hpl
   go_wp2_with fail
   (with_reducible refine HT1.out.mono ?_)
   rintro e w5 ⟨⟨v5, rfl, ho5⟩, rfl⟩
   have HO5 := Lib.hid ho5
   clear ho5
   go_wp2_with fail
   (with_reducible refine HT2.out.mono ?_)
   rintro e w6 ⟨⟨v6, rfl, ho6⟩, rfl⟩
   go_wp2_with fail
   refine (HSR.out _ ho6).out.mono ?_
   rintro e w7 ⟨v7, rfl, ho7, hb7⟩
   have HF7 := Lib.hid (And.intro (HO5.out.keep hb7).rd (And.intro ho7.rd (HNX.out.trans (hb7.mono HNX.out.size))))
   clear ho6 ho7 hb7
   go_wp2
   go_ret2
   exact ⟨_, _, rfl, HF7.out.1, HF7.out.2.1, HF7.out.2.2⟩
set_option maxHeartbeats 1000000 in
set_option maxRecDepth 100000 in
theorem divide_long (m n : Nat) (va vb : Value) (w : World) (hm : (digs 4294967296 m).length ≤ 1000000) (h2 : 2 ≤ (digs 4294967296 n).length) (hmn : n ≤ m) (ha : Rd .u32 w va (digs 4294967296 m)) (hb : Rd .u32 w vb (digs 4294967296 n)) :
  Calls Tryz.prog 135 #[va, vb] w (QRPost w (m / n) (m % n)) := by
 have HC := Lib.hid (compare_any m n va vb w ha hb)
 have HDL := fun d => Lib.hid (long_any m n va vb (w.drewN d) hm h2 hmn (ha.keep (below_drewN' (Below.refl _ _) d)) (hb.keep (below_drewN' (Below.refl _ _) d)))
 have HDL := Lib.hid HDL
 obtain ⟨adb, cb, rfl, rb⟩ := hb.opt
 have hc2 : decide (cmpN m n < 0) = false := by
  refine decide_eq_false ?_
  unfold cmpN
  rw [if_neg (by omega)]
  split <;> omega
 clear hm hmn ha hb rb
 generalize hlv : (digs 4294967296 n).length = l at *
 have h1 : ((l : Int) == 1) = false := by rw [beq_eq_false_iff_ne]; omega
 clear hlv
 generalize hcv : cmpN m n = c at *
 have hc3 : ¬ c < 0 := by simpa using hc2
 clear hcv hc2
 go_enter Tryz.func135, Tryz.ntmps135
 go_wp2_with fail
 refine HC.out.mono ?_
 rintro e w0 ⟨rfl, d, rfl⟩
 go_wp2_with fail
 (with_reducible refine (HDL.out d).out.mono ?_)
 rintro e w1 ⟨vq, vr, rfl, hq, hr, hb1⟩
 go_wp2
 go_ret2
 exact ⟨_, _, rfl, hq, hr, (below_drewN' (Below.refl _ _) d).trans hb1⟩
theorem divide_any (m n : Nat) (va vb : Value) (w : World) (hm : (digs 4294967296 m).length ≤ 1000000) (hn : n ≠ 0) (ha : Rd .u32 w va (digs 4294967296 m)) (hb : Rd .u32 w vb (digs 4294967296 n)) :
  Calls Tryz.prog 135 #[va, vb] w (QRPost w (m / n) (m % n)) := by
 by_cases h : m < n
 ·exact divide_less m n va vb w hm h ha hb
 ·have h0 : (digs 4294967296 n).length ≠ 0 := by rw [Ne, digs_length_zero (by decide)]; exact hn
  by_cases h1 : (digs 4294967296 n).length = 1
  ·exact divide_one m n va vb w hm h1 (by omega) ha hb
  ·exact divide_long m n va vb w hm (by omega) (by omega) ha hb
end
end Go.Proofs.YtghgcbedajaldaaGreat
