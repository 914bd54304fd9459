/-  takeProduct, putBack: parts of a division by hand.  -/
import Derived.Test.YtfieecdedilonaaGuess
namespace Go.Proofs.Ytfieecdedilonaa
open Go.RowKit Digs

theorem gb_trans {w a b : World} {row : Option Nat} (h1 : w.grownBy a row) (h2 : a.grownBy b row) : w.grownBy b row :=
  ⟨h2.os.trans h1.os, h2.tape.trans h1.tape, h2.output.trans h1.output, Nat.le_trans h1.size h2.size, fun k hk hne => (h2.block k (Nat.lt_of_lt_of_le hk h1.size) hne).trans (h1.block k hk hne)⟩
theorem gb_refl (w : World) (row : Option Nat) : w.grownBy w row := World.grownBy.refl w row

def TakeRel (p ld : List Nat) (g cap N base o dg : Nat) (w : World) (cv rv i : Value) (wr : World) : Prop :=
  ∃ (k c r : Nat) (q : List Nat), k ≤ ld.length ∧ i = .int .i64 k ∧ cv = .int .u64 c ∧ rv = .int .u64 r ∧ c < 4294967296 ∧ r ≤ 1 ∧ Rc wr base g cap N q ∧ (∀ x ∈ q, x < 4294967296) ∧ (∀ j, o + k ≤ j → q[j]?.getD 0 = p[j]?.getD 0) ∧
    vl 4294967296 q + 4294967296 ^ o * (dg * vl 4294967296 (ld.take k)) = vl 4294967296 p + 4294967296 ^ (o + k) * (c + r) ∧ w.grownBy wr (some g)
def TakePost (p ld : List Nat) (g cap N base o dg : Nat) (w : World) (e : Ending) (w' : World) : Prop :=
  ∃ (b : Bool) (q : List Nat), e = .returned (.bool b) ∧ Rc w' base g cap N q ∧ (∀ x ∈ q, x < 4294967296) ∧ (∀ j, o + (ld.length + 1) ≤ j → q[j]?.getD 0 = p[j]?.getD 0) ∧
    vl 4294967296 q + 4294967296 ^ o * (dg * vl 4294967296 ld) = vl 4294967296 p + 4294967296 ^ (o + (ld.length + 1)) * b.toNat ∧ w.grownBy w' (some g)

set_option maxHeartbeats 2000000 in
set_option maxRecDepth 100000 in
theorem take_any (p ld : List Nat) (g cap N base o dg cp gd cd : Nat) (w : World) (hon : o + (ld.length + 1) ≤ N) (hN : N ≤ 1000002) (hdg : dg < 4294967296) (hrow : Rc w base g cap N p) (hp : ∀ x ∈ p, x < 4294967296)
    (hg : gd ≠ g) (hd : ∀ j, j < ld.length → w.cell? ⟨gd, j, none⟩ = some (.int .u32 ((ld[j]?.getD 0 : Nat) : Int))) (hld : ∀ x ∈ ld, x < 4294967296) :
    Calls Try.prog 129 #[.slice (some ⟨g, o, none⟩) (ld.length + 1) cp, .slice (some ⟨gd, 0, none⟩) ld.length cd, .int .u32 dg] w (TakePost p ld g cap N base o dg w) := by
  have HROW0 := Lib.hid hrow
  have HP := Lib.hid hp
  have HD := Lib.hid hd
  have HLD := Lib.hid hld
  have HG := Lib.hid hg
  clear hrow hp hd hld hg
  obtain ⟨n, hn⟩ : ∃ n, n = ld.length := ⟨_, rfl⟩
  rw [← hn] at hon ⊢
  have HNN := Lib.hid hn
  clear hn
  go_enter Try.func129, Try.ntmps129
  go_wp2
  go_loopw [7, 8, 16] (TakeRel p ld g cap N base o dg w) (fun _ _ i _ => n - (intOf i).toNat)
  case atStart => exact ⟨0, 0, 0, p, Nat.zero_le _, rfl, rfl, rfl, by omega, by omega, HROW0.out, HP.out, fun _ _ => rfl, by simp [vl], gb_refl _ _⟩
  case round =>
    obtain ⟨k, c, r, q, hk, rfl, rfl, rfl, hc, hr, hrow, hq, hun, hv, hgb⟩ := hrel
    rw [← HNN.out] at hk
    have HROW := Lib.hid hrow
    have HQ := Lib.hid hq
    have HUN := Lib.hid hun
    have HV := Lib.hid hv
    have HGB := Lib.hid hgb
    clear hrow hq hun hv hgb
    by_cases hkl : k < n
    · have gx : wr.cell? ⟨gd, k, none⟩ = some (.int .u32 ((ld[k]?.getD 0 : Nat) : Int)) := HGB.out.cell (HD.out k (by rw [← HNN.out]; exact hkl)) (fun h => HG.out (Option.some.inj h))
      have gy := HROW.out.cell (o + k) (by omega)
      have gf := HROW.out.frozen (o + k)
      obtain ⟨x, hx⟩ : ∃ x, x = ld[k]?.getD 0 := ⟨_, rfl⟩
      obtain ⟨y, hy⟩ : ∃ y, y = q[o + k]?.getD 0 := ⟨_, rfl⟩
      rw [← hx] at gx
      rw [← hy] at gy
      have hxb : x < 4294967296 := by rw [hx, List.getElem?_eq_getElem (by rw [← HNN.out]; exact hkl)]; exact HLD.out _ (List.getElem_mem _)
      have hkq : o + k < q.length := by rw [HROW.out.1]; omega
      have hyb : y < 4294967296 := by rw [hy, List.getElem?_eq_getElem hkq]; exact HQ.out _ (List.getElem_mem hkq)
      have HX := Lib.hid hx
      have HY := Lib.hid hy
      clear hx hy
      have hb1 := carry_lt (b := 4294967296) (by decide) hxb hdg hc (show 0 < 4294967296 by decide)
      obtain ⟨t, ht⟩ : ∃ t, t = c + x * dg := ⟨_, rfl⟩
      obtain ⟨xd, hxd⟩ : ∃ xd, xd = x * dg := ⟨_, rfl⟩
      have hxi : (x : Int) * (dg : Int) = (xd : Int) := by rw [hxd, Int.natCast_mul]
      have hti : (c : Int) + (xd : Int) = (t : Int) := by rw [ht, hxd]; omega
      have htb : t < 18446744073709551616 := by omega
      have htd : t / 4294967296 < 4294967296 := by omega
      have HT := Lib.hid ht
      have hxb2 : xd < 18446744073709551616 := by rw [hxd]; omega
      clear hb1 ht hxd
      rcases (show t % 4294967296 + r ≤ y ∨ y < t % 4294967296 ∨ (t % 4294967296 ≤ y ∧ y < t % 4294967296 + r) by omega) with h | h | h
      · have HE : Hid (y + 4294967296 * 0 = (y - t % 4294967296 - r) + t % 4294967296 + r) := by show _ = _; omega
        have hnb : y - t % 4294967296 - r < 4294967296 := by omega
        go_wp2
        go_roundw
        case rel =>
          refine ⟨k + 1, t / 4294967296, 0, q.set (o + k) (y - t % 4294967296 - r), by rw [← HNN.out]; omega, by go_num, by go_num, (by refine congrArg (Value.int .u64) ?_; first | omega | (simp only [IntKind.wrap_u64]; omega)), htd, by omega, HROW.out.store _ _ _ (by first | omega | (simp only [IntKind.wrap_u64]; omega)), all_set HQ.out hnb, fun j hj => ?_, ?_, gb_trans HGB.out (HROW.out.grown _ _)⟩
          · rw [getD_set_ne _ _ _ _ (by omega)]
            exact HUN.out j (by omega)
          · have h9 := take_step q o k c r x y dg _ _ (y - t % 4294967296 - r) 0 hkq HY.out.symm HV.out (by rw [← HT.out]; exact HE.out)
            rw [vl_take_succ _ _ _ (by rw [← HNN.out]; exact hkl), ← HX.out]
            rw [← HT.out] at h9
            exact h9
        case measure => simp [intOf]; omega
      · have HE : Hid (y + 4294967296 * 1 = (y + 4294967296 - t % 4294967296 - r) + t % 4294967296 + r) := by show _ = _; omega
        have hnb : y + 4294967296 - t % 4294967296 - r < 4294967296 := by omega
        go_wp2
        go_roundw
        case rel =>
          refine ⟨k + 1, t / 4294967296, 1, q.set (o + k) (y + 4294967296 - t % 4294967296 - r), by rw [← HNN.out]; omega, by go_num, by go_num, (by refine congrArg (Value.int .u64) ?_; first | omega | (simp only [IntKind.wrap_u64]; omega)), htd, by omega, HROW.out.store _ _ _ (by first | omega | (simp only [IntKind.wrap_u64]; omega)), all_set HQ.out hnb, fun j hj => ?_, ?_, gb_trans HGB.out (HROW.out.grown _ _)⟩
          · rw [getD_set_ne _ _ _ _ (by omega)]
            exact HUN.out j (by omega)
          · have h9 := take_step q o k c r x y dg _ _ (y + 4294967296 - t % 4294967296 - r) 1 hkq HY.out.symm HV.out (by rw [← HT.out]; exact HE.out)
            rw [vl_take_succ _ _ _ (by rw [← HNN.out]; exact hkl), ← HX.out]
            rw [← HT.out] at h9
            exact h9
        case measure => simp [intOf]; omega
      · have HE : Hid (y + 4294967296 * 1 = (y + 4294967296 - t % 4294967296 - r) + t % 4294967296 + r) := by show _ = _; omega
        have hnb : y + 4294967296 - t % 4294967296 - r < 4294967296 := by omega
        go_wp2
        go_roundw
        case rel =>
          refine ⟨k + 1, t / 4294967296, 1, q.set (o + k) (y + 4294967296 - t % 4294967296 - r), by rw [← HNN.out]; omega, by go_num, by go_num, (by refine congrArg (Value.int .u64) ?_; first | omega | (simp only [IntKind.wrap_u64]; omega)), htd, by omega, HROW.out.store _ _ _ (by first | omega | (simp only [IntKind.wrap_u64]; omega)), all_set HQ.out hnb, fun j hj => ?_, ?_, gb_trans HGB.out (HROW.out.grown _ _)⟩
          · rw [getD_set_ne _ _ _ _ (by omega)]
            exact HUN.out j (by omega)
          · have h9 := take_step q o k c r x y dg _ _ (y + 4294967296 - t % 4294967296 - r) 1 hkq HY.out.symm HV.out (by rw [← HT.out]; exact HE.out)
            rw [vl_take_succ _ _ _ (by rw [← HNN.out]; exact hkl), ← HX.out]
            rw [← HT.out] at h9
            exact h9
        case measure => simp [intOf]; omega
    · obtain rfl : k = n := by omega
      have gy := HROW.out.cell (o + k) (by omega)
      have gf := HROW.out.frozen (o + k)
      obtain ⟨y, hy⟩ : ∃ y, y = q[o + k]?.getD 0 := ⟨_, rfl⟩
      rw [← hy] at gy
      have hkq : o + k < q.length := by rw [HROW.out.1]; omega
      have hyb : y < 4294967296 := by rw [hy, List.getElem?_eq_getElem hkq]; exact HQ.out _ (List.getElem_mem hkq)
      have HY := Lib.hid hy
      clear hy
      rcases (show c + r ≤ y ∨ y < c ∨ (c ≤ y ∧ y < c + r) by omega) with h | h | h
      · have HE : Hid (y + 4294967296 * 0 = (y - c - r) + c + r) := by show _ = _; omega
        have hnb : y - c - r < 4294967296 := by omega
        go_wp2
        go_ret
        refine ⟨false, q.set (o + k) (y - c - r), ret_bool ?_, HROW.out.store _ _ _ (by first | omega | (simp only [IntKind.wrap_u64]; omega)), all_set HQ.out hnb, fun j hj => ?_, ?_, gb_trans HGB.out (HROW.out.grown _ _)⟩
        · first | (rw [beq_eq_false_iff_ne]; omega) | (simp only [IntKind.wrap_u64]; rw [beq_iff_eq]; omega)
        · rw [getD_set_ne _ _ _ _ (by rw [← HNN.out] at hj; omega)]
          exact HUN.out j (by rw [← HNN.out] at hj; omega)
        · have h9 := take_last q o k c r y dg _ _ (y - c - r) 0 hkq HY.out.symm HV.out HE.out
          rw [← HNN.out]
          have e : ld.take k = ld := List.take_of_length_le (by rw [← HNN.out]; omega)
          rw [e] at h9
          exact h9
      · have HE : Hid (y + 4294967296 * 1 = (y + 4294967296 - c - r) + c + r) := by show _ = _; omega
        have hnb : y + 4294967296 - c - r < 4294967296 := by omega
        go_wp2
        go_ret
        refine ⟨true, q.set (o + k) (y + 4294967296 - c - r), ret_bool ?_, HROW.out.store _ _ _ (by first | omega | (simp only [IntKind.wrap_u64]; omega)), all_set HQ.out hnb, fun j hj => ?_, ?_, gb_trans HGB.out (HROW.out.grown _ _)⟩
        · first | (rw [beq_eq_false_iff_ne]; omega) | (simp only [IntKind.wrap_u64]; rw [beq_iff_eq]; omega)
        · rw [getD_set_ne _ _ _ _ (by rw [← HNN.out] at hj; omega)]
          exact HUN.out j (by rw [← HNN.out] at hj; omega)
        · have h9 := take_last q o k c r y dg _ _ (y + 4294967296 - c - r) 1 hkq HY.out.symm HV.out HE.out
          rw [← HNN.out]
          have e : ld.take k = ld := List.take_of_length_le (by rw [← HNN.out]; omega)
          rw [e] at h9
          exact h9
      · have HE : Hid (y + 4294967296 * 1 = (y + 4294967296 - c - r) + c + r) := by show _ = _; omega
        have hnb : y + 4294967296 - c - r < 4294967296 := by omega
        go_wp2
        go_ret
        refine ⟨true, q.set (o + k) (y + 4294967296 - c - r), ret_bool ?_, HROW.out.store _ _ _ (by first | omega | (simp only [IntKind.wrap_u64]; omega)), all_set HQ.out hnb, fun j hj => ?_, ?_, gb_trans HGB.out (HROW.out.grown _ _)⟩
        · first | (rw [beq_eq_false_iff_ne]; omega) | (simp only [IntKind.wrap_u64]; rw [beq_iff_eq]; omega)
        · rw [getD_set_ne _ _ _ _ (by rw [← HNN.out] at hj; omega)]
          exact HUN.out j (by rw [← HNN.out] at hj; omega)
        · have h9 := take_last q o k c r y dg _ _ (y + 4294967296 - c - r) 1 hkq HY.out.symm HV.out HE.out
          rw [← HNN.out]
          have e : ld.take k = ld := List.take_of_length_le (by rw [← HNN.out]; omega)
          rw [e] at h9
          exact h9

def BackRel (p ld : List Nat) (g cap N base o : Nat) (w : World) (cv i : Value) (wr : World) : Prop :=
  ∃ (k c : Nat) (q : List Nat), k ≤ ld.length ∧ i = .int .i64 k ∧ cv = .int .u64 c ∧ c ≤ 1 ∧ Rc wr base g cap N q ∧ (∀ x ∈ q, x < 4294967296) ∧ (∀ j, o + k ≤ j → q[j]?.getD 0 = p[j]?.getD 0) ∧
    vl 4294967296 q + 4294967296 ^ (o + k) * c = vl 4294967296 p + 4294967296 ^ o * vl 4294967296 (ld.take k) ∧ w.grownBy wr (some g)
def BackPost (p ld : List Nat) (g cap N base o : Nat) (w : World) (e : Ending) (w' : World) : Prop :=
  ∃ (ga : Nat) (q : List Nat), e = .returned (.tuple #[]) ∧ Rc w' base g cap N q ∧ (∀ x ∈ q, x < 4294967296) ∧ (∀ j, o + (ld.length + 1) ≤ j → q[j]?.getD 0 = p[j]?.getD 0) ∧
    vl 4294967296 q + 4294967296 ^ (o + (ld.length + 1)) * ga = vl 4294967296 p + 4294967296 ^ o * vl 4294967296 ld ∧ w.grownBy w' (some g)

set_option maxHeartbeats 2000000 in
set_option maxRecDepth 100000 in
theorem back_any (p ld : List Nat) (g cap N base o cp gd cd : Nat) (w : World) (hon : o + (ld.length + 1) ≤ N) (hN : N ≤ 1000002) (hrow : Rc w base g cap N p) (hp : ∀ x ∈ p, x < 4294967296)
    (hg : gd ≠ g) (hd : ∀ j, j < ld.length → w.cell? ⟨gd, j, none⟩ = some (.int .u32 ((ld[j]?.getD 0 : Nat) : Int))) (hld : ∀ x ∈ ld, x < 4294967296) :
    Calls Try.prog 130 #[.slice (some ⟨g, o, none⟩) (ld.length + 1) cp, .slice (some ⟨gd, 0, none⟩) ld.length cd] w (BackPost p ld g cap N base o w) := by
  have HROW0 := Lib.hid hrow
  have HP := Lib.hid hp
  have HD := Lib.hid hd
  have HLD := Lib.hid hld
  have HG := Lib.hid hg
  clear hrow hp hd hld hg
  obtain ⟨n, hn⟩ : ∃ n, n = ld.length := ⟨_, rfl⟩
  rw [← hn] at hon ⊢
  have HNN := Lib.hid hn
  clear hn
  go_enter Try.func130, Try.ntmps130
  go_wp2
  go_loopw [4, 9] (BackRel p ld g cap N base o w) (fun _ i _ => n - (intOf i).toNat)
  case atStart => exact ⟨0, 0, p, Nat.zero_le _, rfl, rfl, by omega, HROW0.out, HP.out, fun _ _ => rfl, by simp [vl], gb_refl _ _⟩
  case round =>
    obtain ⟨k, c, q, hk, rfl, rfl, hc, hrow, hq, hun, hv, hgb⟩ := hrel
    rw [← HNN.out] at hk
    have HROW := Lib.hid hrow
    have HQ := Lib.hid hq
    have HUN := Lib.hid hun
    have HV := Lib.hid hv
    have HGB := Lib.hid hgb
    clear hrow hq hun hv hgb
    by_cases hkl : k < n
    · have gx : wr.cell? ⟨gd, k, none⟩ = some (.int .u32 ((ld[k]?.getD 0 : Nat) : Int)) := HGB.out.cell (HD.out k (by rw [← HNN.out]; exact hkl)) (fun h => HG.out (Option.some.inj h))
      have gy := HROW.out.cell (o + k) (by omega)
      have gf := HROW.out.frozen (o + k)
      obtain ⟨x, hx⟩ : ∃ x, x = ld[k]?.getD 0 := ⟨_, rfl⟩
      obtain ⟨y, hy⟩ : ∃ y, y = q[o + k]?.getD 0 := ⟨_, rfl⟩
      rw [← hx] at gx
      rw [← hy] at gy
      have hxb : x < 4294967296 := by rw [hx, List.getElem?_eq_getElem (by rw [← HNN.out]; exact hkl)]; exact HLD.out _ (List.getElem_mem _)
      have hkq : o + k < q.length := by rw [HROW.out.1]; omega
      have hyb : y < 4294967296 := by rw [hy, List.getElem?_eq_getElem hkq]; exact HQ.out _ (List.getElem_mem hkq)
      have HX := Lib.hid hx
      have HY := Lib.hid hy
      clear hx hy
      go_wp2
      go_roundw
      case rel =>
        refine ⟨k + 1, (c + y + x) / 4294967296, q.set (o + k) ((c + y + x) % 4294967296), by rw [← HNN.out]; omega, by go_num, (by refine congrArg (Value.int .u64) ?_; omega), by omega, HROW.out.store _ _ _ (by omega), all_set HQ.out (Nat.mod_lt _ (by decide)), fun j hj => ?_, ?_, gb_trans HGB.out (HROW.out.grown _ _)⟩
        · rw [getD_set_ne _ _ _ _ (by omega)]
          exact HUN.out j (by omega)
        · have h9 := back_step q o k c x y _ _ hkq HY.out.symm HV.out
          rw [vl_take_succ _ _ _ (by rw [← HNN.out]; exact hkl), ← HX.out]
          exact h9
      case measure => simp [intOf]; omega
    · obtain rfl : k = n := by omega
      have gy := HROW.out.cell (o + k) (by omega)
      have gf := HROW.out.frozen (o + k)
      obtain ⟨y, hy⟩ : ∃ y, y = q[o + k]?.getD 0 := ⟨_, rfl⟩
      rw [← hy] at gy
      have hkq : o + k < q.length := by rw [HROW.out.1]; omega
      have hyb : y < 4294967296 := by rw [hy, List.getElem?_eq_getElem hkq]; exact HQ.out _ (List.getElem_mem hkq)
      have HY := Lib.hid hy
      clear hy
      go_wp2
      refine bodyPost_ret (v := .tuple #[]) (by simp [results, Try.results130, go_sem]) rfl ?_
      refine ⟨(y + c) / 4294967296, q.set (o + k) ((y + c) % 4294967296), rfl, HROW.out.store _ _ _ (by first | omega | (simp only [IntKind.wrap_u32']; omega)), all_set HQ.out (Nat.mod_lt _ (by decide)), fun j hj => ?_, ?_, gb_trans HGB.out (HROW.out.grown _ _)⟩
      · rw [getD_set_ne _ _ _ _ (by rw [← HNN.out] at hj; omega)]
        exact HUN.out j (by rw [← HNN.out] at hj; omega)
      · have h9 := back_last q o k c y _ _ hkq HY.out.symm HV.out
        rw [← HNN.out]
        have e : ld.take k = ld := List.take_of_length_le (by rw [← HNN.out]; omega)
        rw [e] at h9
        exact h9

end Go.Proofs.Ytfieecdedilonaa
