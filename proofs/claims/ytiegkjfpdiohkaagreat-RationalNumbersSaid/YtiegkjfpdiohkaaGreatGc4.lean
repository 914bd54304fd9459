/- Gcd: mix. -/
import Derived.Test.YtiegkjfpdiohkaaGreatGc3
namespace Go.Proofs.YtiegkjfpdiohkaaGreat
section
open Go.RowKit Digs

theorem vl_take_getD (b : Nat) (l : List Nat) (k : Nat) : vl b (l.take (k + 1)) = vl b (l.take k) + b ^ k * (l[k]?.getD 0) := by
  rcases Nat.lt_or_ge k l.length with h | h
  · exact vl_take_succ b l k h
  · rw [vl_take_le b l k h, List.getElem?_eq_none h, Option.getD_none, Nat.mul_zero, Nat.add_zero]

theorem mix_step (E u v Ak Bk L P M br a b P' M' br' p0 m0 x : Nat) (h : u * Ak + E * (M + br) = v * Bk + L + E * P) (hP : P + a * u = 4294967296 * P' + p0) (hM : M + b * v = 4294967296 * M' + m0) (hx : p0 + 4294967296 * br' = x + m0 + br) :
    u * (Ak + E * a) + E * 4294967296 * (M' + br') = v * (Bk + E * b) + (L + E * x) + E * 4294967296 * P' := by
  have e1 : E * (P + a * u) = E * (4294967296 * P' + p0) := by rw [hP]
  have e2 : E * (M + b * v) = E * (4294967296 * M' + m0) := by rw [hM]
  have e3 : E * (p0 + 4294967296 * br') = E * (x + m0 + br) := by rw [hx]
  grind

theorem vl_set_zero (b : Nat) (p : List Nat) (k x : Nat) (hk : k < p.length) : vl b ((p.set k x).take (k + 1)) = vl b (p.take k) + b ^ k * x := by
  rw [vl_take_succ b _ k (by rw [List.length_set]; exact hk), List.take_set, List.set_eq_of_length_le (by rw [List.length_take]; omega), List.getElem?_set_self hk, Option.getD_some]

def MixRel (la lb : List Nat) (u v N : Nat) (w : World) (pl mi bo i : Value) (wr : World) : Prop :=
  ∃ (k P M br : Nat) (p : List Nat), k ≤ N ∧ i = .int .i64 k ∧ pl = .int .u64 P ∧ mi = .int .u64 M ∧ bo = .int .u64 br ∧ br ≤ 1 ∧ P ≤ u ∧ M ≤ v ∧ Row wr w.heap.size w.heap.size N p ∧ (∀ x ∈ p, x < 4294967296) ∧
    u * vl 4294967296 (la.take k) + 4294967296 ^ k * (M + br) = v * vl 4294967296 (lb.take k) + vl 4294967296 (p.take k) + 4294967296 ^ k * P ∧ Below w.heap.size w wr

theorem mix_end (N A B u v L P M br : Nat) (h : u * A + 4294967296 ^ N * (M + br) = v * B + L + 4294967296 ^ N * P) (hge : v * B ≤ u * A) (hlt : u * A - v * B < 4294967296 ^ N) (hL : L < 4294967296 ^ N) : L = u * A - v * B := by
  obtain ⟨D, hD⟩ : ∃ D, D = u * A - v * B := ⟨_, rfl⟩
  rw [← hD] at hlt ⊢
  have h1 : D + 4294967296 ^ N * (M + br) = L + 4294967296 ^ N * P := by omega
  have h2 := congrArg (· % 4294967296 ^ N) h1
  simp only [Nat.add_mul_mod_self_left] at h2
  rw [Nat.mod_eq_of_lt hlt, Nat.mod_eq_of_lt hL] at h2
  exact h2.symm

theorem run_maxG (a b n : Nat) (hn : n = max a b) (w : World) (ts : Array TypeId) (t : TypeId) : (Builtin.max_ ts t #[.int .i64 (a : Int), .int .i64 (b : Int)]).run Tryz.prog w = .ok (.int .i64 (n : Int)) w := by
  have e : (if (b : Int) > (a : Int) then (b : Int) else (a : Int)) = (n : Int) := by split <;> omega
  have h : (Builtin.max_ ts t #[.int .i64 (a : Int), .int .i64 (b : Int)]).run Tryz.prog w = .ok (.int .i64 (if (b : Int) > (a : Int) then (b : Int) else (a : Int))) w := rfl
  rw [h, e]

theorem run_maxG' (a b n : Nat) (hn : n = max a b) : ∀ (w : World) (ts : Array TypeId) (t : TypeId), (Builtin.max_ ts t #[.int .i64 (a : Int), .int .i64 (b : Int)]).run Tryz.prog w = .ok (.int .i64 (n : Int)) w := run_maxG a b n hn

set_option maxHeartbeats 4000000 in
set_option maxRecDepth 100000 in
theorem mix_any (A B u v N : Nat) (ada adb : Option Addr) (ca cb : Nat) (w : World) (hu : u < 4294967296) (hv : v < 4294967296) (hN : N = max (digs 4294967296 A).length (digs 4294967296 B).length) (hN2 : N ≤ 1000000)
    (ha : RdA .u32 w ada (digs 4294967296 A)) (hb : RdA .u32 w adb (digs 4294967296 B)) (hge : v * B ≤ u * A) (hlt : u * A - v * B < 4294967296 ^ N) :
    Calls Tryz.prog 171 #[.slice ada (digs 4294967296 A).length ca, .int .u32 u, .slice adb (digs 4294967296 B).length cb, .int .u32 v] w (OwPost w (digs 4294967296 (u * A - v * B))) := by
  have HCA := Lib.hid ha
  have HCB := Lib.hid hb
  have HEND := Lib.hid fun L P M br h hL => mix_end N A B u v L P M br h hge hlt hL
  have HLA := Lib.hid (digs_lt (b := 4294967296) (by decide) A)
  have HLB := Lib.hid (digs_lt (b := 4294967296) (by decide) B)
  have HVA : Hid (vl 4294967296 ((digs 4294967296 A).take N) = A) := Lib.hid (by rw [List.take_of_length_le (by omega), vl_digs (by decide)])
  have HVB : Hid (vl 4294967296 ((digs 4294967296 B).take N) = B) := Lib.hid (by rw [List.take_of_length_le (by omega), vl_digs (by decide)])
  have HR : Hid (digs 4294967296 (u * A - v * B) = digs 4294967296 (u * A - v * B)) := Lib.hid rfl
  generalize hR : u * A - v * B = R at *
  generalize digs 4294967296 A = la at *
  generalize digs 4294967296 B = lb at *
  clear ha hb hge hlt HR hR
  obtain ⟨na, hna⟩ : ∃ n, n = la.length := ⟨_, rfl⟩
  obtain ⟨nb, hnb⟩ : ∃ n, n = lb.length := ⟨_, rfl⟩
  rw [← hna, ← hnb] at hN ⊢
  have HNA := Lib.hid hna
  have HNB := Lib.hid hnb
  have hmax := run_maxG' na nb N hN
  have hmx : max na nb = N := hN.symm
  clear hN
  clear hna hnb
  obtain ⟨i0, hi, hz0, hz1, hz2⟩ := info_parts Tryz.infoU32
  go_enter Tryz.func171, Tryz.ntmps171
  go_wp2_with (at_make; refine wpList_make_full _ rfl _ _ 22 rfl w.heap.size 137 i0 (.int .u32 0) 1 Tryz.underlying22 hi hz0 hz1 _ _ _ _ N rfl rfl (by omega) (by omega) ?b2 ?b3 (Nat.le_refl _) ?_)
  case b2 => rw [hz2]; omega
  case b3 => unfold maxLen; omega
  intro w0 hown0 hgrow0
  have hrow0 : Row w0 w.heap.size w.heap.size N (List.replicate N 0) := by
    refine ⟨by simp, ?_⟩
    rw [uw_zeros] at hown0
    exact hown0
  have HB0 := Lib.hid ((Below.refl w.heap.size w).grown hgrow0 (Nat.le_refl _) (fun k h => by cases h))
  have HR0 := Lib.hid hrow0
  clear hown0 hgrow0 hrow0 hmax hmx
  go_wp2
  go_loopw [10, 11, 12, 23] (MixRel la lb u v N w) (fun _ _ _ i _ => N - (intOf i).toNat)
  case atStart => exact ⟨0, 0, 0, 0, _, Nat.zero_le _, rfl, rfl, rfl, rfl, Nat.zero_le _, Nat.zero_le _, Nat.zero_le _, HR0.out, (by intro x hx; rw [List.eq_of_mem_replicate hx]; decide), by simp [vl], HB0.out⟩
  case round =>
    obtain ⟨k, P, M, br, p, hk, rfl, rfl, rfl, rfl, hbr, hPu, hMv, hrow, hpl, heq, hnx⟩ := hrel
    have HROW := Lib.hid hrow
    have HPL := Lib.hid hpl
    have HEQ := Lib.hid heq
    have HNX := Lib.hid hnx
    clear hrow hpl heq hnx
    by_cases hkl : k < N
    · obtain ⟨a, ha⟩ : ∃ a, a = la[k]?.getD 0 := ⟨_, rfl⟩
      obtain ⟨b, hb⟩ : ∃ b, b = lb[k]?.getD 0 := ⟨_, rfl⟩
      have hab : a < 4294967296 := by
        rw [ha]
        rcases Nat.lt_or_ge k la.length with h | h
        · rw [List.getElem?_eq_getElem h]; exact HLA.out _ (List.getElem_mem h)
        · rw [List.getElem?_eq_none h]; decide
      have hbb : b < 4294967296 := by
        rw [hb]
        rcases Nat.lt_or_ge k lb.length with h | h
        · rw [List.getElem?_eq_getElem h]; exact HLB.out _ (List.getElem_mem h)
        · rw [List.getElem?_eq_none h]; decide
      have hau : a * u ≤ 4294967295 * u := Nat.mul_le_mul_right _ (by omega)
      have hbv : b * v ≤ 4294967295 * v := Nat.mul_le_mul_right _ (by omega)
      obtain ⟨pa, hpa⟩ : ∃ q, q = a * u := ⟨_, rfl⟩
      obtain ⟨pb, hpb⟩ : ∃ q, q = b * v := ⟨_, rfl⟩
      rw [← hpa] at hau
      rw [← hpb] at hbv
      obtain ⟨P1, hP1⟩ : ∃ q, q = P + pa := ⟨_, rfl⟩
      obtain ⟨M1, hM1⟩ : ∃ q, q = M + pb := ⟨_, rfl⟩
      have hP1b : P1 ≤ 4294967296 * u := by omega
      have hM1b : M1 ≤ 4294967296 * v := by omega
      obtain ⟨P2, hP2⟩ : ∃ q, q = P1 / 4294967296 := ⟨_, rfl⟩
      obtain ⟨M2, hM2⟩ : ∃ q, q = M1 / 4294967296 := ⟨_, rfl⟩
      obtain ⟨p0, hp0⟩ : ∃ q, q = P1 % 4294967296 := ⟨_, rfl⟩
      obtain ⟨m0, hm0⟩ : ∃ q, q = M1 % 4294967296 := ⟨_, rfl⟩
      obtain ⟨br2, x, part, hbr2, hx, hxe, hpart, hpx, hpb2⟩ : ∃ br2 x part : Nat, br2 ≤ 1 ∧ x < 4294967296 ∧ p0 + 4294967296 * br2 = x + m0 + br ∧ ((part : Int) = (p0 : Int) - (m0 : Int) - (br : Int) + 18446744073709551616 * (br2 : Int)) ∧ part % 4294967296 = x ∧ part / 9223372036854775808 = br2 := by
        by_cases h : m0 + br ≤ p0
        · exact ⟨0, p0 - m0 - br, p0 - m0 - br, by omega, by omega, by omega, by omega, by omega, by omega⟩
        · exact ⟨1, p0 + 4294967296 - m0 - br, p0 + 18446744073709551616 - m0 - br, by omega, by omega, by omega, by omega, by omega, by omega⟩
      have hstep := mix_step (4294967296 ^ k) u v _ _ _ P M br a b P2 M2 br2 p0 m0 x HEQ.out (by rw [← hpa]; omega) (by rw [← hpb]; omega) hxe
      have HSTEP := Lib.hid hstep
      have gz := HROW.out.cell k hkl
      have gf := HROW.out.frozen k
      generalize p[k]?.getD 0 = z0 at gz
      have e1 : (P : Int) + (pa : Int) = (P1 : Int) := by omega
      have e2 : (M : Int) + (pb : Int) = (M1 : Int) := by omega
      have e3 : (a : Int) * (u : Int) = (pa : Int) := by rw [hpa, Int.natCast_mul]
      have e4 : (b : Int) * (v : Int) = (pb : Int) := by rw [hpb, Int.natCast_mul]
      have e5 : IntKind.u32.wrap (P1 : Int) = (p0 : Int) := by rw [IntKind.wrap_u32']; omega
      have e6 : IntKind.u32.wrap (M1 : Int) = (m0 : Int) := by rw [IntKind.wrap_u32']; omega
      have e7 : (P1 : Int) / 4294967296 = (P2 : Int) := by omega
      have e8 : (M1 : Int) / 4294967296 = (M2 : Int) := by omega
      have e9 : IntKind.u64.wrap (IntKind.u64.wrap ((p0 : Int) - (m0 : Int)) - (br : Int)) = (part : Int) := by rw [IntKind.wrap_u64, IntKind.wrap_u64]; omega
      have e9' : IntKind.u64.wrap ((p0 : Int) - (m0 : Int) - (br : Int)) = (part : Int) := by rw [IntKind.wrap_u64]; omega
      have e10 : IntKind.u32.wrap (part : Int) = (x : Int) := by rw [IntKind.wrap_u32']; omega
      have e11 : (part : Int) / 9223372036854775808 = (br2 : Int) := by omega
      have e10' : (part : Int) % 4294967296 = (x : Int) := by omega
      have hp0b : p0 < 4294967296 := by omega
      have hm0b : m0 < 4294967296 := by omega
      have hP1c : P1 < 18446744073709551616 := by omega
      have hM1c : M1 < 18446744073709551616 := by omega
      have hP2c : P2 ≤ u := by omega
      have hM2c : M2 ≤ v := by omega
      have hpc : part < 18446744073709551616 := by omega
      have HX := Lib.hid hx
      have HPA := Lib.hid hpa
      have HPB := Lib.hid hpb
      clear hau hbv hP1b hM1b hP2 hM2 hp0 hm0 hxe hpart hpx hpb2 hstep hpa hpb hx
      have HA := Lib.hid ha
      have HB := Lib.hid hb
      clear ha hb
      by_cases hka : k < na
      · obtain ⟨ba, oa, rfl, hba, gx0⟩ := HCA.out k (by rw [← HNA.out]; exact hka)
        have gx : wr.cell? ⟨ba, oa + k, none⟩ = some (.int .u32 (a : Int)) := (HNX.out.cell (p := ⟨ba, oa + k, none⟩) hba).trans (by rw [gx0, HA.out])
        clear gx0
        by_cases hkb : k < nb
        · obtain ⟨bb, ob, rfl, hbbw, gy0⟩ := HCB.out k (by rw [← HNB.out]; exact hkb)
          have gy : wr.cell? ⟨bb, ob + k, none⟩ = some (.int .u32 (b : Int)) := (HNX.out.cell (p := ⟨bb, ob + k, none⟩) hbbw).trans (by rw [gy0, HB.out])
          clear gy0 hP1 hM1
          go_wp2
          go_roundw
          case rel =>
            refine ⟨k + 1, P2, M2, br2, p.set k x, by omega, by go_num, rfl, rfl, rfl, hbr2, hP2c, hM2c, HROW.out.store k x _ rfl, all_set HPL.out HX.out, ?_, HNX.out.setCell (Nat.le_refl _) _⟩
            rw [vl_take_getD, vl_take_getD, vl_set_zero _ _ _ _ (by rw [HROW.out.1]; exact hkl), Nat.pow_succ, ← HA.out, ← HB.out]
            exact HSTEP.out
          case measure => simp [intOf]; omega
        · have hb0 : b = 0 := by rw [HB.out, List.getElem?_eq_none (by rw [← HNB.out]; omega)]; rfl
          have hpb0 : pb = 0 := by rw [HPB.out, hb0, Nat.zero_mul]
          have hMM : M1 = M := by omega
          clear e2 e4 hpb0 hb0 hM1
          subst hMM
          clear hP1
          go_wp2
          go_roundw
          case rel =>
            refine ⟨k + 1, P2, M2, br2, p.set k x, by omega, by go_num, rfl, rfl, rfl, hbr2, hP2c, hM2c, HROW.out.store k x _ rfl, all_set HPL.out HX.out, ?_, HNX.out.setCell (Nat.le_refl _) _⟩
            rw [vl_take_getD, vl_take_getD, vl_set_zero _ _ _ _ (by rw [HROW.out.1]; exact hkl), Nat.pow_succ, ← HA.out, ← HB.out]
            exact HSTEP.out
          case measure => simp [intOf]; omega
      · have ha0 : a = 0 := by rw [HA.out, List.getElem?_eq_none (by rw [← HNA.out]; omega)]; rfl
        have hpa0 : pa = 0 := by rw [HPA.out, ha0, Nat.zero_mul]
        have hPP : P1 = P := by omega
        clear e1 e3 hpa0 ha0 hP1
        subst hPP
        by_cases hkb : k < nb
        · obtain ⟨bb, ob, rfl, hbbw, gy0⟩ := HCB.out k (by rw [← HNB.out]; exact hkb)
          have gy : wr.cell? ⟨bb, ob + k, none⟩ = some (.int .u32 (b : Int)) := (HNX.out.cell (p := ⟨bb, ob + k, none⟩) hbbw).trans (by rw [gy0, HB.out])
          clear gy0 hM1
          go_wp2
          go_roundw
          case rel =>
            refine ⟨k + 1, P2, M2, br2, p.set k x, by omega, by go_num, rfl, rfl, rfl, hbr2, hP2c, hM2c, HROW.out.store k x _ rfl, all_set HPL.out HX.out, ?_, HNX.out.setCell (Nat.le_refl _) _⟩
            rw [vl_take_getD, vl_take_getD, vl_set_zero _ _ _ _ (by rw [HROW.out.1]; exact hkl), Nat.pow_succ, ← HA.out, ← HB.out]
            exact HSTEP.out
          case measure => simp [intOf]; omega
        · have hb0 : b = 0 := by rw [HB.out, List.getElem?_eq_none (by rw [← HNB.out]; omega)]; rfl
          have hpb0 : pb = 0 := by rw [HPB.out, hb0, Nat.zero_mul]
          have hMM : M1 = M := by omega
          clear e2 e4 hpb0 hb0 hM1
          subst hMM
          go_wp2
          go_roundw
          case rel =>
            refine ⟨k + 1, P2, M2, br2, p.set k x, by omega, by go_num, rfl, rfl, rfl, hbr2, hP2c, hM2c, HROW.out.store k x _ rfl, all_set HPL.out HX.out, ?_, HNX.out.setCell (Nat.le_refl _) _⟩
            rw [vl_take_getD, vl_take_getD, vl_set_zero _ _ _ _ (by rw [HROW.out.1]; exact hkl), Nat.pow_succ, ← HA.out, ← HB.out]
            exact HSTEP.out
          case measure => simp [intOf]; omega
    · obtain rfl : k = N := by omega
      have hval : vl 4294967296 p = R := by
        have h := HEQ.out
        rw [HVA.out, HVB.out, List.take_of_length_le (by rw [HROW.out.1]; exact Nat.le_refl _)] at h
        exact HEND.out _ _ _ _ h (by have := vl_lt p HPL.out; rw [HROW.out.1] at this; exact this)
      have HT := Lib.hid (trim_ow HROW.out.ow HPL.out)
      rw [hval] at HT
      clear hval
      go_wp2_with fail
      (with_reducible refine HT.out.mono ?_)
      rintro e w' ⟨⟨v2, rfl, ho2⟩, rfl⟩
      go_wp2
      go_ret
      exact ⟨_, rfl, ho2, HNX.out⟩

end
end Go.Proofs.YtiegkjfpdiohkaaGreat
