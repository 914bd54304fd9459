/-  The reference's Int64.  -/
import Derived.Test.YtgepnkdnenjogaaBm
import Derived.Test.YtgepnkdnenjogaaRPow
namespace Go.Proofs.Ytgepnkdnenjogaa
open Go.RowKit Digs

theorem horner (m i : Nat) : m / 65536 ^ (i + 1) * 65536 + m / 65536 ^ i % 65536 = m / 65536 ^ i := by
  rw [Nat.pow_succ, ← Nat.div_div_eq_div_mul]
  omega

theorem fits_sgn (z : Int) : fits64 z = true ↔ ¬ sgnZ (z - (-9223372036854775808)) < 0 ∧ ¬ 0 < sgnZ (z - 9223372036854775807) := by
  unfold fits64 sgnZ
  rw [decide_eq_true_iff]
  constructor
  · intro h
    constructor <;> (split <;> (try split) <;> omega)
  · rintro ⟨h1, h2⟩
    constructor
    · split at h1
      · omega
      · omega
    · split at h2
      · omega
      · split at h2 <;> omega

set_option maxHeartbeats 2000000 in
set_option maxRecDepth 100000 in
theorem rInt64_any (z : Int) (v : Value) (w : World) (hB : Bd 100 z) (h : RefV w v z) :
    Calls Try.prog 20 #[v] w (Int64Post w z) := by
  have hl : rlen z ≤ 1000000 := rlen_bd hB (by decide)
  have hlo : Bd 2 (-9223372036854775808) := by unfold Bd; decide
  have hhi : Bd 2 9223372036854775807 := by unfold Bd; decide
  have HN1 := fun W => Lib.hid (rnew_any (-9223372036854775808) W (by decide) (by decide))
  have HN2 := fun W => Lib.hid (rnew_any 9223372036854775807 W (by decide) (by decide))
  have HC1 := fun W u hw hu => Lib.hid (rCmp_any z (-9223372036854775808) v u W hl (rlen_bd hlo (by decide)) (rlen_bd (hB.sub hlo) (by decide)) (h.keep (w' := W) hw) hu)
  have HC2 := fun W u hw hu => Lib.hid (rCmp_any z 9223372036854775807 v u W hl (rlen_bd hhi (by decide)) (rlen_bd (hB.sub hhi) (by decide)) (h.keep (w' := W) hw) hu)
  have HN1 := Lib.hid HN1
  have HN2 := Lib.hid HN2
  have HC1 := Lib.hid HC1
  have HC2 := Lib.hid HC2
  have HFS := Lib.hid (fits_sgn z)
  generalize sgnZ (z - (-9223372036854775808)) = s1 at *
  generalize sgnZ (z - 9223372036854775807) = s2 at *
  have HV := Lib.hid h
  obtain ⟨ad, n, c, rfl, hr⟩ := h
  obtain ⟨b, hb⟩ : ∃ b, b = decide (z < 0) := ⟨_, rfl⟩
  rw [← hb] at HC1 HC2 HV ⊢
  have HBZ := Lib.hid hb
  clear hb hl hlo hhi
  by_cases h1 : s1 < 0
  · have hf : fits64 z = false := by
      cases hq : fits64 z with
      | false => rfl
      | true => exact absurd h1 (HFS.out.1 hq).1
    have hd1 : decide (s1 < 0) = true := decide_eq_true h1
    unfold Int64Post
    rw [hf, if_neg (by decide)]
    clear hf HFS hr HN2 HC2
    go_enter Try.func20, Try.ntmps20
    go_wp2_with fail
    go_region_with
      (first
        | (go_at_call 18; (with_reducible refine (HN1.out _).out.mono ?_); rintro e w1 ⟨v1, rfl, hi1, hb1'⟩; have hb1 := below_dr hb1'; have hA := box2 hb1; have hbw := box1b hb1; have cA0 := hA.1; have cA1 := hA.2.1)
        | (go_at_call 33; (with_reducible refine (HC1.out _ v1 hbw hi1).out.mono ?_); rintro e w2 ⟨rfl, hb2'⟩; have hb2 := hb1.trans (hb2'.mono hb1.size); have hB2 := box2 hb2; have hbw2 := box1b hb2))
    all_goals
    go_wp2_with fail
    refine bodyPost_ret (v := .tuple #[.int .i64 0, .bool false]) (by simp [results, Try.results20, go_sem]) rfl ⟨rfl, hbw2⟩
  · have hd1 : decide (s1 < 0) = false := decide_eq_false h1
    by_cases h2 : 0 < s2
    · have hd2 : decide (0 < s2) = true := decide_eq_true h2
      have hf : fits64 z = false := by
        cases hq : fits64 z with
        | false => rfl
        | true => exact absurd h2 (HFS.out.1 hq).2
      unfold Int64Post
      rw [hf, if_neg (by decide)]
      clear hf HFS hr
      go_enter Try.func20, Try.ntmps20
      go_wp2_with fail
      go_region_held3 (fun w' => w'.cell? ⟨w.heap.size, 0, none⟩ = some (.bool b) ∧ w'.cell? ⟨w.heap.size, 1, none⟩ = some (.slice ad n c))
        (first | exact ⟨hD4.1, hD4.2.1⟩ | exact ⟨hC3.1, hC3.2.1⟩ | exact ⟨hB2.1, hB2.2.1⟩ | exact ⟨hA.1, hA.2.1⟩ | go_keep)
        (first
          | (go_at_call 18; (with_reducible refine (HN1.out _).out.mono ?_); rintro e w1 ⟨v1, rfl, hi1, hb1'⟩; have hb1 := below_dr hb1'; have hA := box2 hb1; have hbw := box1b hb1)
          | (go_at_call 18; (with_reducible refine (HN2.out _).out.mono ?_); rintro e w3 ⟨v3, rfl, hi3, hb3'⟩; have hb3 := hb2.trans (hb3'.mono hb2.size); have hC3 := box2 hb3; have hbw3 := box1b hb3)
          | (go_at_call 33; (with_reducible refine (HC1.out _ v1 hbw hi1).out.mono ?_); rintro e w2 ⟨rfl, hb2'⟩; have hb2 := hb1.trans (hb2'.mono hb1.size); have hB2 := box2 hb2; have hbw2 := box1b hb2)
          | (go_at_call 33; (with_reducible refine (HC2.out _ v3 hbw3 hi3).out.mono ?_); rintro e w4 ⟨rfl, hb4'⟩; have hb4 := hb3.trans (hb4'.mono hb3.size); have hD4 := box2 hb4; have hbw4 := box1b hb4))
      go_wp2_with fail
      refine bodyPost_ret (v := .tuple #[.int .i64 0, .bool false]) (by simp [results, Try.results20, go_sem]) rfl ⟨rfl, hbw4⟩
    · have hd2 : decide (0 < s2) = false := decide_eq_false h2
      have hf : fits64 z = true := HFS.out.2 ⟨h1, h2⟩
      obtain ⟨ad', c', hv, ra⟩ := hr.opt
      cases hv
      have hz : -9223372036854775808 ≤ z ∧ z ≤ 9223372036854775807 := of_decide_eq_true hf
      unfold Int64Post
      rw [hf, if_pos rfl]
      obtain ⟨m, hm⟩ : ∃ m, m = z.natAbs := ⟨_, rfl⟩
      rw [← hm] at ra HC1 HC2 ⊢
      clear HV
      have hlr : (digs 65536 m).length ≤ 1000000 := by rw [hm]; exact rlen_bd hB (by decide)
      have HX : Hid (∀ W, Below w.heap.size w W → ∀ j, j < (digs 65536 m).length → ∃ b off, ad = some ⟨b, off, none⟩ ∧ b < W.heap.size ∧ W.cell? ⟨b, off + j, none⟩ = some (.int .i64 ((m / 65536 ^ j % 65536 : Nat) : Int))) := Lib.hid fun W hb j hj => by
        obtain ⟨b, o, e1, e2, e3⟩ := ra j hj
        rw [digs_get (by decide)] at e3
        exact ⟨b, o, e1, Nat.lt_of_lt_of_le e2 hb.size, (hb.cell (p := ⟨b, o + j, none⟩) e2).trans e3⟩
      have HLT := Lib.hid (Nat.div_eq_of_lt (digs_lt_pow (b := 65536) (by decide) m))
      have hmb : m ≤ 9223372036854775808 := by omega
      have HZ := Lib.hid (And.intro hm hz)
      have h1' := h1
      clear hf HFS hr ra hm hz
      generalize (digs 65536 m).length = N at *
      go_enter Try.func20, Try.ntmps20
      go_wp2_with fail
      go_region_held3 (fun w' => w'.cell? ⟨w.heap.size, 0, none⟩ = some (.bool b) ∧ w'.cell? ⟨w.heap.size, 1, none⟩ = some (.slice ad N c))
        (first | exact ⟨hD4.1, hD4.2.1⟩ | exact ⟨hC3.1, hC3.2.1⟩ | exact ⟨hB2.1, hB2.2.1⟩ | exact ⟨hA.1, hA.2.1⟩ | go_keep)
        (go_loud (first
          | (go_at_call 18; (with_reducible refine (HN1.out _).out.mono ?_); rintro e w1 ⟨v1, rfl, hi1, hb1'⟩; have hb1 := below_dr hb1'; have hA := box2 hb1; have hbw := box1b hb1)
          | (go_at_call 18; (with_reducible refine (HN2.out _).out.mono ?_); rintro e w3 ⟨v3, rfl, hi3, hb3'⟩; have hb3 := hb2.trans (hb3'.mono hb2.size); have hC3 := box2 hb3; have hbw3 := box1b hb3)
          | (go_at_call 33; (with_reducible refine (HC1.out _ v1 hbw hi1).out.mono ?_); rintro e w2 ⟨rfl, hb2'⟩; have hb2 := hb1.trans (hb2'.mono hb1.size); have hB2 := box2 hb2; have hbw2 := box1b hb2)
          | (go_at_call 33; (with_reducible refine (HC2.out _ v3 hbw3 hi3).out.mono ?_); rintro e w4 ⟨rfl, hb4'⟩; have hb4 := hb3.trans (hb4'.mono hb3.size); have hD4 := box2 hb4; have hbw4 := box1b hb4)))
      have HBW := Lib.hid hbw4
      obtain ⟨cD0, cD1, _⟩ := hD4
      clear hA hB2 hC3 hb1 hb2 hb3 hb4 hbw hbw2 hbw3 hbw4 hb1' hb2' hb3' hb4' hi1 hi3
      go_wp2_with fail
      go_loopw [4, 5] (fun u i wr => ∃ (j : Nat) (q : Int), j ≤ N ∧ i = .int .i64 q ∧ q = (j : Int) - 1 ∧ u = .int .u64 ((m / 65536 ^ j : Nat) : Int) ∧ wr = w4) (fun _ i _ => (intOf i + 1).toNat)
      case atStart => exact ⟨N, _, Nat.le_refl _, rfl, rfl, by rw [HLT.out]; rfl, rfl⟩
      case round =>
        obtain ⟨j, q, hj, rfl, hq, rfl, rfl⟩ := hrel
        by_cases hj0 : j = 0
        · subst hj0
          obtain rfl : q = -1 := by omega
          rw [Nat.pow_zero, Nat.div_one]
          have hz2 := HZ.out
          have hbz := HBZ.out
          clear HX HLT HZ HBZ HC1 HC2 hq
          cases b with
          | false =>
            have hz3 : z = (m : Int) ∧ m < 9223372036854775808 := by
              have h1 := of_decide_eq_false hbz.symm
              omega
            have HF := Lib.hid hz3.1
            have hmb2 := hz3.2
            clear hz2 hbz hz3
            have hwr : IntKind.i64.wrap (m : Int) = (m : Int) := by rw [IntKind.wrap_i64]; omega
            go_wp2_with fail
            refine bodyPost_ret (v := .tuple #[.int .i64 (m : Int), .bool true]) (by simp [results, Try.results20, go_sem]) rfl ⟨?_, HBW.out⟩
            rw [HF.out]
          | true =>
            have hz3 : z = -(m : Int) ∧ 0 < m := by
              have h1 := of_decide_eq_true hbz.symm
              omega
            have HF := Lib.hid hz3.1
            have hmb2 := hz3.2
            clear hz2 hbz hz3
            have hu : IntKind.u64.wrap (-(m : Int)) = 18446744073709551616 - (m : Int) := by rw [IntKind.wrap_u64]; omega
            have hwr : IntKind.i64.wrap (18446744073709551616 - (m : Int)) = -(m : Int) := by rw [IntKind.wrap_i64]; omega
            go_wp2_with fail
            refine bodyPost_ret (v := .tuple #[.int .i64 (-(m : Int)), .bool true]) (by simp [results, Try.results20, go_sem]) rfl ⟨?_, HBW.out⟩
            rw [HF.out]
        · obtain ⟨i, rfl⟩ : ∃ i, j = i + 1 := ⟨j - 1, by omega⟩
          obtain rfl : q = (i : Int) := by omega
          clear hq hj0
          obtain ⟨bb, ob, rfl, hbl, gx⟩ := HX.out _ HBW.out i (by omega)
          have hor := horner m i
          have hle : m / 65536 ^ i ≤ m := Nat.div_le_self _ _
          have hdl : m / 65536 ^ i % 65536 < 65536 := Nat.mod_lt _ (by decide)
          have HE := Lib.hid (rfl : m / 65536 ^ i = m / 65536 ^ i)
          obtain ⟨q0, hq0⟩ : ∃ q0, q0 = m / 65536 ^ i := ⟨_, rfl⟩
          obtain ⟨d, hd⟩ : ∃ d, d = m / 65536 ^ i % 65536 := ⟨_, rfl⟩
          rw [← hd] at gx hor hdl
          rw [← hq0] at hor hle
          generalize m / 65536 ^ (i + 1) = q1 at *
          have HQ := Lib.hid hq0
          clear hd hq0 HE
          have w1' : IntKind.u64.wrap ((q1 : Int) * 65536) = (q1 : Int) * 65536 := by rw [IntKind.wrap_u64]; omega
          have w2' : IntKind.u64.wrap ((q1 : Int) * 65536 + (d : Int)) = (q0 : Int) := by rw [IntKind.wrap_u64]; omega
          go_wp2
          go_roundw
          case rel =>
            refine ⟨i, (i : Int) - 1, by omega, by go_num, rfl, ?_, (by first | trivial | rfl)⟩
            rw [← HQ.out]
          case measure => simp [intOf] <;> omega

end Go.Proofs.Ytgepnkdnenjogaa
