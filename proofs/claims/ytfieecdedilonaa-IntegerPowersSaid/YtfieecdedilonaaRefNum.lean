/-  The reference's integers: made, New, Limbs; and the law's Is.  -/
import Derived.Test.YtfieecdedilonaaIBase
namespace Go.Proofs.Ytfieecdedilonaa
open Go.RowKit Digs

/-- The reference's integer: its sign and the digits of its absolute value. -/
def RefV (w : World) (v : Value) (z : Int) : Prop := ∃ ad n c, v = .agg #[.bool (decide (z < 0)), .slice ad n c] ∧ Rd .i64 w (.slice ad n c) (digs 65536 z.natAbs)
def RefPost (w : World) (z : Int) (e : Ending) (w' : World) : Prop := ∃ v, e = .returned v ∧ RefV w' v z ∧ Below w.heap.size w w'
theorem RefV.keep {w w' : World} {v : Value} {z : Int} (h : RefV w v z) (hb : Below w.heap.size w w') : RefV w' v z := by
  obtain ⟨ad, n, c, rfl, hr⟩ := h
  exact ⟨ad, n, c, rfl, hr.keep hb⟩

theorem Rd.headN {k : IntKind} {w : World} {b off cap n : Nat} {l d : List Nat} (h : Rd k w (.slice (some ⟨b, off, none⟩) l.length cap) l) (hn : n ≤ l.length) (hd : l.take n = d) : Rd k w (.slice (some ⟨b, off, none⟩) n cap) d := by
  rcases h with ⟨hv, _⟩ | ⟨b', off', cap', hv, h1, h2, h3, h4⟩
  · cases hv
  · cases hv
    exact Rd.take h2 h3 h1 h4 hn hd

set_option maxHeartbeats 400000 in
theorem rmade_nil (neg : Bool) (w : World) :
    Calls Try.prog 71 #[.bool neg, .slice none 0 0] w fun e w' => e = .returned (.agg #[.bool false, .slice none 0 0]) ∧ Below w.heap.size w w' := by
  cases neg
  all_goals
    go_enter Try.func71, Try.ntmps71
    go_wp2_with (go_at_call 110; refine (trimmed_nil _).mono ?_; rintro e w' ⟨rfl, rfl⟩)
    exact bodyPost_ret (v := .agg #[.bool false, .slice none 0 0]) (by simp [results, Try.results71, go_sem]) rfl ⟨rfl, (Below.refl _ _).alloc (Nat.le_refl _) _⟩

def RmadePost (neg : Bool) (b off cap : Nat) (l : List Nat) (w : World) (e : Ending) (w' : World) : Prop :=
  ∃ k, e = .returned (.agg #[.bool (neg && decide (0 < k)), .slice (some ⟨b, off, none⟩) k cap]) ∧ k ≤ l.length ∧ (∀ j, k ≤ j → l[j]?.getD 0 = 0) ∧ (k = 0 ∨ l[k - 1]?.getD 0 ≠ 0) ∧ Below w.heap.size w w'

set_option maxHeartbeats 400000 in
theorem rmade_some (neg : Bool) (b off cap : Nat) (l : List Nat) (w : World) (hlc : l.length ≤ cap) (hcm : cap ≤ maxLen) (hb : b < w.heap.size)
    (hc : ∀ j, j < l.length → w.cell? ⟨b, off + j, none⟩ = some (.int .i64 ((l[j]?.getD 0 : Nat) : Int))) :
    Calls Try.prog 71 #[.bool neg, .slice (some ⟨b, off, none⟩) l.length cap] w (RmadePost neg b off cap l w) := by
  have HT : ∀ o : Obj, Calls Try.prog 110 #[.slice (some ⟨b, off, none⟩) l.length cap] (w.alloc o) (TrimPostI b off cap l (w.alloc o)) := fun o =>
    trimmed_some b off cap l _ hlc hcm (fun j hj => by rw [World.cell?_alloc_past _ _ _ hb]; exact hc j hj)
  have H := Lib.hid HT
  clear HT hc
  cases neg
  · go_enter Try.func71, Try.ntmps71
    go_wp2_with fail
    refine (H.out _).mono ?_
    rintro e w' ⟨k, rfl, h1, h2, h3, rfl⟩
    have H2 := Lib.hid h2
    have H3 := Lib.hid h3
    clear h2 h3
    go_wp2_with fail
    exact bodyPost_ret (v := .agg #[.bool false, .slice (some ⟨b, off, none⟩) k cap]) (by simp [results, Try.results71, go_sem]) rfl ⟨k, rfl, h1, H2.out, H3.out, (Below.refl _ _).alloc (Nat.le_refl _) _⟩
  · go_enter Try.func71, Try.ntmps71
    go_wp2_with fail
    refine (H.out _).mono ?_
    rintro e w' ⟨k, rfl, h1, h2, h3, rfl⟩
    have H2 := Lib.hid h2
    have H3 := Lib.hid h3
    clear h2 h3
    by_cases hk : 0 < k
    · have hd : decide (0 < k) = true := by simpa using hk
      go_wp2_with fail
      exact bodyPost_ret (v := .agg #[.bool true, .slice (some ⟨b, off, none⟩) k cap]) (by simp [results, Try.results71, go_sem]) rfl ⟨k, by rw [hd]; rfl, h1, H2.out, H3.out, (Below.refl _ _).alloc (Nat.le_refl _) _⟩
    · obtain rfl : k = 0 := by omega
      clear hk
      go_wp2_with fail
      exact bodyPost_ret (v := .agg #[.bool false, .slice (some ⟨b, off, none⟩) 0 cap]) (by simp [results, Try.results71, go_sem]) rfl ⟨0, rfl, h1, H2.out, .inl rfl, (Below.refl _ _).alloc (Nat.le_refl _) _⟩

theorem rmade_any (neg : Bool) (v : Value) (l : List Nat) (w : World) (h : Rd .i64 w v l) (hlt : ∀ x ∈ l, x < 65536) :
    Calls Try.prog 71 #[.bool neg, v] w (RefPost w (sg neg (vl 65536 l))) := by
  have h' := h
  rcases h with ⟨rfl, rfl⟩ | ⟨b, off, cap, rfl, hb, hlc, hcm, hc⟩
  · refine (rmade_nil neg w).mono fun e w' ⟨he, hw⟩ => ⟨_, he, ⟨_, _, _, ?_, .inl ⟨rfl, ?_⟩⟩, hw⟩
    · rw [vl]; unfold sg; cases neg <;> rfl
    · rw [sg_natAbs, vl, digs_zero]
  · refine (rmade_some neg b off cap l w hlc hcm hb hc).mono ?_
    rintro e w' ⟨k, rfl, h1, h2, h3, hw⟩
    have ht := trimmed_digs hlt h1 h2 h3
    refine ⟨_, rfl, ⟨_, _, _, ?_, by rw [sg_natAbs]; exact Rd.headN (h'.keep hw) h1 ht⟩, hw⟩
    have e : (neg && decide (0 < k)) = decide (sg neg (vl 65536 l) < 0) := by
      have hk : 0 < k ↔ vl 65536 l ≠ 0 := by
        constructor
        · intro h0 h5
          rw [h5, digs_zero] at ht
          have h6 : (l.take k).length = 0 := by rw [ht]; rfl
          rw [List.length_take] at h6
          omega
        · intro h0
          rcases Nat.eq_zero_or_pos k with rfl | h6
          · rw [← vl_digs (b := 65536) (by decide) (vl 65536 l), ← ht] at h0
            exact absurd rfl h0
          · exact h6
      unfold sg
      cases neg
      · simp
      · show (true && decide (0 < k)) = decide (-(vl 65536 l : Int) < 0)
        rw [Bool.true_and, decide_eq_decide, hk]
        omega
    rw [e]

/-- What the loop of New holds: the digits so far, and what is left. -/
def NewRel (u : Nat) (X : World) (c v : Value) (wr : World) : Prop :=
  ∃ (k t : Nat) (s : List Nat), c = .int .u64 t ∧ k ≤ 4 ∧ t < 65536 ^ (4 - k) ∧ s.length = k ∧ (∀ x ∈ s, x < 65536) ∧ Oi wr X.heap.size v s ∧ vl 65536 s + 65536 ^ k * t = u ∧ Below X.heap.size X wr

theorem wrap_abs (z : Int) (hlo : -9223372036854775808 ≤ z) (hhi : z ≤ 9223372036854775807) :
    (if z < 0 then IntKind.u64.wrap (-IntKind.u64.wrap z) else IntKind.u64.wrap z) = (z.natAbs : Int) := by
  simp only [IntKind.wrap_u64]
  split <;> omega

theorem new_step {k t : Nat} (hk : k ≤ 4) (ht : t < 65536 ^ (4 - k)) (h0 : 0 < t) : k < 4 ∧ t / 65536 < 65536 ^ (4 - (k + 1)) := by
  have h1 : k < 4 := by
    rcases Nat.lt_or_ge k 4 with h | h
    · exact h
    · obtain rfl : k = 4 := by omega
      simp at ht; omega
  refine ⟨h1, ?_⟩
  rw [Nat.div_lt_iff_lt_mul (by decide), ← Nat.pow_succ]
  have : (4 - (k + 1)).succ = 4 - k := by omega
  rw [this]
  exact ht

set_option maxHeartbeats 1000000 in
set_option maxRecDepth 100000 in
theorem rnew_neg (z : Int) (w : World) (hlo : -9223372036854775808 ≤ z) (hhi : z ≤ 9223372036854775807) (hz : z < 0) :
    Calls Try.prog 18 #[.int .i64 z] w (RefPost w z) := by
  have HU := Lib.hid (wrap_abs z hlo hhi)
  have HA : Hid (z.natAbs < 65536 ^ 4) := by show z.natAbs < 18446744073709551616; omega
  clear hlo hhi
  obtain ⟨i0, hi, hz0, hz1, hz2⟩ := info_parts Try.infoI64
  go_enter Try.func18, Try.ntmps18
  go_wp2_with fail
  go_loopw [3, 4] (NewRel z.natAbs (w.alloc (.cells #[.bool false, .slice none 0 0] 31))) (fun c _ _ => (intOf c).toNat)
  case atStart =>
    have h := HU.out
    rw [if_pos hz] at h
    exact ⟨0, z.natAbs, [], by rw [h], Nat.zero_le _, HA.out, rfl, by simp, World.ownsRow_nil _ _ _ _, by simp [vl], Below.refl _ _⟩
  case round =>
    obtain ⟨k, t, s, rfl, hk, ht, hs, hsl, hown, hv, hnx⟩ := hrel
    have HS := Lib.hid hs
    have HSL := Lib.hid hsl
    have HV := Lib.hid hv
    have HO := Lib.hid hown
    have HNX := Lib.hid hnx
    have HT := Lib.hid ht
    clear hs hsl hv hown hnx ht
    have htb : t < 18446744073709551616 := Nat.lt_of_lt_of_le HT.out (Nat.pow_le_pow_right (n := 65536) (by decide) (show 4 - k ≤ 4 by omega))
    by_cases h0 : 0 < t
    · obtain ⟨hk4, hstep⟩ := new_step hk HT.out h0
      have HST := Lib.hid hstep
      clear hstep
      go_wp2_with (at_builtin; refine wpList_append_own _ rfl (.tmp 13) (.tmp 17) 29 rfl (w.heap.size + 1) 3 i0 (.int .i64 0) 1 8 Try.underlying29 hi hz0 hz1 hz2 rfl (by decide) _ _ _ rfl (World.ownsRow.alloc (by have h := HO.out; unfold Oi at h; rw [World.size_alloc] at h; exact h) _) ⟨wr.heap.size, 0, none⟩ 1 1 (iw [t % 65536]) rfl rfl ?c1 (iw_oneCell _) ?c2 ?c3 ?c4 ?_)
      case c1 => exact new_int _ _ _ _ (by omega)
      case c2 => have := HS.out; unfold maxLen; omega
      case c3 => have := HS.out; omega
      case c4 => have := HNX.out.size; simp at this ⊢; omega
      intro v' w1 hown1 hgrow _
      have HO1 := Lib.hid hown1
      have HG := Lib.hid hgrow
      clear hown1 hgrow
      go_wp2
      go_roundw
      case rel =>
        refine ⟨k + 1, t / 65536, s ++ [t % 65536], by go_num, by omega, HST.out, by rw [List.length_append, HS.out]; rfl, all_snoc HSL.out (Nat.mod_lt _ (by decide)), Oi.snoc (by rw [World.size_alloc]; exact HO1.out), ?_, ?_⟩
        · rw [vl_snoc, HS.out, Nat.pow_succ]
          have h1 := split_mod (65536 ^ k) 65536 t
          have h2 := HV.out
          omega
        · exact (HNX.out.alloc HNX.out.size _).grown HG.out (by have := HNX.out.size; simp at this ⊢; omega) (fun q hq => (HO.out.lt q hq).1)
      case measure => simp [intOf]; omega
    · obtain rfl : t = 0 := by omega
      have hm := rmade_any true _ s wr HO.out.rd HSL.out
      have h2 := HV.out
      rw [Nat.mul_zero, Nat.add_zero] at h2
      rw [h2] at hm
      have HM := Lib.hid hm
      clear hm h2
      go_wp2_with fail
      refine HM.out.mono ?_
      rintro e w2 ⟨v2, rfl, ⟨ad, n, c, rfl, hr2⟩, hb2⟩
      have hB := HNX.out.trans (hb2.mono HNX.out.size)
      obtain ⟨c0, c1, f0, f1, hlt⟩ := box2 hB
      have HR := Lib.hid (hr2.store2 c0 c1 (by intro n h; cases h) (by intro n h; cases h))
      have HBB := Lib.hid hB
      have e : sg true z.natAbs = z := by unfold sg; simp; omega
      have HE := Lib.hid e
      clear hB hb2 hr2 e
      go_wp2_with fail
      refine bodyPost_ret (v := .agg #[.bool (decide (sg true z.natAbs < 0)), .slice ad n c]) (by simp [results, Try.results18, go_sem, c0, c1]) rfl ⟨_, rfl, ⟨_, _, _, by rw [HE.out], ?_⟩, ?_⟩
      · have := HR.out (.bool (decide (sg true z.natAbs < 0))) (.slice ad n c)
        rw [HE.out] at this ⊢
        exact this
      · exact ((((Below.refl _ _).alloc (Nat.le_refl _) _).trans (HBB.out.mono (by simp))).setCell (by simp) _).setCell (by simp) _

set_option maxHeartbeats 1000000 in
set_option maxRecDepth 100000 in
theorem rnew_pos (z : Int) (w : World) (hlo : -9223372036854775808 ≤ z) (hhi : z ≤ 9223372036854775807) (hz : ¬ z < 0) :
    Calls Try.prog 18 #[.int .i64 z] w (RefPost w z) := by
  have HU := Lib.hid (wrap_abs z hlo hhi)
  have HA : Hid (z.natAbs < 65536 ^ 4) := by show z.natAbs < 18446744073709551616; omega
  clear hlo hhi
  have hzd : decide (z < 0) = false := by simp; omega
  obtain ⟨i0, hi, hz0, hz1, hz2⟩ := info_parts Try.infoI64
  go_enter Try.func18, Try.ntmps18
  go_wp2_with fail
  go_loopw [3, 4] (NewRel z.natAbs (w.alloc (.cells #[.bool false, .slice none 0 0] 31))) (fun c _ _ => (intOf c).toNat)
  case atStart =>
    have h := HU.out
    rw [if_neg (by omega)] at h
    exact ⟨0, z.natAbs, [], by rw [h], Nat.zero_le _, HA.out, rfl, by simp, World.ownsRow_nil _ _ _ _, by simp [vl], Below.refl _ _⟩
  case round =>
    obtain ⟨k, t, s, rfl, hk, ht, hs, hsl, hown, hv, hnx⟩ := hrel
    have HS := Lib.hid hs
    have HSL := Lib.hid hsl
    have HV := Lib.hid hv
    have HO := Lib.hid hown
    have HNX := Lib.hid hnx
    have HT := Lib.hid ht
    clear hs hsl hv hown hnx ht
    have htb : t < 18446744073709551616 := Nat.lt_of_lt_of_le HT.out (Nat.pow_le_pow_right (n := 65536) (by decide) (show 4 - k ≤ 4 by omega))
    by_cases h0 : 0 < t
    · obtain ⟨hk4, hstep⟩ := new_step hk HT.out h0
      have HST := Lib.hid hstep
      clear hstep
      go_wp2_with (at_builtin; refine wpList_append_own _ rfl (.tmp 13) (.tmp 17) 29 rfl (w.heap.size + 1) 3 i0 (.int .i64 0) 1 8 Try.underlying29 hi hz0 hz1 hz2 rfl (by decide) _ _ _ rfl (World.ownsRow.alloc (by have h := HO.out; unfold Oi at h; rw [World.size_alloc] at h; exact h) _) ⟨wr.heap.size, 0, none⟩ 1 1 (iw [t % 65536]) rfl rfl ?c1 (iw_oneCell _) ?c2 ?c3 ?c4 ?_)
      case c1 => exact new_int _ _ _ _ (by omega)
      case c2 => have := HS.out; unfold maxLen; omega
      case c3 => have := HS.out; omega
      case c4 => have := HNX.out.size; simp at this ⊢; omega
      intro v' w1 hown1 hgrow _
      have HO1 := Lib.hid hown1
      have HG := Lib.hid hgrow
      clear hown1 hgrow
      go_wp2
      go_roundw
      case rel =>
        refine ⟨k + 1, t / 65536, s ++ [t % 65536], by go_num, by omega, HST.out, by rw [List.length_append, HS.out]; rfl, all_snoc HSL.out (Nat.mod_lt _ (by decide)), Oi.snoc (by rw [World.size_alloc]; exact HO1.out), ?_, ?_⟩
        · rw [vl_snoc, HS.out, Nat.pow_succ]
          have h1 := split_mod (65536 ^ k) 65536 t
          have h2 := HV.out
          omega
        · exact (HNX.out.alloc HNX.out.size _).grown HG.out (by have := HNX.out.size; simp at this ⊢; omega) (fun q hq => (HO.out.lt q hq).1)
      case measure => simp [intOf]; omega
    · obtain rfl : t = 0 := by omega
      have hm := rmade_any false _ s wr HO.out.rd HSL.out
      have h2 := HV.out
      rw [Nat.mul_zero, Nat.add_zero] at h2
      rw [h2] at hm
      have HM := Lib.hid hm
      clear hm h2
      go_wp2_with fail
      refine HM.out.mono ?_
      rintro e w2 ⟨v2, rfl, ⟨ad, n, c, rfl, hr2⟩, hb2⟩
      have hB := HNX.out.trans (hb2.mono HNX.out.size)
      obtain ⟨c0, c1, f0, f1, hlt⟩ := box2 hB
      have HR := Lib.hid (hr2.store2 c0 c1 (by intro n h; cases h) (by intro n h; cases h))
      have HBB := Lib.hid hB
      have e : sg false z.natAbs = z := by unfold sg; simp; omega
      have HE := Lib.hid e
      clear hB hb2 hr2 e
      go_wp2_with fail
      refine bodyPost_ret (v := .agg #[.bool (decide (sg false z.natAbs < 0)), .slice ad n c]) (by simp [results, Try.results18, go_sem, c0, c1]) rfl ⟨_, rfl, ⟨_, _, _, by rw [HE.out], ?_⟩, ?_⟩
      · have := HR.out (.bool (decide (sg false z.natAbs < 0))) (.slice ad n c)
        rw [HE.out] at this ⊢
        exact this
      · exact ((((Below.refl _ _).alloc (Nat.le_refl _) _).trans (HBB.out.mono (by simp))).setCell (by simp) _).setCell (by simp) _

theorem rnew_any (z : Int) (w : World) (hlo : -9223372036854775808 ≤ z) (hhi : z ≤ 9223372036854775807) :
    Calls Try.prog 18 #[.int .i64 z] w (RefPost w z) := by
  by_cases h : z < 0
  · exact rnew_neg z w hlo hhi h
  · exact rnew_pos z w hlo hhi h

end Go.Proofs.Ytfieecdedilonaa
