/-  slices.Equal; the reference's Limbs; the law's Is.  -/
import Derived.Test.YtfieecdedilonaaNum
namespace Go.Proofs.Ytfieecdedilonaa
open Go.RowKit Digs

theorem drewN2 (w : World) (a b : Nat) : ∃ n, (w.drewN a).drewN b = w.drewN n := ⟨a + b, by rw [World.drewN_drewN]⟩

set_option maxHeartbeats 400000 in
theorem equal_ne (ada adb : Option Addr) (la ca lb cb : Nat) (w : World) (h : la ≠ lb) :
    Calls Try.prog 73 #[.slice ada la ca, .slice adb lb cb] w fun e w' => e = .returned (.bool false) ∧ w = w' := by
  have hne : ((la : Int) != (lb : Int)) = true := by rw [bne_iff_ne]; omega
  go_enter Try.func73, Try.ntmps73
  go_wp2
  go_ret
  exact ⟨rfl, rfl⟩

def EqPost (la lb : List Nat) (w : World) (e : Ending) (w' : World) : Prop := e = .returned (.bool (decide (la = lb))) ∧ ∃ d, w' = w.drewN d

set_option maxHeartbeats 1000000 in
set_option maxRecDepth 100000 in
theorem equal_same (ada adb : Option Addr) (ca cb : Nat) (la lb : List Nat) (w : World) (hll : lb.length = la.length) (hla : la.length ≤ 1000000) (hca : RdA .u32 w ada la) (hcb : RdA .u32 w adb lb) :
    Calls Try.prog 73 #[.slice ada la.length ca, .slice adb la.length cb] w (EqPost la lb w) := by
  obtain ⟨n, hn⟩ : ∃ n, n = la.length := ⟨_, rfl⟩
  rw [← hn] at hll hla ⊢
  have HN := Lib.hid hn
  have HL := Lib.hid hll
  have HCA := Lib.hid hca
  have HCB := Lib.hid hcb
  clear hn hll hca hcb
  have hne : ((n : Int) != (n : Int)) = false := by simp
  go_enter Try.func73, Try.ntmps73
  go_wp2
  clear hne
  go_loopw [13] (fun i wr => ∃ (k d : Nat), i = .int .i64 k ∧ k ≤ n ∧ wr = w.drewN d ∧ ∀ j, j < k → la[j]?.getD 0 = lb[j]?.getD 0) (fun i _ => n - (intOf i).toNat)
  case atStart => exact ⟨0, 0, rfl, Nat.zero_le _, rfl, fun j hj => absurd hj (Nat.not_lt_zero _)⟩
  case round =>
    obtain ⟨k, d, rfl, hk, rfl, hz⟩ := hrel
    have HZ := Lib.hid hz
    clear hz
    by_cases h0 : k < n
    · obtain ⟨ba, oa, rfl, _, h1⟩ := HCA.out k (by rw [← HN.out]; exact h0)
      obtain ⟨bb, ob, rfl, _, h2⟩ := HCB.out k (by rw [HL.out]; exact h0)
      obtain ⟨x, hx⟩ : ∃ x, x = la[k]?.getD 0 := ⟨_, rfl⟩
      obtain ⟨y, hy⟩ : ∃ y, y = lb[k]?.getD 0 := ⟨_, rfl⟩
      rw [← hx] at h1
      rw [← hy] at h2
      have HX := Lib.hid hx
      have HY := Lib.hid hy
      clear hx hy
      by_cases hxy : x = y
      · subst hxy
        go_wp2_with fail
        go_quiet (fail)
        go_wp2
        go_roundw
        case rel =>
          refine ⟨k + 1, _, by go_num, by omega, rfl, fun j hj => ?_⟩
          by_cases hjm : j = k
          · rw [hjm, ← HX.out, ← HY.out]
          · exact HZ.out j (by omega)
        case measure => simp [intOf]; omega
      · have hne : ((x : Int) != (y : Int)) = true := by rw [bne_iff_ne]; omega
        go_wp2_with fail
        go_quiet (fail)
        go_wp2
        go_ret
        refine ⟨?_, drewN2 _ _ _⟩
        have e : decide (la = lb) = false := by
          rw [decide_eq_false_iff_not]
          rintro rfl
          exact hxy (HX.out.trans HY.out.symm)
        rw [e]; rfl
    · obtain rfl : k = n := by omega
      go_wp2
      go_ret
      refine ⟨?_, _, rfl⟩
      have e : decide (la = lb) = true := by
        rw [decide_eq_true_iff]
        apply List.ext_getElem?
        intro j
        by_cases hj : j < k
        · have := HZ.out j hj
          rw [List.getElem?_eq_getElem (by rw [← HN.out]; exact hj), List.getElem?_eq_getElem (by rw [HL.out]; exact hj)] at this ⊢
          simpa using this
        · rw [List.getElem?_eq_none (by rw [← HN.out]; omega), List.getElem?_eq_none (by rw [HL.out]; omega)]
      rw [e]; rfl

theorem equal_any (va vb : Value) (la lb : List Nat) (w : World) (hla : la.length ≤ 1000000) (ha : Rd .u32 w va la) (hb : Rd .u32 w vb lb) :
    Calls Try.prog 73 #[va, vb] w (EqPost la lb w) := by
  obtain ⟨ada, ca, rfl, ra⟩ := ha.opt
  obtain ⟨adb, cb, rfl, rb⟩ := hb.opt
  by_cases h : lb.length = la.length
  · rw [h]; exact equal_same ada adb ca cb la lb w h hla ra rb
  · refine (equal_ne ada adb la.length ca lb.length cb w (fun e => h e.symm)).mono ?_
    rintro e w' ⟨rfl, rfl⟩
    have e : decide (la = lb) = false := by
      rw [decide_eq_false_iff_not]
      rintro rfl
      exact h rfl
    exact ⟨by rw [e], 0, rfl⟩

theorem digs_of_len {b : Nat} (hb : 2 ≤ b) (s : List Nat) (h : ∀ x ∈ s, x < b) (hk : s.length = 0 ∨ b ^ (s.length - 1) ≤ vl b s) : s = digs b (vl b s) := by
  have h1 := digs_trim hb s s.length h (Nat.le_refl _) (fun j hj => by rw [List.getElem?_eq_none hj]; rfl) (by
    rcases hk with hk | hk
    · exact .inl hk
    · by_cases h0 : s.length = 0
      · exact .inl h0
      · refine .inr fun h2 => ?_
        have h3 := vl_take_succ b s (s.length - 1) (by omega)
        rw [h2, Nat.mul_zero, Nat.add_zero, show s.length - 1 + 1 = s.length by omega, List.take_of_length_le (Nat.le_refl _)] at h3
        have h4 := vl_lt (b := b) (s.take (s.length - 1)) (fun x hx => h x (List.mem_of_mem_take hx))
        rw [List.length_take, Nat.min_eq_left (by omega)] at h4
        omega)
  rwa [List.take_of_length_le (Nat.le_refl _)] at h1

theorem pow_two_base (k : Nat) : (4294967296 : Nat) ^ k = 65536 ^ (2 * k) := by
  rw [Nat.pow_mul]

/-- A round of Limbs: two digits make a limb. -/
theorem limb_step (D s : List Nat) (k x y : Nat) (hs : s.length = k) (hv : vl 4294967296 s = vl 65536 (D.take (2 * k))) (hk : 2 * k < D.length) (hx : x = D[2 * k]?.getD 0)
    (hy : y = D[2 * k + 1]?.getD 0) : vl 4294967296 (s ++ [x + y * 65536]) = vl 65536 (D.take (2 * (k + 1))) := by
  have h1 := vl_take_succ 65536 D (2 * k) hk
  have h2 : vl 65536 (D.take (2 * k + 1 + 1)) = vl 65536 (D.take (2 * k + 1)) + 65536 ^ (2 * k + 1) * y := by
    by_cases h : 2 * k + 1 < D.length
    · rw [vl_take_succ 65536 D (2 * k + 1) h, hy]
    · rw [vl_take_le _ _ _ (by omega), hy, List.getElem?_eq_none (by omega)]
      rfl
  rw [vl_snoc, hs, pow_two_base, show 2 * (k + 1) = 2 * k + 1 + 1 by omega, h2, h1, ← hx, hv, Nat.pow_succ, Nat.mul_add]
  have : 65536 ^ (2 * k) * (y * 65536) = 65536 ^ (2 * k) * 65536 * y := by rw [Nat.mul_assoc, Nat.mul_comm y]
  omega

def RLimbsRel (D : List Nat) (X : World) (i v : Value) (wr : World) : Prop :=
  ∃ (k : Nat) (s : List Nat), i = .int .i64 ((2 * k : Nat) : Int) ∧ 2 * k ≤ D.length + 1 ∧ s.length = k ∧ (∀ x ∈ s, x < 4294967296) ∧ Ow wr X.heap.size v s ∧ vl 4294967296 s = vl 65536 (D.take (2 * k)) ∧ Below X.heap.size X wr

set_option maxHeartbeats 2000000 in
set_option maxRecDepth 100000 in
theorem rlimbs_core (neg : Bool) (ad : Option Addr) (c : Nat) (D : List Nat) (w : World) (hl : D.length ≤ 1000000) (hr : RdA .i64 w ad D) (hd : ∀ x ∈ D, x < 65536)
    (hn : D = [] ∨ 65536 ^ (D.length - 1) ≤ vl 65536 D) :
    Calls Try.prog 74 #[.agg #[.bool neg, .slice ad D.length c]] w (OwPost w (digs 4294967296 (vl 65536 D))) := by
  have HR := Lib.hid hr
  have HD := Lib.hid hd
  have HN := Lib.hid hn
  clear hr hd hn
  obtain ⟨i0, hi, hz0, hz1, hz2⟩ := info_parts Try.infoU32
  go_enter Try.func74, Try.ntmps74
  go_wp2_with fail
  go_loopw [4, 3] (fun i v wr => RLimbsRel D (w.alloc (.cells #[.bool neg, .slice ad D.length c] 31)) i v wr) (fun i _ _ => D.length + 1 - (intOf i).toNat)
  case atStart => exact ⟨0, [], rfl, by omega, rfl, by simp, World.ownsRow_nil _ _ _ _, by simp [vl], Below.refl _ _⟩
  case round =>
    obtain ⟨k, s, rfl, hk, hs, hsl, hown, hv, hnx⟩ := hrel
    have HS := Lib.hid hs
    have HSL := Lib.hid hsl
    have HV := Lib.hid hv
    have HO := Lib.hid hown
    have HNX := Lib.hid hnx
    clear hs hsl hv hown hnx
    have cB := (box1 HNX.out).2
    by_cases hkl : 2 * k < D.length
    · obtain ⟨ba, oa, rfl, hba, gx0⟩ := HR.out (2 * k) hkl
      have hX : Below w.heap.size w wr := ((Below.refl _ _).alloc (Nat.le_refl _) _).trans (HNX.out.mono (by simp))
      have gx := (hX.cell (p := ⟨ba, oa + 2 * k, none⟩) hba).trans gx0
      clear gx0
      obtain ⟨x, hx⟩ : ∃ x, x = D[2 * k]?.getD 0 := ⟨_, rfl⟩
      rw [← hx] at gx
      have hxb : x < 65536 := by rw [hx, List.getElem?_eq_getElem hkl]; exact HD.out _ (List.getElem_mem hkl)
      have HX := Lib.hid hx
      clear hx
      by_cases hk1 : 2 * k + 1 < D.length
      · obtain ⟨bb, ob, hbo, hbb, gy0⟩ := HR.out (2 * k + 1) hk1
        cases hbo
        have gy := (hX.cell (p := ⟨ba, oa + (2 * k + 1), none⟩) hbb).trans gy0
        clear gy0
        obtain ⟨y, hy⟩ : ∃ y, y = D[2 * k + 1]?.getD 0 := ⟨_, rfl⟩
        rw [← hy] at gy
        have hyb : y < 65536 := by rw [hy, List.getElem?_eq_getElem hk1]; exact HD.out _ (List.getElem_mem hk1)
        have HY := Lib.hid hy
        have HXX := Lib.hid hX
        clear hy hX
        go_wp2_with (at_builtin; refine wpList_append_own _ rfl (.tmp 35) (.tmp 37) 22 rfl (w.heap.size + 1) 93 i0 (.int .u32 0) 1 4 Try.underlying22 hi hz0 hz1 hz2 rfl (by decide) _ _ _ rfl (World.ownsRow.alloc (by have h := HO.out; unfold Ow at h; rw [World.size_alloc] at h; exact h) _) ⟨wr.heap.size, 0, none⟩ 1 1 (uw [x + y * 65536]) rfl rfl ?c1 (uw_oneCell _) ?c2 ?c3 ?c4 ?_)
        case c1 => exact new_one _ _ _ _ (by first | omega | (simp only [IntKind.wrap_u32]; omega))
        case c2 => have := HS.out; unfold maxLen; omega
        case c3 => have := HS.out; omega
        case c4 => have := HNX.out.size; simp at this ⊢; omega
        intro v' w1 hown1 hgrow _
        have HO1 := Lib.hid hown1
        have HG := Lib.hid hgrow
        clear hown1 hgrow
        go_wp2
        go_roundw
        case rel =>
          refine ⟨k + 1, s ++ [x + y * 65536], by go_num, by omega, by rw [List.length_append, HS.out]; rfl, all_snoc HSL.out (by omega), Ow.snoc (by rw [World.size_alloc]; exact HO1.out), ?_, ?_⟩
          · exact limb_step _ s k x y HS.out HV.out hkl HX.out HY.out
          · exact (HNX.out.alloc HNX.out.size _).grown HG.out (by have := HNX.out.size; simp at this ⊢; omega) (fun q hq => (HO.out.lt q hq).1)
        case measure => simp [intOf]; omega
      · have HXX := Lib.hid hX
        clear hX
        go_wp2_with (at_builtin; refine wpList_append_own _ rfl (.tmp 35) (.tmp 37) 22 rfl (w.heap.size + 1) 93 i0 (.int .u32 0) 1 4 Try.underlying22 hi hz0 hz1 hz2 rfl (by decide) _ _ _ rfl (World.ownsRow.alloc (by have h := HO.out; unfold Ow at h; rw [World.size_alloc] at h; exact h) _) ⟨wr.heap.size, 0, none⟩ 1 1 (uw [x + 0 * 65536]) rfl rfl ?c1 (uw_oneCell _) ?c2 ?c3 ?c4 ?_)
        case c1 => exact new_one _ _ _ _ (by first | omega | (simp only [IntKind.wrap_u32]; omega))
        case c2 => have := HS.out; unfold maxLen; omega
        case c3 => have := HS.out; omega
        case c4 => have := HNX.out.size; simp at this ⊢; omega
        intro v' w1 hown1 hgrow _
        have HO1 := Lib.hid hown1
        have HG := Lib.hid hgrow
        clear hown1 hgrow
        go_wp2
        go_roundw
        case rel =>
          refine ⟨k + 1, s ++ [x + 0 * 65536], by go_num, by omega, by rw [List.length_append, HS.out]; rfl, all_snoc HSL.out (by omega), Ow.snoc (by rw [World.size_alloc]; exact HO1.out), ?_, ?_⟩
          · exact limb_step _ s k x 0 HS.out HV.out hkl HX.out (by rw [List.getElem?_eq_none (by omega)]; rfl)
          · exact (HNX.out.alloc HNX.out.size _).grown HG.out (by have := HNX.out.size; simp at this ⊢; omega) (fun q hq => (HO.out.lt q hq).1)
        case measure => simp [intOf]; omega
    · have e : s = digs 4294967296 (vl 65536 D) := by
        have h1 := HV.out
        rw [List.take_of_length_le (by omega)] at h1
        rw [← h1]
        refine digs_of_len (by decide) s HSL.out ?_
        rw [h1]
        rcases HN.out with h2 | h2
        · left
          rw [HS.out]
          rw [h2] at hk hkl
          simp only [List.length_nil] at hk hkl
          omega
        · by_cases h0 : k = 0
          · left; rw [HS.out]; exact h0
          · right
            rw [pow_two_base, HS.out]
            exact Nat.le_trans (Nat.pow_le_pow_right (by decide) (by omega)) h2
      have HE := Lib.hid e
      clear e
      go_wp2
      go_ret
      refine ⟨_, rfl, ?_, ((Below.refl _ _).alloc (Nat.le_refl _) _).trans (HNX.out.mono (by simp))⟩
      have h3 := HO.out
      rw [← HE.out]
      obtain ⟨h4, h5⟩ := h3
      refine ⟨h4, ?_⟩
      rcases h5 with h5 | ⟨g, cap, cur, h6, h7, h8⟩
      · exact .inl h5
      · exact .inr ⟨g, cap, cur, h6, by simp at h7; omega, h8⟩

end Go.Proofs.Ytfieecdedilonaa
