/-  Cmp  -/
import Derived.Test.YtghgcbedajaldaaGreatMpaa
/-  cmp.Compare; trim; compare.  -/
namespace Go.Proofs.YtghgcbedajaldaaGreat
open Go.RowKit Digs
set_option maxHeartbeats 400000 in
theorem cmpInt_any (x y : Int) (w : World) :
  Calls Tryz.prog 161 #[.int .i64 x, .int .i64 y] w fun e w' => e = .returned (.int .i64 (cmpZ x y)) ∧ w = w' := by
 unfold cmpZ
 by_cases h1 : x < y
 ·rw [if_pos h1]
  go_enter Tryz.func161, Tryz.ntmps161
  go_wp2
  go_ret
  exact ⟨rfl, rfl⟩
 ·by_cases h2 : y < x
  ·rw [if_neg h1, if_pos h2]
   go_enter Tryz.func161, Tryz.ntmps161
   go_wp2
   go_ret
   exact ⟨rfl, rfl⟩
  ·rw [if_neg h1, if_neg h2]
   go_enter Tryz.func161, Tryz.ntmps161
   go_wp2
   go_ret
   exact ⟨rfl, rfl⟩
def TrimPost (b off cap : Nat) (l : List Nat) (w : World) (e : Ending) (w' : World) : Prop :=
 ∃ k, e = .returned (.slice (some ⟨b, off, none⟩) k cap) ∧ k ≤ l.length ∧ (∀ j, k ≤ j → l[j]?.getD 0 = 0) ∧ (k = 0 ∨ l[k - 1]?.getD 0 ≠ 0) ∧ w = w'
set_option maxHeartbeats 400000 in
theorem trim_some (b off cap : Nat) (l : List Nat) (w : World) (hlc : l.length ≤ cap) (hcm : cap ≤ maxLen)
  (hc : ∀ j, j < l.length → w.cell? ⟨b, off + j, none⟩ = some (.int .u32 ((l[j]?.getD 0 : Nat) : Int))) :
  Calls Tryz.prog 163 #[.slice (some ⟨b, off, none⟩) l.length cap] w (TrimPost b off cap l w) := by
 unfold maxLen at hcm
 go_enter Tryz.func163, Tryz.ntmps163
 go_wp2
 go_loop [3] (fun n => ∃ k : Nat, k ≤ l.length ∧ n = .int .i64 k ∧ ∀ j, k ≤ j → l[j]?.getD 0 = 0) (fun n => (intOf n).toNat)
 case atStart => exact ⟨l.length, Nat.le_refl _, rfl, fun j hj => by rw [List.getElem?_eq_none hj]; rfl⟩
 case round =>
  obtain ⟨k, hk, rfl, hz⟩ := hrel
  have HZ := Lib.hid hz
  clear hz
  by_cases h0 : 0 < k
  ·have hcell := hc (k - 1) (by omega)
   by_cases hx : l[k - 1]?.getD 0 = 0
   ·have hcell0 : w.cell? ⟨b, off + (k - 1), none⟩ = some (.int .u32 0) := by rw [hcell, hx]; rfl
    have HX := Lib.hid hx
    clear hcell hc hx
    go_wp2
    go_round
    case rel =>
     refine ⟨k - 1, by omega, by go_num, fun j hj => ?_⟩
     by_cases hjk : j = k - 1
     ·rw [hjk]; exact HX.out
     ·exact HZ.out j (by omega)
    case measure => simp [intOf]; omega
   ·have hne : (((l[k - 1]?.getD 0 : Nat) : Int) == 0) = false := by rw [beq_eq_false_iff_ne]; omega
    clear hc
    go_wp2
    go_ret
    exact ⟨k, rfl, hk, HZ.out, .inr hx, rfl⟩
  ·obtain rfl : k = 0 := by omega
   clear hc
   go_wp2
   go_ret
   exact ⟨0, rfl, Nat.zero_le _, HZ.out, .inl rfl, rfl⟩
set_option maxHeartbeats 400000 in
theorem trim_nil (w : World) :
  Calls Tryz.prog 163 #[.slice none 0 0] w fun e w' => e = .returned (.slice none 0 0) ∧ w = w' := by
 go_enter Tryz.func163, Tryz.ntmps163
 go_wp2
 refine wp_loop_rounds 1 ?_
 rw [rounds_succ]
 go_wp2
 go_ret
 exact ⟨rfl, rfl⟩
set_option maxHeartbeats 400000 in
theorem cmpU32_any (x y : Int) (w : World) :
  Calls Tryz.prog 162 #[.int .u32 x, .int .u32 y] w fun e w' => e = .returned (.int .i64 (cmpZ x y)) ∧ w' = w := by
 unfold cmpZ
 by_cases h1 : x < y
 ·rw [if_pos h1]
  go_enter Tryz.func162, Tryz.ntmps162
  go_wp2
  go_ret
  exact ⟨rfl, rfl⟩
 ·by_cases h2 : y < x
  ·rw [if_neg h1, if_pos h2]
   go_enter Tryz.func162, Tryz.ntmps162
   go_wp2
   go_ret
   exact ⟨rfl, rfl⟩
  ·rw [if_neg h1, if_neg h2]
   go_enter Tryz.func162, Tryz.ntmps162
   go_wp2
   go_ret
   exact ⟨rfl, rfl⟩
set_option maxHeartbeats 400000 in
theorem compare_ne (ada adb : Option Addr) (la ca lb cb : Nat) (w : World) (h : la ≠ lb) :
  Calls Tryz.prog 117 #[.slice ada la ca, .slice adb lb cb] w fun e w' => e = .returned (.int .i64 (cmpZ la lb)) ∧ w = w' := by
 have hne : ((la : Int) != (lb : Int)) = true := by rw [bne_iff_ne]; omega
 go_enter Tryz.func117, Tryz.ntmps117
 go_wp2_with (go_at_call 161; refine (cmpInt_any _ _ _).mono ?_; rintro e w' ⟨rfl, rfl⟩)
 go_ret
 exact ⟨rfl, rfl⟩
set_option maxHeartbeats 400000 in
theorem compare_zero (ada adb : Option Addr) (ca cb : Nat) (w : World) :
  Calls Tryz.prog 117 #[.slice ada 0 ca, .slice adb 0 cb] w fun e w' => e = .returned (.int .i64 0) ∧ w = w' := by
 go_enter Tryz.func117, Tryz.ntmps117
 go_wp2
 refine wp_loop_rounds 1 ?_
 rw [rounds_succ]
 go_wp2
 go_ret
 exact ⟨rfl, rfl⟩
def CmpPost (la lb : List Nat) (w : World) (e : Ending) (w' : World) : Prop :=
 (∃ n, w' = w.drewN n) ∧ ((∃ k, k < la.length ∧ (∀ j, k < j → la[j]?.getD 0 = lb[j]?.getD 0) ∧ la[k]?.getD 0 ≠ lb[k]?.getD 0 ∧ e = .returned (.int .i64 (cmpZ (la[k]?.getD 0 : Nat) (lb[k]?.getD 0 : Nat)))) ∨ ((∀ j : Nat, la[j]?.getD 0 = lb[j]?.getD 0) ∧ e = .returned (.int .i64 0)))
set_option maxHeartbeats 1000000 in
theorem compare_eq (ba oa ca bb ob cb : Nat) (la lb : List Nat) (w : World) (hll : lb.length = la.length) (hla : la.length ≤ maxLen)
  (hca : ∀ j, j < la.length → w.cell? ⟨ba, oa + j, none⟩ = some (.int .u32 ((la[j]?.getD 0 : Nat) : Int)))
  (hcb : ∀ j, j < la.length → w.cell? ⟨bb, ob + j, none⟩ = some (.int .u32 ((lb[j]?.getD 0 : Nat) : Int))) :
  Calls Tryz.prog 117 #[.slice (some ⟨ba, oa, none⟩) la.length ca, .slice (some ⟨bb, ob, none⟩) la.length cb] w (CmpPost la lb w) := by
 unfold maxLen at hla
 obtain ⟨n, hn⟩ : ∃ n, n = la.length := ⟨_, rfl⟩
 rw [← hn] at hll hla hca hcb ⊢
 have HN := Lib.hid hn
 have HL := Lib.hid hll
 clear hn hll
 have hne : ((n : Int) != (n : Int)) = false := by simp
 go_enter Tryz.func117, Tryz.ntmps117
 go_wp2
 clear hne
 go_loopw [5] (fun i wr => ∃ (z : Int) (k d : Nat), i = .int .i64 z ∧ k ≤ n ∧ z + 1 = k ∧ wr = w.drewN d ∧ ∀ j, k ≤ j → la[j]?.getD 0 = lb[j]?.getD 0) (fun i _ => (intOf i + 1).toNat)
 case atStart => exact ⟨_, n, 0, rfl, Nat.le_refl _, by omega, rfl, fun j hj => by rw [List.getElem?_eq_none (by rw [← HN.out]; exact hj), List.getElem?_eq_none (by rw [HL.out]; exact hj)]⟩
 case round =>
  obtain ⟨z, k, d, rfl, hk, hzk, rfl, hz⟩ := hrel
  have HZ := Lib.hid hz
  clear hz
  by_cases h0 : 0 < k
  ·obtain ⟨m, rfl⟩ : ∃ m : Nat, z = m := ⟨k - 1, by omega⟩
   have hm1 : m < n := by omega
   have HK : Hid (k = m + 1) := by show k = m + 1; omega
   clear hzk hk h0
   have h1 := hca m hm1
   have h2 := hcb m hm1
   clear hca hcb
   obtain ⟨x, hx⟩ : ∃ x, x = la[m]?.getD 0 := ⟨_, rfl⟩
   obtain ⟨y, hy⟩ : ∃ y, y = lb[m]?.getD 0 := ⟨_, rfl⟩
   rw [← hx] at h1
   rw [← hy] at h2
   have HX := Lib.hid hx
   have HY := Lib.hid hy
   clear hx hy
   by_cases hxy : x = y
   ·subst hxy
    go_wp2_with fail
    go_quiet (fail)
    go_wp2
    go_roundw
    case rel =>
     refine ⟨_, m, _, rfl, by omega, by omega, rfl, fun j hj => ?_⟩
     by_cases hjm : j = m
     ·rw [hjm, ← HX.out, ← HY.out]
     ·exact HZ.out j (by rw [HK.out]; omega)
    case measure => simp [intOf]
   ·have hne : ((x : Int) != (y : Int)) = true := by rw [bne_iff_ne]; omega
    go_wp2_with fail
    go_quiet (fail)
    go_wp2_with fail
    go_quiet ((go_at_call 162; exact quiet_add_same (cmpU32_any _ _ _)))
    go_wp2
    go_ret
    exact ⟨drewN3 _ _ _ _, .inl ⟨m, by rw [← HN.out]; exact hm1, fun j hj => HZ.out j (by rw [HK.out]; omega), by rw [← HX.out, ← HY.out]; exact hxy, by rw [← HX.out, ← HY.out]; rfl⟩⟩
  ·obtain rfl : z = -1 := by omega
   obtain rfl : k = 0 := by omega
   clear hca hcb
   go_wp2
   go_ret
   exact ⟨⟨_, rfl⟩, .inr ⟨fun j => HZ.out j (Nat.zero_le _), rfl⟩⟩
theorem cmp_len {b : Nat} (hb : 2 ≤ b) (m n : Nat) (h : (digs b m).length ≠ (digs b n).length) : cmpZ ((digs b m).length : Nat) ((digs b n).length : Nat) = cmpN m n := by
 unfold cmpZ cmpN
 rcases Nat.lt_or_gt_of_ne h with h1 | h1
 ·rw [if_pos (by omega), if_pos (lt_of_length_lt hb h1)]
 ·have := lt_of_length_lt hb h1
  rw [if_neg (by omega), if_pos (by omega), if_neg (by omega), if_pos this]
theorem cmp_eq {b : Nat} (hb : 2 ≤ b) (m n : Nat) (hl : (digs b m).length = (digs b n).length) (h : ∀ j : Nat, (digs b m)[j]?.getD 0 = (digs b n)[j]?.getD 0) : cmpN m n = 0 := by
 have : digs b m = digs b n := by
  apply List.ext_getElem hl
  intro i h1 h2
  have := h i
  rw [List.getElem?_eq_getElem h1, List.getElem?_eq_getElem h2] at this
  exact this
 rw [digs_inj hb this, cmpN_self]
theorem cmp_top {b : Nat} (hb : 2 ≤ b) (m n : Nat) (hl : (digs b m).length = (digs b n).length) (k : Nat) (hk : k < (digs b m).length) (h : ∀ j : Nat, k < j → (digs b m)[j]?.getD 0 = (digs b n)[j]?.getD 0)
  (hne : (digs b m)[k]?.getD 0 ≠ (digs b n)[k]?.getD 0) : cmpZ ((digs b m)[k]?.getD 0 : Nat) ((digs b n)[k]?.getD 0 : Nat) = cmpN m n := by
 unfold cmpZ cmpN
 rcases Nat.lt_or_gt_of_ne hne with h1 | h1
 ·have h2 := vl_lt_of_top (b := b) (digs b m) (digs b n) k hl (digs_lt hb m) hk h h1
  rw [vl_digs hb, vl_digs hb] at h2
  rw [if_pos (by omega), if_pos h2]
 ·have h2 := vl_lt_of_top (b := b) (digs b n) (digs b m) k hl.symm (digs_lt hb n) (by omega) (fun j hj => (h j hj).symm) h1
  rw [vl_digs hb, vl_digs hb] at h2
  rw [if_neg (by omega), if_pos (by omega), if_neg (by omega), if_pos h2]
theorem compare_any (m n : Nat) (va vb : Value) (w : World) (ha : Rd .u32 w va (digs 4294967296 m)) (hb : Rd .u32 w vb (digs 4294967296 n)) :
    Calls Tryz.prog 117 #[va, vb] w fun e w' => e = .returned (.int .i64 (cmpN m n)) ∧ ∃ d, w' = w.drewN d := by
  have h2 : 2 ≤ 4294967296 := by decide
  by_cases hl : (digs 4294967296 m).length = (digs 4294967296 n).length
  · by_cases h0 : (digs 4294967296 m).length = 0
    · have em := (digs_length_zero h2 m).1 h0
      have en := (digs_length_zero h2 n).1 (hl.symm.trans h0)
      subst em en
      rw [digs_zero] at ha hb
      have fin : ∀ (ada adb : Option Addr) (ca cb : Nat), Calls Tryz.prog 117 #[.slice ada 0 ca, .slice adb 0 cb] w fun e w' => e = .returned (.int .i64 (cmpN 0 0)) ∧ ∃ d, w' = w.drewN d :=
        fun ada adb ca cb => (compare_zero ada adb ca cb w).mono fun _ _ ⟨he, hw⟩ => ⟨he, 0, hw.symm⟩
      rcases ha with ⟨rfl, _⟩ | ⟨_, _, _, rfl, _⟩ <;> rcases hb with ⟨rfl, _⟩ | ⟨_, _, _, rfl, _⟩ <;> exact fin _ _ _ _
    · rcases ha with ⟨_, he⟩ | ⟨ba, oa, ca, rfl, _, hca, hma, hra⟩
      · rw [he] at h0; exact absurd rfl h0
      rcases hb with ⟨_, he⟩ | ⟨bb, ob, cb, rfl, _, hcb, hmb, hrb⟩
      · rw [he] at hl; exact absurd hl h0
      rw [← hl]
      refine (compare_eq ba oa ca bb ob cb _ _ w hl.symm (Nat.le_trans hca hma) hra (by rw [hl]; exact hrb)).mono ?_
      rintro e w' ⟨hd, ⟨k, hk, h3, h4, rfl⟩ | ⟨h3, rfl⟩⟩
      · exact ⟨by rw [cmp_top h2 m n hl k hk h3 h4], hd⟩
      · exact ⟨by rw [cmp_eq h2 m n hl h3], hd⟩
  · have fin : ∀ (ada adb : Option Addr) (ca cb : Nat), Calls Tryz.prog 117 #[.slice ada (digs 4294967296 m).length ca, .slice adb (digs 4294967296 n).length cb] w fun e w' => e = .returned (.int .i64 (cmpN m n)) ∧ ∃ d, w' = w.drewN d :=
        fun ada adb ca cb => (compare_ne ada adb _ ca _ cb w hl).mono fun _ _ ⟨he, hw⟩ => ⟨by rw [he, cmp_len h2 m n hl], 0, hw.symm⟩
    rcases ha with ⟨rfl, h3⟩ | ⟨_, _, _, rfl, _⟩ <;> rcases hb with ⟨rfl, h4⟩ | ⟨_, _, _, rfl, _⟩
    · rw [h3, h4] at hl; exact absurd rfl hl
    · rw [h3] at fin; exact fin _ _ _ _
    · rw [h4] at fin; exact fin _ _ _ _
    · exact fin _ _ _ _

end Go.Proofs.YtghgcbedajaldaaGreat
