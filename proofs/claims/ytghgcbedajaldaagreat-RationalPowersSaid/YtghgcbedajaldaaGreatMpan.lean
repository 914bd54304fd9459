/-  RDig RAr  -/
import Derived.Test.YtghgcbedajaldaaGreatMpam
import Derived.Test.YtghgcbedajaldaaGreatMpad
/-  RPlus RMinus RCmp RTimes  -/
namespace Go.Proofs.YtghgcbedajaldaaGreat
section
open Go.RowKit Digs
theorem vl_take_all (b : Nat) (l : List Nat) (k : Nat) (h : l.length ≤ k) : vl b (l.take k) = vl b l := by rw [List.take_of_length_le h]
end
section
open Go.RowKit Digs
def MinusRel (la lb : List Nat) (w : World) (v c i : Value) (wr : World) : Prop :=
 ∃ (k r : Nat) (s : List Nat), k ≤ la.length ∧ i = .int .i64 k ∧ c = .int .i64 r ∧ r ≤ 1 ∧ s.length = k ∧ (∀ x ∈ s, x < 65536) ∧ Oi wr w.heap.size v s ∧
  vl 65536 (la.take k) + 65536 ^ k * r = vl 65536 s + vl 65536 (lb.take k) ∧ Below w.heap.size w wr
def OiD (w : World) (n : Nat) (e : Ending) (w' : World) : Prop := ∃ v, e = .returned v ∧ Oi w' w.heap.size v (digs 65536 n) ∧ Below w.heap.size w w'
set_option maxHeartbeats 2000000 in
set_option maxRecDepth 100000 in
theorem minus_core (ada adb : Option Addr) (ca cb : Nat) (la lb : List Nat) (w : World) (hlen : la.length ≤ 1000000) (hll : lb.length ≤ la.length) (hca : RdA .i64 w ada la) (hcb : RdA .i64 w adb lb)
  (hla : ∀ x ∈ la, x < 65536) (hlb : ∀ x ∈ lb, x < 65536) (hge : vl 65536 lb ≤ vl 65536 la) :
  Calls Tryz.prog 128 #[.slice ada la.length ca, .slice adb lb.length cb] w (OiD w (vl 65536 la - vl 65536 lb)) := by
 have HLA := Lib.hid hla
 have HLB := Lib.hid hlb
 have HCA := Lib.hid hca
 have HCB := Lib.hid hcb
 have HGE := Lib.hid hge
 clear hla hlb hca hcb hge
 obtain ⟨i0, hi, hz0, hz1, hz2⟩ := info_parts Tryz.infoI64
 go_enter Tryz.func128, Tryz.ntmps128
 go_wp2
 go_loopw [5, 6, 7] (MinusRel la lb w) (fun _ _ i _ => la.length - (intOf i).toNat)
 case atStart => exact ⟨0, 0, [], Nat.zero_le _, rfl, rfl, Nat.zero_le _, rfl, (by simp), World.ownsRow_nil _ _ _ _, rfl, Below.refl _ _⟩
 case round =>
  obtain ⟨k, r, s, hk, rfl, rfl, hr, hs, hsl, hown, hv, hnx⟩ := hrel
  have HS := Lib.hid hs
  have HSL := Lib.hid hsl
  have HV := Lib.hid hv
  have HO := Lib.hid hown
  have HNX := Lib.hid hnx
  clear hs hsl hv hown hnx
  by_cases hkla : k < la.length
  ·obtain ⟨bqx, ox, rfl, hbqx, gx0⟩ := HCA.out k hkla
   have gx : wr.cell? ⟨bqx, ox + k, none⟩ = some (.int .i64 ((la[k]?.getD 0 : Nat) : Int)) := (HNX.out.cell (p := ⟨bqx, ox + k, none⟩) hbqx).trans gx0
   clear gx0
   obtain ⟨x, hx⟩ : ∃ x, x = la[k]?.getD 0 := ⟨_, rfl⟩
   rw [← hx] at gx
   have hxb : x < 65536 := by rw [hx, List.getElem?_eq_getElem hkla]; exact HLA.out _ (List.getElem_mem hkla)
   have HX := Lib.hid hx
   clear hx
   by_cases hklb : k < lb.length
   ·obtain ⟨bqy, oy, rfl, hbqy, gy0⟩ := HCB.out k hklb
    have gy : wr.cell? ⟨bqy, oy + k, none⟩ = some (.int .i64 ((lb[k]?.getD 0 : Nat) : Int)) := (HNX.out.cell (p := ⟨bqy, oy + k, none⟩) hbqy).trans gy0
    clear gy0
    obtain ⟨y, hy⟩ : ∃ y, y = lb[k]?.getD 0 := ⟨_, rfl⟩
    rw [← hy] at gy
    have hyb : y < 65536 := by rw [hy, List.getElem?_eq_getElem hklb]; exact HLB.out _ (List.getElem_mem hklb)
    have HY := Lib.hid hy
    clear hy
    by_cases h : y + r ≤ x
    ·have h' : (0 : Int) ≤ (x : Int) - (r : Int) - (y : Int) := by omega
     obtain ⟨d, hdE⟩ : ∃ d, x + 65536 * 0 = d + y + r := ⟨x - r - y, by omega⟩
     have hdb : d < 65536 := by omega
     have HD := Lib.hid hdE
     go_wp2_with (at_builtin; refine wpList_append_own _ rfl (.tmp 35) (.tmp 37) 32 rfl w.heap.size 3 i0 (.int .i64 0) 1 8 Tryz.underlying32 hi hz0 hz1 hz2 rfl (by decide) _ _ _ rfl (HO.out.alloc _) ⟨wr.heap.size, 0, none⟩ 1 1 (iw [d]) rfl rfl ?c1 (iw_oneCell _) ?c2 ?c3 ?c4 ?_)
     case c1 => exact new_int _ _ _ _ (by omega)
     case c2 => have := HS.out; unfold maxLen; omega
     case c3 => have := HS.out; omega
     case c4 => have := HNX.out.size; simp; omega
     intro v' w1 hown1 hgrow _
     have HO1 := Lib.hid hown1
     have HG := Lib.hid hgrow
     clear hown1 hgrow
     go_wp2
     go_roundw
     case rel =>
      refine ⟨k + 1, 0, s ++ [d], by omega, by go_num, rfl, by omega, by rw [List.length_append, HS.out]; rfl, all_snoc HSL.out hdb, Oi.snoc HO1.out, ?_, ?_⟩
      ·exact sub_step s r x y d 0 _ (vl 65536 (la.take (k + 1))) _ (vl 65536 (lb.take (k + 1))) HS.out HV.out (by rw [vl_take_succ _ _ _ hkla, HX.out]) (by rw [vl_take_succ _ _ _ hklb, HY.out]) HD.out
      ·exact (HNX.out.alloc HNX.out.size _).grown HG.out (by have := HNX.out.size; simp; omega) (fun q hq => (HO.out.lt q hq).1)
     case measure => simp [intOf]; omega
    ·have h' : (x : Int) - (r : Int) - (y : Int) < 0 := by omega
     obtain ⟨d, hdE⟩ : ∃ d, x + 65536 * 1 = d + y + r := ⟨x + 65536 - r - y, by omega⟩
     have hdb : d < 65536 := by omega
     have HD := Lib.hid hdE
     go_wp2_with (at_builtin; refine wpList_append_own _ rfl (.tmp 35) (.tmp 37) 32 rfl w.heap.size 3 i0 (.int .i64 0) 1 8 Tryz.underlying32 hi hz0 hz1 hz2 rfl (by decide) _ _ _ rfl (HO.out.alloc _) ⟨wr.heap.size, 0, none⟩ 1 1 (iw [d]) rfl rfl ?c1 (iw_oneCell _) ?c2 ?c3 ?c4 ?_)
     case c1 => exact new_int _ _ _ _ (by omega)
     case c2 => have := HS.out; unfold maxLen; omega
     case c3 => have := HS.out; omega
     case c4 => have := HNX.out.size; simp; omega
     intro v' w1 hown1 hgrow _
     have HO1 := Lib.hid hown1
     have HG := Lib.hid hgrow
     clear hown1 hgrow
     go_wp2
     go_roundw
     case rel =>
      refine ⟨k + 1, 1, s ++ [d], by omega, by go_num, rfl, by omega, by rw [List.length_append, HS.out]; rfl, all_snoc HSL.out hdb, Oi.snoc HO1.out, ?_, ?_⟩
      ·exact sub_step s r x y d 1 _ (vl 65536 (la.take (k + 1))) _ (vl 65536 (lb.take (k + 1))) HS.out HV.out (by rw [vl_take_succ _ _ _ hkla, HX.out]) (by rw [vl_take_succ _ _ _ hklb, HY.out]) HD.out
      ·exact (HNX.out.alloc HNX.out.size _).grown HG.out (by have := HNX.out.size; simp; omega) (fun q hq => (HO.out.lt q hq).1)
     case measure => simp [intOf]; omega
   ·by_cases h : r ≤ x
    ·have h' : (0 : Int) ≤ (x : Int) - (r : Int) := by omega
     obtain ⟨d, hdE⟩ : ∃ d, x + 65536 * 0 = d + 0 + r := ⟨x - r - 0, by omega⟩
     have hdb : d < 65536 := by omega
     have HD := Lib.hid hdE
     go_wp2_with (at_builtin; refine wpList_append_own _ rfl (.tmp 35) (.tmp 37) 32 rfl w.heap.size 3 i0 (.int .i64 0) 1 8 Tryz.underlying32 hi hz0 hz1 hz2 rfl (by decide) _ _ _ rfl (HO.out.alloc _) ⟨wr.heap.size, 0, none⟩ 1 1 (iw [d]) rfl rfl ?c1 (iw_oneCell _) ?c2 ?c3 ?c4 ?_)
     case c1 => exact new_int _ _ _ _ (by omega)
     case c2 => have := HS.out; unfold maxLen; omega
     case c3 => have := HS.out; omega
     case c4 => have := HNX.out.size; simp; omega
     intro v' w1 hown1 hgrow _
     have HO1 := Lib.hid hown1
     have HG := Lib.hid hgrow
     clear hown1 hgrow
     go_wp2
     go_roundw
     case rel =>
      refine ⟨k + 1, 0, s ++ [d], by omega, by go_num, rfl, by omega, by rw [List.length_append, HS.out]; rfl, all_snoc HSL.out hdb, Oi.snoc HO1.out, ?_, ?_⟩
      ·exact sub_step s r x 0 d 0 _ (vl 65536 (la.take (k + 1))) _ (vl 65536 (lb.take (k + 1))) HS.out HV.out (by rw [vl_take_succ _ _ _ hkla, HX.out]) (by rw [vl_take_le _ _ _ (by omega), Nat.mul_zero, Nat.add_zero]) HD.out
      ·exact (HNX.out.alloc HNX.out.size _).grown HG.out (by have := HNX.out.size; simp; omega) (fun q hq => (HO.out.lt q hq).1)
     case measure => simp [intOf]; omega
    ·have h' : (x : Int) - (r : Int) < 0 := by omega
     obtain ⟨d, hdE⟩ : ∃ d, x + 65536 * 1 = d + 0 + r := ⟨x + 65536 - r - 0, by omega⟩
     have hdb : d < 65536 := by omega
     have HD := Lib.hid hdE
     go_wp2_with (at_builtin; refine wpList_append_own _ rfl (.tmp 35) (.tmp 37) 32 rfl w.heap.size 3 i0 (.int .i64 0) 1 8 Tryz.underlying32 hi hz0 hz1 hz2 rfl (by decide) _ _ _ rfl (HO.out.alloc _) ⟨wr.heap.size, 0, none⟩ 1 1 (iw [d]) rfl rfl ?c1 (iw_oneCell _) ?c2 ?c3 ?c4 ?_)
     case c1 => exact new_int _ _ _ _ (by omega)
     case c2 => have := HS.out; unfold maxLen; omega
     case c3 => have := HS.out; omega
     case c4 => have := HNX.out.size; simp; omega
     intro v' w1 hown1 hgrow _
     have HO1 := Lib.hid hown1
     have HG := Lib.hid hgrow
     clear hown1 hgrow
     go_wp2
     go_roundw
     case rel =>
      refine ⟨k + 1, 1, s ++ [d], by omega, by go_num, rfl, by omega, by rw [List.length_append, HS.out]; rfl, all_snoc HSL.out hdb, Oi.snoc HO1.out, ?_, ?_⟩
      ·exact sub_step s r x 0 d 1 _ (vl 65536 (la.take (k + 1))) _ (vl 65536 (lb.take (k + 1))) HS.out HV.out (by rw [vl_take_succ _ _ _ hkla, HX.out]) (by rw [vl_take_le _ _ _ (by omega), Nat.mul_zero, Nat.add_zero]) HD.out
      ·exact (HNX.out.alloc HNX.out.size _).grown HG.out (by have := HNX.out.size; simp; omega) (fun q hq => (HO.out.lt q hq).1)
     case measure => simp [intOf]; omega
  ·obtain rfl : k = la.length := by omega
   have hvl := HV.out
   rw [vl_take_all _ _ _ (Nat.le_refl _), vl_take_all _ _ _ hll] at hvl
   have hr0 : r = 0 := by
    rcases Nat.eq_zero_or_pos r with h | h
    ·exact h
    ·have e1 := vl_lt s HSL.out
     rw [HS.out] at e1
     have e2 := vl_lt lb HLB.out
     have e3 : (65536 : Nat) ^ lb.length ≤ 65536 ^ la.length := Nat.pow_le_pow_right (by decide) hll
     have e4 : r = 1 := by omega
     subst e4
     have e5 := vl_lt la HLA.out
     have := HGE.out
     omega
   have hvs : vl 65536 s = vl 65536 la - vl 65536 lb := by
    rw [hr0, Nat.mul_zero, Nat.add_zero] at hvl
    omega
   have HT := Lib.hid (trimmed_oi HO.out HSL.out)
   rw [hvs] at HT
   clear hvs hvl hr0
   go_wp2_with (go_at_call 156; refine HT.out.mono ?_; rintro e w' ⟨⟨v2, rfl, ho2⟩, rfl⟩)
   go_ret
   exact ⟨_, rfl, ho2, HNX.out⟩
theorem minus_any (m n : Nat) (va vb : Value) (w : World) (hm : (digs 65536 m).length ≤ 1000000) (hnm : n ≤ m) (ha : Rd .i64 w va (digs 65536 m)) (hb : Rd .i64 w vb (digs 65536 n)) :
  Calls Tryz.prog 128 #[va, vb] w (OiD w (m - n)) := by
 obtain ⟨ada, ca, rfl, ra⟩ := ha.opt
 obtain ⟨adb, cb, rfl, rb⟩ := hb.opt
 have := minus_core ada adb ca cb _ _ w hm (digs_length_mono (by decide) hnm) ra rb (digs_lt (by decide) m) (digs_lt (by decide) n) (by rw [vl_digs (by decide), vl_digs (by decide)]; exact hnm)
 rw [vl_digs (by decide), vl_digs (by decide)] at this
 exact this
end
section
open Go.RowKit Digs
set_option maxHeartbeats 1000000 in
set_option maxRecDepth 100000 in
theorem rcompare_ne (ada adb : Option Addr) (la ca lb cb : Nat) (w : World) (h : la ≠ lb) :
  Calls Tryz.prog 127 #[.slice ada la ca, .slice adb lb cb] w fun e w' => e = .returned (.int .i64 (cmpZ (la : Nat) (lb : Nat))) ∧ w' = w := by
 have hne : ((la : Int) != (lb : Int)) = true := by rw [bne_iff_ne]; omega
 unfold cmpZ
 by_cases hlt : la < lb
 ·rw [if_pos (by omega)]
  clear h
  go_enter Tryz.func127, Tryz.ntmps127
  go_wp2
  go_ret
  exact ⟨rfl, rfl⟩
 ·rw [if_neg (by omega), if_pos (by omega)]
  have h2 : lb ≤ la := by omega
  clear h hlt
  go_enter Tryz.func127, Tryz.ntmps127
  go_wp2
  go_ret
  exact ⟨rfl, rfl⟩
set_option maxHeartbeats 1000000 in
set_option maxRecDepth 100000 in
theorem rcompare_eq (ada adb : Option Addr) (ca cb : Nat) (la lb : List Nat) (w : World) (hll : lb.length = la.length) (hla : la.length ≤ 1000000)
  (hca : RdA .i64 w ada la) (hcb : RdA .i64 w adb lb) :
  Calls Tryz.prog 127 #[.slice ada la.length ca, .slice adb la.length cb] w (CmpPost la lb w) := by
 obtain ⟨n, hn⟩ : ∃ n, n = la.length := ⟨_, rfl⟩
 rw [← hn] at hll hla ⊢
 have HN := Lib.hid hn
 have HL := Lib.hid hll
 have HCA := Lib.hid hca
 have HCB := Lib.hid hcb
 clear hn hll hca hcb
 have hne : ((n : Int) != (n : Int)) = false := by simp
 go_enter Tryz.func127, Tryz.ntmps127
 go_wp2
 clear hne
 go_loopw [5] (fun i wr => ∃ (z : Int) (k d : Nat), i = .int .i64 z ∧ k ≤ n ∧ z + 1 = k ∧ wr = w.drewN d ∧ ∀ j, k ≤ j → la[j]?.getD 0 = lb[j]?.getD 0) (fun i _ => (intOf i + 1).toNat)
 case atStart => exact ⟨_, n, 0, rfl, Nat.le_refl _, by omega, rfl, fun j hj => by rw [List.getElem?_eq_none (by rw [← HN.out]; exact hj), List.getElem?_eq_none (by rw [HL.out]; exact hj)]⟩
 case round =>
  obtain ⟨z, k, d, rfl, hk, hzk, rfl, hz⟩ := hrel
  have HZ := Lib.hid hz
  clear hz
  by_cases h0 : 0 < k
  ·obtain ⟨m, rfl⟩ : ∃ m : Nat, z = m := ⟨k - 1, by omega⟩
   have hm1 : m < n := by omega
   have HK : Hid (k = m + 1) := by show k = m + 1; omega
   clear hzk hk h0
   obtain ⟨ba, oa, rfl, _, h1⟩ := HCA.out m (by rw [← HN.out]; exact hm1)
   obtain ⟨bb, ob, rfl, _, h2⟩ := HCB.out m (by rw [HL.out]; exact hm1)
   obtain ⟨x, hx⟩ : ∃ x, x = la[m]?.getD 0 := ⟨_, rfl⟩
   obtain ⟨y, hy⟩ : ∃ y, y = lb[m]?.getD 0 := ⟨_, rfl⟩
   rw [← hx] at h1
   rw [← hy] at h2
   have HX := Lib.hid hx
   have HY := Lib.hid hy
   clear hx hy
   rcases Nat.lt_trichotomy x y with hxy | hxy | hxy
   ·go_wp2_with fail
    go_quiet (fail)
    go_wp2
    go_ret
    refine ⟨drewN2 _ _ _, .inl ⟨m, by rw [← HN.out]; exact hm1, fun j hj => HZ.out j (by rw [HK.out]; omega), by rw [← HX.out, ← HY.out]; omega, ?_⟩⟩
    rw [← HX.out, ← HY.out]
    unfold cmpZ
    rw [if_pos (by omega)]
    rfl
   ·subst hxy
    have hnl : decide ((x : Int) < (x : Int)) = false := by simp
    go_wp2_with fail
    go_quiet (fail)
    go_wp2_with fail
    go_quiet (fail)
    go_wp2
    go_roundw
    case rel =>
     refine ⟨_, m, _, rfl, by omega, by omega, rfl, fun j hj => ?_⟩
     by_cases hjm : j = m
     ·rw [hjm, ← HX.out, ← HY.out]
     ·exact HZ.out j (by rw [HK.out]; omega)
    case measure => simp [intOf]
   ·have hle : (y : Int) ≤ (x : Int) := by omega
    go_wp2_with fail
    go_quiet (fail)
    go_wp2_with fail
    go_quiet (fail)
    go_wp2
    go_ret
    refine ⟨drewN3 _ _ _ _, .inl ⟨m, by rw [← HN.out]; exact hm1, fun j hj => HZ.out j (by rw [HK.out]; omega), by rw [← HX.out, ← HY.out]; omega, ?_⟩⟩
    rw [← HX.out, ← HY.out]
    unfold cmpZ
    rw [if_neg (by omega), if_pos (by omega)]
    rfl
  ·obtain rfl : z = -1 := by omega
   obtain rfl : k = 0 := by omega
   go_wp2
   go_ret
   exact ⟨⟨_, rfl⟩, .inr ⟨fun j => HZ.out j (Nat.zero_le _), rfl⟩⟩
theorem rcompare_any (m n : Nat) (va vb : Value) (w : World) (hm : (digs 65536 m).length ≤ 1000000) (ha : Rd .i64 w va (digs 65536 m)) (hb : Rd .i64 w vb (digs 65536 n)) :
  Calls Tryz.prog 127 #[va, vb] w fun e w' => e = .returned (.int .i64 (cmpN m n)) ∧ ∃ d, w' = w.drewN d := by
 have h2 : 2 ≤ 65536 := by decide
 obtain ⟨ada, ca, rfl, ra⟩ := ha.opt
 obtain ⟨adb, cb, rfl, rb⟩ := hb.opt
 by_cases hl : (digs 65536 m).length = (digs 65536 n).length
 ·rw [← hl]
  refine (rcompare_eq ada adb ca cb _ _ w hl.symm hm ra rb).mono ?_
  rintro e w' ⟨hd, ⟨k, hk, h3, h4, rfl⟩ | ⟨h3, rfl⟩⟩
  ·exact ⟨by rw [cmp_top h2 m n hl k hk h3 h4], hd⟩
  ·exact ⟨by rw [cmp_eq h2 m n hl h3], hd⟩
 ·exact (rcompare_ne ada adb _ ca _ cb w hl).mono fun _ _ ⟨he, hw⟩ => ⟨by rw [he, cmp_len h2 m n hl], 0, by rw [hw]; rfl⟩
end
section
open Go.RowKit Digs
theorem times_lt {x y c z : Nat} (hx : x < 65536) (hy : y < 65536) (hc : c < 65536) (hz : z < 65536) : z + x * y + c < 4294967296 := by
 have h := Nat.mul_le_mul (show x ≤ 65535 by omega) (show y ≤ 65535 by omega)
 omega
def TimesRel (la lb : List Nat) (w : World) (N : Nat) (i : Value) (wr : World) : Prop :=
 ∃ (k : Nat) (p : List Nat), k ≤ la.length ∧ i = .int .i64 k ∧ Ri wr w.heap.size w.heap.size N p ∧ (∀ x ∈ p, x < 65536) ∧
  vl 65536 p = vl 65536 (la.take k) * vl 65536 lb ∧ (∀ j, k + lb.length ≤ j → p[j]?.getD 0 = 0) ∧ Below w.heap.size w wr
def TimesRow (lb : List Nat) (w : World) (N k x V : Nat) (c i : Value) (wr : World) : Prop :=
 ∃ (q cy : Nat) (p : List Nat), q ≤ lb.length ∧ i = .int .i64 q ∧ c = .int .i64 cy ∧ cy < 65536 ∧ Ri wr w.heap.size w.heap.size N p ∧ (∀ x ∈ p, x < 65536) ∧
  vl 65536 p + 65536 ^ (k + q) * cy = V + 65536 ^ k * (x * vl 65536 (lb.take q)) ∧ (∀ j, k + lb.length ≤ j → p[j]?.getD 0 = 0) ∧ Below w.heap.size w wr
set_option maxHeartbeats 4000000 in
set_option maxRecDepth 100000 in
theorem times_core (ada adb : Option Addr) (ca cb : Nat) (la lb : List Nat) (w : World) (hlen : la.length ≤ 1000000) (hlenb : lb.length ≤ 1000000) (hca : RdA .i64 w ada la) (hcb : RdA .i64 w adb lb)
  (hla : ∀ x ∈ la, x < 65536) (hlb : ∀ x ∈ lb, x < 65536) :
  Calls Tryz.prog 129 #[.slice ada la.length ca, .slice adb lb.length cb] w (OiD w (vl 65536 la * vl 65536 lb)) := by
 have HLA := Lib.hid hla
 have HLB := Lib.hid hlb
 have HCA := Lib.hid hca
 have HCB := Lib.hid hcb
 clear hla hlb hca hcb
 obtain ⟨i0, hi, hz0, hz1, hz2⟩ := info_parts Tryz.infoI64
 go_enter Tryz.func129, Tryz.ntmps129
 go_wp2_with (at_make; refine wpList_make_full _ rfl _ _ 32 rfl w.heap.size 3 i0 (.int .i64 0) 1 Tryz.underlying32 hi hz0 hz1 _ _ _ _ (la.length + lb.length + 1) rfl rfl (by omega) (by omega) ?b2 ?b3 (Nat.le_refl _) ?_)
 case b2 => rw [hz2]; omega
 case b3 => unfold maxLen; omega
 intro w0 hown0 hgrow0
 have hrow0 : Ri w0 w.heap.size w.heap.size (la.length + lb.length + 1) (List.replicate (la.length + lb.length + 1) 0) := by
  refine ⟨by simp, ?_⟩
  rw [iw_zeros] at hown0
  exact hown0
 have HB0 := Lib.hid ((Below.refl w.heap.size w).grown hgrow0 (Nat.le_refl _) (fun k h => by cases h))
 have HR0 := Lib.hid hrow0
 clear hown0 hgrow0 hrow0
 go_wp2
 go_loopw [6] (TimesRel la lb w (la.length + lb.length + 1)) (fun i _ => la.length - (intOf i).toNat)
 case atStart => exact ⟨0, _, Nat.zero_le _, rfl, HR0.out, (by intro x hx; rw [List.eq_of_mem_replicate hx]; decide), by rw [vl_replicate_zero]; simp [vl], fun j _ => by rw [List.getElem?_replicate]; split <;> rfl, HB0.out⟩
 case round =>
  obtain ⟨k, p, hk, rfl, hrow, hpl, hv, hz, hnx⟩ := hrel
  have HROW := Lib.hid hrow
  have HPL := Lib.hid hpl
  have HV := Lib.hid hv
  have HZ := Lib.hid hz
  have HNX := Lib.hid hnx
  clear hrow hpl hv hz hnx
  by_cases hkl : k < la.length
  ·obtain ⟨ba, oa, rfl, hba, gx0⟩ := HCA.out k hkl
   have HGX := Lib.hid (And.intro hba gx0)
   clear hba gx0
   obtain ⟨x, hx⟩ : ∃ x, x = la[k]?.getD 0 := ⟨_, rfl⟩
   rw [← hx] at HGX
   have hxb : x < 65536 := by rw [hx, List.getElem?_eq_getElem hkl]; exact HLA.out _ (List.getElem_mem hkl)
   have HX := Lib.hid hx
   clear hx
   have hp2 : k + lb.length < la.length + lb.length + 1 := by omega
   go_wp2
   go_loopw [7, 8] (TimesRow lb w (la.length + lb.length + 1) k x (vl 65536 p)) (fun _ i _ => lb.length - (intOf i).toNat)
   case atStart => exact ⟨0, 0, p, Nat.zero_le _, rfl, rfl, by omega, HROW.out, HPL.out, by simp [vl], HZ.out, HNX.out⟩
   case round =>
    obtain ⟨q, cy, p1, hq, rfl, rfl, hcy, hrow, hpl, hv, hz, hnx⟩ := hrel
    have HROW1 := Lib.hid hrow
    have HPL1 := Lib.hid hpl
    have HV1 := Lib.hid hv
    have HZ1 := Lib.hid hz
    have HNX1 := Lib.hid hnx
    clear hrow hpl hv hz hnx
    by_cases hql : q < lb.length
    ·obtain ⟨bb, ob, rfl, hbb, gy0⟩ := HCB.out q hql
     have gx : wr.cell? ⟨ba, oa + k, none⟩ = some (.int .i64 (x : Int)) := (HNX1.out.cell (p := ⟨ba, oa + k, none⟩) HGX.out.1).trans HGX.out.2
     have gy : wr.cell? ⟨bb, ob + q, none⟩ = some (.int .i64 ((lb[q]?.getD 0 : Nat) : Int)) := (HNX1.out.cell (p := ⟨bb, ob + q, none⟩) hbb).trans gy0
     clear gy0
     obtain ⟨y, hy⟩ : ∃ y, y = lb[q]?.getD 0 := ⟨_, rfl⟩
     rw [← hy] at gy
     have hyb : y < 65536 := by rw [hy, List.getElem?_eq_getElem hql]; exact HLB.out _ (List.getElem_mem hql)
     have HY := Lib.hid hy
     clear hy
     have gz := HROW1.out.cell (k + q) (by omega)
     have gf := HROW1.out.frozen (k + q)
     obtain ⟨z, hz⟩ : ∃ z, z = p1[k + q]?.getD 0 := ⟨_, rfl⟩
     rw [← hz] at gz
     have hkq : k + q < p1.length := by rw [HROW1.out.1]; omega
     have hzb : z < 65536 := by rw [hz, List.getElem?_eq_getElem hkq]; exact HPL1.out _ (List.getElem_mem hkq)
     have HZZ := Lib.hid hz
     clear hz
     have hb1 := times_lt hxb hyb hcy hzb
     obtain ⟨xy, hxy⟩ : ∃ xy, xy = x * y := ⟨_, rfl⟩
     have hxyi : (x : Int) * (y : Int) = (xy : Int) := by rw [hxy, Int.natCast_mul]
     rw [← hxy] at hb1
     have HXY := Lib.hid hxy
     clear hxy
     go_wp2_with fail
     go_quiet (fail)
     go_wp2
     go_roundw
     case rel =>
      refine ⟨q + 1, (cy + x * y + z) / 65536, p1.set (k + q) ((cy + x * y + z) % 65536), by omega, by go_num, ?_, ?_, HROW1.out.store _ _ _ ?_, all_set HPL1.out (Nat.mod_lt _ (by decide)), ?_, ?_, ?_⟩
      ·refine congrArg (Value.int .i64) ?_
       rw [← HXY.out]
       omega
      ·rw [← HXY.out]; omega
      ·rw [← HXY.out]; omega
      ·have h5 := mul_step p1 k q cy x y _ _ hkq HV1.out
       rw [← HZZ.out] at h5
       rw [vl_take_succ _ _ _ hql, ← HY.out]
       exact h5
      ·intro j hj
       rw [getD_set_ne _ _ _ _ (by omega)]
       exact HZ1.out j hj
      ·exact (below_drewN' HNX1.out _).setCell (by simp) _
     case measure => simp [intOf]; omega
    ·obtain rfl : q = lb.length := by omega
     have gz := HROW1.out.cell (k + lb.length) hp2
     have gf := HROW1.out.frozen (k + lb.length)
     rw [HZ1.out _ (Nat.le_refl _)] at gz
     go_wp2
     go_roundw
     case rel =>
      refine ⟨k + 1, p1.set (k + lb.length) cy, by omega, by go_num, HROW1.out.store _ _ _ (by omega), all_set HPL1.out hcy, ?_, ?_, ?_⟩
      ·have h6 := HV1.out
       rw [List.take_of_length_le (Nat.le_refl _)] at h6
       rw [mul_row p1 (k + lb.length) cy _ _ (by rw [HROW1.out.1]; exact hp2) (HZ1.out _ (Nat.le_refl _)) h6, HV.out, vl_take_succ _ _ _ hkl, ← HX.out, Nat.add_mul, Nat.mul_assoc]
      ·intro j hj
       rw [getD_set_ne _ _ _ _ (by omega)]
       exact HZ1.out j (by omega)
      ·exact HNX1.out.setCell (by simp) _
     case measure => simp [intOf]; omega
  ·obtain rfl : k = la.length := by omega
   have hlast := HV.out
   rw [List.take_of_length_le (Nat.le_refl _)] at hlast
   have HE := Lib.hid hlast
   have HT := Lib.hid (trimmed_oi HROW.out.oi HPL.out)
   clear hlast
   go_wp2_with (go_at_call 156; refine HT.out.mono ?_; rintro e w' ⟨⟨v2, rfl, ho2⟩, rfl⟩)
   go_ret
   refine ⟨_, rfl, ?_, HNX.out⟩
   rw [HE.out] at ho2
   exact ho2
theorem times_any (m n : Nat) (va vb : Value) (w : World) (hm : (digs 65536 m).length ≤ 1000000) (hn : (digs 65536 n).length ≤ 1000000) (ha : Rd .i64 w va (digs 65536 m)) (hb : Rd .i64 w vb (digs 65536 n)) :
  Calls Tryz.prog 129 #[va, vb] w (OiD w (m * n)) := by
 obtain ⟨ada, ca, rfl, ra⟩ := ha.opt
 obtain ⟨adb, cb, rfl, rb⟩ := hb.opt
 have := times_core ada adb ca cb _ _ w hm hn ra rb (digs_lt (by decide) m) (digs_lt (by decide) n)
 rw [vl_digs (by decide), vl_digs (by decide)] at this
 exact this
end
end Go.Proofs.YtghgcbedajaldaaGreat
/-  RAct RSmall RWidth  -/
namespace Go.Proofs.YtghgcbedajaldaaGreat
section
open Go.RowKit Digs
end
section
open Go.RowKit Digs
theorem RefV.iv {w : World} {v : Value} {z : Int} (h : RefV w v z) : ∃ ad n c, v = .agg #[.bool (decide (z < 0)), .slice ad n c] ∧ Rd .i64 w (.slice ad n c) (digs 65536 z.natAbs) := h
set_option maxHeartbeats 1000000 in
set_option maxRecDepth 100000 in
theorem rNeg_any (z : Int) (v : Value) (w : World) (h : RefV w v z) :
  Calls Tryz.prog 79 #[v] w (RefPost w (-z)) := by
 obtain ⟨ad, n, c, rfl, hr⟩ := h
 have HM := fun W hw => Lib.hid (rmade_any (!decide (z < 0)) (.slice ad n c) _ W (hr.keep (w' := W) hw) (digs_lt (by decide) _))
 have e : sg (!decide (z < 0)) (vl 65536 (digs 65536 z.natAbs)) = -z := by
  rw [vl_digs (by decide)]
  have h2 := sg_self z
  revert h2
  cases decide (z < 0) <;> simp [sg] <;> omega
 rw [e] at HM
 have HM := Lib.hid HM
 clear hr e
 generalize decide (z < 0) = b at *
 go_enter Tryz.func79, Tryz.ntmps79
 go_wp2_with fail
 refine (HM.out _ (below2 _ _ _)).out.mono ?_
 rintro e w1 ⟨v1, rfl, ⟨ad1, n1, c1, rfl, hr1⟩, hb1⟩
 obtain ⟨cE, cF, fE, fF, hsz⟩ := box2r hb1
 have HR := Lib.hid (hr1.store2 cE cF (by intro n h; cases h) (by intro n h; cases h))
 have HB := Lib.hid ((below2 w _ _).trans (hb1.mono (by simp <;> omega)))
 clear hr1 hb1
 go_wp2_with fail
 refine bodyPost_ret (v := .agg #[.bool (decide (-z < 0)), .slice ad1 n1 c1]) (by simp [results, Tryz.results79, go_sem, cE, cF]) rfl ⟨_, rfl, ⟨_, _, _, rfl, HR.out _ _⟩, ?_⟩
 exact (HB.out.setCell (by simp) _).setCell (by simp) _
set_option maxHeartbeats 1000000 in
set_option maxRecDepth 100000 in
theorem rAbs_any (z : Int) (v : Value) (w : World) (h : RefV w v z) :
  Calls Tryz.prog 29 #[v] w (RefPost w (z.natAbs : Int)) := by
 obtain ⟨ad, n, c, rfl, hr⟩ := h
 have HR := Lib.hid (hr.keep (below2 w (.cells #[.bool (decide (z < 0)), .slice ad n c] 34) (.cells #[.bool false, .slice ad n c] 34)))
 have hd : decide ((z.natAbs : Int) < 0) = false := decide_eq_false (by omega)
 have HD := Lib.hid hd
 clear hr hd
 generalize decide (z < 0) = b at *
 go_enter Tryz.func29, Tryz.ntmps29
 go_wp2
 refine bodyPost_ret (v := .agg #[.bool false, .slice ad n c]) (by simp [results, Tryz.results29, go_sem]) rfl ⟨_, rfl, ⟨ad, n, c, by rw [HD.out], ?_⟩, below2 w _ _⟩
 rw [Int.natAbs_natCast]
 exact HR.out
set_option maxHeartbeats 1000000 in
set_option maxRecDepth 100000 in
theorem rSign_any (z : Int) (v : Value) (w : World) (hl : rlen z ≤ 1000000) (h : RefV w v z) :
  Calls Tryz.prog 77 #[v] w fun e w' => e = .returned (.int .i64 (sgnZ z)) ∧ Below w.heap.size w w' := by
 obtain ⟨ad, n, c, rfl, hr⟩ := h
 obtain ⟨ad', c', hv⟩ := hr.shape'
 obtain ⟨k, hk⟩ : ∃ k, k = (digs 65536 z.natAbs).length := ⟨_, rfl⟩
 have hz : k = 0 ↔ z = 0 := by rw [hk, digs_length_zero (by decide)]; omega
 unfold rlen at hl
 rw [← hk] at hl
 cases hv
 rw [← hk] at *
 clear hr hk
 unfold sgnZ
 by_cases h0 : k = 0
 ·have h1 := hz.1 h0
  rw [if_neg (by omega), if_pos h1]
  subst h0
  clear hz h1
  generalize decide (z < 0) = b at *
  go_enter Tryz.func77, Tryz.ntmps77
  go_wp2
  go_ret
  exact ⟨rfl, (Below.refl _ _).alloc (Nat.le_refl _) _⟩
 ·have h1 : z ≠ 0 := fun h => h0 (hz.2 h)
  have h3 : ((k : Int) == 0) = false := by rw [beq_eq_false_iff_ne]; omega
  clear hz
  by_cases h2 : z < 0
  ·have hd : decide (z < 0) = true := by simpa using h2
   rw [hd, if_pos h2]
   clear hd h1 h2 h0
   go_enter Tryz.func77, Tryz.ntmps77
   go_wp2
   go_ret
   exact ⟨rfl, (Below.refl _ _).alloc (Nat.le_refl _) _⟩
  ·have hd : decide (z < 0) = false := by simpa using h2
   rw [hd, if_neg h2, if_neg h1]
   clear hd h1 h2 h0
   go_enter Tryz.func77, Tryz.ntmps77
   go_wp2
   go_ret
   exact ⟨rfl, (Below.refl _ _).alloc (Nat.le_refl _) _⟩
end
section
open Go.RowKit Digs
end
end Go.Proofs.YtghgcbedajaldaaGreat
