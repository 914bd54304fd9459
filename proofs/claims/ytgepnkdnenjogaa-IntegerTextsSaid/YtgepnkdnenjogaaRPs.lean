/- Parse, in the reference. -/
import Derived.Test.YtgepnkdnenjogaaTx
import Derived.Test.YtgepnkdnenjogaaDvd
namespace Go.Proofs.Ytgepnkdnenjogaa
section
open Go.RowKit Digs

theorem inplace_step {b : Nat} (p l : List Nat) (k cy r dc x : Nat) (hk : k < p.length) (hl : k < l.length) (hx : x = l[k]?.getD 0) (h : vl b (p.take k) + b ^ k * cy = vl b (l.take k) * r + dc) :
    vl b ((p.set k ((x * r + cy) % b)).take (k + 1)) + b ^ (k + 1) * ((x * r + cy) / b) = vl b (l.take (k + 1)) * r + dc := by
  have h0 : k < (p.set k ((x * r + cy) % b)).length := by rw [List.length_set]; exact hk
  rw [vl_take_succ b _ k h0, vl_take_succ b l k hl, ← hx, List.take_set, List.set_eq_of_length_le (by rw [List.length_take]; omega), List.getElem?_set_self hk, Option.getD_some, Nat.pow_succ]
  have h1 := split_mod (b ^ k) b (x * r + cy)
  rw [Nat.mul_add, ← Nat.mul_assoc] at h1
  rw [Nat.add_mul]
  omega

/-- A row of the call's own, with room behind it. -/
def RiC (w : World) (base g n cap : Nat) (p : List Nat) : Prop := p.length = n ∧ w.ownsRow base 3 1 (.slice (some ⟨g, 0, none⟩) n cap) n (iw p)
theorem RiC.cell {w : World} {base g n cap : Nat} {p : List Nat} (h : RiC w base g n cap p) (j : Nat) (hj : j < n) : w.cell? ⟨g, j, none⟩ = some (.int .i64 ((p[j]?.getD 0 : Nat) : Int)) := by
  rw [h.2.cellAt j (by omega), iw_getElem? _ _ (by rw [h.1]; exact hj)]
theorem RiC.frozen {w : World} {base g n cap : Nat} {p : List Nat} (h : RiC w base g n cap p) (j : Nat) : w.frozen? ⟨g, j, none⟩ = false := h.2.frozenAt j
theorem RiC.store {w : World} {base g n cap : Nat} {p : List Nat} (h : RiC w base g n cap p) (j x : Nat) (z : Int) (hz : z = x) : RiC (w.setCell ⟨g, j, none⟩ (.int .i64 z)) base g n cap (p.set j x) := by
  subst hz
  exact ⟨by rw [List.length_set, h.1], by rw [iw_set]; exact (h.2.stored j _).1⟩
theorem RiC.oi {w : World} {base g n cap : Nat} {p : List Nat} (h : RiC w base g n cap p) : Oi w base (.slice (some ⟨g, 0, none⟩) n cap) p := by
  have h2 := h.2
  rw [← h.1] at h2 ⊢
  exact h2
theorem RiC.lt {w : World} {base g n cap : Nat} {p : List Nat} (h : RiC w base g n cap p) : base ≤ g ∧ g < w.heap.size := h.2.lt g rfl
theorem Oi.rc {w : World} {base : Nat} {v : Value} {p : List Nat} (h : Oi w base v p) (h0 : p ≠ []) : ∃ g cap, v = .slice (some ⟨g, 0, none⟩) p.length cap ∧ RiC w base g p.length cap p := by
  obtain ⟨h1, ⟨rfl, hn⟩ | ⟨g, cap, cur, rfl, rest⟩⟩ := h
  · exact absurd (List.eq_nil_of_length_eq_zero hn) h0
  · exact ⟨g, cap, rfl, rfl, h1, .inr ⟨g, cap, cur, rfl, rest⟩⟩

def RpOut (r : Nat) (s : List Nat) (X : World) (d i : Value) (wr : World) : Prop :=
  ∃ (k : Nat) (l : List Nat), k ≤ s.length ∧ i = .int .i64 k ∧ Oi wr X.heap.size d l ∧ (∀ x ∈ l, x < 65536) ∧ vl 65536 l = pv r (s.take k) ∧ l.length ≤ k ∧ (∀ c ∈ s.take k, dg c < r) ∧ Below X.heap.size X wr
def RpIn (r dc B g cap : Nat) (l : List Nat) (X : World) (c k : Value) (wr : World) : Prop :=
  ∃ (j cy : Nat) (p : List Nat), j ≤ l.length ∧ k = .int .i64 j ∧ c = .int .i64 cy ∧ cy ≤ 36 ∧ RiC wr B g l.length cap p ∧ (∀ x ∈ p, x < 65536) ∧ vl 65536 (p.take j) + 65536 ^ j * cy = vl 65536 (l.take j) * r + dc ∧ (∀ q, j ≤ q → p[q]?.getD 0 = l[q]?.getD 0) ∧ Below B X wr

set_option maxHeartbeats 2000000 in
set_option maxRecDepth 100000 in
theorem rparse_plain (r : Nat) (s : List Nat) (w : World) (h2 : 2 ≤ r) (h36 : r ≤ 36) (hs : s.length ≤ 20000) (hb : ∀ c ∈ s, c < 256) (x : Nat) (hx : s.head? = some x) (hx1 : x ≠ 43) (hx2 : x ≠ 45) :
    Calls Try.prog 63 #[.string (bstr s), .int .i64 r] w (RefRes w (prs r s).1 (prs r s).2) := by
  obtain ⟨t, ht⟩ : ∃ t, t = bstr s := ⟨_, rfl⟩
  rw [← ht]
  obtain ⟨n, hn⟩ : ∃ n, n = s.length := ⟨_, rfl⟩
  have htz : t.size = n := by rw [ht, bstr_size, hn]
  have hn0 : 0 < n := by rw [hn]; cases s with | nil => cases hx | cons a l => simp
  have hn2 : n ≤ 20000 := by omega
  have h0t : 0 < t.size := by omega
  have hu0 : (t[0]'h0t).toNat = x := by
    have h1 := bstr_get s 0 (by rw [← ht]; omega) hb
    rw [← List.head?_eq_getElem?, hx, Option.getD_some] at h1
    rw [← h1]
    congr 1
    congr 1
  have hx1' : ((x : Int) == 43) = false := by rw [beq_eq_false_iff_ne]; omega
  have hx2' : ((x : Int) == 45) = false := by rw [beq_eq_false_iff_ne]; omega
  have hn0' : ((n : Int) == 0) = false := by rw [beq_eq_false_iff_ne]; omega
  have HB := Lib.hid hb
  have HBR : Hid (bare s = s) := Lib.hid (by unfold bare; rw [hx, if_neg (by simp; omega)])
  have HNG : Hid (ngS s = false) := Lib.hid (by unfold ngS; rw [hx]; simp; omega)
  have HNN : Hid (s ≠ []) := Lib.hid (by intro h; rw [h] at hx; cases hx)
  have HT := Lib.hid ht
  have HN := Lib.hid hn
  clear hn ht hs hb hx hx1 hx2
  obtain ⟨i0, hi, hz0, hz1, hz2⟩ := info_parts Try.infoI64
  go_enter Try.func63, Try.ntmps63
  go_wp2
  go_loopw [7, 8] (RpOut r s (w.alloc (.cells #[.bool false, .slice none 0 0] 31))) (fun _ i _ => n - (intOf i).toNat)
  case atStart => exact ⟨0, [], Nat.zero_le _, rfl, ⟨by simp [iw], .inl ⟨rfl, rfl⟩⟩, by simp, rfl, Nat.le_refl _, by simp, Below.refl _ _⟩
  case round =>
    obtain ⟨k, l, hk, rfl, hoi, hl, hvl, hlk, hok, hbl⟩ := hrel
    have HK := Lib.hid hk
    have HOI := Lib.hid hoi
    have HL := Lib.hid hl
    have HVL := Lib.hid hvl
    have HOK := Lib.hid hok
    have HBL := Lib.hid hbl
    clear hk hoi hl hvl hok hbl
    by_cases hkn : k < n
    · obtain ⟨cE, cF, fE, fF, _⟩ := box2 HBL.out
      have hks : k < s.length := by rw [← HN.out]; exact hkn
      have hkt : k < t.size := by omega
      obtain ⟨c, hc⟩ : ∃ c, c = s[k]?.getD 0 := ⟨_, rfl⟩
      have hcm : c ∈ s := by rw [hc, List.getElem?_eq_getElem hks]; exact List.getElem_mem hks
      have hcb : c < 256 := HB.out c hcm
      have huk : (t[k]'hkt).toNat = c := by
        have h1 := bstr_get s k (by rw [← HT.out]; exact hkt) HB.out
        rw [← hc] at h1
        rw [← h1]
        congr 1
        congr 1
      have HC := Lib.hid hc
      have HCM := Lib.hid hcm
      clear hc hcm
      have HD := Lib.hid (rDigit_any c hcb)
      obtain ⟨d, hd⟩ : ∃ d, d = dg c := ⟨_, rfl⟩
      have hd36 : d ≤ 36 := by rw [hd]; exact dg_le c
      have HDD := Lib.hid hd
      rw [← hd] at HD
      clear hd
      by_cases hdr : d < r
      · go_wp2_with (go_at_call 112; refine (HD.out _).mono ?_; rintro e w' ⟨rfl, rfl⟩)
        have htk : s.take (k + 1) = s.take k ++ [c] := by
          rw [List.take_add_one, HC.out, List.getElem?_eq_getElem hks]
          rfl
        have HTK := Lib.hid htk
        clear htk
        obtain ⟨ad, cap, rfl, _⟩ := HOI.out.rd.opt
        by_cases hl0 : l = []
        · subst hl0
          go_loopw [9, 10] (fun cv kv wx => cv = .int .i64 d ∧ kv = .int .i64 0 ∧ wx = wr) (fun _ _ _ => 0)
          case atStart => exact ⟨rfl, rfl, rfl⟩
          case round =>
            obtain ⟨rfl, rfl, rfl⟩ := hrel
            obtain ⟨cy, hcyd⟩ : ∃ cy, cy = d := ⟨_, rfl⟩
            obtain ⟨p, hp⟩ : ∃ p : List Nat, p = [] := ⟨_, rfl⟩
            have HBW := HBL
            have HP : Hid (Oi wr (w.alloc (.cells #[.bool false, .slice none 0 0] 31)).heap.size (.slice ad ([] : List Nat).length cap) p) := Lib.hid (by rw [hp]; exact HOI.out)
            have HPN : Hid (p.length = ([] : List Nat).length) := Lib.hid (by rw [hp])
            have HPL : Hid (∀ x ∈ p, x < 65536) := Lib.hid (by rw [hp]; simp)
            have HVV : Hid (vl 65536 p + 65536 ^ ([] : List Nat).length * cy = vl 65536 [] * r + d) := Lib.hid (by rw [hp, hcyd]; simp [vl])
            rw [← hcyd]
            have hcy36 : cy ≤ 36 := by omega
            clear hcyd hp
            by_cases hcy : 0 < cy
            · go_wp2_with (at_builtin; refine wpList_append_own _ rfl (.tmp 87) (.tmp 89) 29 rfl _ 3 i0 (.int .i64 0) 1 8 Try.underlying29 hi hz0 hz1 hz2 rfl (by decide) _ _ _ rfl (HP.out.alloc _) ⟨wr.heap.size, 0, none⟩ 1 1 (iw [cy]) rfl rfl ?c1 (iw_oneCell _) ?c2 ?c3 ?c4 ?_)
              case c1 => exact new_int _ _ _ _ (by omega)
              case c2 => have := HPN.out; unfold maxLen; omega
              case c3 => have := HPN.out; omega
              case c4 => have := HBW.out.size; simp at this ⊢; omega
              intro v' w1 hown1 hgrow _
              have HO1 := Lib.hid hown1
              have HG := Lib.hid hgrow
              clear hown1 hgrow
              go_wp2
              go_roundw
              case rel =>
                refine ⟨k + 1, p ++ [cy], hks, by go_num, (by rw [World.size_alloc]; exact Oi.snoc HO1.out), all_snoc HPL.out (by omega), ?_, by rw [List.length_append, List.length_singleton]; have := HPN.out; omega, ?_, ?_⟩
                · rw [vl_snoc, HPN.out, HVV.out, HTK.out, pv_snoc, HVL.out, HDD.out]
                · rw [HTK.out]
                  intro y hy
                  rcases List.mem_append.1 hy with hy | hy
                  · exact HOK.out y hy
                  · rw [List.mem_singleton.1 hy, ← HDD.out]; exact hdr
                · exact (HBW.out.alloc HBW.out.size _).grown HG.out (by have := HBW.out.size; simp at this ⊢; omega) (fun q hq => (HP.out.lt q hq).1)
              case measure => simp [intOf]; omega
            · obtain rfl : cy = 0 := by omega
              go_wp2
              go_roundw
              case rel =>
                refine ⟨k + 1, p, hks, by go_num, HP.out, HPL.out, ?_, by have := HPN.out; omega, ?_, HBW.out⟩
                · have h9 := HVV.out
                  rw [Nat.mul_zero, Nat.add_zero] at h9
                  rw [h9, HTK.out, pv_snoc, HVL.out, HDD.out]
                · rw [HTK.out]
                  intro y hy
                  rcases List.mem_append.1 hy with hy | hy
                  · exact HOK.out y hy
                  · rw [List.mem_singleton.1 hy, ← HDD.out]; exact hdr
              case measure => simp [intOf]; omega
        · obtain ⟨g, cap2, he, hrc⟩ := HOI.out.rc hl0
          cases he
          have hdb : d ≤ 36 := hd36
          go_loopw [9, 10] (RpIn r d (w.alloc (.cells #[.bool false, .slice none 0 0] 31)).heap.size g cap l (w.alloc (.cells #[.bool false, .slice none 0 0] 31))) (fun _ kv _ => l.length - (intOf kv).toNat)
          case atStart => exact ⟨0, d, l, Nat.zero_le _, rfl, rfl, hdb, hrc, HL.out, by simp [vl], fun _ _ => rfl, HBL.out⟩
          case round =>
            obtain ⟨j, cy, p, hj, rfl, rfl, hcy36, hrow, hpl, hvv, hsame, hbw⟩ := hrel
            have HROW := Lib.hid hrow
            have HPL := Lib.hid hpl
            have HVJ := Lib.hid hvv
            have HSAME := Lib.hid hsame
            have HBW := Lib.hid hbw
            clear hrow hpl hvv hsame hbw
            by_cases hjl : j < l.length
            · have gz := HROW.out.cell j hjl
              have gf := HROW.out.frozen j
              obtain ⟨y, hy⟩ : ∃ y, y = p[j]?.getD 0 := ⟨_, rfl⟩
              rw [← hy] at gz
              have hjp : j < p.length := by rw [HROW.out.1]; exact hjl
              have hyb : y < 65536 := by rw [hy, List.getElem?_eq_getElem hjp]; exact HPL.out _ (List.getElem_mem hjp)
              have hyl : y = l[j]?.getD 0 := by rw [hy]; exact HSAME.out j (Nat.le_refl _)
              have HY := Lib.hid hyl
              have HJP := Lib.hid hjp
              clear hy hyl hjp
              obtain ⟨xy, hxy⟩ : ∃ xy, xy = y * r := ⟨_, rfl⟩
              have hxyi : (y : Int) * (r : Int) = (xy : Int) := by rw [hxy, Int.natCast_mul]
              have hxyb : xy ≤ 65535 * 36 := by rw [hxy]; exact Nat.mul_le_mul (by omega) h36
              have HXY := Lib.hid hxy
              clear hxy
              go_wp2
              go_roundw
              case rel =>
                refine ⟨j + 1, (y * r + cy) / 65536, p.set j ((y * r + cy) % 65536), hjl, by go_num, ?_, ?_, HROW.out.store _ _ _ ?_, all_set HPL.out (Nat.mod_lt _ (by decide)), inplace_step p l j cy r d y HJP.out hjl HY.out HVJ.out, ?_, ?_⟩
                · refine congrArg (Value.int .i64) ?_
                  rw [← HXY.out]
                  omega
                · rw [← HXY.out]; omega
                · rw [← HXY.out]; omega
                · intro q hq
                  rw [getD_set_ne _ _ _ _ (by omega)]
                  exact HSAME.out q (by omega)
                · exact HBW.out.setCell (HROW.out.lt.1) _
              case measure => simp [intOf]; omega
            · obtain rfl : j = l.length := by omega
              have HP := Lib.hid HROW.out.oi
              have HPN : Hid (p.length = l.length) := Lib.hid HROW.out.1
              have HVV : Hid (vl 65536 p + 65536 ^ l.length * cy = vl 65536 l * r + d) := Lib.hid (by have h9 := HVJ.out; rw [List.take_of_length_le (Nat.le_of_eq HROW.out.1), List.take_of_length_le (Nat.le_refl _)] at h9; exact h9)
              by_cases hcy : 0 < cy
              · go_wp2_with (at_builtin; refine wpList_append_own _ rfl (.tmp 87) (.tmp 89) 29 rfl _ 3 i0 (.int .i64 0) 1 8 Try.underlying29 hi hz0 hz1 hz2 rfl (by decide) _ _ _ rfl (HP.out.alloc _) ⟨wr.heap.size, 0, none⟩ 1 1 (iw [cy]) rfl rfl ?c1 (iw_oneCell _) ?c2 ?c3 ?c4 ?_)
                case c1 => exact new_int _ _ _ _ (by omega)
                case c2 => have := HPN.out; unfold maxLen; omega
                case c3 => have := HPN.out; omega
                case c4 => have := HBW.out.size; simp at this ⊢; omega
                intro v' w1 hown1 hgrow _
                have HO1 := Lib.hid hown1
                have HG := Lib.hid hgrow
                clear hown1 hgrow
                go_wp2
                go_roundw
                case rel =>
                  refine ⟨k + 1, p ++ [cy], hks, by go_num, (by rw [World.size_alloc]; exact Oi.snoc HO1.out), all_snoc HPL.out (by omega), ?_, by rw [List.length_append, List.length_singleton]; have := HPN.out; omega, ?_, ?_⟩
                  · rw [vl_snoc, HPN.out, HVV.out, HTK.out, pv_snoc, HVL.out, HDD.out]
                  · rw [HTK.out]
                    intro y hy
                    rcases List.mem_append.1 hy with hy | hy
                    · exact HOK.out y hy
                    · rw [List.mem_singleton.1 hy, ← HDD.out]; exact hdr
                  · exact (HBW.out.alloc HBW.out.size _).grown HG.out (by have := HBW.out.size; simp at this ⊢; omega) (fun q hq => (HP.out.lt q hq).1)
                case measure => simp [intOf]; omega
              · obtain rfl : cy = 0 := by omega
                go_wp2
                go_roundw
                case rel =>
                  refine ⟨k + 1, p, hks, by go_num, HP.out, HPL.out, ?_, by have := HPN.out; omega, ?_, HBW.out⟩
                  · have h9 := HVV.out
                    rw [Nat.mul_zero, Nat.add_zero] at h9
                    rw [h9, HTK.out, pv_snoc, HVL.out, HDD.out]
                  · rw [HTK.out]
                    intro y hy
                    rcases List.mem_append.1 hy with hy | hy
                    · exact HOK.out y hy
                    · rw [List.mem_singleton.1 hy, ← HDD.out]; exact hdr
                case measure => simp [intOf]; omega
      · go_wp2_with (go_at_call 112; refine (HD.out _).mono ?_; rintro e w' ⟨rfl, rfl⟩)
        have HNOT := Lib.hid (prs_not h2 h36 (by rw [HBR.out]; exact HNN.out) (by rw [HBR.out]; intro h; have := h c HCM.out; rw [← HDD.out] at this; exact hdr this))
        refine bodyPost_ret (v := .tuple #[.agg #[.bool false, .slice none 0 0], .int .i64 2]) (by simp [results, Try.results63, go_sem, cE, cF]) rfl ?_
        rw [HNOT.out]
        exact ⟨_, rfl, RefV.zero0 _, ((box1b HBL.out).setCell (Nat.le_refl _) _).setCell (Nat.le_refl _) _⟩
    · obtain rfl : k = n := by have := HK.out; rw [← HN.out] at this; omega
      obtain ⟨cE, cF, fE, fF, _⟩ := box2 HBL.out
      have hall : ∀ c ∈ s, dg c < r := by have := HOK.out; rw [HN.out, List.take_length] at this; exact this
      have HRES := Lib.hid (prs_ok h2 h36 (by rw [HBR.out]; exact HNN.out) (by rw [HBR.out]; exact hall))
      have HMD := rmade_any false u7 l wr HOI.out.rd HL.out
      have hv : vl 65536 l = pv r s := by rw [HVL.out, HN.out, List.take_length]
      rw [hv] at HMD
      have HMD := Lib.hid HMD
      clear hall hv
      go_wp2_with fail
      refine HMD.out.mono ?_
      rintro e w2 ⟨v2, rfl, ⟨ad2, n2, c2, rfl, hr2⟩, hb2⟩
      have HB2 := Lib.hid (HBL.out.trans (hb2.mono HBL.out.size))
      have HR2 := Lib.hid hr2
      rw [HNG.out, HBR.out] at HRES
      clear hb2 hr2 cE cF fE fF
      obtain ⟨cE, cF, fE, fF, _⟩ := box2 HB2.out
      obtain ⟨z, hz⟩ : ∃ z, z = sg false (pv r s) := ⟨_, rfl⟩
      rw [← hz]
      generalize hbz : decide (z < 0) = bz
      have HBZ := Lib.hid hbz
      have HZ := Lib.hid hz
      clear hbz hz
      go_wp2_with fail
      refine bodyPost_ret (v := .tuple #[.agg #[.bool bz, .slice ad2 n2 c2], .int .i64 0]) (by simp [results, Try.results63, go_sem, cE, cF]) rfl ?_
      rw [HRES.out]
      refine ⟨_, rfl, ⟨ad2, n2, c2, by rw [← HZ.out, HBZ.out], ?_⟩, ?_⟩
      · exact HR2.out.store2 cE cF (by intro n h; cases h) (by intro n h; cases h) _ _
      · exact ((box1b HB2.out).setCell (Nat.le_refl _) _).setCell (Nat.le_refl _) _

set_option maxHeartbeats 2000000 in
set_option maxRecDepth 100000 in
theorem rparse_plus (r : Nat) (s : List Nat) (w : World) (h2 : 2 ≤ r) (h36 : r ≤ 36) (hs : s.length ≤ 19999) (hb : ∀ c ∈ s, c < 256) (hl : s ≠ []) :
    Calls Try.prog 63 #[.string (bstr (43 :: s)), .int .i64 r] w (RefRes w (prs r (43 :: s)).1 (prs r (43 :: s)).2) := by
  obtain ⟨t, ht⟩ : ∃ t, t = bstr (43 :: s) := ⟨_, rfl⟩
  rw [← ht]
  obtain ⟨u, hu⟩ : ∃ u, u = bstr s := ⟨_, rfl⟩
  obtain ⟨m, hm⟩ : ∃ m, m = s.length := ⟨_, rfl⟩
  obtain ⟨n, hn⟩ : ∃ n, n = m + 1 := ⟨_, rfl⟩
  have htz : t.size = n := by rw [ht, bstr_size, hn, hm]; rfl
  have huz : u.size = m := by rw [hu, bstr_size, hm]
  have hut : t.extract 1 n = u := by
    have h1 := bstr_tail (43 :: s)
    rw [← ht, htz] at h1
    rw [h1, hu]
    rfl
  have hm0 : 0 < m := by rw [hm]; exact List.length_pos_iff.2 hl
  have hn0 : 1 ≤ n := by omega
  have hm2 : m ≤ 19999 := by omega
  have hn2 : n ≤ 20000 := by omega
  have h0t : 0 < t.size := by omega
  have hu0 : (t[0]'h0t).toNat = 43 := by
    have h1 := bstr_get (43 :: s) 0 (by rw [← ht]; exact h0t) (fun c hc => (List.mem_cons.1 hc).elim (fun h => by rw [h]; decide) (hb c))
    rw [List.getElem?_cons_zero, Option.getD_some] at h1
    rw [← h1]
    congr 1
    congr 1
  have hn0' : ((m : Int) == 0) = false := by rw [beq_eq_false_iff_ne]; omega
  have HB := Lib.hid hb
  have HBR : Hid (bare (43 :: s) = s) := Lib.hid (by unfold bare; rw [if_pos (by simp)]; rfl)
  have HNG : Hid (ngS (43 :: s) = false) := Lib.hid rfl
  have HNN : Hid (s ≠ []) := Lib.hid hl
  have HT := Lib.hid hu
  have HN := Lib.hid hm
  clear hn hm hu ht hs hb hl
  obtain ⟨i0, hi, hz0, hz1, hz2⟩ := info_parts Try.infoI64
  go_enter Try.func63, Try.ntmps63
  go_wp2
  go_loopw [7, 8] (RpOut r s (w.alloc (.cells #[.bool false, .slice none 0 0] 31))) (fun _ i _ => m - (intOf i).toNat)
  case atStart => exact ⟨0, [], Nat.zero_le _, rfl, ⟨by simp [iw], .inl ⟨rfl, rfl⟩⟩, by simp, rfl, Nat.le_refl _, by simp, Below.refl _ _⟩
  case round =>
    obtain ⟨k, l, hk, rfl, hoi, hl, hvl, hlk, hok, hbl⟩ := hrel
    have HK := Lib.hid hk
    have HOI := Lib.hid hoi
    have HL := Lib.hid hl
    have HVL := Lib.hid hvl
    have HOK := Lib.hid hok
    have HBL := Lib.hid hbl
    clear hk hoi hl hvl hok hbl
    by_cases hkn : k < m
    · obtain ⟨cE, cF, fE, fF, _⟩ := box2 HBL.out
      have hks : k < s.length := by rw [← HN.out]; exact hkn
      have hkt : k < u.size := by omega
      obtain ⟨c, hc⟩ : ∃ c, c = s[k]?.getD 0 := ⟨_, rfl⟩
      have hcm : c ∈ s := by rw [hc, List.getElem?_eq_getElem hks]; exact List.getElem_mem hks
      have hcb : c < 256 := HB.out c hcm
      have huk : (u[k]'hkt).toNat = c := by
        have h1 := bstr_get s k (by rw [← HT.out]; exact hkt) HB.out
        rw [← hc] at h1
        rw [← h1]
        congr 1
        congr 1
      have HC := Lib.hid hc
      have HCM := Lib.hid hcm
      clear hc hcm
      have HD := Lib.hid (rDigit_any c hcb)
      obtain ⟨d, hd⟩ : ∃ d, d = dg c := ⟨_, rfl⟩
      have hd36 : d ≤ 36 := by rw [hd]; exact dg_le c
      have HDD := Lib.hid hd
      rw [← hd] at HD
      clear hd
      by_cases hdr : d < r
      · go_wp2_with (go_at_call 112; refine (HD.out _).mono ?_; rintro e w' ⟨rfl, rfl⟩)
        have htk : s.take (k + 1) = s.take k ++ [c] := by
          rw [List.take_add_one, HC.out, List.getElem?_eq_getElem hks]
          rfl
        have HTK := Lib.hid htk
        clear htk
        obtain ⟨ad, cap, rfl, _⟩ := HOI.out.rd.opt
        by_cases hl0 : l = []
        · subst hl0
          go_loopw [9, 10] (fun cv kv wx => cv = .int .i64 d ∧ kv = .int .i64 0 ∧ wx = wr) (fun _ _ _ => 0)
          case atStart => exact ⟨rfl, rfl, rfl⟩
          case round =>
            obtain ⟨rfl, rfl, rfl⟩ := hrel
            obtain ⟨cy, hcyd⟩ : ∃ cy, cy = d := ⟨_, rfl⟩
            obtain ⟨p, hp⟩ : ∃ p : List Nat, p = [] := ⟨_, rfl⟩
            have HBW := HBL
            have HP : Hid (Oi wr (w.alloc (.cells #[.bool false, .slice none 0 0] 31)).heap.size (.slice ad ([] : List Nat).length cap) p) := Lib.hid (by rw [hp]; exact HOI.out)
            have HPN : Hid (p.length = ([] : List Nat).length) := Lib.hid (by rw [hp])
            have HPL : Hid (∀ x ∈ p, x < 65536) := Lib.hid (by rw [hp]; simp)
            have HVV : Hid (vl 65536 p + 65536 ^ ([] : List Nat).length * cy = vl 65536 [] * r + d) := Lib.hid (by rw [hp, hcyd]; simp [vl])
            rw [← hcyd]
            have hcy36 : cy ≤ 36 := by omega
            clear hcyd hp
            by_cases hcy : 0 < cy
            · go_wp2_with (at_builtin; refine wpList_append_own _ rfl (.tmp 87) (.tmp 89) 29 rfl _ 3 i0 (.int .i64 0) 1 8 Try.underlying29 hi hz0 hz1 hz2 rfl (by decide) _ _ _ rfl (HP.out.alloc _) ⟨wr.heap.size, 0, none⟩ 1 1 (iw [cy]) rfl rfl ?c1 (iw_oneCell _) ?c2 ?c3 ?c4 ?_)
              case c1 => exact new_int _ _ _ _ (by omega)
              case c2 => have := HPN.out; unfold maxLen; omega
              case c3 => have := HPN.out; omega
              case c4 => have := HBW.out.size; simp at this ⊢; omega
              intro v' w1 hown1 hgrow _
              have HO1 := Lib.hid hown1
              have HG := Lib.hid hgrow
              clear hown1 hgrow
              go_wp2
              go_roundw
              case rel =>
                refine ⟨k + 1, p ++ [cy], hks, by go_num, (by rw [World.size_alloc]; exact Oi.snoc HO1.out), all_snoc HPL.out (by omega), ?_, by rw [List.length_append, List.length_singleton]; have := HPN.out; omega, ?_, ?_⟩
                · rw [vl_snoc, HPN.out, HVV.out, HTK.out, pv_snoc, HVL.out, HDD.out]
                · rw [HTK.out]
                  intro y hy
                  rcases List.mem_append.1 hy with hy | hy
                  · exact HOK.out y hy
                  · rw [List.mem_singleton.1 hy, ← HDD.out]; exact hdr
                · exact (HBW.out.alloc HBW.out.size _).grown HG.out (by have := HBW.out.size; simp at this ⊢; omega) (fun q hq => (HP.out.lt q hq).1)
              case measure => simp [intOf]; omega
            · obtain rfl : cy = 0 := by omega
              go_wp2
              go_roundw
              case rel =>
                refine ⟨k + 1, p, hks, by go_num, HP.out, HPL.out, ?_, by have := HPN.out; omega, ?_, HBW.out⟩
                · have h9 := HVV.out
                  rw [Nat.mul_zero, Nat.add_zero] at h9
                  rw [h9, HTK.out, pv_snoc, HVL.out, HDD.out]
                · rw [HTK.out]
                  intro y hy
                  rcases List.mem_append.1 hy with hy | hy
                  · exact HOK.out y hy
                  · rw [List.mem_singleton.1 hy, ← HDD.out]; exact hdr
              case measure => simp [intOf]; omega
        · obtain ⟨g, cap2, he, hrc⟩ := HOI.out.rc hl0
          cases he
          have hdb : d ≤ 36 := hd36
          go_loopw [9, 10] (RpIn r d (w.alloc (.cells #[.bool false, .slice none 0 0] 31)).heap.size g cap l (w.alloc (.cells #[.bool false, .slice none 0 0] 31))) (fun _ kv _ => l.length - (intOf kv).toNat)
          case atStart => exact ⟨0, d, l, Nat.zero_le _, rfl, rfl, hdb, hrc, HL.out, by simp [vl], fun _ _ => rfl, HBL.out⟩
          case round =>
            obtain ⟨j, cy, p, hj, rfl, rfl, hcy36, hrow, hpl, hvv, hsame, hbw⟩ := hrel
            have HROW := Lib.hid hrow
            have HPL := Lib.hid hpl
            have HVJ := Lib.hid hvv
            have HSAME := Lib.hid hsame
            have HBW := Lib.hid hbw
            clear hrow hpl hvv hsame hbw
            by_cases hjl : j < l.length
            · have gz := HROW.out.cell j hjl
              have gf := HROW.out.frozen j
              obtain ⟨y, hy⟩ : ∃ y, y = p[j]?.getD 0 := ⟨_, rfl⟩
              rw [← hy] at gz
              have hjp : j < p.length := by rw [HROW.out.1]; exact hjl
              have hyb : y < 65536 := by rw [hy, List.getElem?_eq_getElem hjp]; exact HPL.out _ (List.getElem_mem hjp)
              have hyl : y = l[j]?.getD 0 := by rw [hy]; exact HSAME.out j (Nat.le_refl _)
              have HY := Lib.hid hyl
              have HJP := Lib.hid hjp
              clear hy hyl hjp
              obtain ⟨xy, hxy⟩ : ∃ xy, xy = y * r := ⟨_, rfl⟩
              have hxyi : (y : Int) * (r : Int) = (xy : Int) := by rw [hxy, Int.natCast_mul]
              have hxyb : xy ≤ 65535 * 36 := by rw [hxy]; exact Nat.mul_le_mul (by omega) h36
              have HXY := Lib.hid hxy
              clear hxy
              go_wp2
              go_roundw
              case rel =>
                refine ⟨j + 1, (y * r + cy) / 65536, p.set j ((y * r + cy) % 65536), hjl, by go_num, ?_, ?_, HROW.out.store _ _ _ ?_, all_set HPL.out (Nat.mod_lt _ (by decide)), inplace_step p l j cy r d y HJP.out hjl HY.out HVJ.out, ?_, ?_⟩
                · refine congrArg (Value.int .i64) ?_
                  rw [← HXY.out]
                  omega
                · rw [← HXY.out]; omega
                · rw [← HXY.out]; omega
                · intro q hq
                  rw [getD_set_ne _ _ _ _ (by omega)]
                  exact HSAME.out q (by omega)
                · exact HBW.out.setCell (HROW.out.lt.1) _
              case measure => simp [intOf]; omega
            · obtain rfl : j = l.length := by omega
              have HP := Lib.hid HROW.out.oi
              have HPN : Hid (p.length = l.length) := Lib.hid HROW.out.1
              have HVV : Hid (vl 65536 p + 65536 ^ l.length * cy = vl 65536 l * r + d) := Lib.hid (by have h9 := HVJ.out; rw [List.take_of_length_le (Nat.le_of_eq HROW.out.1), List.take_of_length_le (Nat.le_refl _)] at h9; exact h9)
              by_cases hcy : 0 < cy
              · go_wp2_with (at_builtin; refine wpList_append_own _ rfl (.tmp 87) (.tmp 89) 29 rfl _ 3 i0 (.int .i64 0) 1 8 Try.underlying29 hi hz0 hz1 hz2 rfl (by decide) _ _ _ rfl (HP.out.alloc _) ⟨wr.heap.size, 0, none⟩ 1 1 (iw [cy]) rfl rfl ?c1 (iw_oneCell _) ?c2 ?c3 ?c4 ?_)
                case c1 => exact new_int _ _ _ _ (by omega)
                case c2 => have := HPN.out; unfold maxLen; omega
                case c3 => have := HPN.out; omega
                case c4 => have := HBW.out.size; simp at this ⊢; omega
                intro v' w1 hown1 hgrow _
                have HO1 := Lib.hid hown1
                have HG := Lib.hid hgrow
                clear hown1 hgrow
                go_wp2
                go_roundw
                case rel =>
                  refine ⟨k + 1, p ++ [cy], hks, by go_num, (by rw [World.size_alloc]; exact Oi.snoc HO1.out), all_snoc HPL.out (by omega), ?_, by rw [List.length_append, List.length_singleton]; have := HPN.out; omega, ?_, ?_⟩
                  · rw [vl_snoc, HPN.out, HVV.out, HTK.out, pv_snoc, HVL.out, HDD.out]
                  · rw [HTK.out]
                    intro y hy
                    rcases List.mem_append.1 hy with hy | hy
                    · exact HOK.out y hy
                    · rw [List.mem_singleton.1 hy, ← HDD.out]; exact hdr
                  · exact (HBW.out.alloc HBW.out.size _).grown HG.out (by have := HBW.out.size; simp at this ⊢; omega) (fun q hq => (HP.out.lt q hq).1)
                case measure => simp [intOf]; omega
              · obtain rfl : cy = 0 := by omega
                go_wp2
                go_roundw
                case rel =>
                  refine ⟨k + 1, p, hks, by go_num, HP.out, HPL.out, ?_, by have := HPN.out; omega, ?_, HBW.out⟩
                  · have h9 := HVV.out
                    rw [Nat.mul_zero, Nat.add_zero] at h9
                    rw [h9, HTK.out, pv_snoc, HVL.out, HDD.out]
                  · rw [HTK.out]
                    intro y hy
                    rcases List.mem_append.1 hy with hy | hy
                    · exact HOK.out y hy
                    · rw [List.mem_singleton.1 hy, ← HDD.out]; exact hdr
                case measure => simp [intOf]; omega
      · go_wp2_with (go_at_call 112; refine (HD.out _).mono ?_; rintro e w' ⟨rfl, rfl⟩)
        have HNOT := Lib.hid (prs_not h2 h36 (by rw [HBR.out]; exact HNN.out) (by rw [HBR.out]; intro h; have := h c HCM.out; rw [← HDD.out] at this; exact hdr this))
        refine bodyPost_ret (v := .tuple #[.agg #[.bool false, .slice none 0 0], .int .i64 2]) (by simp [results, Try.results63, go_sem, cE, cF]) rfl ?_
        rw [HNOT.out]
        exact ⟨_, rfl, RefV.zero0 _, ((box1b HBL.out).setCell (Nat.le_refl _) _).setCell (Nat.le_refl _) _⟩
    · obtain rfl : k = m := by have := HK.out; rw [← HN.out] at this; omega
      obtain ⟨cE, cF, fE, fF, _⟩ := box2 HBL.out
      have hall : ∀ c ∈ s, dg c < r := by have := HOK.out; rw [HN.out, List.take_length] at this; exact this
      have HRES := Lib.hid (prs_ok h2 h36 (by rw [HBR.out]; exact HNN.out) (by rw [HBR.out]; exact hall))
      have HMD := rmade_any false u7 l wr HOI.out.rd HL.out
      have hv : vl 65536 l = pv r s := by rw [HVL.out, HN.out, List.take_length]
      rw [hv] at HMD
      have HMD := Lib.hid HMD
      clear hall hv
      go_wp2_with fail
      refine HMD.out.mono ?_
      rintro e w2 ⟨v2, rfl, ⟨ad2, n2, c2, rfl, hr2⟩, hb2⟩
      have HB2 := Lib.hid (HBL.out.trans (hb2.mono HBL.out.size))
      have HR2 := Lib.hid hr2
      rw [HNG.out, HBR.out] at HRES
      clear hb2 hr2 cE cF fE fF
      obtain ⟨cE, cF, fE, fF, _⟩ := box2 HB2.out
      obtain ⟨z, hz⟩ : ∃ z, z = sg false (pv r s) := ⟨_, rfl⟩
      rw [← hz]
      generalize hbz : decide (z < 0) = bz
      have HBZ := Lib.hid hbz
      have HZ := Lib.hid hz
      clear hbz hz
      go_wp2_with fail
      refine bodyPost_ret (v := .tuple #[.agg #[.bool bz, .slice ad2 n2 c2], .int .i64 0]) (by simp [results, Try.results63, go_sem, cE, cF]) rfl ?_
      rw [HRES.out]
      refine ⟨_, rfl, ⟨ad2, n2, c2, by rw [← HZ.out, HBZ.out], ?_⟩, ?_⟩
      · exact HR2.out.store2 cE cF (by intro n h; cases h) (by intro n h; cases h) _ _
      · exact ((box1b HB2.out).setCell (Nat.le_refl _) _).setCell (Nat.le_refl _) _

set_option maxHeartbeats 2000000 in
set_option maxRecDepth 100000 in
theorem rparse_minus (r : Nat) (s : List Nat) (w : World) (h2 : 2 ≤ r) (h36 : r ≤ 36) (hs : s.length ≤ 19999) (hb : ∀ c ∈ s, c < 256) (hl : s ≠ []) :
    Calls Try.prog 63 #[.string (bstr (45 :: s)), .int .i64 r] w (RefRes w (prs r (45 :: s)).1 (prs r (45 :: s)).2) := by
  obtain ⟨t, ht⟩ : ∃ t, t = bstr (45 :: s) := ⟨_, rfl⟩
  rw [← ht]
  obtain ⟨u, hu⟩ : ∃ u, u = bstr s := ⟨_, rfl⟩
  obtain ⟨m, hm⟩ : ∃ m, m = s.length := ⟨_, rfl⟩
  obtain ⟨n, hn⟩ : ∃ n, n = m + 1 := ⟨_, rfl⟩
  have htz : t.size = n := by rw [ht, bstr_size, hn, hm]; rfl
  have huz : u.size = m := by rw [hu, bstr_size, hm]
  have hut : t.extract 1 n = u := by
    have h1 := bstr_tail (45 :: s)
    rw [← ht, htz] at h1
    rw [h1, hu]
    rfl
  have hm0 : 0 < m := by rw [hm]; exact List.length_pos_iff.2 hl
  have hn0 : 1 ≤ n := by omega
  have hm2 : m ≤ 19999 := by omega
  have hn2 : n ≤ 20000 := by omega
  have h0t : 0 < t.size := by omega
  have hu0 : (t[0]'h0t).toNat = 45 := by
    have h1 := bstr_get (45 :: s) 0 (by rw [← ht]; exact h0t) (fun c hc => (List.mem_cons.1 hc).elim (fun h => by rw [h]; decide) (hb c))
    rw [List.getElem?_cons_zero, Option.getD_some] at h1
    rw [← h1]
    congr 1
    congr 1
  have hn0' : ((m : Int) == 0) = false := by rw [beq_eq_false_iff_ne]; omega
  have HB := Lib.hid hb
  have HBR : Hid (bare (45 :: s) = s) := Lib.hid (by unfold bare; rw [if_pos (by simp)]; rfl)
  have HNG : Hid (ngS (45 :: s) = true) := Lib.hid rfl
  have HNN : Hid (s ≠ []) := Lib.hid hl
  have HT := Lib.hid hu
  have HN := Lib.hid hm
  clear hn hm hu ht hs hb hl
  obtain ⟨i0, hi, hz0, hz1, hz2⟩ := info_parts Try.infoI64
  go_enter Try.func63, Try.ntmps63
  go_wp2
  go_loopw [7, 8] (RpOut r s (w.alloc (.cells #[.bool false, .slice none 0 0] 31))) (fun _ i _ => m - (intOf i).toNat)
  case atStart => exact ⟨0, [], Nat.zero_le _, rfl, ⟨by simp [iw], .inl ⟨rfl, rfl⟩⟩, by simp, rfl, Nat.le_refl _, by simp, Below.refl _ _⟩
  case round =>
    obtain ⟨k, l, hk, rfl, hoi, hl, hvl, hlk, hok, hbl⟩ := hrel
    have HK := Lib.hid hk
    have HOI := Lib.hid hoi
    have HL := Lib.hid hl
    have HVL := Lib.hid hvl
    have HOK := Lib.hid hok
    have HBL := Lib.hid hbl
    clear hk hoi hl hvl hok hbl
    by_cases hkn : k < m
    · obtain ⟨cE, cF, fE, fF, _⟩ := box2 HBL.out
      have hks : k < s.length := by rw [← HN.out]; exact hkn
      have hkt : k < u.size := by omega
      obtain ⟨c, hc⟩ : ∃ c, c = s[k]?.getD 0 := ⟨_, rfl⟩
      have hcm : c ∈ s := by rw [hc, List.getElem?_eq_getElem hks]; exact List.getElem_mem hks
      have hcb : c < 256 := HB.out c hcm
      have huk : (u[k]'hkt).toNat = c := by
        have h1 := bstr_get s k (by rw [← HT.out]; exact hkt) HB.out
        rw [← hc] at h1
        rw [← h1]
        congr 1
        congr 1
      have HC := Lib.hid hc
      have HCM := Lib.hid hcm
      clear hc hcm
      have HD := Lib.hid (rDigit_any c hcb)
      obtain ⟨d, hd⟩ : ∃ d, d = dg c := ⟨_, rfl⟩
      have hd36 : d ≤ 36 := by rw [hd]; exact dg_le c
      have HDD := Lib.hid hd
      rw [← hd] at HD
      clear hd
      by_cases hdr : d < r
      · go_wp2_with (go_at_call 112; refine (HD.out _).mono ?_; rintro e w' ⟨rfl, rfl⟩)
        have htk : s.take (k + 1) = s.take k ++ [c] := by
          rw [List.take_add_one, HC.out, List.getElem?_eq_getElem hks]
          rfl
        have HTK := Lib.hid htk
        clear htk
        obtain ⟨ad, cap, rfl, _⟩ := HOI.out.rd.opt
        by_cases hl0 : l = []
        · subst hl0
          go_loopw [9, 10] (fun cv kv wx => cv = .int .i64 d ∧ kv = .int .i64 0 ∧ wx = wr) (fun _ _ _ => 0)
          case atStart => exact ⟨rfl, rfl, rfl⟩
          case round =>
            obtain ⟨rfl, rfl, rfl⟩ := hrel
            obtain ⟨cy, hcyd⟩ : ∃ cy, cy = d := ⟨_, rfl⟩
            obtain ⟨p, hp⟩ : ∃ p : List Nat, p = [] := ⟨_, rfl⟩
            have HBW := HBL
            have HP : Hid (Oi wr (w.alloc (.cells #[.bool false, .slice none 0 0] 31)).heap.size (.slice ad ([] : List Nat).length cap) p) := Lib.hid (by rw [hp]; exact HOI.out)
            have HPN : Hid (p.length = ([] : List Nat).length) := Lib.hid (by rw [hp])
            have HPL : Hid (∀ x ∈ p, x < 65536) := Lib.hid (by rw [hp]; simp)
            have HVV : Hid (vl 65536 p + 65536 ^ ([] : List Nat).length * cy = vl 65536 [] * r + d) := Lib.hid (by rw [hp, hcyd]; simp [vl])
            rw [← hcyd]
            have hcy36 : cy ≤ 36 := by omega
            clear hcyd hp
            by_cases hcy : 0 < cy
            · go_wp2_with (at_builtin; refine wpList_append_own _ rfl (.tmp 87) (.tmp 89) 29 rfl _ 3 i0 (.int .i64 0) 1 8 Try.underlying29 hi hz0 hz1 hz2 rfl (by decide) _ _ _ rfl (HP.out.alloc _) ⟨wr.heap.size, 0, none⟩ 1 1 (iw [cy]) rfl rfl ?c1 (iw_oneCell _) ?c2 ?c3 ?c4 ?_)
              case c1 => exact new_int _ _ _ _ (by omega)
              case c2 => have := HPN.out; unfold maxLen; omega
              case c3 => have := HPN.out; omega
              case c4 => have := HBW.out.size; simp at this ⊢; omega
              intro v' w1 hown1 hgrow _
              have HO1 := Lib.hid hown1
              have HG := Lib.hid hgrow
              clear hown1 hgrow
              go_wp2
              go_roundw
              case rel =>
                refine ⟨k + 1, p ++ [cy], hks, by go_num, (by rw [World.size_alloc]; exact Oi.snoc HO1.out), all_snoc HPL.out (by omega), ?_, by rw [List.length_append, List.length_singleton]; have := HPN.out; omega, ?_, ?_⟩
                · rw [vl_snoc, HPN.out, HVV.out, HTK.out, pv_snoc, HVL.out, HDD.out]
                · rw [HTK.out]
                  intro y hy
                  rcases List.mem_append.1 hy with hy | hy
                  · exact HOK.out y hy
                  · rw [List.mem_singleton.1 hy, ← HDD.out]; exact hdr
                · exact (HBW.out.alloc HBW.out.size _).grown HG.out (by have := HBW.out.size; simp at this ⊢; omega) (fun q hq => (HP.out.lt q hq).1)
              case measure => simp [intOf]; omega
            · obtain rfl : cy = 0 := by omega
              go_wp2
              go_roundw
              case rel =>
                refine ⟨k + 1, p, hks, by go_num, HP.out, HPL.out, ?_, by have := HPN.out; omega, ?_, HBW.out⟩
                · have h9 := HVV.out
                  rw [Nat.mul_zero, Nat.add_zero] at h9
                  rw [h9, HTK.out, pv_snoc, HVL.out, HDD.out]
                · rw [HTK.out]
                  intro y hy
                  rcases List.mem_append.1 hy with hy | hy
                  · exact HOK.out y hy
                  · rw [List.mem_singleton.1 hy, ← HDD.out]; exact hdr
              case measure => simp [intOf]; omega
        · obtain ⟨g, cap2, he, hrc⟩ := HOI.out.rc hl0
          cases he
          have hdb : d ≤ 36 := hd36
          go_loopw [9, 10] (RpIn r d (w.alloc (.cells #[.bool false, .slice none 0 0] 31)).heap.size g cap l (w.alloc (.cells #[.bool false, .slice none 0 0] 31))) (fun _ kv _ => l.length - (intOf kv).toNat)
          case atStart => exact ⟨0, d, l, Nat.zero_le _, rfl, rfl, hdb, hrc, HL.out, by simp [vl], fun _ _ => rfl, HBL.out⟩
          case round =>
            obtain ⟨j, cy, p, hj, rfl, rfl, hcy36, hrow, hpl, hvv, hsame, hbw⟩ := hrel
            have HROW := Lib.hid hrow
            have HPL := Lib.hid hpl
            have HVJ := Lib.hid hvv
            have HSAME := Lib.hid hsame
            have HBW := Lib.hid hbw
            clear hrow hpl hvv hsame hbw
            by_cases hjl : j < l.length
            · have gz := HROW.out.cell j hjl
              have gf := HROW.out.frozen j
              obtain ⟨y, hy⟩ : ∃ y, y = p[j]?.getD 0 := ⟨_, rfl⟩
              rw [← hy] at gz
              have hjp : j < p.length := by rw [HROW.out.1]; exact hjl
              have hyb : y < 65536 := by rw [hy, List.getElem?_eq_getElem hjp]; exact HPL.out _ (List.getElem_mem hjp)
              have hyl : y = l[j]?.getD 0 := by rw [hy]; exact HSAME.out j (Nat.le_refl _)
              have HY := Lib.hid hyl
              have HJP := Lib.hid hjp
              clear hy hyl hjp
              obtain ⟨xy, hxy⟩ : ∃ xy, xy = y * r := ⟨_, rfl⟩
              have hxyi : (y : Int) * (r : Int) = (xy : Int) := by rw [hxy, Int.natCast_mul]
              have hxyb : xy ≤ 65535 * 36 := by rw [hxy]; exact Nat.mul_le_mul (by omega) h36
              have HXY := Lib.hid hxy
              clear hxy
              go_wp2
              go_roundw
              case rel =>
                refine ⟨j + 1, (y * r + cy) / 65536, p.set j ((y * r + cy) % 65536), hjl, by go_num, ?_, ?_, HROW.out.store _ _ _ ?_, all_set HPL.out (Nat.mod_lt _ (by decide)), inplace_step p l j cy r d y HJP.out hjl HY.out HVJ.out, ?_, ?_⟩
                · refine congrArg (Value.int .i64) ?_
                  rw [← HXY.out]
                  omega
                · rw [← HXY.out]; omega
                · rw [← HXY.out]; omega
                · intro q hq
                  rw [getD_set_ne _ _ _ _ (by omega)]
                  exact HSAME.out q (by omega)
                · exact HBW.out.setCell (HROW.out.lt.1) _
              case measure => simp [intOf]; omega
            · obtain rfl : j = l.length := by omega
              have HP := Lib.hid HROW.out.oi
              have HPN : Hid (p.length = l.length) := Lib.hid HROW.out.1
              have HVV : Hid (vl 65536 p + 65536 ^ l.length * cy = vl 65536 l * r + d) := Lib.hid (by have h9 := HVJ.out; rw [List.take_of_length_le (Nat.le_of_eq HROW.out.1), List.take_of_length_le (Nat.le_refl _)] at h9; exact h9)
              by_cases hcy : 0 < cy
              · go_wp2_with (at_builtin; refine wpList_append_own _ rfl (.tmp 87) (.tmp 89) 29 rfl _ 3 i0 (.int .i64 0) 1 8 Try.underlying29 hi hz0 hz1 hz2 rfl (by decide) _ _ _ rfl (HP.out.alloc _) ⟨wr.heap.size, 0, none⟩ 1 1 (iw [cy]) rfl rfl ?c1 (iw_oneCell _) ?c2 ?c3 ?c4 ?_)
                case c1 => exact new_int _ _ _ _ (by omega)
                case c2 => have := HPN.out; unfold maxLen; omega
                case c3 => have := HPN.out; omega
                case c4 => have := HBW.out.size; simp at this ⊢; omega
                intro v' w1 hown1 hgrow _
                have HO1 := Lib.hid hown1
                have HG := Lib.hid hgrow
                clear hown1 hgrow
                go_wp2
                go_roundw
                case rel =>
                  refine ⟨k + 1, p ++ [cy], hks, by go_num, (by rw [World.size_alloc]; exact Oi.snoc HO1.out), all_snoc HPL.out (by omega), ?_, by rw [List.length_append, List.length_singleton]; have := HPN.out; omega, ?_, ?_⟩
                  · rw [vl_snoc, HPN.out, HVV.out, HTK.out, pv_snoc, HVL.out, HDD.out]
                  · rw [HTK.out]
                    intro y hy
                    rcases List.mem_append.1 hy with hy | hy
                    · exact HOK.out y hy
                    · rw [List.mem_singleton.1 hy, ← HDD.out]; exact hdr
                  · exact (HBW.out.alloc HBW.out.size _).grown HG.out (by have := HBW.out.size; simp at this ⊢; omega) (fun q hq => (HP.out.lt q hq).1)
                case measure => simp [intOf]; omega
              · obtain rfl : cy = 0 := by omega
                go_wp2
                go_roundw
                case rel =>
                  refine ⟨k + 1, p, hks, by go_num, HP.out, HPL.out, ?_, by have := HPN.out; omega, ?_, HBW.out⟩
                  · have h9 := HVV.out
                    rw [Nat.mul_zero, Nat.add_zero] at h9
                    rw [h9, HTK.out, pv_snoc, HVL.out, HDD.out]
                  · rw [HTK.out]
                    intro y hy
                    rcases List.mem_append.1 hy with hy | hy
                    · exact HOK.out y hy
                    · rw [List.mem_singleton.1 hy, ← HDD.out]; exact hdr
                case measure => simp [intOf]; omega
      · go_wp2_with (go_at_call 112; refine (HD.out _).mono ?_; rintro e w' ⟨rfl, rfl⟩)
        have HNOT := Lib.hid (prs_not h2 h36 (by rw [HBR.out]; exact HNN.out) (by rw [HBR.out]; intro h; have := h c HCM.out; rw [← HDD.out] at this; exact hdr this))
        refine bodyPost_ret (v := .tuple #[.agg #[.bool false, .slice none 0 0], .int .i64 2]) (by simp [results, Try.results63, go_sem, cE, cF]) rfl ?_
        rw [HNOT.out]
        exact ⟨_, rfl, RefV.zero0 _, ((box1b HBL.out).setCell (Nat.le_refl _) _).setCell (Nat.le_refl _) _⟩
    · obtain rfl : k = m := by have := HK.out; rw [← HN.out] at this; omega
      obtain ⟨cE, cF, fE, fF, _⟩ := box2 HBL.out
      have hall : ∀ c ∈ s, dg c < r := by have := HOK.out; rw [HN.out, List.take_length] at this; exact this
      have HRES := Lib.hid (prs_ok h2 h36 (by rw [HBR.out]; exact HNN.out) (by rw [HBR.out]; exact hall))
      have HMD := rmade_any true u7 l wr HOI.out.rd HL.out
      have hv : vl 65536 l = pv r s := by rw [HVL.out, HN.out, List.take_length]
      rw [hv] at HMD
      have HMD := Lib.hid HMD
      clear hall hv
      go_wp2_with fail
      refine HMD.out.mono ?_
      rintro e w2 ⟨v2, rfl, ⟨ad2, n2, c2, rfl, hr2⟩, hb2⟩
      have HB2 := Lib.hid (HBL.out.trans (hb2.mono HBL.out.size))
      have HR2 := Lib.hid hr2
      rw [HNG.out, HBR.out] at HRES
      clear hb2 hr2 cE cF fE fF
      obtain ⟨cE, cF, fE, fF, _⟩ := box2 HB2.out
      obtain ⟨z, hz⟩ : ∃ z, z = sg true (pv r s) := ⟨_, rfl⟩
      rw [← hz]
      generalize hbz : decide (z < 0) = bz
      have HBZ := Lib.hid hbz
      have HZ := Lib.hid hz
      clear hbz hz
      go_wp2_with fail
      refine bodyPost_ret (v := .tuple #[.agg #[.bool bz, .slice ad2 n2 c2], .int .i64 0]) (by simp [results, Try.results63, go_sem, cE, cF]) rfl ?_
      rw [HRES.out]
      refine ⟨_, rfl, ⟨ad2, n2, c2, by rw [← HZ.out, HBZ.out], ?_⟩, ?_⟩
      · exact HR2.out.store2 cE cF (by intro n h; cases h) (by intro n h; cases h) _ _
      · exact ((box1b HB2.out).setCell (Nat.le_refl _) _).setCell (Nat.le_refl _) _

theorem rparse_plus_none (r : Nat) (w : World) (h2 : 2 ≤ r) (h36 : r ≤ 36) :
    Calls Try.prog 63 #[.string (bstr [43]), .int .i64 r] w (RefErr w 2) := by
  obtain ⟨t, ht⟩ : ∃ t, t = bstr [43] := ⟨_, rfl⟩
  rw [← ht]
  have htz : t.size = 1 := by rw [ht, bstr_size]; rfl
  obtain ⟨u, hu⟩ : ∃ u, u = bstr [] := ⟨_, rfl⟩
  have huz : u.size = 0 := by rw [hu, bstr_size]; rfl
  have hut : t.extract 1 1 = u := by
    have h1 := bstr_tail [43]
    rw [← ht, htz] at h1
    rw [h1, hu]
    rfl
  have h0t : 0 < t.size := by omega
  have hu0 : (t[0]'h0t).toNat = 43 := by
    have h1 := bstr_get [43] 0 (by rw [← ht]; exact h0t) (by simp)
    rw [List.getElem?_cons_zero, Option.getD_some] at h1
    rw [← h1]
    congr 1
    congr 1
  clear ht hu
  go_enter Try.func63, Try.ntmps63
  go_wp2
  refine bodyPost_ret (v := .tuple #[.agg #[.bool false, .slice none 0 0], .int .i64 2]) (by simp [results, Try.results63, go_sem]) rfl ⟨rfl, ?_⟩
  exact (Below.refl _ _).alloc (Nat.le_refl _) _

theorem rparse_minus_none (r : Nat) (w : World) (h2 : 2 ≤ r) (h36 : r ≤ 36) :
    Calls Try.prog 63 #[.string (bstr [45]), .int .i64 r] w (RefErr w 2) := by
  obtain ⟨t, ht⟩ : ∃ t, t = bstr [45] := ⟨_, rfl⟩
  rw [← ht]
  have htz : t.size = 1 := by rw [ht, bstr_size]; rfl
  obtain ⟨u, hu⟩ : ∃ u, u = bstr [] := ⟨_, rfl⟩
  have huz : u.size = 0 := by rw [hu, bstr_size]; rfl
  have hut : t.extract 1 1 = u := by
    have h1 := bstr_tail [45]
    rw [← ht, htz] at h1
    rw [h1, hu]
    rfl
  have h0t : 0 < t.size := by omega
  have hu0 : (t[0]'h0t).toNat = 45 := by
    have h1 := bstr_get [45] 0 (by rw [← ht]; exact h0t) (by simp)
    rw [List.getElem?_cons_zero, Option.getD_some] at h1
    rw [← h1]
    congr 1
    congr 1
  clear ht hu
  go_enter Try.func63, Try.ntmps63
  go_wp2
  refine bodyPost_ret (v := .tuple #[.agg #[.bool false, .slice none 0 0], .int .i64 2]) (by simp [results, Try.results63, go_sem]) rfl ⟨rfl, ?_⟩
  exact (Below.refl _ _).alloc (Nat.le_refl _) _

theorem rparse_bad (r : Int) (s : List Nat) (w : World) (h : r < 2 ∨ 36 < r) :
    Calls Try.prog 63 #[.string (bstr s), .int .i64 r] w (RefErr w 1) := by
  go_enter Try.func63, Try.ntmps63
  by_cases h1 : r < 2
  · go_wp2
    refine bodyPost_ret (v := .tuple #[.agg #[.bool false, .slice none 0 0], .int .i64 1]) (by simp [results, Try.results63, go_sem]) rfl ⟨rfl, ?_⟩
    exact (Below.refl _ _).alloc (Nat.le_refl _) _
  · have h2 : 36 < r := by omega
    go_wp2
    refine bodyPost_ret (v := .tuple #[.agg #[.bool false, .slice none 0 0], .int .i64 1]) (by simp [results, Try.results63, go_sem]) rfl ⟨rfl, ?_⟩
    exact (Below.refl _ _).alloc (Nat.le_refl _) _

theorem rparse_none (r : Nat) (w : World) (h2 : 2 ≤ r) (h36 : r ≤ 36) :
    Calls Try.prog 63 #[.string (bstr []), .int .i64 r] w (RefErr w 2) := by
  obtain ⟨t, ht⟩ : ∃ t, t = bstr [] := ⟨_, rfl⟩
  rw [← ht]
  have htz : t.size = 0 := by rw [ht, bstr_size]; rfl
  clear ht
  go_enter Try.func63, Try.ntmps63
  go_wp2
  refine bodyPost_ret (v := .tuple #[.agg #[.bool false, .slice none 0 0], .int .i64 2]) (by simp [results, Try.results63, go_sem]) rfl ⟨rfl, ?_⟩
  exact (Below.refl _ _).alloc (Nat.le_refl _) _

/-- Parse: every text of up to 20000 bytes, every radix. -/
theorem rParse_any (r : Int) (s : List Nat) (w : World) (hs : s.length ≤ 20000) (hb : ∀ c ∈ s, c < 256) :
    Calls Try.prog 63 #[.string (bstr s), .int .i64 r] w (RefRes w (prs r s).1 (prs r s).2) := by
  by_cases hr : r < 2 ∨ 36 < r
  · rw [prs_bad s hr]
    exact (rparse_bad r s w hr).mono fun _ _ h => h.res
  obtain ⟨n, rfl⟩ : ∃ n : Nat, r = n := ⟨r.toNat, by omega⟩
  have h2 : 2 ≤ n := by omega
  have h36 : n ≤ 36 := by omega
  cases s with
  | nil =>
    rw [prs_empty h2 h36 (by simp [bare])]
    exact (rparse_none n w h2 h36).mono fun _ _ h => h.res
  | cons x l =>
    have hbl : ∀ c ∈ l, c < 256 := fun c hc => hb c (List.mem_cons_of_mem _ hc)
    rw [List.length_cons] at hs
    by_cases h43 : x = 43
    · subst h43
      by_cases hl : l = []
      · subst hl
        rw [prs_empty h2 h36 (by simp [bare])]
        exact (rparse_plus_none n w h2 h36).mono fun _ _ h => h.res
      · exact rparse_plus n l w h2 h36 (by omega) hbl hl
    · by_cases h45 : x = 45
      · subst h45
        by_cases hl : l = []
        · subst hl
          rw [prs_empty h2 h36 (by simp [bare])]
          exact (rparse_minus_none n w h2 h36).mono fun _ _ h => h.res
        · exact rparse_minus n l w h2 h36 (by omega) hbl hl
      · exact rparse_plain n (x :: l) w h2 h36 hs hb x rfl h43 h45

end
end Go.Proofs.Ytgepnkdnenjogaa
