/- The digits of a text read as limbs (parseDigits), for every text of up to 20000 bytes and every radix. -/
import Derived.Test.YtiegkjfpdiohkaaGreatDg
import Derived.Test.YtiegkjfpdiohkaaGreatCmpInt
import Derived.Test.YtiegkjfpdiohkaaGreatPowers
namespace Go.Proofs.YtiegkjfpdiohkaaGreat
section
open Go.RowKit Digs

/-- The number that digits make, the greatest first. -/
def pv (r : Nat) (l : List Nat) : Nat := l.foldl (fun v c => v * r + dg c) 0
theorem pv_snoc (r : Nat) (l : List Nat) (c : Nat) : pv r (l ++ [c]) = pv r l * r + dg c := by unfold pv; rw [List.foldl_append]; rfl
theorem pv_from (r : Nat) (l : List Nat) (v : Nat) : l.foldl (fun v c => v * r + dg c) v = v * r ^ l.length + pv r l := by
  induction l generalizing v with
  | nil => simp [pv]
  | cons c l ih =>
    unfold pv
    rw [List.foldl_cons, List.foldl_cons, ih, ih (0 * r + dg c), List.length_cons, Nat.pow_succ, Nat.zero_mul, Nat.zero_add, Nat.add_mul, Nat.mul_assoc, Nat.mul_comm r, Nat.add_assoc]
theorem pv_append (r : Nat) (l m : List Nat) : pv r (l ++ m) = pv r l * r ^ m.length + pv r m := by
  rw [← pv_from]; unfold pv; rw [List.foldl_append]
theorem pv_lt (r : Nat) (l : List Nat) (h : ∀ c ∈ l, dg c < r) : pv r l < r ^ l.length := by
  induction l with
  | nil => simp [pv]
  | cons c l ih =>
    have h1 := pv_append r [c] l
    have h2 : pv r [c] = dg c := by simp [pv]
    have h3 := ih fun x hx => h x (List.mem_cons_of_mem _ hx)
    have h4 : (dg c + 1) * r ^ l.length ≤ r * r ^ l.length := Nat.mul_le_mul_right _ (h c (List.mem_cons_self ..))
    rw [List.singleton_append, h2] at h1
    rw [h1, List.length_cons, Nat.pow_succ, Nat.mul_comm (r ^ l.length) r]
    rw [Nat.add_mul, Nat.one_mul] at h4
    omega

theorem bstr_size (l : List Nat) : (bstr l).size = l.length := by simp [bstr, ByteArray.size]
theorem bstr_empty (l : List Nat) : (bstr l).toList.isEmpty = l.isEmpty := by
  unfold bstr
  rw [ByteArray.toList_mk]
  cases l <;> rfl
theorem bstr_get (l : List Nat) (i : Nat) (h : i < (bstr l).size) (hl : ∀ c ∈ l, c < 256) : ((bstr l)[i]'h).toNat = l[i]?.getD 0 := by
  have hi : i < l.length := by rw [← bstr_size]; exact h
  have hc := hl _ (List.getElem_mem hi)
  rw [List.getElem?_eq_getElem hi, Option.getD_some]
  have e : (bstr l)[i]'h = UInt8.ofNat l[i] := by
    have h1 : (bstr l)[i]'h = (l.map UInt8.ofNat)[i]'(by simpa using hi) := rfl
    rw [h1, List.getElem_map]
  rw [e]
  simp
  omega
theorem bstr_tail (l : List Nat) : (bstr l).extract 1 (bstr l).size = bstr (l.drop 1) := by
  apply ByteArray.ext
  apply Array.ext'
  rw [bstr_size]
  unfold bstr
  rw [ByteArray.extract_mk]
  simp
  exact List.take_of_length_le (by simp)

def ParsePost (r : Nat) (s : List Nat) (w : World) (e : Ending) (w' : World) : Prop :=
  Below w.heap.size w w' ∧
    (((∀ c ∈ s, dg c < r) ∧ ∃ v, e = .returned (.tuple #[v, .int .i64 0]) ∧ Rd .u32 w' v (digs 4294967296 (pv r s))) ∨
      ((¬ ∀ c ∈ s, dg c < r) ∧ e = .returned (.tuple #[.slice none 0 0, .int .i64 2])))

theorem pow_le_32 {r j c P : Nat} (hr : 1 ≤ r) (hP : P = r ^ c) (hPb : P < 4294967296) (hj : j ≤ c) : r ^ j < 4294967296 := by
  have := Nat.pow_le_pow_right hr hj
  omega

def ParseOut (r : Nat) (s : List Nat) (w : World) (sv lv : Value) (wr : World) : Prop :=
  ∃ k, k ≤ s.length ∧ sv = .string (bstr (s.drop k)) ∧ (∀ c ∈ s.take k, dg c < r) ∧ Rd .u32 wr lv (digs 4294967296 (pv r (s.take k))) ∧ Below w.heap.size w wr
def ParseIn (r q : Nat) (s : List Nat) (sv av qv iv : Value) : Prop :=
  ∃ j p P : Nat, j ≤ q ∧ sv = .string (bstr (s.drop j)) ∧ av = .int .u32 p ∧ qv = .int .u32 P ∧ iv = .int .i64 j ∧ p = pv r (s.take j) ∧ P = r ^ j ∧ (∀ c ∈ s.take j, dg c < r)

set_option maxHeartbeats 2000000 in
set_option maxRecDepth 100000 in
theorem parseDigits_any (r : Nat) (s : List Nat) (w : World) (h2 : 2 ≤ r) (h36 : r ≤ 36) (hs : s.length ≤ 20000) (hb : ∀ c ∈ s, c < 256) :
    Calls Tryz.prog 158 #[.string (bstr s), .int .i64 r] w (ParsePost r s w) := by
  have HB := Lib.hid hb
  clear hb
  have HG := Lib.hid (group_any r w h2 h36)
  go_enter Tryz.func158, Tryz.ntmps158
  go_wp2_with (go_at_call 154; refine HG.out.mono ?_; rintro e w' ⟨c, P0, rfl, hP, hPb, hc1, hc2, rfl⟩)
  have HP := Lib.hid hP
  clear hP HG
  go_loopw [0, 8] (ParseOut r s w) (fun sv _ _ => match sv with | .string t => t.size | _ => 0)
  case atStart => exact ⟨0, Nat.zero_le _, rfl, (by simp), .inl ⟨rfl, (digs_length_zero (by decide) _).2 rfl |> List.eq_nil_of_length_eq_zero⟩, Below.refl _ _⟩
  case round =>
    obtain ⟨k, hk, rfl, hok, hrd, hbl⟩ := hrel
    have HOK := Lib.hid hok
    have HRD := Lib.hid hrd
    have HBL := Lib.hid hbl
    obtain ⟨t, ht⟩ : ∃ t, t = bstr (s.drop k) := ⟨_, rfl⟩
    rw [← ht]
    have HT := Lib.hid ht
    clear ht hok hrd hbl
    by_cases hkl : k < s.length
    · have hne : t.toList.isEmpty = false := by rw [HT.out, bstr_empty, List.isEmpty_eq_false_iff]; intro h; have := List.drop_eq_nil_iff.1 h; omega
      obtain ⟨n, hn⟩ : ∃ n, n = s.length - k := ⟨_, rfl⟩
      have htz : t.size = n := by rw [HT.out, bstr_size, List.length_drop, hn]
      obtain ⟨q, hq⟩ : ∃ q, q = min c n := ⟨_, rfl⟩
      have hmin : min (c : Int) (n : Int) = (q : Int) := by omega
      have hqc : q ≤ c := by omega
      have hqn : q ≤ n := by omega
      have hq1 : 0 < q := by omega
      have hn2 : n ≤ 20000 := by omega
      have HN := Lib.hid hn
      clear hq hn
      go_wp2
      go_loop [0, 9, 10, 23] (ParseIn r q (s.drop k)) (fun _ _ _ i => q - (intOf i).toNat)
      case atStart => exact ⟨0, 0, 1, Nat.zero_le _, by rw [HT.out]; rfl, rfl, rfl, rfl, rfl, rfl, by simp⟩
      case round =>
        obtain ⟨j, p, P, hj, rfl, rfl, rfl, rfl, hp, hPP, hjok⟩ := hrel
        have HJ := Lib.hid hjok
        have hplt : p < r ^ j := by
          rw [hp]
          have h1 := pv_lt r _ hjok
          rw [List.length_take, List.length_drop, Nat.min_eq_left (by have := HN.out; omega)] at h1
          exact h1
        have HPL := Lib.hid hplt
        have HPE := Lib.hid hp
        have HPP := Lib.hid hPP
        clear hp hPP hjok hplt
        obtain ⟨u, hu⟩ : ∃ u, u = bstr ((s.drop k).drop j) := ⟨_, rfl⟩
        rw [← hu]
        have HU := Lib.hid hu
        clear hu
        by_cases hjq : j < q
        · obtain ⟨m, hm⟩ : ∃ m, m = n - j := ⟨_, rfl⟩
          have huz : u.size = m := by rw [HU.out, bstr_size, List.length_drop, List.length_drop, hm, HN.out]
          have hm0 : 0 < m := by omega
          have hmb : m ≤ 20000 := by omega
          clear hm
          have hjl : k + j < s.length := by have := HN.out; omega
          obtain ⟨x, hx⟩ : ∃ x, x = s[k + j]?.getD 0 := ⟨_, rfl⟩
          have hxm : x ∈ s := by rw [hx, List.getElem?_eq_getElem hjl]; exact List.getElem_mem hjl
          have hxb : x < 256 := HB.out x hxm
          have hu0 : (u[0]'(by omega)).toNat = x := by
            have h1 := bstr_get ((s.drop k).drop j) 0 (by rw [← HU.out]; omega) (fun c hc => HB.out c (List.mem_of_mem_drop (List.mem_of_mem_drop hc)))
            rw [List.getElem?_drop, List.getElem?_drop, Nat.add_zero, ← hx] at h1
            rw [← h1]
            congr 1
            congr 1
          have HX := Lib.hid hx
          have HXM := Lib.hid hxm
          clear hx hxm
          have HD := Lib.hid (digitValue_any x hxb)
          obtain ⟨d, hd⟩ : ∃ d, d = dg x := ⟨_, rfl⟩
          have hd36 : d ≤ 36 := by rw [hd]; exact dg_le x
          have HDD := Lib.hid hd
          rw [← hd] at HD
          clear hd
          by_cases hdr : d < r
          · have hpr : p * r + d < 4294967296 := by
              have h1 : (p + 1) * r ≤ r ^ j * r := Nat.mul_le_mul_right r HPL.out
              have h3 := pow_le_32 (r := r) (j := j + 1) (by omega) HP.out hPb (by omega)
              rw [Nat.add_mul, Nat.one_mul] at h1
              rw [Nat.pow_succ] at h3
              omega
            have hPr : P * r < 4294967296 := by
              have h3 := pow_le_32 (r := r) (j := j + 1) (by omega) HP.out hPb (by omega)
              rw [HPP.out, ← Nat.pow_succ]
              exact h3
            have HPR := Lib.hid hpr
            have HPR2 := Lib.hid hPr
            clear hpr hPr
            go_wp2_with (go_at_call 175; refine (HD.out _).mono ?_; rintro e w' ⟨rfl, rfl⟩)
            go_round
            case rel =>
              have e1 : ((p : Int) * (r : Int)) = ((p * r : Nat) : Int) := (Int.natCast_mul ..).symm
              have e2 : ((P : Int) * (r : Int)) = ((P * r : Nat) : Int) := (Int.natCast_mul ..).symm
              rw [e1, e2]
              have htk : (s.drop k).take (j + 1) = (s.drop k).take j ++ [x] := by
                rw [List.take_add_one, List.getElem?_drop, HX.out, List.getElem?_eq_getElem hjl]
                rfl
              refine ⟨j + 1, p * r + d, P * r, by omega, ?_, ?_, ?_, by go_num, ?_, ?_, ?_⟩
              · have h1 := bstr_tail ((s.drop k).drop j)
                have e3 : ((s.drop k).drop j).drop 1 = (s.drop k).drop (j + 1) := List.drop_drop
                rw [← HU.out, e3] at h1
                have e4 := congrArg Value.string h1
                rw [huz] at e4
                exact e4
              · refine congrArg (Value.int .u32) ?_
                have := HPR.out
                omega
              · refine congrArg (Value.int .u32) ?_
                have := HPR2.out
                omega
              · rw [htk, pv_snoc, ← HPE.out, HDD.out]
              · rw [HPP.out, Nat.pow_succ]
              · rw [htk]
                intro y hy
                rcases List.mem_append.1 hy with hy | hy
                · exact HJ.out y hy
                · rw [List.mem_singleton.1 hy, ← HDD.out]; exact hdr
            case measure => simp only [intOf]; omega
          · go_wp2_with (go_at_call 175; refine (HD.out _).mono ?_; rintro e w' ⟨rfl, rfl⟩)
            go_ret2
            refine ⟨HBL.out, .inr ⟨fun h => ?_, rfl⟩⟩
            have := h x HXM.out
            rw [← HDD.out] at this
            exact hdr this
        · obtain rfl : j = q := by omega
          have hP32 : P < 4294967296 := by rw [HPP.out]; exact pow_le_32 (by omega) HP.out hPb hqc
          have hp32 : p < 4294967296 := Nat.lt_trans HPL.out (by rw [← HPP.out]; exact hP32)
          have hkn : (digs 4294967296 (pv r (s.take k))).length ≤ 1000000 := by
            refine Nat.le_trans (digs_length_le (b := 4294967296) (by decide) (pv r (s.take k)) k ?_) (by omega)
            have h1 := pv_lt r _ HOK.out
            rw [List.length_take, Nat.min_eq_left hk] at h1
            exact Nat.lt_of_lt_of_le h1 (Nat.pow_le_pow_left (by omega) k)
          have HSC := Lib.hid (scale_any (pv r (s.take k)) P p u8 wr hP32 hp32 hkn HRD.out)
          have hlen : ((s.drop k).take j).length = j := by rw [List.length_take, List.length_drop, ← HN.out, Nat.min_eq_left hqn]
          have HLEN := Lib.hid hlen
          have huz : u.size = n - j := by rw [HU.out, bstr_size, List.length_drop, List.length_drop, HN.out]
          have HUZ := Lib.hid huz
          clear hkn hlen huz
          go_wp2_with (go_at_call 176; refine HSC.out.mono ?_; rintro e w1 ⟨v1, rfl, ho1, hb1⟩)
          go_roundw
          case rel =>
            have hta : s.take (k + j) = s.take k ++ (s.drop k).take j := List.take_add
            refine ⟨k + j, by have := HN.out; omega, ?_, ?_, ?_, HBL.out.trans (hb1.mono HBL.out.size)⟩
            · rw [HU.out, List.drop_drop]
            · rw [hta]
              intro y hy
              rcases List.mem_append.1 hy with hy | hy
              · exact HOK.out y hy
              · exact HJ.out y hy
            · rw [hta, pv_append, HLEN.out, ← HPP.out, ← HPE.out]
              exact ho1.rd
          case measure =>
            have := HUZ.out
            show u.size < t.size
            omega
    · obtain rfl : k = s.length := by omega
      have hne : t.toList.isEmpty = true := by rw [HT.out, bstr_empty, List.drop_length]; rfl
      go_wp2
      go_ret2
      refine ⟨HBL.out, .inl ⟨?_, _, rfl, ?_⟩⟩
      · have := HOK.out
        rw [List.take_length] at this
        exact this
      · have := HRD.out
        rw [List.take_length] at this
        exact this

end
end Go.Proofs.YtiegkjfpdiohkaaGreat

namespace Go.Proofs.YtiegkjfpdiohkaaGreat
section
open Go.RowKit Digs

/-- A text's sign, and what stands behind it. -/
def ngS (s : List Nat) : Bool := s.head? == some 45
def bare (s : List Nat) : List Nat := if s.head? = some 43 ∨ s.head? = some 45 then s.drop 1 else s
/-- What a text is read as in a radix: a number and a code. -/
def prs (r : Int) (s : List Nat) : Int × Int :=
  if r < 2 ∨ 36 < r then (0, 1) else if bare s = [] then (0, 2) else if ∀ c ∈ bare s, dg c < r.toNat then (sg (ngS s) (pv r.toNat (bare s)), 0) else (0, 2)

theorem prs_bad {r : Int} (s : List Nat) (h : r < 2 ∨ 36 < r) : prs r s = (0, 1) := by unfold prs; rw [if_pos h]
theorem prs_empty {r : Nat} {s : List Nat} (h2 : 2 ≤ r) (h36 : r ≤ 36) (h : bare s = []) : prs r s = (0, 2) := by
  unfold prs; rw [if_neg (by omega), if_pos h]
theorem prs_ok {r : Nat} {s : List Nat} (h2 : 2 ≤ r) (h36 : r ≤ 36) (h : bare s ≠ []) (ha : ∀ c ∈ bare s, dg c < r) : prs r s = (sg (ngS s) (pv r (bare s)), 0) := by
  unfold prs; rw [if_neg (by omega), if_neg h, Int.toNat_natCast, if_pos ha]
theorem prs_not {r : Nat} {s : List Nat} (h2 : 2 ≤ r) (h36 : r ≤ 36) (h : bare s ≠ []) (ha : ¬ ∀ c ∈ bare s, dg c < r) : prs r s = (0, 2) := by
  unfold prs; rw [if_neg (by omega), if_neg h, Int.toNat_natCast, if_neg ha]

theorem parse_bad (r : Int) (s : List Nat) (w : World) (h : r < 2 ∨ 36 < r) :
    Calls Tryz.prog 114 #[.string (bstr s), .int .i64 r] w (IntErr w 1) := by
  go_enter Tryz.func114, Tryz.ntmps114
  by_cases h1 : r < 2
  · go_wp2
    refine bodyPost_ret (v := .tuple #[.agg #[.bool false, .slice none 0 0], .int .i64 1]) (by simp [results, Tryz.results114, go_sem]) rfl ⟨rfl, ?_⟩
    exact (Below.refl _ _).alloc (Nat.le_refl _) _
  · have h2 : 36 < r := by omega
    go_wp2
    refine bodyPost_ret (v := .tuple #[.agg #[.bool false, .slice none 0 0], .int .i64 1]) (by simp [results, Tryz.results114, go_sem]) rfl ⟨rfl, ?_⟩
    exact (Below.refl _ _).alloc (Nat.le_refl _) _

theorem parse_plain (r : Nat) (s : List Nat) (w : World) (h2 : 2 ≤ r) (h36 : r ≤ 36) (hs : s.length ≤ 20000) (hb : ∀ c ∈ s, c < 256) (x : Nat) (hx : s.head? = some x) (hx1 : x ≠ 43) (hx2 : x ≠ 45) :
    Calls Tryz.prog 114 #[.string (bstr s), .int .i64 r] w (IntRes w (prs r s).1 (prs r s).2) := by
  have HPD := Lib.hid (fun W => Lib.hid (parseDigits_any r s W h2 h36 hs hb))
  obtain ⟨t, ht⟩ : ∃ t, t = bstr s := ⟨_, rfl⟩
  rw [← ht] at HPD ⊢
  obtain ⟨n, hn⟩ : ∃ n, n = s.length := ⟨_, rfl⟩
  have htz : t.size = n := by rw [ht, bstr_size, hn]
  have hn0 : 0 < n := by rw [hn]; cases s with | nil => cases hx | cons a l => simp
  have hn2 : n ≤ 20000 := by omega
  have hne : t.toList.isEmpty = false := by rw [ht, bstr_empty]; cases s with | nil => cases hx | cons a l => rfl
  have h0t : 0 < t.size := by omega
  have hu0 : (t[0]'h0t).toNat = x := by
    have h1 := bstr_get s 0 (by rw [← ht]; omega) hb
    rw [← List.head?_eq_getElem?, hx, Option.getD_some] at h1
    rw [← h1]
    congr 1
    congr 1
  have hx1' : ((x : Int) == 43) = false := by rw [beq_eq_false_iff_ne]; omega
  have hx2' : ((x : Int) == 45) = false := by rw [beq_eq_false_iff_ne]; omega
  have HS := Lib.hid hs
  have HB := Lib.hid hb
  have HX := Lib.hid hx
  have HBR : Hid (bare s = s) := Lib.hid (by unfold bare; rw [hx, if_neg (by simp; omega)])
  have HNG : Hid (ngS s = false) := Lib.hid (by unfold ngS; rw [hx]; simp; omega)
  have HNN : Hid (s ≠ []) := Lib.hid (by intro h; rw [h] at hx; cases hx)
  clear hn ht hs hb hx hx1 hx2
  go_enter Tryz.func114, Tryz.ntmps114
  go_wp2_with fail
  refine (HPD.out _).out.mono ?_
  rintro e w1 ⟨hb1, ⟨hall, v, rfl, hrd⟩ | ⟨hnot, rfl⟩⟩
  · have HOWN := own_any false v _ w1 hrd (digs_lt (by decide) _)
    rw [vl_digs (by decide)] at HOWN
    have hres := prs_ok h2 h36 (by rw [HBR.out]; exact HNN.out) (by rw [HBR.out]; exact hall)
    rw [HBR.out, HNG.out] at hres
    have HRES := Lib.hid hres
    obtain ⟨z, hz⟩ : ∃ z, z = sg false (pv r s) := ⟨_, rfl⟩
    rw [← hz] at HOWN
    have HZ := Lib.hid hz
    have HOWN := Lib.hid HOWN
    have HB1 := Lib.hid hb1
    clear hall hrd hres hz hb1
    go_wp2_with fail
    refine HOWN.out.mono ?_
    rintro e w2 ⟨v2, rfl, ⟨ad2, n2, c2, rfl, hr2⟩, hb2⟩
    have HB2 := Lib.hid (HB1.out.trans (hb2.mono HB1.out.size))
    have HR2 := Lib.hid hr2
    clear hb2 hr2
    obtain ⟨cE, cF, fE, fF, _⟩ := box2 HB2.out
    generalize hbz : decide (z < 0) = bz
    have HBZ := Lib.hid hbz
    clear hbz
    go_wp2_with fail
    refine bodyPost_ret (v := .tuple #[.agg #[.bool bz, .slice ad2 n2 c2], .int .i64 0]) (by simp [results, Tryz.results114, go_sem, cE, cF]) rfl ?_
    rw [HRES.out]
    refine ⟨_, rfl, ⟨ad2, n2, c2, by rw [← HZ.out, HBZ.out], ?_⟩, ?_⟩
    · rw [← HZ.out]
      exact HR2.out.store2 cE cF (by intro n h; cases h) (by intro n h; cases h) _ _
    · exact ((box1b HB2.out).setCell (Nat.le_refl _) _).setCell (Nat.le_refl _) _
  · have HRES := Lib.hid (prs_not h2 h36 (by rw [HBR.out]; exact HNN.out) (by rw [HBR.out]; exact hnot))
    have HB1 := Lib.hid hb1
    obtain ⟨cE, cF, fE, fF, _⟩ := box2 hb1
    clear hnot hb1
    go_wp2_with fail
    refine bodyPost_ret (v := .tuple #[.agg #[.bool false, .slice none 0 0], .int .i64 2]) (by simp [results, Tryz.results114, go_sem, cE, cF]) rfl ?_
    rw [HRES.out]
    exact ⟨_, rfl, IntV.zero _ false 0 rfl, ((box1b HB1.out).setCell (Nat.le_refl _) _).setCell (Nat.le_refl _) _⟩

theorem parse_plus (r : Nat) (l : List Nat) (w : World) (h2 : 2 ≤ r) (h36 : r ≤ 36) (hs : l.length ≤ 19999) (hb : ∀ c ∈ l, c < 256) (hl : l ≠ []) :
    Calls Tryz.prog 114 #[.string (bstr (43 :: l)), .int .i64 r] w (IntRes w (prs r (43 :: l)).1 (prs r (43 :: l)).2) := by
  have HPD := Lib.hid (fun W => Lib.hid (parseDigits_any r l W h2 h36 (by omega) hb))
  obtain ⟨t, ht⟩ : ∃ t, t = bstr (43 :: l) := ⟨_, rfl⟩
  rw [← ht]
  obtain ⟨u, hu⟩ : ∃ u, u = bstr l := ⟨_, rfl⟩
  rw [← hu] at HPD
  obtain ⟨n, hn⟩ : ∃ n, n = l.length + 1 := ⟨_, rfl⟩
  have htz : t.size = n := by rw [ht, bstr_size, hn]; rfl
  have hut : t.extract 1 n = u := by
    have h1 := bstr_tail (43 :: l)
    rw [← ht, htz] at h1
    rw [h1, hu]
    rfl
  have hn0 : 1 ≤ n := by omega
  have hn2 : n ≤ 20000 := by omega
  have hne : t.toList.isEmpty = false := by rw [ht, bstr_empty]; rfl
  have hune : u.toList.isEmpty = false := by rw [hu, bstr_empty, List.isEmpty_eq_false_iff]; exact hl
  have h0t : 0 < t.size := by omega
  have hu0 : (t[0]'h0t).toNat = 43 := by
    have h1 := bstr_get (43 :: l) 0 (by rw [← ht]; exact h0t) (fun c hc => (List.mem_cons.1 hc).elim (fun h => by rw [h]; decide) (hb c))
    rw [List.getElem?_cons_zero, Option.getD_some] at h1
    rw [← h1]
    congr 1
    congr 1
  have HBR : Hid (bare (43 :: l) = l) := Lib.hid (by unfold bare; rw [if_pos (by simp)]; rfl)
  have HNG : Hid (ngS (43 :: l) = false) := Lib.hid rfl
  have HNN : Hid (l ≠ []) := Lib.hid hl
  clear hn hu ht hs hb hl
  go_enter Tryz.func114, Tryz.ntmps114
  go_wp2_with fail
  refine (HPD.out _).out.mono ?_
  rintro e w1 ⟨hb1, ⟨hall, v, rfl, hrd⟩ | ⟨hnot, rfl⟩⟩
  · have HOWN := own_any false v _ w1 hrd (digs_lt (by decide) _)
    rw [vl_digs (by decide)] at HOWN
    have hres := prs_ok h2 h36 (by rw [HBR.out]; exact HNN.out) (by rw [HBR.out]; exact hall)
    rw [HBR.out, HNG.out] at hres
    have HRES := Lib.hid hres
    obtain ⟨z, hz⟩ : ∃ z, z = sg false (pv r l) := ⟨_, rfl⟩
    rw [← hz] at HOWN
    have HZ := Lib.hid hz
    have HOWN := Lib.hid HOWN
    have HB1 := Lib.hid hb1
    clear hall hrd hres hz hb1
    go_wp2_with fail
    refine HOWN.out.mono ?_
    rintro e w2 ⟨v2, rfl, ⟨ad2, n2, c2, rfl, hr2⟩, hb2⟩
    have HB2 := Lib.hid (HB1.out.trans (hb2.mono HB1.out.size))
    have HR2 := Lib.hid hr2
    clear hb2 hr2
    obtain ⟨cE, cF, fE, fF, _⟩ := box2 HB2.out
    generalize hbz : decide (z < 0) = bz
    have HBZ := Lib.hid hbz
    clear hbz
    go_wp2_with fail
    refine bodyPost_ret (v := .tuple #[.agg #[.bool bz, .slice ad2 n2 c2], .int .i64 0]) (by simp [results, Tryz.results114, go_sem, cE, cF]) rfl ?_
    rw [HRES.out]
    refine ⟨_, rfl, ⟨ad2, n2, c2, by rw [← HZ.out, HBZ.out], ?_⟩, ?_⟩
    · rw [← HZ.out]
      exact HR2.out.store2 cE cF (by intro n h; cases h) (by intro n h; cases h) _ _
    · exact ((box1b HB2.out).setCell (Nat.le_refl _) _).setCell (Nat.le_refl _) _
  · have HRES := Lib.hid (prs_not h2 h36 (by rw [HBR.out]; exact HNN.out) (by rw [HBR.out]; exact hnot))
    have HB1 := Lib.hid hb1
    obtain ⟨cE, cF, fE, fF, _⟩ := box2 hb1
    clear hnot hb1
    go_wp2_with fail
    refine bodyPost_ret (v := .tuple #[.agg #[.bool false, .slice none 0 0], .int .i64 2]) (by simp [results, Tryz.results114, go_sem, cE, cF]) rfl ?_
    rw [HRES.out]
    exact ⟨_, rfl, IntV.zero _ false 0 rfl, ((box1b HB1.out).setCell (Nat.le_refl _) _).setCell (Nat.le_refl _) _⟩

theorem parse_minus (r : Nat) (l : List Nat) (w : World) (h2 : 2 ≤ r) (h36 : r ≤ 36) (hs : l.length ≤ 19999) (hb : ∀ c ∈ l, c < 256) (hl : l ≠ []) :
    Calls Tryz.prog 114 #[.string (bstr (45 :: l)), .int .i64 r] w (IntRes w (prs r (45 :: l)).1 (prs r (45 :: l)).2) := by
  have HPD := Lib.hid (fun W => Lib.hid (parseDigits_any r l W h2 h36 (by omega) hb))
  obtain ⟨t, ht⟩ : ∃ t, t = bstr (45 :: l) := ⟨_, rfl⟩
  rw [← ht]
  obtain ⟨u, hu⟩ : ∃ u, u = bstr l := ⟨_, rfl⟩
  rw [← hu] at HPD
  obtain ⟨n, hn⟩ : ∃ n, n = l.length + 1 := ⟨_, rfl⟩
  have htz : t.size = n := by rw [ht, bstr_size, hn]; rfl
  have hut : t.extract 1 n = u := by
    have h1 := bstr_tail (45 :: l)
    rw [← ht, htz] at h1
    rw [h1, hu]
    rfl
  have hn0 : 1 ≤ n := by omega
  have hn2 : n ≤ 20000 := by omega
  have hne : t.toList.isEmpty = false := by rw [ht, bstr_empty]; rfl
  have hune : u.toList.isEmpty = false := by rw [hu, bstr_empty, List.isEmpty_eq_false_iff]; exact hl
  have h0t : 0 < t.size := by omega
  have hu0 : (t[0]'h0t).toNat = 45 := by
    have h1 := bstr_get (45 :: l) 0 (by rw [← ht]; exact h0t) (fun c hc => (List.mem_cons.1 hc).elim (fun h => by rw [h]; decide) (hb c))
    rw [List.getElem?_cons_zero, Option.getD_some] at h1
    rw [← h1]
    congr 1
    congr 1
  have HBR : Hid (bare (45 :: l) = l) := Lib.hid (by unfold bare; rw [if_pos (by simp)]; rfl)
  have HNG : Hid (ngS (45 :: l) = true) := Lib.hid rfl
  have HNN : Hid (l ≠ []) := Lib.hid hl
  clear hn hu ht hs hb hl
  go_enter Tryz.func114, Tryz.ntmps114
  go_wp2_with fail
  refine (HPD.out _).out.mono ?_
  rintro e w1 ⟨hb1, ⟨hall, v, rfl, hrd⟩ | ⟨hnot, rfl⟩⟩
  · have HOWN := own_any true v _ w1 hrd (digs_lt (by decide) _)
    rw [vl_digs (by decide)] at HOWN
    have hres := prs_ok h2 h36 (by rw [HBR.out]; exact HNN.out) (by rw [HBR.out]; exact hall)
    rw [HBR.out, HNG.out] at hres
    have HRES := Lib.hid hres
    obtain ⟨z, hz⟩ : ∃ z, z = sg true (pv r l) := ⟨_, rfl⟩
    rw [← hz] at HOWN
    have HZ := Lib.hid hz
    have HOWN := Lib.hid HOWN
    have HB1 := Lib.hid hb1
    clear hall hrd hres hz hb1
    go_wp2_with fail
    refine HOWN.out.mono ?_
    rintro e w2 ⟨v2, rfl, ⟨ad2, n2, c2, rfl, hr2⟩, hb2⟩
    have HB2 := Lib.hid (HB1.out.trans (hb2.mono HB1.out.size))
    have HR2 := Lib.hid hr2
    clear hb2 hr2
    obtain ⟨cE, cF, fE, fF, _⟩ := box2 HB2.out
    generalize hbz : decide (z < 0) = bz
    have HBZ := Lib.hid hbz
    clear hbz
    go_wp2_with fail
    refine bodyPost_ret (v := .tuple #[.agg #[.bool bz, .slice ad2 n2 c2], .int .i64 0]) (by simp [results, Tryz.results114, go_sem, cE, cF]) rfl ?_
    rw [HRES.out]
    refine ⟨_, rfl, ⟨ad2, n2, c2, by rw [← HZ.out, HBZ.out], ?_⟩, ?_⟩
    · rw [← HZ.out]
      exact HR2.out.store2 cE cF (by intro n h; cases h) (by intro n h; cases h) _ _
    · exact ((box1b HB2.out).setCell (Nat.le_refl _) _).setCell (Nat.le_refl _) _
  · have HRES := Lib.hid (prs_not h2 h36 (by rw [HBR.out]; exact HNN.out) (by rw [HBR.out]; exact hnot))
    have HB1 := Lib.hid hb1
    obtain ⟨cE, cF, fE, fF, _⟩ := box2 hb1
    clear hnot hb1
    go_wp2_with fail
    refine bodyPost_ret (v := .tuple #[.agg #[.bool false, .slice none 0 0], .int .i64 2]) (by simp [results, Tryz.results114, go_sem, cE, cF]) rfl ?_
    rw [HRES.out]
    exact ⟨_, rfl, IntV.zero _ false 0 rfl, ((box1b HB1.out).setCell (Nat.le_refl _) _).setCell (Nat.le_refl _) _⟩

theorem parse_plus_none (r : Nat) (w : World) (h2 : 2 ≤ r) (h36 : r ≤ 36) :
    Calls Tryz.prog 114 #[.string (bstr [43]), .int .i64 r] w (IntErr w 2) := by
  obtain ⟨t, ht⟩ : ∃ t, t = bstr [43] := ⟨_, rfl⟩
  rw [← ht]
  have htz : t.size = 1 := by rw [ht, bstr_size]; rfl
  obtain ⟨u, hu⟩ : ∃ u, u = bstr [] := ⟨_, rfl⟩
  have hut : t.extract 1 1 = u := by
    have h1 := bstr_tail [43]
    rw [← ht, htz] at h1
    rw [h1, hu]
    rfl
  have hne : t.toList.isEmpty = false := by rw [ht, bstr_empty]; rfl
  have hune : u.toList.isEmpty = true := by rw [hu, bstr_empty]; rfl
  have h0t : 0 < t.size := by omega
  have hu0 : (t[0]'h0t).toNat = 43 := by
    have h1 := bstr_get [43] 0 (by rw [← ht]; exact h0t) (by simp)
    rw [List.getElem?_cons_zero, Option.getD_some] at h1
    rw [← h1]
    congr 1
    congr 1
  clear ht hu
  go_enter Tryz.func114, Tryz.ntmps114
  go_wp2
  refine bodyPost_ret (v := .tuple #[.agg #[.bool false, .slice none 0 0], .int .i64 2]) (by simp [results, Tryz.results114, go_sem]) rfl ⟨rfl, ?_⟩
  exact (Below.refl _ _).alloc (Nat.le_refl _) _

theorem parse_minus_none (r : Nat) (w : World) (h2 : 2 ≤ r) (h36 : r ≤ 36) :
    Calls Tryz.prog 114 #[.string (bstr [45]), .int .i64 r] w (IntErr w 2) := by
  obtain ⟨t, ht⟩ : ∃ t, t = bstr [45] := ⟨_, rfl⟩
  rw [← ht]
  have htz : t.size = 1 := by rw [ht, bstr_size]; rfl
  obtain ⟨u, hu⟩ : ∃ u, u = bstr [] := ⟨_, rfl⟩
  have hut : t.extract 1 1 = u := by
    have h1 := bstr_tail [45]
    rw [← ht, htz] at h1
    rw [h1, hu]
    rfl
  have hne : t.toList.isEmpty = false := by rw [ht, bstr_empty]; rfl
  have hune : u.toList.isEmpty = true := by rw [hu, bstr_empty]; rfl
  have h0t : 0 < t.size := by omega
  have hu0 : (t[0]'h0t).toNat = 45 := by
    have h1 := bstr_get [45] 0 (by rw [← ht]; exact h0t) (by simp)
    rw [List.getElem?_cons_zero, Option.getD_some] at h1
    rw [← h1]
    congr 1
    congr 1
  clear ht hu
  go_enter Tryz.func114, Tryz.ntmps114
  go_wp2
  refine bodyPost_ret (v := .tuple #[.agg #[.bool false, .slice none 0 0], .int .i64 2]) (by simp [results, Tryz.results114, go_sem]) rfl ⟨rfl, ?_⟩
  exact (Below.refl _ _).alloc (Nat.le_refl _) _

theorem parse_none (r : Nat) (w : World) (h2 : 2 ≤ r) (h36 : r ≤ 36) :
    Calls Tryz.prog 114 #[.string (bstr []), .int .i64 r] w (IntErr w 2) := by
  obtain ⟨t, ht⟩ : ∃ t, t = bstr [] := ⟨_, rfl⟩
  rw [← ht]
  have htz : t.size = 0 := by rw [ht, bstr_size]; rfl
  have hne : t.toList.isEmpty = true := by rw [ht, bstr_empty]; rfl
  clear ht
  go_enter Tryz.func114, Tryz.ntmps114
  go_wp2
  refine bodyPost_ret (v := .tuple #[.agg #[.bool false, .slice none 0 0], .int .i64 2]) (by simp [results, Tryz.results114, go_sem]) rfl ⟨rfl, ?_⟩
  exact (Below.refl _ _).alloc (Nat.le_refl _) _

/-- Parse: every text of up to 20000 bytes, every radix. -/
theorem parse_any (r : Int) (s : List Nat) (w : World) (hs : s.length ≤ 20000) (hb : ∀ c ∈ s, c < 256) :
    Calls Tryz.prog 114 #[.string (bstr s), .int .i64 r] w (IntRes w (prs r s).1 (prs r s).2) := by
  by_cases hr : r < 2 ∨ 36 < r
  · rw [prs_bad s hr]
    exact (parse_bad r s w hr).mono fun _ _ h => h.res
  obtain ⟨n, rfl⟩ : ∃ n : Nat, r = n := ⟨r.toNat, by omega⟩
  have h2 : 2 ≤ n := by omega
  have h36 : n ≤ 36 := by omega
  cases s with
  | nil =>
    rw [prs_empty h2 h36 (by simp [bare])]
    exact (parse_none n w h2 h36).mono fun _ _ h => h.res
  | cons x l =>
    have hbl : ∀ c ∈ l, c < 256 := fun c hc => hb c (List.mem_cons_of_mem _ hc)
    rw [List.length_cons] at hs
    by_cases h43 : x = 43
    · subst h43
      by_cases hl : l = []
      · subst hl
        rw [prs_empty h2 h36 (by simp [bare])]
        exact (parse_plus_none n w h2 h36).mono fun _ _ h => h.res
      · exact parse_plus n l w h2 h36 (by omega) hbl hl
    · by_cases h45 : x = 45
      · subst h45
        by_cases hl : l = []
        · subst hl
          rw [prs_empty h2 h36 (by simp [bare])]
          exact (parse_minus_none n w h2 h36).mono fun _ _ h => h.res
        · exact parse_minus n l w h2 h36 (by omega) hbl hl
      · exact parse_plain n (x :: l) w h2 h36 hs hb x rfl h43 h45

end
end Go.Proofs.YtiegkjfpdiohkaaGreat

namespace Go.Proofs.YtiegkjfpdiohkaaGreat
section
open Go.RowKit Digs

def TextRes (w : World) (s : List Nat) (c : Int) (e : Ending) (w' : World) : Prop := e = .returned (.tuple #[.string (bstr s), .int .i64 c]) ∧ Below w.heap.size w w'
/-- A number's text in a radix, and a code. -/
def txt (r : Int) (z : Int) : List Nat × Int := if r < 2 ∨ 36 < r then ([], 1) else if z = 0 then ([48], 0) else (textB (decide (z < 0)) r.toNat z.natAbs, 0)

theorem text_bad (r z : Int) (v : Value) (w : World) (h : r < 2 ∨ 36 < r) (hv : IntV w v z) :
    Calls Tryz.prog 111 #[v, .int .i64 r] w (TextRes w [] 1) := by
  obtain ⟨ad, n, c, rfl, _⟩ := hv
  generalize decide (z < 0) = b
  go_enter Tryz.func111, Tryz.ntmps111
  by_cases h1 : r < 2
  · go_wp2
    go_ret2
    exact ⟨rfl, (Below.refl _ _).alloc (Nat.le_refl _) _⟩
  · have h2 : 36 < r := by omega
    go_wp2
    go_ret2
    exact ⟨rfl, (Below.refl _ _).alloc (Nat.le_refl _) _⟩

theorem text_zero (r : Nat) (v : Value) (w : World) (h2 : 2 ≤ r) (h36 : r ≤ 36) (hv : IntV w v 0) :
    Calls Tryz.prog 111 #[v, .int .i64 r] w (TextRes w [48] 0) := by
  have HSG := Lib.hid (fun W hw => Lib.hid (sign_any 0 v W (by unfold len; rw [Int.natAbs_zero, digs_zero]; decide) (hv.keep (w' := W) hw)))
  have hs0 : sgnZ 0 = 0 := rfl
  rw [hs0] at HSG
  clear hs0
  obtain ⟨ad, n, c, rfl, _⟩ := hv
  go_enter Tryz.func111, Tryz.ntmps111
  go_wp2_with fail
  refine (HSG.out _ ((Below.refl _ _).alloc (Nat.le_refl _) _)).out.mono ?_
  rintro e w1 ⟨rfl, hb1⟩
  have HB := Lib.hid (box1b hb1)
  clear hb1
  go_wp2
  go_ret2
  exact ⟨rfl, HB.out⟩

/-- Text: every number, every radix. -/
theorem Text_all (r : Int) (z : Int) (v : Value) (w : World) (hl : len z ≤ 1000000) (h : IntV w v z) :
    Calls Tryz.prog 111 #[v, .int .i64 r] w (TextRes w (txt r z).1 (txt r z).2) := by
  unfold txt
  by_cases hr : r < 2 ∨ 36 < r
  · rw [if_pos hr]
    exact text_bad r z v w hr h
  rw [if_neg hr]
  obtain ⟨n, rfl⟩ : ∃ n : Nat, r = n := ⟨r.toNat, by omega⟩
  have h2 : 2 ≤ n := by omega
  have h36 : n ≤ 36 := by omega
  by_cases hz : z = 0
  · rw [if_pos hz]
    subst hz
    exact text_zero n v w h2 h36 h
  · rw [if_neg hz, Int.toNat_natCast]
    exact text_any n z v w h2 h36 hz hl h

end
end Go.Proofs.YtiegkjfpdiohkaaGreat
