/-  Dg Pd  -/
import Derived.Lib.Walk
import Derived.IntWalk
import Derived.OwnWalk
import Derived.Test.YtghgcbedajaldaaGreatMpae
import Derived.Test.YtghgcbedajaldaaGreatMpah
import Derived.Test.YtghgcbedajaldaaGreatMpaf
/- The value of a digit, in the program and in the reference; and a row of limbs times a limb and one more: for every input. -/
namespace Go.Proofs.YtghgcbedajaldaaGreat
section
open Go.RowKit Digs
def dg (c : Nat) : Nat := if 48 ≤ c ∧ c ≤ 57 then c - 48 else if 65 ≤ c ∧ c ≤ 90 then c - 55 else if 97 ≤ c ∧ c ≤ 122 then c - 87 else 36
theorem dg_num {c : Nat} (h0 : 48 ≤ c) (h1 : c ≤ 57) : dg c = c - 48 := by unfold dg; rw [if_pos ⟨h0, h1⟩]
theorem dg_up {c : Nat} (h0 : 65 ≤ c) (h1 : c ≤ 90) : dg c = c - 55 := by unfold dg; rw [if_neg (by omega), if_pos ⟨h0, h1⟩]
theorem dg_low {c : Nat} (h0 : 97 ≤ c) (h1 : c ≤ 122) : dg c = c - 87 := by unfold dg; rw [if_neg (by omega), if_neg (by omega), if_pos ⟨h0, h1⟩]
theorem dg_none {c : Nat} (h0 : ¬ (48 ≤ c ∧ c ≤ 57)) (h1 : ¬ (65 ≤ c ∧ c ≤ 90)) (h2 : ¬ (97 ≤ c ∧ c ≤ 122)) : dg c = 36 := by unfold dg; rw [if_neg h0, if_neg h1, if_neg h2]
theorem dg_le (c : Nat) : dg c ≤ 36 := by unfold dg; split; · omega
                                          split; · omega
                                          split <;> omega

theorem digitValue_any (c : Nat) (hc : c < 256) (w : World) :
  Calls Tryz.prog 175 #[.int .u8 c] w fun e w' => e = .returned (.int .i64 ((dg c : Nat) : Int)) ∧ w = w' := by
 go_enter Tryz.func175, Tryz.ntmps175
 by_cases h1 : 48 ≤ c ∧ c ≤ 57
 ·obtain ⟨a, b⟩ := h1
  have e : (((c - 48 : Nat) : Int)) = (c : Int) - 48 := by omega
  rw [dg_num a b, e]
  clear e
  go_wp2
  all_goals first | (go_ret; exact ⟨rfl, rfl⟩) | (exfalso; omega)
 by_cases h2 : 65 ≤ c ∧ c ≤ 90
 ·obtain ⟨a, b⟩ := h2
  have e : (((c - 55 : Nat) : Int)) = (c : Int) - 65 + 10 := by omega
  rw [dg_up a b, e]
  clear e
  go_wp2
  all_goals first | (go_ret; exact ⟨rfl, rfl⟩) | (exfalso; omega)
 by_cases h3 : 97 ≤ c ∧ c ≤ 122
 ·obtain ⟨a, b⟩ := h3
  have e : (((c - 87 : Nat) : Int)) = (c : Int) - 97 + 10 := by omega
  rw [dg_low a b, e]
  clear e
  go_wp2
  all_goals first | (go_ret; exact ⟨rfl, rfl⟩) | (exfalso; omega)
 rw [dg_none h1 h2 h3]
 go_wp2
 all_goals first | (go_ret; exact ⟨rfl, rfl⟩) | (exfalso; omega)
theorem scale_step {b k : Nat} (s : List Nat) (c x f a A A' : Nat) (hs : s.length = k) (h : vl b s + b ^ k * c = A * f + a) (hA : A' = A + b ^ k * x) :
  vl b (s ++ [(c + x * f) % b]) + b ^ (k + 1) * ((c + x * f) / b) = A' * f + a := by
 rw [vl_snoc, hs, Nat.pow_succ, Nat.add_assoc, split_mod, Nat.mul_add, ← Nat.add_assoc, h, hA, Nat.add_mul, Nat.mul_assoc]
 omega
def ScaleRel (la : List Nat) (f a : Nat) (w : World) (v c i : Value) (wr : World) : Prop :=
 ∃ (k cy : Nat) (s : List Nat), k ≤ la.length ∧ i = .int .i64 k ∧ c = .int .u64 cy ∧ cy < 4294967296 ∧ s.length = k ∧ (∀ x ∈ s, x < 4294967296) ∧ Ow wr w.heap.size v s ∧
  vl 4294967296 s + 4294967296 ^ k * cy = vl 4294967296 (la.take k) * f + a ∧ Below w.heap.size w wr
set_option maxHeartbeats 1000000 in
set_option maxRecDepth 100000 in
theorem scale_core (ada : Option Addr) (ca : Nat) (la : List Nat) (f a : Nat) (w : World) (hf : f < 4294967296) (ha : a < 4294967296) (hlen : la.length ≤ 1000000) (hca : RdA .u32 w ada la) (hla : ∀ x ∈ la, x < 4294967296) :
  Calls Tryz.prog 176 #[.slice ada la.length ca, .int .u32 f, .int .u32 a] w (OwPost w (digs 4294967296 (vl 4294967296 la * f + a))) := by
 have HLA := Lib.hid hla
 have HCA := Lib.hid hca
 clear hla hca
 obtain ⟨i0, hi, hz0, hz1, hz2⟩ := info_parts Tryz.infoU32
 go_enter Tryz.func176, Tryz.ntmps176
 go_wp2_with (at_make; refine wpList_make_own _ rfl _ _ 22 rfl w.heap.size 137 i0 (.int .u32 0) 1 Tryz.underlying22 hi hz0 hz1 _ _ _ (la.length + 1) rfl rfl (by omega) ?b2 ?b3 (Nat.le_refl _) ?_)
 case b2 => rw [hz2]; omega
 case b3 => unfold maxLen; omega
 intro w0 hown0 hgrow0
 go_wp2
 go_loopw [7, 8, 19] (ScaleRel la f a w) (fun _ _ i _ => la.length - (intOf i).toNat)
 case atStart => exact ⟨0, a, [], Nat.zero_le _, rfl, rfl, ha, rfl, (by simp), hown0, by simp [vl], (Below.refl _ _).grown hgrow0 (Nat.le_refl _) (fun k h => by cases h)⟩
 case round =>
  obtain ⟨k, cy, s, hk, rfl, rfl, hcy, hs, hsl, hown, hv, hnx⟩ := hrel
  have HS := Lib.hid hs
  have HSL := Lib.hid hsl
  have HV := Lib.hid hv
  have HO := Lib.hid hown
  have HNX := Lib.hid hnx
  clear hs hsl hv hown hnx
  by_cases hkl : k < la.length
  ·obtain ⟨ba, oa, rfl, hba, gx0⟩ := HCA.out k hkl
   have gx : wr.cell? ⟨ba, oa + k, none⟩ = some (.int .u32 ((la[k]?.getD 0 : Nat) : Int)) := (HNX.out.cell (p := ⟨ba, oa + k, none⟩) hba).trans gx0
   clear gx0
   obtain ⟨x, hx⟩ : ∃ x, x = la[k]?.getD 0 := ⟨_, rfl⟩
   rw [← hx] at gx
   have hxb : x < 4294967296 := by rw [hx, List.getElem?_eq_getElem hkl]; exact HLA.out _ (List.getElem_mem hkl)
   have HX := Lib.hid hx
   clear hx
   have hb1 := carry_lt (b := 4294967296) (z := 0) (by decide) hxb hf hcy (by decide)
   rw [Nat.add_zero] at hb1
   have hxy0 : (0 : Int) ≤ (x : Int) * (f : Int) := Int.mul_nonneg (by omega) (by omega)
   have hb2 : (cy : Int) + (x : Int) * (f : Int) < 18446744073709551616 := by
    have h3 : ((cy + x * f : Nat) : Int) < ((4294967296 * 4294967296 : Nat) : Int) := Int.ofNat_lt.2 hb1
    simpa using h3
   have HB1 := Lib.hid hb1
   clear hb1
   go_wp2_with (at_builtin; refine wpList_append_own _ rfl (.tmp 30) (.tmp 33) 22 rfl w.heap.size 137 i0 (.int .u32 0) 1 4 Tryz.underlying22 hi hz0 hz1 hz2 rfl (by decide) _ _ _ rfl (HO.out.alloc _) ⟨wr.heap.size, 0, none⟩ 1 1 (uw [(cy + x * f) % 4294967296]) rfl rfl ?c1 (uw_oneCell _) ?c2 ?c3 ?c4 ?_)
   case c1 => refine new_one _ _ _ _ ?_; rw [Int.natCast_emod, Int.natCast_add, Int.natCast_mul]; congr 1
   case c2 => have := HS.out; unfold maxLen; omega
   case c3 => have := HS.out; omega
   case c4 => have := HNX.out.size; simp; omega
   intro v' w1 hown1 hgrow _
   have HO1 := Lib.hid hown1
   have HG := Lib.hid hgrow
   clear hown1 hgrow
   go_wp2
   go_roundw
   case rel =>
    refine ⟨k + 1, (cy + x * f) / 4294967296, s ++ [(cy + x * f) % 4294967296], by omega, by go_num, ?_, ?_, by rw [List.length_append, HS.out]; rfl, all_snoc HSL.out (Nat.mod_lt _ (by decide)), Ow.snoc HO1.out, ?_, ?_⟩
    ·refine congrArg (Value.int .u64) ?_
     rw [Int.natCast_ediv, Int.natCast_add, Int.natCast_mul]
     congr 1
    ·rw [Nat.div_lt_iff_lt_mul (by decide)]; exact HB1.out
    ·exact scale_step s cy x f a _ _ HS.out HV.out (by rw [vl_take_succ _ _ _ hkl, HX.out])
    ·exact (HNX.out.alloc HNX.out.size _).grown HG.out (by have := HNX.out.size; simp; omega) (fun q hq => (HO.out.lt q hq).1)
   case measure => simp [intOf]; omega
  ·obtain rfl : k = la.length := by omega
   go_wp2_with (at_builtin; refine wpList_append_own _ rfl (.tmp 38) (.tmp 41) 22 rfl w.heap.size 137 i0 (.int .u32 0) 1 4 Tryz.underlying22 hi hz0 hz1 hz2 rfl (by decide) _ _ _ rfl (HO.out.alloc _) ⟨wr.heap.size, 0, none⟩ 1 1 (uw [cy]) rfl rfl ?d1 (uw_oneCell _) ?d2 ?d3 ?d4 ?_)
   case d1 => exact new_one _ _ _ _ (by omega)
   case d2 => have := HS.out; unfold maxLen; omega
   case d3 => have := HS.out; omega
   case d4 => have := HNX.out.size; simp; omega
   intro v' w1 hown1 hgrow _
   have HO1 := Lib.hid (Ow.snoc hown1)
   have hb1 := (HNX.out.alloc HNX.out.size _).grown hgrow (by have := HNX.out.size; simp; omega) (fun q hq => (HO.out.lt q hq).1)
   have HB1 := Lib.hid hb1
   have HT := Lib.hid (trim_ow HO1.out (all_snoc HSL.out hcy))
   clear hown1 hgrow hb1
   go_wp2_with (go_at_call 163; refine HT.out.mono ?_; rintro e w' ⟨⟨v2, rfl, ho2⟩, rfl⟩)
   go_ret
   refine ⟨_, rfl, ?_, HB1.out⟩
   have e : vl 4294967296 (s ++ [cy]) = vl 4294967296 la * f + a := by
    rw [vl_snoc, HS.out, HV.out, List.take_of_length_le (Nat.le_refl _)]
   rw [e] at ho2
   exact ho2
theorem scale_any (m f a : Nat) (v : Value) (w : World) (hf : f < 4294967296) (ha : a < 4294967296) (hm : (digs 4294967296 m).length ≤ 1000000) (h : Rd .u32 w v (digs 4294967296 m)) :
  Calls Tryz.prog 176 #[v, .int .u32 f, .int .u32 a] w (OwPost w (digs 4294967296 (m * f + a))) := by
 obtain ⟨ad, ca, rfl, r⟩ := h.opt
 have := scale_core ad ca _ f a w hf ha hm r (digs_lt (by decide) m)
 rw [vl_digs (by decide)] at this
 exact this
end
end Go.Proofs.YtghgcbedajaldaaGreat
/- The digits of a text read as limbs (parseDigits), for every text of up to 20000 bytes and every radix. -/
namespace Go.Proofs.YtghgcbedajaldaaGreat
section
open Go.RowKit Digs
def pv (r : Nat) (l : List Nat) : Nat := l.foldl (fun v c => v * r + dg c) 0
theorem pv_snoc (r : Nat) (l : List Nat) (c : Nat) : pv r (l ++ [c]) = pv r l * r + dg c := by unfold pv; rw [List.foldl_append]; rfl
theorem pv_from (r : Nat) (l : List Nat) (v : Nat) : l.foldl (fun v c => v * r + dg c) v = v * r ^ l.length + pv r l := by
 induction l generalizing v with
 | nil => simp [pv]
 | cons c l ih =>
  unfold pv
  rw [List.foldl_cons, List.foldl_cons, ih, ih (0 * r + dg c), List.length_cons, Nat.pow_succ, Nat.zero_mul, Nat.zero_add, Nat.add_mul, Nat.mul_assoc, Nat.mul_comm r, Nat.add_assoc]
theorem pv_append (r : Nat) (l m : List Nat) : pv r (l ++ m) = pv r l * r ^ m.length + pv r m := by
 rw [← pv_from]; unfold pv; rw [List.foldl_append]
theorem pv_lt (r : Nat) (l : List Nat) (h : ∀ c ∈ l, dg c < r) : pv r l < r ^ l.length := by
 induction l with
 | nil => simp [pv]
 | cons c l ih =>
  have h1 := pv_append r [c] l
  have h2 : pv r [c] = dg c := by simp [pv]
  have h3 := ih fun x hx => h x (List.mem_cons_of_mem _ hx)
  have h4 : (dg c + 1) * r ^ l.length ≤ r * r ^ l.length := Nat.mul_le_mul_right _ (h c (List.mem_cons_self ..))
  rw [List.singleton_append, h2] at h1
  rw [h1, List.length_cons, Nat.pow_succ, Nat.mul_comm (r ^ l.length) r]
  rw [Nat.add_mul, Nat.one_mul] at h4
  omega
theorem bstr_size (l : List Nat) : (bstr l).size = l.length := by simp [bstr, ByteArray.size]
theorem bstr_empty (l : List Nat) : (bstr l).toList.isEmpty = l.isEmpty := by
 unfold bstr
 rw [ByteArray.toList_mk]
 cases l <;> rfl
theorem bstr_get (l : List Nat) (i : Nat) (h : i < (bstr l).size) (hl : ∀ c ∈ l, c < 256) : ((bstr l)[i]'h).toNat = l[i]?.getD 0 := by
 have hi : i < l.length := by rw [← bstr_size]; exact h
 have hc := hl _ (List.getElem_mem hi)
 rw [List.getElem?_eq_getElem hi, Option.getD_some]
 have e : (bstr l)[i]'h = UInt8.ofNat l[i] := by
  have h1 : (bstr l)[i]'h = (l.map UInt8.ofNat)[i]'(by simpa using hi) := rfl
  rw [h1, List.getElem_map]
 rw [e]
 simp
 omega
theorem bstr_tail (l : List Nat) : (bstr l).extract 1 (bstr l).size = bstr (l.drop 1) := by
 apply ByteArray.ext
 apply Array.ext'
 rw [bstr_size]
 unfold bstr
 rw [ByteArray.extract_mk]
 simp
 exact List.take_of_length_le (by simp)
def ParsePost (r : Nat) (s : List Nat) (w : World) (e : Ending) (w' : World) : Prop :=
  Below w.heap.size w w' ∧
    (((∀ c ∈ s, dg c < r) ∧ ∃ v, e = .returned (.tuple #[v, .int .i64 0]) ∧ Rd .u32 w' v (digs 4294967296 (pv r s))) ∨
      ((¬ ∀ c ∈ s, dg c < r) ∧ e = .returned (.tuple #[.slice none 0 0, .int .i64 2])))

theorem pow_le_32 {r j c P : Nat} (hr : 1 ≤ r) (hP : P = r ^ c) (hPb : P < 4294967296) (hj : j ≤ c) : r ^ j < 4294967296 := by
 have := Nat.pow_le_pow_right hr hj
 omega
def ParseOut (r : Nat) (s : List Nat) (w : World) (sv lv : Value) (wr : World) : Prop :=
 ∃ k, k ≤ s.length ∧ sv = .string (bstr (s.drop k)) ∧ (∀ c ∈ s.take k, dg c < r) ∧ Rd .u32 wr lv (digs 4294967296 (pv r (s.take k))) ∧ Below w.heap.size w wr
def ParseIn (r q : Nat) (s : List Nat) (sv av qv iv : Value) : Prop :=
 ∃ j p P : Nat, j ≤ q ∧ sv = .string (bstr (s.drop j)) ∧ av = .int .u32 p ∧ qv = .int .u32 P ∧ iv = .int .i64 j ∧ p = pv r (s.take j) ∧ P = r ^ j ∧ (∀ c ∈ s.take j, dg c < r)
set_option maxHeartbeats 2000000 in
set_option maxRecDepth 100000 in
theorem parseDigits_any (r : Nat) (s : List Nat) (w : World) (h2 : 2 ≤ r) (h36 : r ≤ 36) (hs : s.length ≤ 20000) (hb : ∀ c ∈ s, c < 256) :
  Calls Tryz.prog 158 #[.string (bstr s), .int .i64 r] w (ParsePost r s w) := by
 have HB := Lib.hid hb
 clear hb
 have HG := Lib.hid (group_any r w h2 h36)
 go_enter Tryz.func158, Tryz.ntmps158
 go_wp2_with (go_at_call 154; refine HG.out.mono ?_; rintro e w' ⟨c, P0, rfl, hP, hPb, hc1, hc2, rfl⟩)
 have HP := Lib.hid hP
 clear hP HG
 go_loopw [0, 8] (ParseOut r s w) (fun sv _ _ => match sv with | .string t => t.size | _ => 0)
 case atStart => exact ⟨0, Nat.zero_le _, rfl, (by simp), .inl ⟨rfl, (digs_length_zero (by decide) _).2 rfl |> List.eq_nil_of_length_eq_zero⟩, Below.refl _ _⟩
 case round =>
  obtain ⟨k, hk, rfl, hok, hrd, hbl⟩ := hrel
  have HOK := Lib.hid hok
  have HRD := Lib.hid hrd
  have HBL := Lib.hid hbl
  obtain ⟨t, ht⟩ : ∃ t, t = bstr (s.drop k) := ⟨_, rfl⟩
  rw [← ht]
  have HT := Lib.hid ht
  clear ht hok hrd hbl
  by_cases hkl : k < s.length
  ·have hne : t.toList.isEmpty = false := by rw [HT.out, bstr_empty, List.isEmpty_eq_false_iff]; intro h; have := List.drop_eq_nil_iff.1 h; omega
   obtain ⟨n, hn⟩ : ∃ n, n = s.length - k := ⟨_, rfl⟩
   have htz : t.size = n := by rw [HT.out, bstr_size, List.length_drop, hn]
   obtain ⟨q, hq⟩ : ∃ q, q = min c n := ⟨_, rfl⟩
   have hmin : min (c : Int) (n : Int) = (q : Int) := by omega
   have hqc : q ≤ c := by omega
   have hqn : q ≤ n := by omega
   have hq1 : 0 < q := by omega
   have hn2 : n ≤ 20000 := by omega
   have HN := Lib.hid hn
   clear hq hn
   go_wp2
   go_loop [0, 9, 10, 23] (ParseIn r q (s.drop k)) (fun _ _ _ i => q - (intOf i).toNat)
   case atStart => exact ⟨0, 0, 1, Nat.zero_le _, by rw [HT.out]; rfl, rfl, rfl, rfl, rfl, rfl, by simp⟩
   case round =>
    obtain ⟨j, p, P, hj, rfl, rfl, rfl, rfl, hp, hPP, hjok⟩ := hrel
    have HJ := Lib.hid hjok
    have hplt : p < r ^ j := by
     rw [hp]
     have h1 := pv_lt r _ hjok
     rw [List.length_take, List.length_drop, Nat.min_eq_left (by have := HN.out; omega)] at h1
     exact h1
    have HPL := Lib.hid hplt
    have HPE := Lib.hid hp
    have HPP := Lib.hid hPP
    clear hp hPP hjok hplt
    obtain ⟨u, hu⟩ : ∃ u, u = bstr ((s.drop k).drop j) := ⟨_, rfl⟩
    rw [← hu]
    have HU := Lib.hid hu
    clear hu
    by_cases hjq : j < q
    ·obtain ⟨m, hm⟩ : ∃ m, m = n - j := ⟨_, rfl⟩
     have huz : u.size = m := by rw [HU.out, bstr_size, List.length_drop, List.length_drop, hm, HN.out]
     have hm0 : 0 < m := by omega
     have hmb : m ≤ 20000 := by omega
     clear hm
     have hjl : k + j < s.length := by have := HN.out; omega
     obtain ⟨x, hx⟩ : ∃ x, x = s[k + j]?.getD 0 := ⟨_, rfl⟩
     have hxm : x ∈ s := by rw [hx, List.getElem?_eq_getElem hjl]; exact List.getElem_mem hjl
     have hxb : x < 256 := HB.out x hxm
     have hu0 : (u[0]'(by omega)).toNat = x := by
      have h1 := bstr_get ((s.drop k).drop j) 0 (by rw [← HU.out]; omega) (fun c hc => HB.out c (List.mem_of_mem_drop (List.mem_of_mem_drop hc)))
      rw [List.getElem?_drop, List.getElem?_drop, Nat.add_zero, ← hx] at h1
      rw [← h1]
      congr 1
      congr 1
     have HX := Lib.hid hx
     have HXM := Lib.hid hxm
     clear hx hxm
     have HD := Lib.hid (digitValue_any x hxb)
     obtain ⟨d, hd⟩ : ∃ d, d = dg x := ⟨_, rfl⟩
     have hd36 : d ≤ 36 := by rw [hd]; exact dg_le x
     have HDD := Lib.hid hd
     rw [← hd] at HD
     clear hd
     by_cases hdr : d < r
     ·have hpr : p * r + d < 4294967296 := by
       have h1 : (p + 1) * r ≤ r ^ j * r := Nat.mul_le_mul_right r HPL.out
       have h3 := pow_le_32 (r := r) (j := j + 1) (by omega) HP.out hPb (by omega)
       rw [Nat.add_mul, Nat.one_mul] at h1
       rw [Nat.pow_succ] at h3
       omega
      have hPr : P * r < 4294967296 := by
       have h3 := pow_le_32 (r := r) (j := j + 1) (by omega) HP.out hPb (by omega)
       rw [HPP.out, ← Nat.pow_succ]
       exact h3
      have HPR := Lib.hid hpr
      have HPR2 := Lib.hid hPr
      clear hpr hPr
      go_wp2_with (go_at_call 175; refine (HD.out _).mono ?_; rintro e w' ⟨rfl, rfl⟩)
      go_round
      case rel =>
       have e1 : ((p : Int) * (r : Int)) = ((p * r : Nat) : Int) := (Int.natCast_mul ..).symm
       have e2 : ((P : Int) * (r : Int)) = ((P * r : Nat) : Int) := (Int.natCast_mul ..).symm
       rw [e1, e2]
       have htk : (s.drop k).take (j + 1) = (s.drop k).take j ++ [x] := by
        rw [List.take_add_one, List.getElem?_drop, HX.out, List.getElem?_eq_getElem hjl]
        rfl
       refine ⟨j + 1, p * r + d, P * r, by omega, ?_, ?_, ?_, by go_num, ?_, ?_, ?_⟩
       ·have h1 := bstr_tail ((s.drop k).drop j)
        have e3 : ((s.drop k).drop j).drop 1 = (s.drop k).drop (j + 1) := List.drop_drop
        rw [← HU.out, e3] at h1
        have e4 := congrArg Value.string h1
        rw [huz] at e4
        exact e4
       ·refine congrArg (Value.int .u32) ?_
        have := HPR.out
        omega
       ·refine congrArg (Value.int .u32) ?_
        have := HPR2.out
        omega
       ·rw [htk, pv_snoc, ← HPE.out, HDD.out]
       ·rw [HPP.out, Nat.pow_succ]
       ·rw [htk]
        intro y hy
        rcases List.mem_append.1 hy with hy | hy
        ·exact HJ.out y hy
        ·rw [List.mem_singleton.1 hy, ← HDD.out]; exact hdr
      case measure => simp only [intOf]; omega
     ·go_wp2_with (go_at_call 175; refine (HD.out _).mono ?_; rintro e w' ⟨rfl, rfl⟩)
      go_ret2
      refine ⟨HBL.out, .inr ⟨fun h => ?_, rfl⟩⟩
      have := h x HXM.out
      rw [← HDD.out] at this
      exact hdr this
    ·obtain rfl : j = q := by omega
     have hP32 : P < 4294967296 := by rw [HPP.out]; exact pow_le_32 (by omega) HP.out hPb hqc
     have hp32 : p < 4294967296 := Nat.lt_trans HPL.out (by rw [← HPP.out]; exact hP32)
     have hkn : (digs 4294967296 (pv r (s.take k))).length ≤ 1000000 := by
      refine Nat.le_trans (digs_length_le (b := 4294967296) (by decide) (pv r (s.take k)) k ?_) (by omega)
      have h1 := pv_lt r _ HOK.out
      rw [List.length_take, Nat.min_eq_left hk] at h1
      exact Nat.lt_of_lt_of_le h1 (Nat.pow_le_pow_left (by omega) k)
     have HSC := Lib.hid (scale_any (pv r (s.take k)) P p u8 wr hP32 hp32 hkn HRD.out)
     have hlen : ((s.drop k).take j).length = j := by rw [List.length_take, List.length_drop, ← HN.out, Nat.min_eq_left hqn]
     have HLEN := Lib.hid hlen
     have huz : u.size = n - j := by rw [HU.out, bstr_size, List.length_drop, List.length_drop, HN.out]
     have HUZ := Lib.hid huz
     clear hkn hlen huz
     go_wp2_with (go_at_call 176; refine HSC.out.mono ?_; rintro e w1 ⟨v1, rfl, ho1, hb1⟩)
     go_roundw
     case rel =>
      have hta : s.take (k + j) = s.take k ++ (s.drop k).take j := List.take_add
      refine ⟨k + j, by have := HN.out; omega, ?_, ?_, ?_, HBL.out.trans (hb1.mono HBL.out.size)⟩
      ·rw [HU.out, List.drop_drop]
      ·rw [hta]
       intro y hy
       rcases List.mem_append.1 hy with hy | hy
       ·exact HOK.out y hy
       ·exact HJ.out y hy
      ·rw [hta, pv_append, HLEN.out, ← HPP.out, ← HPE.out]
       exact ho1.rd
     case measure =>
      have := HUZ.out
      show u.size < t.size
      omega
  ·obtain rfl : k = s.length := by omega
   have hne : t.toList.isEmpty = true := by rw [HT.out, bstr_empty, List.drop_length]; rfl
   go_wp2
   go_ret2
   refine ⟨HBL.out, .inl ⟨?_, _, rfl, ?_⟩⟩
   ·have := HOK.out
    rw [List.take_length] at this
    exact this
   ·have := HRD.out
    rw [List.take_length] at this
    exact this
end
end Go.Proofs.YtghgcbedajaldaaGreat
