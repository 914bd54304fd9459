/- Text, in the reference: for every number and every radix. -/
import Derived.Test.YtgepnkdnenjogaaRPs
namespace Go.Proofs.Ytgepnkdnenjogaa
section
open Go.RowKit Digs

theorem digs_more {b N k : Nat} (hb : 2 ≤ b) (h : N / b ^ k ≠ 0) : k < (digs b N).length := by
  rcases Nat.lt_or_ge k (digs b N).length with h1 | h1
  · exact h1
  · exfalso
    apply h
    rw [Nat.div_eq_of_lt]
    exact Nat.lt_of_lt_of_le (digs_lt_pow hb N) (Nat.pow_le_pow_right (by omega) h1)
theorem digs_done {b N k : Nat} (hb : 2 ≤ b) (h : N / b ^ k = 0) : (digs b N).length ≤ k := by
  refine digs_length_le hb N k ?_
  rcases Nat.div_eq_zero_iff.1 h with h1 | h1
  · have := Nat.pow_pos (n := k) (show 0 < b by omega); omega
  · exact h1
theorem digs_take_succ {b N k : Nat} (hb : 2 ≤ b) (h : k < (digs b N).length) : (digs b N).take (k + 1) = (digs b N).take k ++ [N / b ^ k % b] := by
  rw [List.take_add_one]
  have := digs_get hb N k
  rw [List.getElem?_eq_getElem h] at this ⊢
  simp only [Option.getD_some] at this
  rw [this]
  rfl
theorem bstr_cons (c : Nat) (l : List Nat) : bstr [c] ++ bstr l = bstr (c :: l) := by
  apply ByteArray.ext
  simp [bstr, ByteArray.data_append]
theorem digits_one : ∀ d : Fin 36, (ByteArray.mk #[48, 49, 50, 51, 52, 53, 54, 55, 56, 57, 65, 66, 67, 68, 69, 70, 71, 72, 73, 74, 75, 76, 77, 78, 79, 80, 81, 82, 83, 84, 85, 86, 87, 88, 89, 90]).extract d.val (d.val + 1) = bstr [ch d.val] := by decide
theorem digs_len_r (r N L : Nat) (h2 : 2 ≤ r) (hL : (digs 65536 N).length ≤ L) : (digs r N).length ≤ 16 * L := by
  refine digs_length_le h2 N _ ?_
  have h9 := digs_lt_pow (b := 65536) (by decide) N
  have h10 : (65536 : Nat) ^ (digs 65536 N).length ≤ 65536 ^ L := Nat.pow_le_pow_right (by decide) hL
  have h11 : (65536 : Nat) ^ L = 2 ^ (16 * L) := by rw [Nat.pow_mul]
  have h12 : 2 ^ (16 * L) ≤ r ^ (16 * L) := Nat.pow_le_pow_left h2 _
  omega

theorem box2' {w w2 : World} {a b : Value} {t : TypeId} (h : Below (w.alloc (.cells #[a, b] t)).heap.size (w.alloc (.cells #[a, b] t)) w2) :
    w2.cell? ⟨w.heap.size, 0, none⟩ = some a ∧ Below w.heap.size w w2 :=
  ⟨(box2 h).1, ((Below.refl _ _).alloc (Nat.le_refl _) _).trans (h.mono (by simp))⟩
def lenS (v : Value) : Nat := match v with | .string t => t.size | _ => 0

def TxRel (N r : Nat) (X : World) (sv dv : Value) (wr : World) : Prop :=
  ∃ k, k ≤ (digs r N).length ∧ sv = .string (bstr (((digs r N).take k).map ch).reverse) ∧ Rd .i64 wr dv (digs 65536 (N / r ^ k)) ∧ Below X.heap.size X wr
def TxIn (A B n : Nat) (X : World) (rv iv : Value) (wr : World) : Prop :=
  ∃ (j : Nat) (q : Int), j ≤ n ∧ iv = .int .i64 q ∧ q = (j : Int) - 1 ∧ rv = .int .i64 ((A / 65536 ^ j % B : Nat) : Int) ∧ Ri wr X.heap.size X.heap.size n (rowQ A B j n) ∧ Below X.heap.size X wr

theorem rtext_bad (r z : Int) (v : Value) (w : World) (h : r < 2 ∨ 36 < r) (hv : RefV w v z) :
    Calls Try.prog 61 #[v, .int .i64 r] w (TextRes w [] 1) := by
  obtain ⟨ad, n, c, rfl, _⟩ := hv
  generalize decide (z < 0) = b
  go_enter Try.func61, Try.ntmps61
  by_cases h1 : r < 2
  · go_wp2
    go_ret2
    exact ⟨rfl, (Below.refl _ _).alloc (Nat.le_refl _) _⟩
  · have h2 : 36 < r := by omega
    go_wp2
    go_ret2
    exact ⟨rfl, (Below.refl _ _).alloc (Nat.le_refl _) _⟩

set_option maxHeartbeats 4000000 in
set_option maxRecDepth 100000 in
theorem rtext_core (neg : Bool) (ad : Option Addr) (nx cx : Nat) (r N L : Nat) (w : World) (h2 : 2 ≤ r) (h36 : r ≤ 36) (hL : (digs 65536 N).length ≤ L) (hLb : L ≤ 1000000) (hneg : neg = true → N ≠ 0)
    (hr0 : Rd .i64 w (.slice ad nx cx) (digs 65536 N)) :
    Calls Try.prog 61 #[.agg #[.bool neg, .slice ad nx cx], .int .i64 r] w (TextRes w ((if neg then [45] else []) ++ (if N = 0 then [48] else ((digs r N).map ch).reverse)) 0) := by
  have HR0 := Lib.hid hr0
  have HLR := Lib.hid (digs_len_r r N L h2 hL)
  have HL := Lib.hid hL
  obtain ⟨T, hT⟩ : ∃ T, T = ((if neg then [45] else []) ++ (if N = 0 then [48] else ((digs r N).map ch).reverse)) := ⟨_, rfl⟩
  rw [← hT]
  have HTX := Lib.hid hT
  clear hr0 hL hT
  obtain ⟨i0, hi, hz0, hz1, hz2⟩ := info_parts Try.infoI64
  go_enter Try.func61, Try.ntmps61
  go_wp2
  go_loopw [6, 7] (TxRel N r (w.alloc (.cells #[.bool neg, .slice ad nx cx] 31))) (fun sv _ _ => (digs r N).length - lenS sv)
  case atStart => exact ⟨0, Nat.zero_le _, by rw [List.take_zero]; rfl, by rw [Nat.pow_zero, Nat.div_one]; exact HR0.out.keep ((Below.refl _ _).alloc (Nat.le_refl _) _), Below.refl _ _⟩
  case round =>
    obtain ⟨k, hk, rfl, hrd, hbl⟩ := hrel
    obtain ⟨wo, rfl⟩ : ∃ wo : World, wo = wr := ⟨_, rfl⟩
    obtain ⟨m, hm⟩ : ∃ m, m = N / r ^ k := ⟨_, rfl⟩
    rw [← hm] at hrd
    have hml : (digs 65536 m).length ≤ 1000000 := by rw [hm]; exact Nat.le_trans (digs_length_mono (by decide) (Nat.div_le_self _ _)) (by have := HL.out; omega)
    have HM := Lib.hid hm
    have HK := Lib.hid hk
    have HBL := Lib.hid hbl
    obtain ⟨t, ht⟩ : ∃ t, t = bstr (((digs r N).take k).map ch).reverse := ⟨_, rfl⟩
    have htz : t.size = k := by rw [ht, bstr_size, List.length_reverse, List.length_map, List.length_take]; omega
    rw [← ht]
    have HT := Lib.hid ht
    obtain ⟨n, hn⟩ : ∃ n, n = (digs 65536 m).length := ⟨_, rfl⟩
    obtain ⟨ada, ca, rfl, ra⟩ := hrd.opt
    rw [← hn] at hml ⊢
    have HN := Lib.hid hn
    have HX : Hid (∀ W, Below wo.heap.size wo W → ∀ j, j < n → ∃ b off, ada = some ⟨b, off, none⟩ ∧ W.cell? ⟨b, off + j, none⟩ = some (.int .i64 ((m / 65536 ^ j % 65536 : Nat) : Int))) := Lib.hid fun W hb j hj => by
      obtain ⟨b, o, e1, e2, e3⟩ := ra j (by rw [← hn]; exact hj)
      rw [digs_get (by decide)] at e3
      exact ⟨b, o, e1, (hb.cell (p := ⟨b, o + j, none⟩) e2).trans e3⟩
    clear hm hk hbl ht hn hrd ra
    by_cases hm0 : 0 < n
    · have hkl : k < (digs r N).length := digs_more h2 (by
        rw [← HM.out]
        rintro rfl
        have := HN.out
        rw [digs_zero] at this
        simp at this; omega)
      have HKL := Lib.hid hkl
      have hAn : m < 65536 ^ n := by rw [HN.out]; exact digs_lt_pow (by decide) m
      have HST := Lib.hid (rowQ_start m r n)
      have HVV := Lib.hid (rowQ_val m r n hAn)
      have HZ : Hid (m / 65536 ^ n % r = 0) := Lib.hid (by rw [Nat.div_eq_of_lt hAn, Nat.zero_mod])
      have HDS := Lib.hid fun i => dvd_step m r i (by omega)
      have hkb : k ≤ 16000000 := by have := HLR.out; omega
      clear hkl hAn
      go_wp2_with (at_make; refine wpList_make_full _ rfl _ _ 29 rfl wo.heap.size 3 i0 (.int .i64 0) 1 Try.underlying29 hi hz0 hz1 _ _ _ _ n rfl rfl (by omega) (by omega) ?b2 ?b3 (Nat.le_refl _) ?_)
      case b2 => rw [hz2]; omega
      case b3 => unfold maxLen; omega
      intro w0 hown0 hgrow0
      have hrow0 : Ri w0 wo.heap.size wo.heap.size n (List.replicate n 0) := by
        refine ⟨by simp, ?_⟩
        rw [iw_zeros] at hown0
        exact hown0
      rw [← HST.out] at hrow0
      have HB0 := Lib.hid ((Below.refl wo.heap.size wo).grown hgrow0 (Nat.le_refl _) (fun k h => by cases h))
      have HR1 := Lib.hid hrow0
      clear hown0 hgrow0 hrow0
      go_wp2
      go_loopw [9, 10] (TxIn m r n wo) (fun _ i _ => (intOf i + 1).toNat)
      case atStart => exact ⟨n, _, Nat.le_refl _, rfl, rfl, by rw [HZ.out]; rfl, HR1.out, HB0.out⟩
      case round =>
        obtain ⟨j, q, hj, rfl, hqj, rfl, hrow, hnx⟩ := hrel
        by_cases hj0 : j = 0
        · subst hj0
          obtain rfl : q = -1 := by omega
          have HTM := Lib.hid (trimmed_oi hrow.oi (rowQ_lt m r 0 n))
          rw [HVV.out] at HTM
          have HNX := Lib.hid hnx
          obtain ⟨d, hd⟩ : ∃ d, d = m / 65536 ^ 0 % r := ⟨_, rfl⟩
          have hd36 : d < 36 := by rw [hd]; have := Nat.mod_lt (m / 65536 ^ 0) (show 0 < r by omega); omega
          rw [← hd]
          rw [Nat.pow_zero, Nat.div_one] at hd
          have HD := Lib.hid hd
          clear hrow hnx hqj hj hd
          go_wp2_with fail
          (with_reducible refine HTM.out.mono ?_)
          rintro e w' ⟨⟨v2, rfl, ho2⟩, rfl⟩
          obtain ⟨one, hone⟩ : ∃ o, o = bstr [ch d] := ⟨_, rfl⟩
          have hext : (ByteArray.mk #[48, 49, 50, 51, 52, 53, 54, 55, 56, 57, 65, 66, 67, 68, 69, 70, 71, 72, 73, 74, 75, 76, 77, 78, 79, 80, 81, 82, 83, 84, 85, 86, 87, 88, 89, 90]).extract d (d + 1) = one := by rw [hone]; exact digits_one ⟨d, hd36⟩
          have hos : one.size = 1 := by rw [hone, bstr_size]; rfl
          have HONE := Lib.hid hone
          clear hone
          go_wp2
          go_roundw
          case rel =>
            refine ⟨k + 1, HKL.out, ?_, ?_, HBL.out.trans (HNX.out.mono HBL.out.size)⟩
            · rw [digs_take_succ h2 HKL.out, ← HM.out, ← HD.out, List.map_append, List.reverse_append, HONE.out, HT.out, bstr_cons]
              rfl
            · rw [Nat.pow_succ, ← Nat.div_div_eq_div_mul, ← HM.out]
              exact ho2.rd
          case measure =>
            have e1 : lenS (.string (one ++ t)) = k + 1 := by
              show (one ++ t).size = _
              rw [HONE.out, HT.out, bstr_cons, bstr_size, List.length_cons, List.length_reverse, List.length_map, List.length_take]
              have := HKL.out
              omega
            have e2 : lenS (.string t) = k := by show t.size = _; exact htz
            rw [e1, e2]
            have := HKL.out
            omega
        · obtain ⟨i, rfl⟩ : ∃ i, j = i + 1 := ⟨j - 1, by omega⟩
          obtain rfl : q = (i : Int) := by omega
          have hin : i < n := by omega
          have hbw := hnx
          obtain ⟨bb, ob, rfl, gx⟩ := HX.out wr hbw i hin
          obtain ⟨a, ha⟩ : ∃ a, a = m / 65536 ^ i % 65536 := ⟨_, rfl⟩
          obtain ⟨c, hc⟩ : ∃ c, c = m / 65536 ^ (i + 1) % r := ⟨_, rfl⟩
          obtain ⟨hd1, hd2, hd3⟩ := HDS.out i
          have hal : a < 65536 := by rw [ha]; exact Nat.mod_lt _ (by decide)
          have hcl : c < 36 := by rw [hc]; have := Nat.mod_lt (m / 65536 ^ (i + 1)) (show 0 < r by omega); omega
          rw [← ha, ← hc] at hd1 hd2 hd3
          rw [← ha] at gx
          rw [← hc]
          obtain ⟨R, hR⟩ : ∃ R, R = a + 65536 * c := ⟨_, rfl⟩
          rw [← hR] at hd1 hd2 hd3
          have hRi : (c : Int) * 65536 + (a : Int) = (R : Int) := by omega
          have hRb : R < 3000000 := by omega
          have gz := hrow.cell i hin
          have gf := hrow.frozen i
          generalize (rowQ m r (i + 1) n)[i]?.getD 0 = z0 at *
          obtain ⟨Q, hQ⟩ : ∃ Q, Q = R / r := ⟨_, rfl⟩
          have hQi : (R : Int) / (r : Int) = (Q : Int) := by rw [hQ, Int.natCast_ediv]
          have hQb : Q < 3000000 := by rw [hQ]; exact Nat.lt_of_le_of_lt (Nat.div_le_self _ _) hRb
          rw [← hQ] at hd1
          have HSET := Lib.hid (rowQ_set m r i n Q hd1.symm)
          have HD2 := Lib.hid hd2
          have HROW := Lib.hid hrow
          have HNX := Lib.hid hnx
          clear hrow hnx hbw hd1 hd2 hd3 ha hc hR hj hj0 hqj htz hQ
          go_wp2
          go_roundw
          case rel =>
            refine ⟨i, (i : Int) - 1, by omega, by go_num, rfl, ?_, ?_, HNX.out.setCell (Nat.le_refl _) _⟩
            · rw [HD2.out, Int.natCast_emod]
            · rw [← HSET.out]
              exact HROW.out.store _ _ _ rfl
          case measure => simp [intOf] <;> omega
    · obtain rfl : n = 0 := by omega
      have hmz : m = 0 := (digs_length_zero (b := 65536) (by decide) m).1 HN.out.symm
      have hkl : k = (digs r N).length := by
        have h1 := digs_done (b := r) (N := N) (k := k) h2 (by rw [← HM.out]; exact hmz)
        have := HK.out
        omega
      have htx : t = bstr ((digs r N).map ch).reverse := by rw [HT.out, hkl, List.take_of_length_le (Nat.le_refl _)]
      obtain ⟨cA, cB⟩ := box2' HBL.out
      have HTT := Lib.hid htx
      have HKL := Lib.hid hkl
      have hkb : k ≤ 16000000 := by have := HLR.out; omega
      clear hkl htx hmz hm0
      by_cases hN0 : N = 0
      · have hte : t.toList.isEmpty = true := by rw [HTT.out, bstr_empty, hN0, digs_zero]; rfl
        have HN0 := Lib.hid hN0
        clear hN0
        cases neg
        · go_wp2
          go_ret2
          refine ⟨?_, cB⟩
          rw [HTX.out, if_neg (by decide), if_pos HN0.out]
          rfl
        · exact absurd HN0.out (hneg rfl)
      · have hte : t.toList.isEmpty = false := by
          rw [HTT.out, bstr_empty, List.isEmpty_eq_false_iff]
          intro h
          have h1 := congrArg List.length h
          rw [List.length_reverse, List.length_map, ← HKL.out] at h1
          have h2' : (digs r N).length = 0 := by have := HKL.out; simp at h1; omega
          exact hN0 ((digs_length_zero (b := r) h2 N).1 h2')
        have HN0 := Lib.hid hN0
        clear hN0
        cases neg
        · go_wp2
          go_ret2
          refine ⟨?_, cB⟩
          rw [HTX.out, if_neg (by decide), if_neg HN0.out, HTT.out]
          rfl
        · go_wp2
          go_ret2
          refine ⟨?_, cB⟩
          rw [HTX.out, if_pos trivial, if_neg HN0.out, HTT.out, List.singleton_append, ← bstr_cons]
          rfl

/-- Text, in the reference: every number, every radix. -/
theorem rText_all (r : Int) (z : Int) (v : Value) (w : World) (hl : rlen z ≤ 1000000) (h : RefV w v z) :
    Calls Try.prog 61 #[v, .int .i64 r] w (TextRes w (txt r z).1 (txt r z).2) := by
  unfold txt
  by_cases hr : r < 2 ∨ 36 < r
  · rw [if_pos hr]
    exact rtext_bad r z v w hr h
  rw [if_neg hr]
  obtain ⟨n, rfl⟩ : ∃ n : Nat, r = n := ⟨r.toNat, by omega⟩
  obtain ⟨ad, nx, c, rfl, hrd⟩ := h
  have hc := rtext_core (decide (z < 0)) ad nx c n z.natAbs 1000000 w (by omega) (by omega) hl (Nat.le_refl _) (by intro h; have := of_decide_eq_true h; omega) hrd
  by_cases hz : z = 0
  · rw [if_pos hz]
    subst hz
    rw [show (if (decide ((0 : Int) < 0)) = true then [45] else ([] : List Nat)) = [] from rfl, if_pos (show (0 : Int).natAbs = 0 from rfl)] at hc
    exact hc
  · rw [if_neg hz, Int.toNat_natCast]
    rw [if_neg (show ¬ z.natAbs = 0 by omega)] at hc
    exact hc

end
end Go.Proofs.Ytgepnkdnenjogaa
