/-  Ps Tx  -/
import Derived.Test.YtghgcbedajaldaaGreatMpay
import Derived.Test.YtghgcbedajaldaaGreatMpar
/- Parse, in the program: for every text of up to 20000 bytes and every radix. -/
namespace Go.Proofs.YtghgcbedajaldaaGreat
section
open Go.RowKit Digs
def ngS (s : List Nat) : Bool := s.head? == some 45
def bare (s : List Nat) : List Nat := if s.head? = some 43 ∨ s.head? = some 45 then s.drop 1 else s
def prs (r : Int) (s : List Nat) : Int × Int :=
 if r < 2 ∨ 36 < r then (0, 1) else if bare s = [] then (0, 2) else if ∀ c ∈ bare s, dg c < r.toNat then (sg (ngS s) (pv r.toNat (bare s)), 0) else (0, 2)
theorem prs_bad {r : Int} (s : List Nat) (h : r < 2 ∨ 36 < r) : prs r s = (0, 1) := by unfold prs; rw [if_pos h]
theorem prs_empty {r : Nat} {s : List Nat} (h2 : 2 ≤ r) (h36 : r ≤ 36) (h : bare s = []) : prs r s = (0, 2) := by
 unfold prs; rw [if_neg (by omega), if_pos h]
theorem prs_ok {r : Nat} {s : List Nat} (h2 : 2 ≤ r) (h36 : r ≤ 36) (h : bare s ≠ []) (ha : ∀ c ∈ bare s, dg c < r) : prs r s = (sg (ngS s) (pv r (bare s)), 0) := by
 unfold prs; rw [if_neg (by omega), if_neg h, Int.toNat_natCast, if_pos ha]
theorem prs_not {r : Nat} {s : List Nat} (h2 : 2 ≤ r) (h36 : r ≤ 36) (h : bare s ≠ []) (ha : ¬ ∀ c ∈ bare s, dg c < r) : prs r s = (0, 2) := by
 unfold prs; rw [if_neg (by omega), if_neg h, Int.toNat_natCast, if_neg ha]
theorem parse_bad (r : Int) (s : List Nat) (w : World) (h : r < 2 ∨ 36 < r) :
  Calls Tryz.prog 114 #[.string (bstr s), .int .i64 r] w (IntErr w 1) := by
 go_enter Tryz.func114, Tryz.ntmps114
 by_cases h1 : r < 2
 ·go_wp2
  refine bodyPost_ret (v := .tuple #[.agg #[.bool false, .slice none 0 0], .int .i64 1]) (by simp [results, Tryz.results114, go_sem]) rfl ⟨rfl, ?_⟩
  exact (Below.refl _ _).alloc (Nat.le_refl _) _
 ·have h2 : 36 < r := by omega
  go_wp2
  refine bodyPost_ret (v := .tuple #[.agg #[.bool false, .slice none 0 0], .int .i64 1]) (by simp [results, Tryz.results114, go_sem]) rfl ⟨rfl, ?_⟩
  exact (Below.refl _ _).alloc (Nat.le_refl _) _
theorem parse_plain (r : Nat) (s : List Nat) (w : World) (h2 : 2 ≤ r) (h36 : r ≤ 36) (hs : s.length ≤ 20000) (hb : ∀ c ∈ s, c < 256) (x : Nat) (hx : s.head? = some x) (hx1 : x ≠ 43) (hx2 : x ≠ 45) :
  Calls Tryz.prog 114 #[.string (bstr s), .int .i64 r] w (IntRes w (prs r s).1 (prs r s).2) := by
 have HPD := Lib.hid (fun W => Lib.hid (parseDigits_any r s W h2 h36 hs hb))
 obtain ⟨t, ht⟩ : ∃ t, t = bstr s := ⟨_, rfl⟩
 rw [← ht] at HPD ⊢
 obtain ⟨n, hn⟩ : ∃ n, n = s.length := ⟨_, rfl⟩
 have htz : t.size = n := by rw [ht, bstr_size, hn]
 have hn0 : 0 < n := by rw [hn]; cases s with | nil => cases hx | cons a l => simp
 have hn2 : n ≤ 20000 := by omega
 have hne : t.toList.isEmpty = false := by rw [ht, bstr_empty]; cases s with | nil => cases hx | cons a l => rfl
 have h0t : 0 < t.size := by omega
 have hu0 : (t[0]'h0t).toNat = x := by
  have h1 := bstr_get s 0 (by rw [← ht]; omega) hb
  rw [← List.head?_eq_getElem?, hx, Option.getD_some] at h1
  rw [← h1]
  congr 1
  congr 1
 have hx1' : ((x : Int) == 43) = false := by rw [beq_eq_false_iff_ne]; omega
 have hx2' : ((x : Int) == 45) = false := by rw [beq_eq_false_iff_ne]; omega
 have HS := Lib.hid hs
 have HB := Lib.hid hb
 have HX := Lib.hid hx
 have HBR : Hid (bare s = s) := Lib.hid (by unfold bare; rw [hx, if_neg (by simp; omega)])
 have HNG : Hid (ngS s = false) := Lib.hid (by unfold ngS; rw [hx]; simp; omega)
 have HNN : Hid (s ≠ []) := Lib.hid (by intro h; rw [h] at hx; cases hx)
 clear hn ht hs hb hx hx1 hx2
 go_enter Tryz.func114, Tryz.ntmps114
 go_wp2_with fail
 refine (HPD.out _).out.mono ?_
 rintro e w1 ⟨hb1, ⟨hall, v, rfl, hrd⟩ | ⟨hnot, rfl⟩⟩
 ·have HOWN := own_any false v _ w1 hrd (digs_lt (by decide) _)
  rw [vl_digs (by decide)] at HOWN
  have hres := prs_ok h2 h36 (by rw [HBR.out]; exact HNN.out) (by rw [HBR.out]; exact hall)
  rw [HBR.out, HNG.out] at hres
  have HRES := Lib.hid hres
  obtain ⟨z, hz⟩ : ∃ z, z = sg false (pv r s) := ⟨_, rfl⟩
  rw [← hz] at HOWN
  have HZ := Lib.hid hz
  have HOWN := Lib.hid HOWN
  have HB1 := Lib.hid hb1
  clear hall hrd hres hz hb1
  go_wp2_with fail
  refine HOWN.out.mono ?_
  rintro e w2 ⟨v2, rfl, ⟨ad2, n2, c2, rfl, hr2⟩, hb2⟩
  have HB2 := Lib.hid (HB1.out.trans (hb2.mono HB1.out.size))
  have HR2 := Lib.hid hr2
  clear hb2 hr2
  obtain ⟨cE, cF, fE, fF, _⟩ := box2 HB2.out
  generalize hbz : decide (z < 0) = bz
  have HBZ := Lib.hid hbz
  clear hbz
  go_wp2_with fail
  refine bodyPost_ret (v := .tuple #[.agg #[.bool bz, .slice ad2 n2 c2], .int .i64 0]) (by simp [results, Tryz.results114, go_sem, cE, cF]) rfl ?_
  rw [HRES.out]
  refine ⟨_, rfl, ⟨ad2, n2, c2, by rw [← HZ.out, HBZ.out], ?_⟩, ?_⟩
  ·rw [← HZ.out]
   exact HR2.out.store2 cE cF (by intro n h; cases h) (by intro n h; cases h) _ _
  ·exact ((box1b HB2.out).setCell (Nat.le_refl _) _).setCell (Nat.le_refl _) _
 ·have HRES := Lib.hid (prs_not h2 h36 (by rw [HBR.out]; exact HNN.out) (by rw [HBR.out]; exact hnot))
  have HB1 := Lib.hid hb1
  obtain ⟨cE, cF, fE, fF, _⟩ := box2 hb1
  clear hnot hb1
  go_wp2_with fail
  refine bodyPost_ret (v := .tuple #[.agg #[.bool false, .slice none 0 0], .int .i64 2]) (by simp [results, Tryz.results114, go_sem, cE, cF]) rfl ?_
  rw [HRES.out]
  exact ⟨_, rfl, IntV.zero _ false 0 rfl, ((box1b HB1.out).setCell (Nat.le_refl _) _).setCell (Nat.le_refl _) _⟩
theorem parse_plus (r : Nat) (l : List Nat) (w : World) (h2 : 2 ≤ r) (h36 : r ≤ 36) (hs : l.length ≤ 19999) (hb : ∀ c ∈ l, c < 256) (hl : l ≠ []) :
  Calls Tryz.prog 114 #[.string (bstr (43 :: l)), .int .i64 r] w (IntRes w (prs r (43 :: l)).1 (prs r (43 :: l)).2) := by
 have HPD := Lib.hid (fun W => Lib.hid (parseDigits_any r l W h2 h36 (by omega) hb))
 obtain ⟨t, ht⟩ : ∃ t, t = bstr (43 :: l) := ⟨_, rfl⟩
 rw [← ht]
 obtain ⟨u, hu⟩ : ∃ u, u = bstr l := ⟨_, rfl⟩
 rw [← hu] at HPD
 obtain ⟨n, hn⟩ : ∃ n, n = l.length + 1 := ⟨_, rfl⟩
 have htz : t.size = n := by rw [ht, bstr_size, hn]; rfl
 have hut : t.extract 1 n = u := by
  have h1 := bstr_tail (43 :: l)
  rw [← ht, htz] at h1
  rw [h1, hu]
  rfl
 have hn0 : 1 ≤ n := by omega
 have hn2 : n ≤ 20000 := by omega
 have hne : t.toList.isEmpty = false := by rw [ht, bstr_empty]; rfl
 have hune : u.toList.isEmpty = false := by rw [hu, bstr_empty, List.isEmpty_eq_false_iff]; exact hl
 have h0t : 0 < t.size := by omega
 have hu0 : (t[0]'h0t).toNat = 43 := by
  have h1 := bstr_get (43 :: l) 0 (by rw [← ht]; exact h0t) (fun c hc => (List.mem_cons.1 hc).elim (fun h => by rw [h]; decide) (hb c))
  rw [List.getElem?_cons_zero, Option.getD_some] at h1
  rw [← h1]
  congr 1
  congr 1
 have HBR : Hid (bare (43 :: l) = l) := Lib.hid (by unfold bare; rw [if_pos (by simp)]; rfl)
 have HNG : Hid (ngS (43 :: l) = false) := Lib.hid rfl
 have HNN : Hid (l ≠ []) := Lib.hid hl
 clear hn hu ht hs hb hl
 go_enter Tryz.func114, Tryz.ntmps114
 go_wp2_with fail
 refine (HPD.out _).out.mono ?_
 rintro e w1 ⟨hb1, ⟨hall, v, rfl, hrd⟩ | ⟨hnot, rfl⟩⟩
 ·have HOWN := own_any false v _ w1 hrd (digs_lt (by decide) _)
  rw [vl_digs (by decide)] at HOWN
  have hres := prs_ok h2 h36 (by rw [HBR.out]; exact HNN.out) (by rw [HBR.out]; exact hall)
  rw [HBR.out, HNG.out] at hres
  have HRES := Lib.hid hres
  obtain ⟨z, hz⟩ : ∃ z, z = sg false (pv r l) := ⟨_, rfl⟩
  rw [← hz] at HOWN
  have HZ := Lib.hid hz
  have HOWN := Lib.hid HOWN
  have HB1 := Lib.hid hb1
  clear hall hrd hres hz hb1
  go_wp2_with fail
  refine HOWN.out.mono ?_
  rintro e w2 ⟨v2, rfl, ⟨ad2, n2, c2, rfl, hr2⟩, hb2⟩
  have HB2 := Lib.hid (HB1.out.trans (hb2.mono HB1.out.size))
  have HR2 := Lib.hid hr2
  clear hb2 hr2
  obtain ⟨cE, cF, fE, fF, _⟩ := box2 HB2.out
  generalize hbz : decide (z < 0) = bz
  have HBZ := Lib.hid hbz
  clear hbz
  go_wp2_with fail
  refine bodyPost_ret (v := .tuple #[.agg #[.bool bz, .slice ad2 n2 c2], .int .i64 0]) (by simp [results, Tryz.results114, go_sem, cE, cF]) rfl ?_
  rw [HRES.out]
  refine ⟨_, rfl, ⟨ad2, n2, c2, by rw [← HZ.out, HBZ.out], ?_⟩, ?_⟩
  ·rw [← HZ.out]
   exact HR2.out.store2 cE cF (by intro n h; cases h) (by intro n h; cases h) _ _
  ·exact ((box1b HB2.out).setCell (Nat.le_refl _) _).setCell (Nat.le_refl _) _
 ·have HRES := Lib.hid (prs_not h2 h36 (by rw [HBR.out]; exact HNN.out) (by rw [HBR.out]; exact hnot))
  have HB1 := Lib.hid hb1
  obtain ⟨cE, cF, fE, fF, _⟩ := box2 hb1
  clear hnot hb1
  go_wp2_with fail
  refine bodyPost_ret (v := .tuple #[.agg #[.bool false, .slice none 0 0], .int .i64 2]) (by simp [results, Tryz.results114, go_sem, cE, cF]) rfl ?_
  rw [HRES.out]
  exact ⟨_, rfl, IntV.zero _ false 0 rfl, ((box1b HB1.out).setCell (Nat.le_refl _) _).setCell (Nat.le_refl _) _⟩
theorem parse_minus (r : Nat) (l : List Nat) (w : World) (h2 : 2 ≤ r) (h36 : r ≤ 36) (hs : l.length ≤ 19999) (hb : ∀ c ∈ l, c < 256) (hl : l ≠ []) :
  Calls Tryz.prog 114 #[.string (bstr (45 :: l)), .int .i64 r] w (IntRes w (prs r (45 :: l)).1 (prs r (45 :: l)).2) := by
 have HPD := Lib.hid (fun W => Lib.hid (parseDigits_any r l W h2 h36 (by omega) hb))
 obtain ⟨t, ht⟩ : ∃ t, t = bstr (45 :: l) := ⟨_, rfl⟩
 rw [← ht]
 obtain ⟨u, hu⟩ : ∃ u, u = bstr l := ⟨_, rfl⟩
 rw [← hu] at HPD
 obtain ⟨n, hn⟩ : ∃ n, n = l.length + 1 := ⟨_, rfl⟩
 have htz : t.size = n := by rw [ht, bstr_size, hn]; rfl
 have hut : t.extract 1 n = u := by
  have h1 := bstr_tail (45 :: l)
  rw [← ht, htz] at h1
  rw [h1, hu]
  rfl
 have hn0 : 1 ≤ n := by omega
 have hn2 : n ≤ 20000 := by omega
 have hne : t.toList.isEmpty = false := by rw [ht, bstr_empty]; rfl
 have hune : u.toList.isEmpty = false := by rw [hu, bstr_empty, List.isEmpty_eq_false_iff]; exact hl
 have h0t : 0 < t.size := by omega
 have hu0 : (t[0]'h0t).toNat = 45 := by
  have h1 := bstr_get (45 :: l) 0 (by rw [← ht]; exact h0t) (fun c hc => (List.mem_cons.1 hc).elim (fun h => by rw [h]; decide) (hb c))
  rw [List.getElem?_cons_zero, Option.getD_some] at h1
  rw [← h1]
  congr 1
  congr 1
 have HBR : Hid (bare (45 :: l) = l) := Lib.hid (by unfold bare; rw [if_pos (by simp)]; rfl)
 have HNG : Hid (ngS (45 :: l) = true) := Lib.hid rfl
 have HNN : Hid (l ≠ []) := Lib.hid hl
 clear hn hu ht hs hb hl
 go_enter Tryz.func114, Tryz.ntmps114
 go_wp2_with fail
 refine (HPD.out _).out.mono ?_
 rintro e w1 ⟨hb1, ⟨hall, v, rfl, hrd⟩ | ⟨hnot, rfl⟩⟩
 ·have HOWN := own_any true v _ w1 hrd (digs_lt (by decide) _)
  rw [vl_digs (by decide)] at HOWN
  have hres := prs_ok h2 h36 (by rw [HBR.out]; exact HNN.out) (by rw [HBR.out]; exact hall)
  rw [HBR.out, HNG.out] at hres
  have HRES := Lib.hid hres
  obtain ⟨z, hz⟩ : ∃ z, z = sg true (pv r l) := ⟨_, rfl⟩
  rw [← hz] at HOWN
  have HZ := Lib.hid hz
  have HOWN := Lib.hid HOWN
  have HB1 := Lib.hid hb1
  clear hall hrd hres hz hb1
  go_wp2_with fail
  refine HOWN.out.mono ?_
  rintro e w2 ⟨v2, rfl, ⟨ad2, n2, c2, rfl, hr2⟩, hb2⟩
  have HB2 := Lib.hid (HB1.out.trans (hb2.mono HB1.out.size))
  have HR2 := Lib.hid hr2
  clear hb2 hr2
  obtain ⟨cE, cF, fE, fF, _⟩ := box2 HB2.out
  generalize hbz : decide (z < 0) = bz
  have HBZ := Lib.hid hbz
  clear hbz
  go_wp2_with fail
  refine bodyPost_ret (v := .tuple #[.agg #[.bool bz, .slice ad2 n2 c2], .int .i64 0]) (by simp [results, Tryz.results114, go_sem, cE, cF]) rfl ?_
  rw [HRES.out]
  refine ⟨_, rfl, ⟨ad2, n2, c2, by rw [← HZ.out, HBZ.out], ?_⟩, ?_⟩
  ·rw [← HZ.out]
   exact HR2.out.store2 cE cF (by intro n h; cases h) (by intro n h; cases h) _ _
  ·exact ((box1b HB2.out).setCell (Nat.le_refl _) _).setCell (Nat.le_refl _) _
 ·have HRES := Lib.hid (prs_not h2 h36 (by rw [HBR.out]; exact HNN.out) (by rw [HBR.out]; exact hnot))
  have HB1 := Lib.hid hb1
  obtain ⟨cE, cF, fE, fF, _⟩ := box2 hb1
  clear hnot hb1
  go_wp2_with fail
  refine bodyPost_ret (v := .tuple #[.agg #[.bool false, .slice none 0 0], .int .i64 2]) (by simp [results, Tryz.results114, go_sem, cE, cF]) rfl ?_
  rw [HRES.out]
  exact ⟨_, rfl, IntV.zero _ false 0 rfl, ((box1b HB1.out).setCell (Nat.le_refl _) _).setCell (Nat.le_refl _) _⟩
theorem parse_plus_none (r : Nat) (w : World) (h2 : 2 ≤ r) (h36 : r ≤ 36) :
  Calls Tryz.prog 114 #[.string (bstr [43]), .int .i64 r] w (IntErr w 2) := by
 obtain ⟨t, ht⟩ : ∃ t, t = bstr [43] := ⟨_, rfl⟩
 rw [← ht]
 have htz : t.size = 1 := by rw [ht, bstr_size]; rfl
 obtain ⟨u, hu⟩ : ∃ u, u = bstr [] := ⟨_, rfl⟩
 have hut : t.extract 1 1 = u := by
  have h1 := bstr_tail [43]
  rw [← ht, htz] at h1
  rw [h1, hu]
  rfl
 have hne : t.toList.isEmpty = false := by rw [ht, bstr_empty]; rfl
 have hune : u.toList.isEmpty = true := by rw [hu, bstr_empty]; rfl
 have h0t : 0 < t.size := by omega
 have hu0 : (t[0]'h0t).toNat = 43 := by
  have h1 := bstr_get [43] 0 (by rw [← ht]; exact h0t) (by simp)
  rw [List.getElem?_cons_zero, Option.getD_some] at h1
  rw [← h1]
  congr 1
  congr 1
 clear ht hu
 go_enter Tryz.func114, Tryz.ntmps114
 go_wp2
 refine bodyPost_ret (v := .tuple #[.agg #[.bool false, .slice none 0 0], .int .i64 2]) (by simp [results, Tryz.results114, go_sem]) rfl ⟨rfl, ?_⟩
 exact (Below.refl _ _).alloc (Nat.le_refl _) _
theorem parse_minus_none (r : Nat) (w : World) (h2 : 2 ≤ r) (h36 : r ≤ 36) :
  Calls Tryz.prog 114 #[.string (bstr [45]), .int .i64 r] w (IntErr w 2) := by
 obtain ⟨t, ht⟩ : ∃ t, t = bstr [45] := ⟨_, rfl⟩
 rw [← ht]
 have htz : t.size = 1 := by rw [ht, bstr_size]; rfl
 obtain ⟨u, hu⟩ : ∃ u, u = bstr [] := ⟨_, rfl⟩
 have hut : t.extract 1 1 = u := by
  have h1 := bstr_tail [45]
  rw [← ht, htz] at h1
  rw [h1, hu]
  rfl
 have hne : t.toList.isEmpty = false := by rw [ht, bstr_empty]; rfl
 have hune : u.toList.isEmpty = true := by rw [hu, bstr_empty]; rfl
 have h0t : 0 < t.size := by omega
 have hu0 : (t[0]'h0t).toNat = 45 := by
  have h1 := bstr_get [45] 0 (by rw [← ht]; exact h0t) (by simp)
  rw [List.getElem?_cons_zero, Option.getD_some] at h1
  rw [← h1]
  congr 1
  congr 1
 clear ht hu
 go_enter Tryz.func114, Tryz.ntmps114
 go_wp2
 refine bodyPost_ret (v := .tuple #[.agg #[.bool false, .slice none 0 0], .int .i64 2]) (by simp [results, Tryz.results114, go_sem]) rfl ⟨rfl, ?_⟩
 exact (Below.refl _ _).alloc (Nat.le_refl _) _
theorem parse_none (r : Nat) (w : World) (h2 : 2 ≤ r) (h36 : r ≤ 36) :
  Calls Tryz.prog 114 #[.string (bstr []), .int .i64 r] w (IntErr w 2) := by
 obtain ⟨t, ht⟩ : ∃ t, t = bstr [] := ⟨_, rfl⟩
 rw [← ht]
 have htz : t.size = 0 := by rw [ht, bstr_size]; rfl
 have hne : t.toList.isEmpty = true := by rw [ht, bstr_empty]; rfl
 clear ht
 go_enter Tryz.func114, Tryz.ntmps114
 go_wp2
 refine bodyPost_ret (v := .tuple #[.agg #[.bool false, .slice none 0 0], .int .i64 2]) (by simp [results, Tryz.results114, go_sem]) rfl ⟨rfl, ?_⟩
 exact (Below.refl _ _).alloc (Nat.le_refl _) _
theorem parse_any (r : Int) (s : List Nat) (w : World) (hs : s.length ≤ 20000) (hb : ∀ c ∈ s, c < 256) :
  Calls Tryz.prog 114 #[.string (bstr s), .int .i64 r] w (IntRes w (prs r s).1 (prs r s).2) := by
 by_cases hr : r < 2 ∨ 36 < r
 ·rw [prs_bad s hr]
  exact (parse_bad r s w hr).mono fun _ _ h => h.res
 obtain ⟨n, rfl⟩ : ∃ n : Nat, r = n := ⟨r.toNat, by omega⟩
 have h2 : 2 ≤ n := by omega
 have h36 : n ≤ 36 := by omega
 cases s with
 | nil =>
  rw [prs_empty h2 h36 (by simp [bare])]
  exact (parse_none n w h2 h36).mono fun _ _ h => h.res
 | cons x l =>
  have hbl : ∀ c ∈ l, c < 256 := fun c hc => hb c (List.mem_cons_of_mem _ hc)
  rw [List.length_cons] at hs
  by_cases h43 : x = 43
  ·subst h43
   by_cases hl : l = []
   ·subst hl
    rw [prs_empty h2 h36 (by simp [bare])]
    exact (parse_plus_none n w h2 h36).mono fun _ _ h => h.res
   ·exact parse_plus n l w h2 h36 (by omega) hbl hl
  ·by_cases h45 : x = 45
   ·subst h45
    by_cases hl : l = []
    ·subst hl
     rw [prs_empty h2 h36 (by simp [bare])]
     exact (parse_minus_none n w h2 h36).mono fun _ _ h => h.res
    ·exact parse_minus n l w h2 h36 (by omega) hbl hl
   ·exact parse_plain n (x :: l) w h2 h36 hs hb x rfl h43 h45
end
end Go.Proofs.YtghgcbedajaldaaGreat
/- Text, in the program: for every number and every radix. -/
namespace Go.Proofs.YtghgcbedajaldaaGreat
section
open Go.RowKit Digs
def TextRes (w : World) (s : List Nat) (c : Int) (e : Ending) (w' : World) : Prop := e = .returned (.tuple #[.string (bstr s), .int .i64 c]) ∧ Below w.heap.size w w'
def txt (r : Int) (z : Int) : List Nat × Int := if r < 2 ∨ 36 < r then ([], 1) else if z = 0 then ([48], 0) else (textB (decide (z < 0)) r.toNat z.natAbs, 0)
theorem text_bad (r z : Int) (v : Value) (w : World) (h : r < 2 ∨ 36 < r) (hv : IntV w v z) :
  Calls Tryz.prog 111 #[v, .int .i64 r] w (TextRes w [] 1) := by
 obtain ⟨ad, n, c, rfl, _⟩ := hv
 generalize decide (z < 0) = b
 go_enter Tryz.func111, Tryz.ntmps111
 by_cases h1 : r < 2
 ·go_wp2
  go_ret2
  exact ⟨rfl, (Below.refl _ _).alloc (Nat.le_refl _) _⟩
 ·have h2 : 36 < r := by omega
  go_wp2
  go_ret2
  exact ⟨rfl, (Below.refl _ _).alloc (Nat.le_refl _) _⟩
theorem text_zero (r : Nat) (v : Value) (w : World) (h2 : 2 ≤ r) (h36 : r ≤ 36) (hv : IntV w v 0) :
  Calls Tryz.prog 111 #[v, .int .i64 r] w (TextRes w [48] 0) := by
 have HSG := Lib.hid (fun W hw => Lib.hid (sign_any 0 v W (by unfold len; rw [Int.natAbs_zero, digs_zero]; decide) (hv.keep (w' := W) hw)))
 have hs0 : sgnZ 0 = 0 := rfl
 rw [hs0] at HSG
 clear hs0
 obtain ⟨ad, n, c, rfl, _⟩ := hv
 go_enter Tryz.func111, Tryz.ntmps111
 go_wp2_with fail
 refine (HSG.out _ ((Below.refl _ _).alloc (Nat.le_refl _) _)).out.mono ?_
 rintro e w1 ⟨rfl, hb1⟩
 have HB := Lib.hid (box1b hb1)
 clear hb1
 go_wp2
 go_ret2
 exact ⟨rfl, HB.out⟩
theorem Text_all (r : Int) (z : Int) (v : Value) (w : World) (hl : len z ≤ 1000000) (h : IntV w v z) :
  Calls Tryz.prog 111 #[v, .int .i64 r] w (TextRes w (txt r z).1 (txt r z).2) := by
 unfold txt
 by_cases hr : r < 2 ∨ 36 < r
 ·rw [if_pos hr]
  exact text_bad r z v w hr h
 rw [if_neg hr]
 obtain ⟨n, rfl⟩ : ∃ n : Nat, r = n := ⟨r.toNat, by omega⟩
 have h2 : 2 ≤ n := by omega
 have h36 : n ≤ 36 := by omega
 by_cases hz : z = 0
 ·rw [if_pos hz]
  subst hz
  exact text_zero n v w h2 h36 h
 ·rw [if_neg hz, Int.toNat_natCast]
  exact text_any n z v w h2 h36 hz hl h
end
end Go.Proofs.YtghgcbedajaldaaGreat
