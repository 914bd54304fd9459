/-  RAr  -/
import Derived.Test.YtghgcbedajaldaaGreatMkan
/-  RAct RSmall RWidth  -/
namespace Go.Proofs.YtghgcbedajaldaaGreat
section
open Go.RowKit Digs
set_option maxHeartbeats 2000000 in
set_option maxRecDepth 100000 in
theorem rAdd_same (bx by' : Bool) (adx ady : Option Addr) (nx cx ny cy : Nat) (m n : Nat) (w : World) (hm : (digs 65536 m).length ≤ 1000000) (hn : (digs 65536 n).length ≤ 1000000) (hs : (bx == by') = true)
  (ha : Rd .i64 w (.slice adx nx cx) (digs 65536 m)) (hb : Rd .i64 w (.slice ady ny cy) (digs 65536 n)) :
  Calls Tryz.prog 86 #[.agg #[.bool bx, .slice adx nx cx], .agg #[.bool by', .slice ady ny cy]] w (RefPost w (sg bx (m + n))) := by
 have HCALL := fun W hw => Lib.hid (plus_any m n _ _ W hm hn (ha.keep (w' := W) hw) (hb.keep hw))
 have HOWN := fun (v1 : Value) (s1 : List Nat) (w1 : World) (h1 : Rd .i64 w1 v1 s1) (hl : ∀ x ∈ s1, x < 65536) (hv : vl 65536 s1 = m + n) => Lib.hid (show Calls Tryz.prog 122 #[.bool bx, v1] w1 (RefPost w1 (sg bx (m + n))) by have h9 := rmade_any bx v1 s1 w1 h1 hl; rw [hv] at h9; exact h9)
 have HCALL := Lib.hid HCALL
 have HOWN := Lib.hid HOWN
 clear hm hn ha hb
 go_enter Tryz.func86, Tryz.ntmps86
 go_wp2_with fail
 go_region_held3 (fun w' => w'.cell? ⟨w.heap.size, 0, none⟩ = some (.bool bx) ∧ w'.cell? ⟨w.heap.size, 1, none⟩ = some (.slice adx nx cx) ∧ w'.cell? ⟨w.heap.size + 1, 1, none⟩ = some (.slice ady ny cy))
  (first | exact ⟨cA, cB, cD⟩ | exact ⟨cA2, cB2, cD2⟩ | exact ⟨(cell_store2 (by omega)).trans cA2, (cell_store2 (by omega)).trans cB2, (cell_store2 (by omega)).trans cD2⟩ | go_keep)
  (first | (go_at_call 126; refine (HCALL.out _ (below3 _ _ _ _).drew).out.mono ?_; rintro e w1 ⟨v1, s1, rfl, ho1, hl1, hvs1, hb1⟩; obtain ⟨cA, cB, cC, cD, cE, cF, fC, fE, fF, hsz⟩ := box3 ((Below.refl _ _).drew.trans hb1)) | (go_at_call 122; refine (HOWN.out _ s1 _ (Oi.rd (by assumption)) hl1 hvs1).out.mono ?_; rintro e w2 ⟨v2, rfl, ⟨ad2, n2, c2, rfl, hr2⟩, hb2⟩; have cA2 := (hb2.cell (p := ⟨w.heap.size, 0, none⟩) (show w.heap.size < w1.heap.size by omega)).trans cA; have cB2 := (hb2.cell (p := ⟨w.heap.size, 1, none⟩) (show w.heap.size < w1.heap.size by omega)).trans cB; have cD2 := (hb2.cell (p := ⟨w.heap.size + 1, 1, none⟩) (show w.heap.size + 1 < w1.heap.size by omega)).trans cD; have cE2 := (hb2.cell (p := ⟨w.heap.size + 2, 0, none⟩) hsz).trans cE; have cF2 := (hb2.cell (p := ⟨w.heap.size + 2, 1, none⟩) hsz).trans cF; have fE2 := (hb2.frozen (p := ⟨w.heap.size + 2, 0, none⟩) hsz).trans fE; have fF2 := (hb2.frozen (p := ⟨w.heap.size + 2, 1, none⟩) hsz).trans fF))
 have HR := Lib.hid (hr2.store2 cE2 cF2 (by intro n h; cases h) (by intro n h; cases h))
 have HB := Lib.hid ((below3 w _ _ _).drew.trans ((hb1.mono (Nat.le_of_lt (by simp <;> omega))).trans (hb2.mono (by omega))))
 clear ho1 hb1 hr2 hb2 hl1 hvs1
 go_wp2
 refine bodyPost_ret (v := .agg #[.bool (decide (sg bx (m + n) < 0)), .slice ad2 n2 c2]) (by simp [results, Tryz.results86, go_sem, cE2, cF2]) rfl ⟨_, rfl, ⟨_, _, _, rfl, HR.out _ _⟩, ?_⟩
 exact (HB.out.setCell (by simp; omega) _).setCell (by simp; omega) _
set_option maxHeartbeats 2000000 in
set_option maxRecDepth 100000 in
theorem rAdd_lt (bx by' : Bool) (adx ady : Option Addr) (nx cx ny cy : Nat) (m n : Nat) (w : World) (hm : (digs 65536 m).length ≤ 1000000) (hn : (digs 65536 n).length ≤ 1000000) (hs : (bx == by') = false) (hmn : m < n)
  (ha : Rd .i64 w (.slice adx nx cx) (digs 65536 m)) (hb : Rd .i64 w (.slice ady ny cy) (digs 65536 n)) :
  Calls Tryz.prog 86 #[.agg #[.bool bx, .slice adx nx cx], .agg #[.bool by', .slice ady ny cy]] w (RefPost w (sg by' (n - m))) := by
 have HCALL := fun W hw => Lib.hid (minus_any n m _ _ W hn (Nat.le_of_lt hmn) (hb.keep (w' := W) hw) (ha.keep hw))
 have HOWN := fun v1 w1 h1 => Lib.hid (rmade_any by' v1 (digs 65536 (n - m)) w1 h1 (digs_lt (by decide) _))
 rw [vl_digs (by decide)] at HOWN
 have HCALL := Lib.hid HCALL
 have HOWN := Lib.hid HOWN
 have HCMP := fun W hw => Lib.hid (rcompare_any m n _ _ W hm (ha.keep (w' := W) hw) (hb.keep hw))
 have HCMP := Lib.hid HCMP
 clear hm hn ha hb
 go_enter Tryz.func86, Tryz.ntmps86
 go_wp2_with fail
 refine (HCMP.out _ (below3 _ _ _ _)).out.mono ?_
 rintro e w0 ⟨rfl, d, rfl⟩
 have hc : cmpN m n = -1 := by unfold cmpN; rw [if_pos hmn]
 rw [hc]
 clear hc
 go_wp2_with fail
 go_region_held3 (fun w' => w'.cell? ⟨w.heap.size, 1, none⟩ = some (.slice adx nx cx) ∧ w'.cell? ⟨w.heap.size + 1, 0, none⟩ = some (.bool by') ∧ w'.cell? ⟨w.heap.size + 1, 1, none⟩ = some (.slice ady ny cy))
  (first | exact ⟨cB, cC, cD⟩ | exact ⟨cB2, cC2, cD2⟩ | exact ⟨(cell_store2 (by omega)).trans cB2, (cell_store2 (by omega)).trans cC2, (cell_store2 (by omega)).trans cD2⟩ | go_keep)
  (first | (go_at_call 128; refine (HCALL.out _ (below_drewN' (below3 _ _ _ _) _).drew).out.mono ?_; rintro e w1 ⟨v1, rfl, ho1, hb1⟩; obtain ⟨cA, cB, cC, cD, cE, cF, fC, fE, fF, hsz⟩ := box3 ((below_drewN' (Below.refl _ _) _).drew.trans hb1)) | (go_at_call 122; refine (HOWN.out _ _ (Oi.rd (by assumption))).out.mono ?_; rintro e w2 ⟨v2, rfl, ⟨ad2, n2, c2, rfl, hr2⟩, hb2⟩; have cB2 := (hb2.cell (p := ⟨w.heap.size, 1, none⟩) (show w.heap.size < w1.heap.size by omega)).trans cB; have cC2 := (hb2.cell (p := ⟨w.heap.size + 1, 0, none⟩) (show w.heap.size + 1 < w1.heap.size by omega)).trans cC; have cD2 := (hb2.cell (p := ⟨w.heap.size + 1, 1, none⟩) (show w.heap.size + 1 < w1.heap.size by omega)).trans cD; have cE2 := (hb2.cell (p := ⟨w.heap.size + 2, 0, none⟩) hsz).trans cE; have cF2 := (hb2.cell (p := ⟨w.heap.size + 2, 1, none⟩) hsz).trans cF; have fE2 := (hb2.frozen (p := ⟨w.heap.size + 2, 0, none⟩) hsz).trans fE; have fF2 := (hb2.frozen (p := ⟨w.heap.size + 2, 1, none⟩) hsz).trans fF))
 have HR := Lib.hid (hr2.store2 cE2 cF2 (by intro n h; cases h) (by intro n h; cases h))
 have HB := Lib.hid ((below_drewN' (below3 w _ _ _) _).drew.trans ((hb1.mono (Nat.le_of_lt (by simp <;> omega))).trans (hb2.mono (by omega))))
 clear ho1 hb1 hr2 hb2
 go_wp2
 refine bodyPost_ret (v := .agg #[.bool (decide (sg by' (n - m) < 0)), .slice ad2 n2 c2]) (by simp [results, Tryz.results86, go_sem, cE2, cF2]) rfl ⟨_, rfl, ⟨_, _, _, rfl, HR.out _ _⟩, ?_⟩
 exact (HB.out.setCell (by simp; omega) _).setCell (by simp; omega) _
set_option maxHeartbeats 2000000 in
set_option maxRecDepth 100000 in
theorem rAdd_gt (bx by' : Bool) (adx ady : Option Addr) (nx cx ny cy : Nat) (m n : Nat) (w : World) (hm : (digs 65536 m).length ≤ 1000000) (_hn : (digs 65536 n).length ≤ 1000000) (hs : (bx == by') = false) (hmn : n < m)
  (ha : Rd .i64 w (.slice adx nx cx) (digs 65536 m)) (hb : Rd .i64 w (.slice ady ny cy) (digs 65536 n)) :
  Calls Tryz.prog 86 #[.agg #[.bool bx, .slice adx nx cx], .agg #[.bool by', .slice ady ny cy]] w (RefPost w (sg bx (m - n))) := by
 have HCALL := fun W hw => Lib.hid (minus_any m n _ _ W hm (Nat.le_of_lt hmn) (ha.keep (w' := W) hw) (hb.keep hw))
 have HOWN := fun v1 w1 h1 => Lib.hid (rmade_any bx v1 (digs 65536 (m - n)) w1 h1 (digs_lt (by decide) _))
 rw [vl_digs (by decide)] at HOWN
 have HCALL := Lib.hid HCALL
 have HOWN := Lib.hid HOWN
 have HCMP := fun W hw => Lib.hid (rcompare_any m n _ _ W hm (ha.keep (w' := W) hw) (hb.keep hw))
 have HCMP := Lib.hid HCMP
 clear hm _hn ha hb
 go_enter Tryz.func86, Tryz.ntmps86
 go_wp2_with fail
 refine (HCMP.out _ (below3 _ _ _ _)).out.mono ?_
 rintro e w0 ⟨rfl, d, rfl⟩
 have hc : cmpN m n = 1 := by unfold cmpN; rw [if_neg (by omega), if_pos hmn]
 rw [hc]
 clear hc
 go_wp2_with fail
 go_region_held3 (fun w' => w'.cell? ⟨w.heap.size, 0, none⟩ = some (.bool bx) ∧ w'.cell? ⟨w.heap.size, 1, none⟩ = some (.slice adx nx cx) ∧ w'.cell? ⟨w.heap.size + 1, 1, none⟩ = some (.slice ady ny cy))
  (first | exact ⟨cA, cB, cD⟩ | exact ⟨cA2, cB2, cD2⟩ | exact ⟨(cell_store2 (by omega)).trans cA2, (cell_store2 (by omega)).trans cB2, (cell_store2 (by omega)).trans cD2⟩ | go_keep)
  (first | (go_at_call 128; refine (HCALL.out _ (below_drewN' (below3 _ _ _ _) _).drew).out.mono ?_; rintro e w1 ⟨v1, rfl, ho1, hb1⟩; obtain ⟨cA, cB, cC, cD, cE, cF, fC, fE, fF, hsz⟩ := box3 ((below_drewN' (Below.refl _ _) _).drew.trans hb1)) | (go_at_call 122; refine (HOWN.out _ _ (Oi.rd (by assumption))).out.mono ?_; rintro e w2 ⟨v2, rfl, ⟨ad2, n2, c2, rfl, hr2⟩, hb2⟩; have cA2 := (hb2.cell (p := ⟨w.heap.size, 0, none⟩) (show w.heap.size < w1.heap.size by omega)).trans cA; have cB2 := (hb2.cell (p := ⟨w.heap.size, 1, none⟩) (show w.heap.size < w1.heap.size by omega)).trans cB; have cD2 := (hb2.cell (p := ⟨w.heap.size + 1, 1, none⟩) (show w.heap.size + 1 < w1.heap.size by omega)).trans cD; have cE2 := (hb2.cell (p := ⟨w.heap.size + 2, 0, none⟩) hsz).trans cE; have cF2 := (hb2.cell (p := ⟨w.heap.size + 2, 1, none⟩) hsz).trans cF; have fE2 := (hb2.frozen (p := ⟨w.heap.size + 2, 0, none⟩) hsz).trans fE; have fF2 := (hb2.frozen (p := ⟨w.heap.size + 2, 1, none⟩) hsz).trans fF))
 have HR := Lib.hid (hr2.store2 cE2 cF2 (by intro n h; cases h) (by intro n h; cases h))
 have HB := Lib.hid ((below_drewN' (below3 w _ _ _) _).drew.trans ((hb1.mono (Nat.le_of_lt (by simp <;> omega))).trans (hb2.mono (by omega))))
 clear ho1 hb1 hr2 hb2
 go_wp2
 refine bodyPost_ret (v := .agg #[.bool (decide (sg bx (m - n) < 0)), .slice ad2 n2 c2]) (by simp [results, Tryz.results86, go_sem, cE2, cF2]) rfl ⟨_, rfl, ⟨_, _, _, rfl, HR.out _ _⟩, ?_⟩
 exact (HB.out.setCell (by simp; omega) _).setCell (by simp; omega) _
set_option maxHeartbeats 2000000 in
set_option maxRecDepth 100000 in
theorem rAdd_eq (bx by' : Bool) (adx ady : Option Addr) (nx cx ny cy : Nat) (m n : Nat) (w : World) (hm : (digs 65536 m).length ≤ 1000000) (_hn : (digs 65536 n).length ≤ 1000000) (hs : (bx == by') = false) (hmn : m = n)
  (ha : Rd .i64 w (.slice adx nx cx) (digs 65536 m)) (hb : Rd .i64 w (.slice ady ny cy) (digs 65536 n)) :
  Calls Tryz.prog 86 #[.agg #[.bool bx, .slice adx nx cx], .agg #[.bool by', .slice ady ny cy]] w (RefPost w (sg bx (m - n))) := by
 have HCALL := fun W hw => Lib.hid (minus_any m n _ _ W hm (Nat.le_of_eq hmn.symm) (ha.keep (w' := W) hw) (hb.keep hw))
 have HOWN := fun v1 w1 h1 => Lib.hid (rmade_any bx v1 (digs 65536 (m - n)) w1 h1 (digs_lt (by decide) _))
 rw [vl_digs (by decide)] at HOWN
 have HCALL := Lib.hid HCALL
 have HOWN := Lib.hid HOWN
 have HCMP := fun W hw => Lib.hid (rcompare_any m n _ _ W hm (ha.keep (w' := W) hw) (hb.keep hw))
 have HCMP := Lib.hid HCMP
 have HMN := Lib.hid hmn
 clear hmn
 clear hm _hn ha hb
 go_enter Tryz.func86, Tryz.ntmps86
 go_wp2_with fail
 refine (HCMP.out _ (below3 _ _ _ _)).out.mono ?_
 rintro e w0 ⟨rfl, d, rfl⟩
 have hc : cmpN m n = 0 := by rw [HMN.out, cmpN_self]
 rw [hc]
 clear hc
 go_wp2_with fail
 go_region_held3 (fun w' => w'.cell? ⟨w.heap.size, 0, none⟩ = some (.bool bx) ∧ w'.cell? ⟨w.heap.size, 1, none⟩ = some (.slice adx nx cx) ∧ w'.cell? ⟨w.heap.size + 1, 1, none⟩ = some (.slice ady ny cy))
  (first | exact ⟨cA, cB, cD⟩ | exact ⟨cA2, cB2, cD2⟩ | exact ⟨(cell_store2 (by omega)).trans cA2, (cell_store2 (by omega)).trans cB2, (cell_store2 (by omega)).trans cD2⟩ | go_keep)
  (first | (go_at_call 128; refine (HCALL.out _ (below_drewN' (below3 _ _ _ _) _).drew).out.mono ?_; rintro e w1 ⟨v1, rfl, ho1, hb1⟩; obtain ⟨cA, cB, cC, cD, cE, cF, fC, fE, fF, hsz⟩ := box3 ((below_drewN' (Below.refl _ _) _).drew.trans hb1)) | (go_at_call 122; refine (HOWN.out _ _ (Oi.rd (by assumption))).out.mono ?_; rintro e w2 ⟨v2, rfl, ⟨ad2, n2, c2, rfl, hr2⟩, hb2⟩; have cA2 := (hb2.cell (p := ⟨w.heap.size, 0, none⟩) (show w.heap.size < w1.heap.size by omega)).trans cA; have cB2 := (hb2.cell (p := ⟨w.heap.size, 1, none⟩) (show w.heap.size < w1.heap.size by omega)).trans cB; have cD2 := (hb2.cell (p := ⟨w.heap.size + 1, 1, none⟩) (show w.heap.size + 1 < w1.heap.size by omega)).trans cD; have cE2 := (hb2.cell (p := ⟨w.heap.size + 2, 0, none⟩) hsz).trans cE; have cF2 := (hb2.cell (p := ⟨w.heap.size + 2, 1, none⟩) hsz).trans cF; have fE2 := (hb2.frozen (p := ⟨w.heap.size + 2, 0, none⟩) hsz).trans fE; have fF2 := (hb2.frozen (p := ⟨w.heap.size + 2, 1, none⟩) hsz).trans fF))
 have HR := Lib.hid (hr2.store2 cE2 cF2 (by intro n h; cases h) (by intro n h; cases h))
 have HB := Lib.hid ((below_drewN' (below3 w _ _ _) _).drew.trans ((hb1.mono (Nat.le_of_lt (by simp <;> omega))).trans (hb2.mono (by omega))))
 clear ho1 hb1 hr2 hb2
 go_wp2
 refine bodyPost_ret (v := .agg #[.bool (decide (sg bx (m - n) < 0)), .slice ad2 n2 c2]) (by simp [results, Tryz.results86, go_sem, cE2, cF2]) rfl ⟨_, rfl, ⟨_, _, _, rfl, HR.out _ _⟩, ?_⟩
 exact (HB.out.setCell (by simp; omega) _).setCell (by simp; omega) _
set_option maxHeartbeats 2000000 in
set_option maxRecDepth 100000 in
theorem rMul_raw (bx by' : Bool) (adx ady : Option Addr) (nx cx ny cy : Nat) (m n : Nat) (w : World) (hm : (digs 65536 m).length ≤ 1000000) (hn : (digs 65536 n).length ≤ 1000000)
  (ha : Rd .i64 w (.slice adx nx cx) (digs 65536 m)) (hb : Rd .i64 w (.slice ady ny cy) (digs 65536 n)) :
  Calls Tryz.prog 89 #[.agg #[.bool bx, .slice adx nx cx], .agg #[.bool by', .slice ady ny cy]] w (RefPost w (sg (bx != by') (m * n))) := by
 have HCALL := fun W hw => Lib.hid (times_any m n _ _ W hm hn (ha.keep (w' := W) hw) (hb.keep hw))
 have HOWN := fun v1 w1 h1 => Lib.hid (rmade_any (bx != by') v1 (digs 65536 (m * n)) w1 h1 (digs_lt (by decide) _))
 rw [vl_digs (by decide)] at HOWN
 have HCALL := Lib.hid HCALL
 have HOWN := Lib.hid HOWN
 clear hm hn ha hb
 go_enter Tryz.func89, Tryz.ntmps89
 go_wp2_with fail
 go_region_held3 (fun w' => w'.cell? ⟨w.heap.size, 0, none⟩ = some (.bool bx) ∧ w'.cell? ⟨w.heap.size, 1, none⟩ = some (.slice adx nx cx) ∧ w'.cell? ⟨w.heap.size + 1, 0, none⟩ = some (.bool by') ∧ w'.cell? ⟨w.heap.size + 1, 1, none⟩ = some (.slice ady ny cy))
  (first | exact ⟨cA, cB, cC, cD⟩ | exact ⟨cA2, cB2, cC2, cD2⟩ | exact ⟨(cell_store2 (by omega)).trans cA2, (cell_store2 (by omega)).trans cB2, (cell_store2 (by omega)).trans cC2, (cell_store2 (by omega)).trans cD2⟩ | go_keep)
  (first | (go_at_call 129; refine (HCALL.out _ (below3 _ _ _ _).drew).out.mono ?_; rintro e w1 ⟨v1, rfl, ho1, hb1⟩; obtain ⟨cA, cB, cC, cD, cE, cF, fC, fE, fF, hsz⟩ := box3 ((Below.refl _ _).drew.trans hb1)) | (go_at_call 122; refine (HOWN.out _ _ (Oi.rd (by assumption))).out.mono ?_; rintro e w2 ⟨v2, rfl, ⟨ad2, n2, c2, rfl, hr2⟩, hb2⟩; have cA2 := (hb2.cell (p := ⟨w.heap.size, 0, none⟩) (show w.heap.size < w1.heap.size by omega)).trans cA; have cB2 := (hb2.cell (p := ⟨w.heap.size, 1, none⟩) (show w.heap.size < w1.heap.size by omega)).trans cB; have cC2 := (hb2.cell (p := ⟨w.heap.size + 1, 0, none⟩) (show w.heap.size + 1 < w1.heap.size by omega)).trans cC; have cD2 := (hb2.cell (p := ⟨w.heap.size + 1, 1, none⟩) (show w.heap.size + 1 < w1.heap.size by omega)).trans cD; have cE2 := (hb2.cell (p := ⟨w.heap.size + 2, 0, none⟩) hsz).trans cE; have cF2 := (hb2.cell (p := ⟨w.heap.size + 2, 1, none⟩) hsz).trans cF; have fE2 := (hb2.frozen (p := ⟨w.heap.size + 2, 0, none⟩) hsz).trans fE; have fF2 := (hb2.frozen (p := ⟨w.heap.size + 2, 1, none⟩) hsz).trans fF))
 have HR := Lib.hid (hr2.store2 cE2 cF2 (by intro n h; cases h) (by intro n h; cases h))
 have HB := Lib.hid ((below3 w _ _ _).drew.trans ((hb1.mono (Nat.le_of_lt (by simp <;> omega))).trans (hb2.mono (by omega))))
 clear ho1 hb1 hr2 hb2
 go_wp2
 refine bodyPost_ret (v := .agg #[.bool (decide (sg (bx != by') (m * n) < 0)), .slice ad2 n2 c2]) (by simp [results, Tryz.results89, go_sem, cE2, cF2]) rfl ⟨_, rfl, ⟨_, _, _, rfl, HR.out _ _⟩, ?_⟩
 exact (HB.out.setCell (by simp; omega) _).setCell (by simp; omega) _
theorem rAdd_raw (bx by' : Bool) (adx ady : Option Addr) (nx cx ny cy : Nat) (m n : Nat) (w : World) (hm : (digs 65536 m).length ≤ 1000000) (hn : (digs 65536 n).length ≤ 1000000)
  (ha : Rd .i64 w (.slice adx nx cx) (digs 65536 m)) (hb : Rd .i64 w (.slice ady ny cy) (digs 65536 n)) :
  Calls Tryz.prog 86 #[.agg #[.bool bx, .slice adx nx cx], .agg #[.bool by', .slice ady ny cy]] w (RefPost w (sg bx m + sg by' n)) := by
 cases hs : (bx == by')
 ·rcases Nat.lt_trichotomy m n with h | h | h
  ·rw [← sg_add_lt bx by' hs m n (Nat.le_of_lt h)]
   exact rAdd_lt bx by' adx ady nx cx ny cy m n w hm hn hs h ha hb
  ·rw [← sg_add_ge bx by' hs m n (Nat.le_of_eq h.symm)]
   exact rAdd_eq bx by' adx ady nx cx ny cy m n w hm hn hs h ha hb
  ·rw [← sg_add_ge bx by' hs m n (Nat.le_of_lt h)]
   exact rAdd_gt bx by' adx ady nx cx ny cy m n w hm hn hs h ha hb
 ·obtain rfl : bx = by' := by simpa using hs
  rw [← sg_add_same]
  exact rAdd_same bx bx adx ady nx cx ny cy m n w hm hn hs ha hb
theorem rAdd_any (x y : Int) (vx vy : Value) (w : World) (hx : rlen x ≤ 1000000) (hy : rlen y ≤ 1000000) (ha : RefV w vx x) (hb : RefV w vy y) :
  Calls Tryz.prog 86 #[vx, vy] w (RefPost w (x + y)) := by
 obtain ⟨adx, nx, cx, rfl, ra⟩ := ha
 obtain ⟨ady, ny, cy, rfl, rb⟩ := hb
 have := rAdd_raw (decide (x < 0)) (decide (y < 0)) adx ady nx cx ny cy x.natAbs y.natAbs w hx hy ra rb
 rw [sg_self, sg_self] at this
 exact this
theorem rMul_any (x y : Int) (vx vy : Value) (w : World) (hx : rlen x ≤ 1000000) (hy : rlen y ≤ 1000000) (ha : RefV w vx x) (hb : RefV w vy y) :
  Calls Tryz.prog 89 #[vx, vy] w (RefPost w (x * y)) := by
 obtain ⟨adx, nx, cx, rfl, ra⟩ := ha
 obtain ⟨ady, ny, cy, rfl, rb⟩ := hb
 have := rMul_raw (decide (x < 0)) (decide (y < 0)) adx ady nx cx ny cy x.natAbs y.natAbs w hx hy ra rb
 rw [sg_mul, sg_self, sg_self] at this
 exact this
end
section
open Go.RowKit Digs
theorem below_dr {W w' : World} (h : Below W.drew.heap.size W.drew w') : Below W.heap.size W w' := (Below.refl W.heap.size W).drew.trans h
theorem RefV.iv {w : World} {v : Value} {z : Int} (h : RefV w v z) : ∃ ad n c, v = .agg #[.bool (decide (z < 0)), .slice ad n c] ∧ Rd .i64 w (.slice ad n c) (digs 65536 z.natAbs) := h
set_option maxHeartbeats 1000000 in
set_option maxRecDepth 100000 in
theorem rNeg_any (z : Int) (v : Value) (w : World) (h : RefV w v z) :
  Calls Tryz.prog 79 #[v] w (RefPost w (-z)) := by
 obtain ⟨ad, n, c, rfl, hr⟩ := h
 have HM := fun W hw => Lib.hid (rmade_any (!decide (z < 0)) (.slice ad n c) _ W (hr.keep (w' := W) hw) (digs_lt (by decide) _))
 have e : sg (!decide (z < 0)) (vl 65536 (digs 65536 z.natAbs)) = -z := by
  rw [vl_digs (by decide)]
  have h2 := sg_self z
  revert h2
  cases decide (z < 0) <;> simp [sg] <;> omega
 rw [e] at HM
 have HM := Lib.hid HM
 clear hr e
 generalize decide (z < 0) = b at *
 go_enter Tryz.func79, Tryz.ntmps79
 go_wp2_with fail
 refine (HM.out _ (below2 _ _ _)).out.mono ?_
 rintro e w1 ⟨v1, rfl, ⟨ad1, n1, c1, rfl, hr1⟩, hb1⟩
 obtain ⟨cE, cF, fE, fF, hsz⟩ := box2r hb1
 have HR := Lib.hid (hr1.store2 cE cF (by intro n h; cases h) (by intro n h; cases h))
 have HB := Lib.hid ((below2 w _ _).trans (hb1.mono (by simp <;> omega)))
 clear hr1 hb1
 go_wp2_with fail
 refine bodyPost_ret (v := .agg #[.bool (decide (-z < 0)), .slice ad1 n1 c1]) (by simp [results, Tryz.results79, go_sem, cE, cF]) rfl ⟨_, rfl, ⟨_, _, _, rfl, HR.out _ _⟩, ?_⟩
 exact (HB.out.setCell (by simp) _).setCell (by simp) _
set_option maxHeartbeats 1000000 in
set_option maxRecDepth 100000 in
theorem rAbs_any (z : Int) (v : Value) (w : World) (h : RefV w v z) :
  Calls Tryz.prog 29 #[v] w (RefPost w (z.natAbs : Int)) := by
 obtain ⟨ad, n, c, rfl, hr⟩ := h
 have HR := Lib.hid (hr.keep (below2 w (.cells #[.bool (decide (z < 0)), .slice ad n c] 34) (.cells #[.bool false, .slice ad n c] 34)))
 have hd : decide ((z.natAbs : Int) < 0) = false := decide_eq_false (by omega)
 have HD := Lib.hid hd
 clear hr hd
 generalize decide (z < 0) = b at *
 go_enter Tryz.func29, Tryz.ntmps29
 go_wp2
 refine bodyPost_ret (v := .agg #[.bool false, .slice ad n c]) (by simp [results, Tryz.results29, go_sem]) rfl ⟨_, rfl, ⟨ad, n, c, by rw [HD.out], ?_⟩, below2 w _ _⟩
 rw [Int.natAbs_natCast]
 exact HR.out
set_option maxHeartbeats 2000000 in
set_option maxRecDepth 100000 in
theorem rSub_any (x y : Int) (vx vy : Value) (w : World) (hx : rlen x ≤ 1000000) (hy : rlen y ≤ 1000000) (ha : RefV w vx x) (hb : RefV w vy y) :
  Calls Tryz.prog 124 #[vx, vy] w (RefPost w (x - y)) := by
 have HN := fun W hw => Lib.hid (rNeg_any y vy W (hb.keep (w' := W) hw))
 have hyn : rlen (-y) ≤ 1000000 := by unfold rlen at *; rw [Int.natAbs_neg]; exact hy
 have HA := fun W v hw h => Lib.hid (rAdd_any x (-y) vx v W hx hyn (ha.keep (w' := W) hw) h)
 rw [← Int.sub_eq_add_neg] at HA
 have HN := Lib.hid HN
 have HA := Lib.hid HA
 obtain ⟨adx, nx, cx, rfl, _⟩ := ha
 obtain ⟨ady, ny, cy, rfl, _⟩ := hb
 clear hx hy hyn
 generalize decide (x < 0) = bx at *
 generalize decide (y < 0) = by' at *
 go_enter Tryz.func124, Tryz.ntmps124
 go_wp2_with fail
 go_region_held3 (fun w' => (w'.cell? ⟨w.heap.size, 0, none⟩ = some (.bool bx) ∧ w'.cell? ⟨w.heap.size, 1, none⟩ = some (.slice adx nx cx)) ∧ (w'.cell? ⟨w.heap.size + 1, 0, none⟩ = some (.bool by') ∧ w'.cell? ⟨w.heap.size + 1, 1, none⟩ = some (.slice ady ny cy)))
  (first | exact ⟨⟨(cell_store2 (by omega)).trans hB.1, (cell_store2 (by omega)).trans hB.2.1⟩, ⟨(cell_store2 (by omega)).trans hB.2.2.1, (cell_store2 (by omega)).trans hB.2.2.2.1⟩⟩ | exact ⟨⟨hB.1, hB.2.1⟩, ⟨hB.2.2.1, hB.2.2.2.1⟩⟩ | exact ⟨⟨hA.1, hA.2.1⟩, ⟨hA.2.2.1, hA.2.2.2.1⟩⟩ | go_keep)
  (first
   | (go_at_call 79; refine (HN.out _ (below3 _ _ _ _).drew).out.mono ?_; rintro e w1 ⟨v1, rfl, hi1, hb1'⟩; have hb1 := below_dr hb1'; have hA := box3 hb1; have hbw := (below3 w _ _ _).trans (hb1.mono (by simp <;> omega)))
   | (go_at_call 86; refine (HA.out _ v1 hbw hi1).out.mono ?_; rintro e w2 ⟨v2, rfl, ⟨ad2, n2, c2, rfl, hr2⟩, hb2⟩; have hB := box3 (hb1.trans (hb2.mono hb1.size)); have hbw2 := hbw.trans (hb2.mono hbw.size)))
 obtain ⟨cA, cB, cC, cD, cE, cF, fC, fE, fF, hsz⟩ := hB
 have HR := Lib.hid (hr2.store2 cE cF (by intro n h; cases h) (by intro n h; cases h))
 have HB := Lib.hid hbw2
 clear hr2 hb2 hb1 hb1' hbw hbw2 hA hi1
 go_wp2
 refine bodyPost_ret (v := .agg #[.bool (decide (x - y < 0)), .slice ad2 n2 c2]) (by simp [results, Tryz.results124, go_sem, cE, cF]) rfl ⟨_, rfl, ⟨_, _, _, rfl, HR.out _ _⟩, ?_⟩
 exact (HB.out.setCell (by simp; omega) _).setCell (by simp; omega) _
set_option maxHeartbeats 1000000 in
set_option maxRecDepth 100000 in
theorem rSign_any (z : Int) (v : Value) (w : World) (hl : rlen z ≤ 1000000) (h : RefV w v z) :
  Calls Tryz.prog 77 #[v] w fun e w' => e = .returned (.int .i64 (sgnZ z)) ∧ Below w.heap.size w w' := by
 obtain ⟨ad, n, c, rfl, hr⟩ := h
 obtain ⟨ad', c', hv⟩ := hr.shape'
 obtain ⟨k, hk⟩ : ∃ k, k = (digs 65536 z.natAbs).length := ⟨_, rfl⟩
 have hz : k = 0 ↔ z = 0 := by rw [hk, digs_length_zero (by decide)]; omega
 unfold rlen at hl
 rw [← hk] at hl
 cases hv
 rw [← hk] at *
 clear hr hk
 unfold sgnZ
 by_cases h0 : k = 0
 ·have h1 := hz.1 h0
  rw [if_neg (by omega), if_pos h1]
  subst h0
  clear hz h1
  generalize decide (z < 0) = b at *
  go_enter Tryz.func77, Tryz.ntmps77
  go_wp2
  go_ret
  exact ⟨rfl, (Below.refl _ _).alloc (Nat.le_refl _) _⟩
 ·have h1 : z ≠ 0 := fun h => h0 (hz.2 h)
  have h3 : ((k : Int) == 0) = false := by rw [beq_eq_false_iff_ne]; omega
  clear hz
  by_cases h2 : z < 0
  ·have hd : decide (z < 0) = true := by simpa using h2
   rw [hd, if_pos h2]
   clear hd h1 h2 h0
   go_enter Tryz.func77, Tryz.ntmps77
   go_wp2
   go_ret
   exact ⟨rfl, (Below.refl _ _).alloc (Nat.le_refl _) _⟩
  ·have hd : decide (z < 0) = false := by simpa using h2
   rw [hd, if_neg h2, if_neg h1]
   clear hd h1 h2 h0
   go_enter Tryz.func77, Tryz.ntmps77
   go_wp2
   go_ret
   exact ⟨rfl, (Below.refl _ _).alloc (Nat.le_refl _) _⟩
set_option maxHeartbeats 1000000 in
set_option maxRecDepth 100000 in
theorem rCmp_any (x y : Int) (vx vy : Value) (w : World) (hx : rlen x ≤ 1000000) (hy : rlen y ≤ 1000000) (hxy : rlen (x - y) ≤ 1000000) (ha : RefV w vx x) (hb : RefV w vy y) :
  Calls Tryz.prog 83 #[vx, vy] w fun e w' => e = .returned (.int .i64 (sgnZ (x - y))) ∧ Below w.heap.size w w' := by
 have HS := fun W hw => Lib.hid (rSub_any x y vx vy W hx hy (ha.keep (w' := W) hw) (hb.keep hw))
 have HG := fun W v h => Lib.hid (rSign_any (x - y) v W hxy h)
 have HS := Lib.hid HS
 have HG := Lib.hid HG
 obtain ⟨adx, nx, cx, rfl, _⟩ := ha
 obtain ⟨ady, ny, cy, rfl, _⟩ := hb
 clear hx hy hxy
 generalize decide (x < 0) = bx at *
 generalize decide (y < 0) = by' at *
 generalize x - y = z at *
 go_enter Tryz.func83, Tryz.ntmps83
 go_wp2_with fail
 (with_reducible refine (HS.out _ (below2 w _ _)).out.mono ?_)
 rintro e w1 ⟨v1, rfl, hi1, hb1⟩
 have HB1 := Lib.hid ((below2 w _ _).trans (hb1.mono (by simp <;> omega)))
 clear hb1
 go_wp2_with fail
 (with_reducible refine (HG.out _ _ hi1).out.mono ?_)
 rintro e w2 ⟨rfl, hb2⟩
 go_wp2
 go_ret
 exact ⟨rfl, HB1.out.trans (hb2.mono HB1.out.size)⟩
end
section
open Go.RowKit Digs
theorem pow16 (k : Nat) : (65536 : Nat) ^ k = 2 ^ (16 * k) := by rw [Nat.pow_mul]
theorem bl_top16 (k lo t : Nat) (hlo : lo < 65536 ^ k) (ht : t ≠ 0) : bl (lo + 65536 ^ k * t) = 16 * k + bl t := by
 rw [pow16] at hlo ⊢
 have hb0 : 0 < bl t := by have := mt bl_eq_zero.1 ht; omega
 obtain ⟨j, hj⟩ : ∃ j, bl t = j + 1 := ⟨bl t - 1, by omega⟩
 have h1 : 2 ^ j ≤ t := lt_bl_iff.1 (by omega)
 have h2 : t < 2 ^ (j + 1) := by rw [← hj]; exact bl_lt t
 rw [hj, ← Nat.add_assoc]
 apply bl_unique
 ·rw [Nat.pow_add]
  have := Nat.mul_le_mul_left (2 ^ (16 * k)) h1
  omega
 ·rw [show 16 * k + j + 1 = 16 * k + (j + 1) from rfl, Nat.pow_add]
  have := Nat.mul_le_mul_left (2 ^ (16 * k)) (Nat.succ_le_of_lt h2)
  rw [Nat.mul_succ] at this
  omega
theorem top_dig (m : Nat) (h0 : m ≠ 0) : ∃ k t, (digs 65536 m).length = k + 1 ∧ (digs 65536 m)[k]?.getD 0 = t ∧ t ≠ 0 ∧ t < 65536 ∧ bl m = 16 * k + bl t := by
 have hl : (digs 65536 m).length ≠ 0 := by rw [Ne, digs_length_zero (by decide)]; exact h0
 obtain ⟨k, hk⟩ : ∃ k, (digs 65536 m).length = k + 1 := ⟨(digs 65536 m).length - 1, by omega⟩
 obtain ⟨t, ht, ht0⟩ := digs_getLast (b := 65536) (by decide) m h0
 rw [List.getLast?_eq_getElem?, hk, Nat.add_sub_cancel] at ht
 have hlt := digs_lt (b := 65536) (by decide) m
 refine ⟨k, t, hk, by rw [ht]; rfl, ht0, hlt t (List.mem_of_getElem? ht), ?_⟩
 have h1 := vl_take_succ 65536 (digs 65536 m) k (by omega)
 rw [List.take_of_length_le (by omega), vl_digs (by decide), ht] at h1
 simp only [Option.getD_some] at h1
 have h2 := vl_lt ((digs 65536 m).take k) (fun x hx => hlt x (List.mem_of_mem_take hx))
 rw [List.length_take, Nat.min_eq_left (by omega)] at h2
 have h3 := bl_top16 k _ t h2 ht0
 rw [← h1] at h3
 exact h3
set_option maxHeartbeats 1000000 in
set_option maxRecDepth 100000 in
theorem width_any (z : Int) (v : Value) (w : World) (hz : rlen z ≤ 1000000) (h : RefV w v z) :
  Calls Tryz.prog 85 #[v] w fun e w' => e = .returned (.int .i64 ((bl z.natAbs : Nat) : Int)) ∧ Below w.heap.size w w' := by
 obtain ⟨ad, n, c, rfl, hr⟩ := h
 obtain ⟨ad', c', hv, ra⟩ := hr.opt
 cases hv
 unfold rlen at hz
 generalize decide (z < 0) = b at *
 generalize z.natAbs = m at *
 by_cases h0 : m = 0
 ·subst h0
  rw [digs_zero]
  clear ra hr
  go_enter Tryz.func85, Tryz.ntmps85
  go_wp2
  go_ret
  exact ⟨rfl, (Below.refl _ _).alloc (Nat.le_refl _) _⟩
 ·obtain ⟨k, t, hk, ht, ht0, htl, hb⟩ := top_dig m h0
  obtain ⟨bb, ob, rfl, hbl, gx⟩ := ra k (by omega)
  rw [ht] at gx
  rw [hk] at hz ⊢
  obtain ⟨N, hN⟩ : ∃ N, N = k + 1 := ⟨_, rfl⟩
  have gx' : ∀ o : Obj, (w.alloc o).cell? ⟨bb, ob + (N - 1), none⟩ = some (.int .i64 (t : Int)) := fun o => by
   rw [World.cell?_alloc_past _ _ _ (by show bb < w.heap.size; exact hbl), hN, Nat.add_sub_cancel]
   exact gx
  rw [← hN] at hz ⊢
  have HB := Lib.hid (And.intro hb hN)
  have hN1 : 1 ≤ N := by omega
  have hne : ((N : Int) == 0) = false := by rw [beq_eq_false_iff_ne]; omega
  clear hk ht hb hN hr ra h0 gx
  go_enter Tryz.func85, Tryz.ntmps85
  go_wp2
  go_loopw [3, 4] (fun n tp wr => ∃ n' t' : Nat, n = .int .i64 n' ∧ tp = .int .i64 t' ∧ n' + bl t' = bl m ∧ t' ≤ t ∧ wr = w.alloc (.cells #[.bool b, .slice (some ⟨bb, ob, none⟩) N c] 34)) (fun _ tp _ => (intOf tp).toNat)
  case atStart => exact ⟨16 * k, t, congrArg (Value.int .i64) (by have := HB.out.2; omega), rfl, by rw [HB.out.1], Nat.le_refl _, rfl⟩
  case round =>
   obtain ⟨n', t', rfl, rfl, hs, hle, rfl⟩ := hrel
   have hbm : bl m ≤ 16000016 := by
    have h1 := HB.out
    have h2 : bl t ≤ 16 := bl_le_iff.2 (by omega)
    omega
   have HS := Lib.hid hs
   clear hs
   by_cases ht' : 0 < t'
   ·have hn' : n' ≤ 16000016 := by have := HS.out; omega
    go_wp2
    go_roundw
    case rel =>
     refine ⟨n' + 1, t' / 2, by go_num, congrArg (Value.int .i64) (by omega), ?_, by omega, (by first | trivial | rfl)⟩
     have h1 := bl_half t' (by omega)
     have h2 := HS.out
     omega
    case measure => simp [intOf]; omega
   ·obtain rfl : t' = 0 := by omega
    have h2 := HS.out
    rw [bl_zero, Nat.add_zero] at h2
    subst h2
    go_wp2
    go_ret
    exact ⟨rfl, (Below.refl _ _).alloc (Nat.le_refl _) _⟩
set_option maxHeartbeats 1000000 in
set_option maxRecDepth 100000 in
theorem rLength_any (z : Int) (v : Value) (w : World) (hz : rlen z ≤ 999999) (h : RefV w v z) :
  Calls Tryz.prog 28 #[v] w fun e w' => e = .returned (.int .i64 ((lenZ z : Nat) : Int)) ∧ Below w.heap.size w w' := by
 have h' := h
 obtain ⟨ad, n, c, rfl, hr⟩ := h
 unfold lenZ
 by_cases hneg : z < 0
 ·have hd : decide (z < 0) = true := by simpa using hneg
  rw [if_pos hneg]
  have e1 : (-1 - z).natAbs = (z + 1).natAbs := by omega
  rw [e1]
  have hl1 : rlen (z + 1) ≤ 1000000 := by
   unfold rlen at *
   have := digs_length_mono (b := 65536) (by decide) (show (z + 1).natAbs ≤ z.natAbs by omega)
   omega
  have hl2 : rlen 1 ≤ 1000000 := Nat.le_trans (rlen_small 1 (by decide)) (by decide)
  have HN := fun W => Lib.hid (rnew_any 1 W (by decide) (by decide))
  have HA := fun W u hw hu => Lib.hid (rAdd_any z 1 _ u W (by omega) hl2 (h'.keep (w' := W) hw) hu)
  have HW := fun W u hu => Lib.hid (width_any (z + 1) u W hl1 hu)
  have HN := Lib.hid HN
  have HA := Lib.hid HA
  have HW := Lib.hid HW
  rw [hd] at HA ⊢
  clear hr h' hz hneg hd e1 hl1 hl2
  generalize bl (z + 1).natAbs = r at *
  go_enter Tryz.func28, Tryz.ntmps28
  go_wp2_with fail
  go_region_held3 (fun w' => w'.cell? ⟨w.heap.size, 0, none⟩ = some (.bool true) ∧ w'.cell? ⟨w.heap.size, 1, none⟩ = some (.slice ad n c))
   (first | exact ⟨hC.1, hC.2.1⟩ | exact ⟨hB.1, hB.2.1⟩ | exact ⟨hA.1, hA.2.1⟩ | go_keep)
   (first
    | (go_at_call 87; (with_reducible refine (HN.out _).out.mono ?_); rintro e w1 ⟨v1, rfl, hi1, hb1'⟩; have hb1 := below_dr hb1'; have hA := box2 hb1; have hbw := box1b hb1)
    | (go_at_call 86; (with_reducible refine (HA.out _ v1 hbw hi1).out.mono ?_); rintro e w2 ⟨v2, rfl, hi2, hb2'⟩; have hb2 := hb1.trans (hb2'.mono hb1.size); have hB := box2 hb2; have hbw2 := box1b hb2)
    | (go_at_call 85; (with_reducible refine (HW.out _ v2 hi2).out.mono ?_); rintro e w3 ⟨rfl, hb3'⟩; have hb3 := hb2.trans (hb3'.mono hb2.size); have hC := box2 hb3; have hbw3 := box1b hb3))
  go_wp2
  go_ret
  exact ⟨rfl, hbw3⟩
 ·have hd : decide (z < 0) = false := by simpa using hneg
  rw [if_neg hneg]
  have HW := fun W hw => Lib.hid (width_any z _ W (by omega) (h'.keep (w' := W) hw))
  rw [hd] at HW ⊢
  have HW := Lib.hid HW
  clear hr h' hz hneg hd
  go_enter Tryz.func28, Tryz.ntmps28
  go_wp2_with fail
  (with_reducible refine (HW.out _ ((Below.refl _ _).alloc (Nat.le_refl _) _)).out.mono ?_)
  rintro e w2 ⟨rfl, hb2⟩
  go_wp2
  go_ret
  exact ⟨rfl, box1b hb2⟩
end
end Go.Proofs.YtghgcbedajaldaaGreat
