/-  Add, Sub, Mul, Cmp and their kin, of integers.  -/
import Derived.Test.YtfieecdedilonaaMul
import Derived.Deep.RegionHeld3
namespace Go.Proofs.Ytfieecdedilonaa
open Go.RowKit Digs

/-- Three variables of two cells that the call has laid: what a later world holds there. -/
theorem box3 {w w2 : World} {a b c d e f : Value} {t : TypeId} (h : Below (((w.alloc (.cells #[a, b] t)).alloc (.cells #[c, d] t)).alloc (.cells #[e, f] t)).heap.size (((w.alloc (.cells #[a, b] t)).alloc (.cells #[c, d] t)).alloc (.cells #[e, f] t)) w2) :
    w2.cell? ⟨w.heap.size, 0, none⟩ = some a ∧ w2.cell? ⟨w.heap.size, 1, none⟩ = some b ∧ w2.cell? ⟨w.heap.size + 1, 0, none⟩ = some c ∧ w2.cell? ⟨w.heap.size + 1, 1, none⟩ = some d ∧
    w2.cell? ⟨w.heap.size + 2, 0, none⟩ = some e ∧ w2.cell? ⟨w.heap.size + 2, 1, none⟩ = some f ∧ w2.frozen? ⟨w.heap.size + 1, 0, none⟩ = false ∧ w2.frozen? ⟨w.heap.size + 2, 0, none⟩ = false ∧ w2.frozen? ⟨w.heap.size + 2, 1, none⟩ = false ∧ w.heap.size + 2 < w2.heap.size := by
  have hs := h.size
  simp only [World.size_alloc] at hs
  refine ⟨?_, ?_, ?_, ?_, ?_, ?_, ?_, ?_, ?_, by omega⟩
  · rw [h.cell (p := ⟨w.heap.size, 0, none⟩) (by simp; omega), World.cell?_alloc_past _ _ _ (by simp; omega), World.cell?_alloc_past _ _ _ (by simp), World.cell?_alloc_at _ _ _ _ rfl]; rfl
  · rw [h.cell (p := ⟨w.heap.size, 1, none⟩) (by simp; omega), World.cell?_alloc_past _ _ _ (by simp; omega), World.cell?_alloc_past _ _ _ (by simp), World.cell?_alloc_at _ _ _ _ rfl]; rfl
  · rw [h.cell (p := ⟨w.heap.size + 1, 0, none⟩) (by simp), World.cell?_alloc_past _ _ _ (by simp), World.cell?_alloc_at _ _ _ _ (by simp)]; rfl
  · rw [h.cell (p := ⟨w.heap.size + 1, 1, none⟩) (by simp), World.cell?_alloc_past _ _ _ (by simp), World.cell?_alloc_at _ _ _ _ (by simp)]; rfl
  · rw [h.cell (p := ⟨w.heap.size + 2, 0, none⟩) (by simp), World.cell?_alloc_at _ _ _ _ (by simp)]; rfl
  · rw [h.cell (p := ⟨w.heap.size + 2, 1, none⟩) (by simp), World.cell?_alloc_at _ _ _ _ (by simp)]; rfl
  · rw [h.frozen (p := ⟨w.heap.size + 1, 0, none⟩) (by simp), World.frozen?_alloc_past _ _ _ (by simp), World.frozen?_alloc_at _ _ _ _ (by simp)]
  · rw [h.frozen (p := ⟨w.heap.size + 2, 0, none⟩) (by simp), World.frozen?_alloc_at _ _ _ _ (by simp)]
  · rw [h.frozen (p := ⟨w.heap.size + 2, 1, none⟩) (by simp), World.frozen?_alloc_at _ _ _ _ (by simp)]

theorem cell_store2 {w : World} {R b o : Nat} {x y : Value} (h : b ≠ R) : ((w.setCell ⟨R, 0, none⟩ x).setCell ⟨R, 1, none⟩ y).cell? ⟨b, o, none⟩ = w.cell? ⟨b, o, none⟩ := by
  rw [World.cell?_setCell_other _ _ _ _ (by simp <;> omega), World.cell?_setCell_other _ _ _ _ (by simp <;> omega)]

theorem below3 (w : World) (a b c : Obj) : Below w.heap.size w (((w.alloc a).alloc b).alloc c) := (((Below.refl _ _).alloc (Nat.le_refl _) _).alloc (by simp) _).alloc (by simp; omega) _


set_option maxHeartbeats 2000000 in
set_option maxRecDepth 100000 in
theorem Add_same (bx by' : Bool) (adx ady : Option Addr) (nx cx ny cy : Nat) (m n : Nat) (w : World) (hm : (digs 4294967296 m).length ≤ 1000000) (hn : (digs 4294967296 n).length ≤ 1000000) (hs : (bx == by') = true)
    (ha : Rd .u32 w (.slice adx nx cx) (digs 4294967296 m)) (hb : Rd .u32 w (.slice ady ny cy) (digs 4294967296 n)) :
    Calls Try.prog 38 #[.agg #[.bool bx, .slice adx nx cx], .agg #[.bool by', .slice ady ny cy]] w (IntPost w (sg bx (m + n))) := by
  have HCALL := fun W hw => Lib.hid (add_any m n _ _ W hm hn (ha.keep (w' := W) hw) (hb.keep hw))
  have HOWN := fun v1 w1 h1 => Lib.hid (own_any bx v1 (digs 4294967296 (m + n)) w1 h1 (digs_lt (by decide) _))
  rw [vl_digs (by decide)] at HOWN
  have HCALL := Lib.hid HCALL
  have HOWN := Lib.hid HOWN
  clear hm hn ha hb
  go_enter Try.func38, Try.ntmps38
  go_wp2_with fail
  go_region_held3 (fun w' => w'.cell? ⟨w.heap.size, 0, none⟩ = some (.bool bx) ∧ w'.cell? ⟨w.heap.size, 1, none⟩ = some (.slice adx nx cx) ∧ w'.cell? ⟨w.heap.size + 1, 1, none⟩ = some (.slice ady ny cy))
    (first | exact ⟨cA, cB, cD⟩ | exact ⟨cA2, cB2, cD2⟩ | exact ⟨(cell_store2 (by omega)).trans cA2, (cell_store2 (by omega)).trans cB2, (cell_store2 (by omega)).trans cD2⟩ | go_keep)
    (first | (go_at_call 83; refine (HCALL.out _ (below3 _ _ _ _).drew).out.mono ?_; rintro e w1 ⟨v1, rfl, ho1, hb1⟩; obtain ⟨cA, cB, cC, cD, cE, cF, fC, fE, fF, hsz⟩ := box3 ((Below.refl _ _).drew.trans hb1)) | (go_at_call 70; refine (HOWN.out _ _ (Ow.rd (by assumption))).out.mono ?_; rintro e w2 ⟨v2, rfl, ⟨ad2, n2, c2, rfl, hr2⟩, hb2⟩; have cA2 := (hb2.cell (p := ⟨w.heap.size, 0, none⟩) (show w.heap.size < w1.heap.size by omega)).trans cA; have cB2 := (hb2.cell (p := ⟨w.heap.size, 1, none⟩) (show w.heap.size < w1.heap.size by omega)).trans cB; have cD2 := (hb2.cell (p := ⟨w.heap.size + 1, 1, none⟩) (show w.heap.size + 1 < w1.heap.size by omega)).trans cD; have cE2 := (hb2.cell (p := ⟨w.heap.size + 2, 0, none⟩) hsz).trans cE; have cF2 := (hb2.cell (p := ⟨w.heap.size + 2, 1, none⟩) hsz).trans cF; have fE2 := (hb2.frozen (p := ⟨w.heap.size + 2, 0, none⟩) hsz).trans fE; have fF2 := (hb2.frozen (p := ⟨w.heap.size + 2, 1, none⟩) hsz).trans fF))
  have HR := Lib.hid (hr2.store2 cE2 cF2 (by intro n h; cases h) (by intro n h; cases h))
  have HB := Lib.hid ((below3 w _ _ _).drew.trans ((hb1.mono (Nat.le_of_lt (by simp <;> omega))).trans (hb2.mono (by omega))))
  clear ho1 hb1 hr2 hb2
  go_wp2
  refine bodyPost_ret (v := .agg #[.bool (decide (sg bx (m + n) < 0)), .slice ad2 n2 c2]) (by simp [results, Try.results38, go_sem, cE2, cF2]) rfl ⟨_, rfl, ⟨_, _, _, rfl, HR.out _ _⟩, ?_⟩
  exact (HB.out.setCell (by simp; omega) _).setCell (by simp; omega) _

set_option maxHeartbeats 2000000 in
set_option maxRecDepth 100000 in
theorem Add_lt (bx by' : Bool) (adx ady : Option Addr) (nx cx ny cy : Nat) (m n : Nat) (w : World) (_hm : (digs 4294967296 m).length ≤ 1000000) (hn : (digs 4294967296 n).length ≤ 1000000) (hs : (bx == by') = false) (hmn : m < n)
    (ha : Rd .u32 w (.slice adx nx cx) (digs 4294967296 m)) (hb : Rd .u32 w (.slice ady ny cy) (digs 4294967296 n)) :
    Calls Try.prog 38 #[.agg #[.bool bx, .slice adx nx cx], .agg #[.bool by', .slice ady ny cy]] w (IntPost w (sg by' (n - m))) := by
  have HCALL := fun W hw => Lib.hid (sub_any n m _ _ W hn (Nat.le_of_lt hmn) (hb.keep (w' := W) hw) (ha.keep hw))
  have HOWN := fun v1 w1 h1 => Lib.hid (own_any by' v1 (digs 4294967296 (n - m)) w1 h1 (digs_lt (by decide) _))
  rw [vl_digs (by decide)] at HOWN
  have HCALL := Lib.hid HCALL
  have HOWN := Lib.hid HOWN
  have HCMP := fun W hw => Lib.hid (compare_any m n _ _ W (ha.keep (w' := W) hw) (hb.keep hw))
  have HCMP := Lib.hid HCMP
  clear _hm hn ha hb
  go_enter Try.func38, Try.ntmps38
  go_wp2_with fail
  refine (HCMP.out _ (below3 _ _ _ _)).out.mono ?_
  rintro e w0 ⟨rfl, d, rfl⟩
  have hc : cmpN m n = -1 := by unfold cmpN; rw [if_pos hmn]
  rw [hc]
  clear hc
  go_wp2_with fail
  go_region_held3 (fun w' => w'.cell? ⟨w.heap.size, 1, none⟩ = some (.slice adx nx cx) ∧ w'.cell? ⟨w.heap.size + 1, 0, none⟩ = some (.bool by') ∧ w'.cell? ⟨w.heap.size + 1, 1, none⟩ = some (.slice ady ny cy))
    (first | exact ⟨cB, cC, cD⟩ | exact ⟨cB2, cC2, cD2⟩ | exact ⟨(cell_store2 (by omega)).trans cB2, (cell_store2 (by omega)).trans cC2, (cell_store2 (by omega)).trans cD2⟩ | go_keep)
    (first | (go_at_call 84; refine (HCALL.out _ (below_drewN' (below3 _ _ _ _) _).drew).out.mono ?_; rintro e w1 ⟨v1, rfl, ho1, hb1⟩; obtain ⟨cA, cB, cC, cD, cE, cF, fC, fE, fF, hsz⟩ := box3 ((below_drewN' (Below.refl _ _) _).drew.trans hb1)) | (go_at_call 70; refine (HOWN.out _ _ (Ow.rd (by assumption))).out.mono ?_; rintro e w2 ⟨v2, rfl, ⟨ad2, n2, c2, rfl, hr2⟩, hb2⟩; have cB2 := (hb2.cell (p := ⟨w.heap.size, 1, none⟩) (show w.heap.size < w1.heap.size by omega)).trans cB; have cC2 := (hb2.cell (p := ⟨w.heap.size + 1, 0, none⟩) (show w.heap.size + 1 < w1.heap.size by omega)).trans cC; have cD2 := (hb2.cell (p := ⟨w.heap.size + 1, 1, none⟩) (show w.heap.size + 1 < w1.heap.size by omega)).trans cD; have cE2 := (hb2.cell (p := ⟨w.heap.size + 2, 0, none⟩) hsz).trans cE; have cF2 := (hb2.cell (p := ⟨w.heap.size + 2, 1, none⟩) hsz).trans cF; have fE2 := (hb2.frozen (p := ⟨w.heap.size + 2, 0, none⟩) hsz).trans fE; have fF2 := (hb2.frozen (p := ⟨w.heap.size + 2, 1, none⟩) hsz).trans fF))
  have HR := Lib.hid (hr2.store2 cE2 cF2 (by intro n h; cases h) (by intro n h; cases h))
  have HB := Lib.hid ((below_drewN' (below3 w _ _ _) _).drew.trans ((hb1.mono (Nat.le_of_lt (by simp <;> omega))).trans (hb2.mono (by omega))))
  clear ho1 hb1 hr2 hb2
  go_wp2
  refine bodyPost_ret (v := .agg #[.bool (decide (sg by' (n - m) < 0)), .slice ad2 n2 c2]) (by simp [results, Try.results38, go_sem, cE2, cF2]) rfl ⟨_, rfl, ⟨_, _, _, rfl, HR.out _ _⟩, ?_⟩
  exact (HB.out.setCell (by simp; omega) _).setCell (by simp; omega) _

set_option maxHeartbeats 2000000 in
set_option maxRecDepth 100000 in
theorem Add_gt (bx by' : Bool) (adx ady : Option Addr) (nx cx ny cy : Nat) (m n : Nat) (w : World) (hm : (digs 4294967296 m).length ≤ 1000000) (_hn : (digs 4294967296 n).length ≤ 1000000) (hs : (bx == by') = false) (hmn : n < m)
    (ha : Rd .u32 w (.slice adx nx cx) (digs 4294967296 m)) (hb : Rd .u32 w (.slice ady ny cy) (digs 4294967296 n)) :
    Calls Try.prog 38 #[.agg #[.bool bx, .slice adx nx cx], .agg #[.bool by', .slice ady ny cy]] w (IntPost w (sg bx (m - n))) := by
  have HCALL := fun W hw => Lib.hid (sub_any m n _ _ W hm (Nat.le_of_lt hmn) (ha.keep (w' := W) hw) (hb.keep hw))
  have HOWN := fun v1 w1 h1 => Lib.hid (own_any bx v1 (digs 4294967296 (m - n)) w1 h1 (digs_lt (by decide) _))
  rw [vl_digs (by decide)] at HOWN
  have HCALL := Lib.hid HCALL
  have HOWN := Lib.hid HOWN
  have HCMP := fun W hw => Lib.hid (compare_any m n _ _ W (ha.keep (w' := W) hw) (hb.keep hw))
  have HCMP := Lib.hid HCMP
  clear hm _hn ha hb
  go_enter Try.func38, Try.ntmps38
  go_wp2_with fail
  refine (HCMP.out _ (below3 _ _ _ _)).out.mono ?_
  rintro e w0 ⟨rfl, d, rfl⟩
  have hc : cmpN m n = 1 := by unfold cmpN; rw [if_neg (by omega), if_pos hmn]
  rw [hc]
  clear hc
  go_wp2_with fail
  go_region_held3 (fun w' => w'.cell? ⟨w.heap.size, 0, none⟩ = some (.bool bx) ∧ w'.cell? ⟨w.heap.size, 1, none⟩ = some (.slice adx nx cx) ∧ w'.cell? ⟨w.heap.size + 1, 1, none⟩ = some (.slice ady ny cy))
    (first | exact ⟨cA, cB, cD⟩ | exact ⟨cA2, cB2, cD2⟩ | exact ⟨(cell_store2 (by omega)).trans cA2, (cell_store2 (by omega)).trans cB2, (cell_store2 (by omega)).trans cD2⟩ | go_keep)
    (first | (go_at_call 84; refine (HCALL.out _ (below_drewN' (below3 _ _ _ _) _).drew).out.mono ?_; rintro e w1 ⟨v1, rfl, ho1, hb1⟩; obtain ⟨cA, cB, cC, cD, cE, cF, fC, fE, fF, hsz⟩ := box3 ((below_drewN' (Below.refl _ _) _).drew.trans hb1)) | (go_at_call 70; refine (HOWN.out _ _ (Ow.rd (by assumption))).out.mono ?_; rintro e w2 ⟨v2, rfl, ⟨ad2, n2, c2, rfl, hr2⟩, hb2⟩; have cA2 := (hb2.cell (p := ⟨w.heap.size, 0, none⟩) (show w.heap.size < w1.heap.size by omega)).trans cA; have cB2 := (hb2.cell (p := ⟨w.heap.size, 1, none⟩) (show w.heap.size < w1.heap.size by omega)).trans cB; have cD2 := (hb2.cell (p := ⟨w.heap.size + 1, 1, none⟩) (show w.heap.size + 1 < w1.heap.size by omega)).trans cD; have cE2 := (hb2.cell (p := ⟨w.heap.size + 2, 0, none⟩) hsz).trans cE; have cF2 := (hb2.cell (p := ⟨w.heap.size + 2, 1, none⟩) hsz).trans cF; have fE2 := (hb2.frozen (p := ⟨w.heap.size + 2, 0, none⟩) hsz).trans fE; have fF2 := (hb2.frozen (p := ⟨w.heap.size + 2, 1, none⟩) hsz).trans fF))
  have HR := Lib.hid (hr2.store2 cE2 cF2 (by intro n h; cases h) (by intro n h; cases h))
  have HB := Lib.hid ((below_drewN' (below3 w _ _ _) _).drew.trans ((hb1.mono (Nat.le_of_lt (by simp <;> omega))).trans (hb2.mono (by omega))))
  clear ho1 hb1 hr2 hb2
  go_wp2
  refine bodyPost_ret (v := .agg #[.bool (decide (sg bx (m - n) < 0)), .slice ad2 n2 c2]) (by simp [results, Try.results38, go_sem, cE2, cF2]) rfl ⟨_, rfl, ⟨_, _, _, rfl, HR.out _ _⟩, ?_⟩
  exact (HB.out.setCell (by simp; omega) _).setCell (by simp; omega) _

set_option maxHeartbeats 2000000 in
set_option maxRecDepth 100000 in
theorem Add_eq (bx by' : Bool) (adx ady : Option Addr) (nx cx ny cy : Nat) (m n : Nat) (w : World) (hm : (digs 4294967296 m).length ≤ 1000000) (_hn : (digs 4294967296 n).length ≤ 1000000) (hs : (bx == by') = false) (hmn : m = n)
    (ha : Rd .u32 w (.slice adx nx cx) (digs 4294967296 m)) (hb : Rd .u32 w (.slice ady ny cy) (digs 4294967296 n)) :
    Calls Try.prog 38 #[.agg #[.bool bx, .slice adx nx cx], .agg #[.bool by', .slice ady ny cy]] w (IntPost w (sg bx (m - n))) := by
  have HCALL := fun W hw => Lib.hid (sub_any m n _ _ W hm (Nat.le_of_eq hmn.symm) (ha.keep (w' := W) hw) (hb.keep hw))
  have HOWN := fun v1 w1 h1 => Lib.hid (own_any bx v1 (digs 4294967296 (m - n)) w1 h1 (digs_lt (by decide) _))
  rw [vl_digs (by decide)] at HOWN
  have HCALL := Lib.hid HCALL
  have HOWN := Lib.hid HOWN
  have HCMP := fun W hw => Lib.hid (compare_any m n _ _ W (ha.keep (w' := W) hw) (hb.keep hw))
  have HCMP := Lib.hid HCMP
  have HMN := Lib.hid hmn
  clear hmn
  clear hm _hn ha hb
  go_enter Try.func38, Try.ntmps38
  go_wp2_with fail
  refine (HCMP.out _ (below3 _ _ _ _)).out.mono ?_
  rintro e w0 ⟨rfl, d, rfl⟩
  have hc : cmpN m n = 0 := by rw [HMN.out, cmpN_self]
  rw [hc]
  clear hc
  go_wp2_with fail
  go_region_held3 (fun w' => w'.cell? ⟨w.heap.size, 0, none⟩ = some (.bool bx) ∧ w'.cell? ⟨w.heap.size, 1, none⟩ = some (.slice adx nx cx) ∧ w'.cell? ⟨w.heap.size + 1, 1, none⟩ = some (.slice ady ny cy))
    (first | exact ⟨cA, cB, cD⟩ | exact ⟨cA2, cB2, cD2⟩ | exact ⟨(cell_store2 (by omega)).trans cA2, (cell_store2 (by omega)).trans cB2, (cell_store2 (by omega)).trans cD2⟩ | go_keep)
    (first | (go_at_call 84; refine (HCALL.out _ (below_drewN' (below3 _ _ _ _) _).drew).out.mono ?_; rintro e w1 ⟨v1, rfl, ho1, hb1⟩; obtain ⟨cA, cB, cC, cD, cE, cF, fC, fE, fF, hsz⟩ := box3 ((below_drewN' (Below.refl _ _) _).drew.trans hb1)) | (go_at_call 70; refine (HOWN.out _ _ (Ow.rd (by assumption))).out.mono ?_; rintro e w2 ⟨v2, rfl, ⟨ad2, n2, c2, rfl, hr2⟩, hb2⟩; have cA2 := (hb2.cell (p := ⟨w.heap.size, 0, none⟩) (show w.heap.size < w1.heap.size by omega)).trans cA; have cB2 := (hb2.cell (p := ⟨w.heap.size, 1, none⟩) (show w.heap.size < w1.heap.size by omega)).trans cB; have cD2 := (hb2.cell (p := ⟨w.heap.size + 1, 1, none⟩) (show w.heap.size + 1 < w1.heap.size by omega)).trans cD; have cE2 := (hb2.cell (p := ⟨w.heap.size + 2, 0, none⟩) hsz).trans cE; have cF2 := (hb2.cell (p := ⟨w.heap.size + 2, 1, none⟩) hsz).trans cF; have fE2 := (hb2.frozen (p := ⟨w.heap.size + 2, 0, none⟩) hsz).trans fE; have fF2 := (hb2.frozen (p := ⟨w.heap.size + 2, 1, none⟩) hsz).trans fF))
  have HR := Lib.hid (hr2.store2 cE2 cF2 (by intro n h; cases h) (by intro n h; cases h))
  have HB := Lib.hid ((below_drewN' (below3 w _ _ _) _).drew.trans ((hb1.mono (Nat.le_of_lt (by simp <;> omega))).trans (hb2.mono (by omega))))
  clear ho1 hb1 hr2 hb2
  go_wp2
  refine bodyPost_ret (v := .agg #[.bool (decide (sg bx (m - n) < 0)), .slice ad2 n2 c2]) (by simp [results, Try.results38, go_sem, cE2, cF2]) rfl ⟨_, rfl, ⟨_, _, _, rfl, HR.out _ _⟩, ?_⟩
  exact (HB.out.setCell (by simp; omega) _).setCell (by simp; omega) _

set_option maxHeartbeats 2000000 in
set_option maxRecDepth 100000 in
theorem Mul_raw (bx by' : Bool) (adx ady : Option Addr) (nx cx ny cy : Nat) (m n : Nat) (w : World) (hm : (digs 4294967296 m).length ≤ 1000000) (hn : (digs 4294967296 n).length ≤ 1000000)
    (ha : Rd .u32 w (.slice adx nx cx) (digs 4294967296 m)) (hb : Rd .u32 w (.slice ady ny cy) (digs 4294967296 n)) :
    Calls Try.prog 42 #[.agg #[.bool bx, .slice adx nx cx], .agg #[.bool by', .slice ady ny cy]] w (IntPost w (sg (bx != by') (m * n))) := by
  have HCALL := fun W hw => Lib.hid (mul_any m n _ _ W hm hn (ha.keep (w' := W) hw) (hb.keep hw))
  have HOWN := fun v1 w1 h1 => Lib.hid (own_any (bx != by') v1 (digs 4294967296 (m * n)) w1 h1 (digs_lt (by decide) _))
  rw [vl_digs (by decide)] at HOWN
  have HCALL := Lib.hid HCALL
  have HOWN := Lib.hid HOWN
  clear hm hn ha hb
  go_enter Try.func42, Try.ntmps42
  go_wp2_with fail
  go_region_held3 (fun w' => w'.cell? ⟨w.heap.size, 0, none⟩ = some (.bool bx) ∧ w'.cell? ⟨w.heap.size, 1, none⟩ = some (.slice adx nx cx) ∧ w'.cell? ⟨w.heap.size + 1, 0, none⟩ = some (.bool by') ∧ w'.cell? ⟨w.heap.size + 1, 1, none⟩ = some (.slice ady ny cy))
    (first | exact ⟨cA, cB, cC, cD⟩ | exact ⟨cA2, cB2, cC2, cD2⟩ | exact ⟨(cell_store2 (by omega)).trans cA2, (cell_store2 (by omega)).trans cB2, (cell_store2 (by omega)).trans cC2, (cell_store2 (by omega)).trans cD2⟩ | go_keep)
    (first | (go_at_call 88; refine (HCALL.out _ (below3 _ _ _ _).drew).out.mono ?_; rintro e w1 ⟨v1, rfl, ho1, hb1⟩; obtain ⟨cA, cB, cC, cD, cE, cF, fC, fE, fF, hsz⟩ := box3 ((Below.refl _ _).drew.trans hb1)) | (go_at_call 70; refine (HOWN.out _ _ (Ow.rd (by assumption))).out.mono ?_; rintro e w2 ⟨v2, rfl, ⟨ad2, n2, c2, rfl, hr2⟩, hb2⟩; have cA2 := (hb2.cell (p := ⟨w.heap.size, 0, none⟩) (show w.heap.size < w1.heap.size by omega)).trans cA; have cB2 := (hb2.cell (p := ⟨w.heap.size, 1, none⟩) (show w.heap.size < w1.heap.size by omega)).trans cB; have cC2 := (hb2.cell (p := ⟨w.heap.size + 1, 0, none⟩) (show w.heap.size + 1 < w1.heap.size by omega)).trans cC; have cD2 := (hb2.cell (p := ⟨w.heap.size + 1, 1, none⟩) (show w.heap.size + 1 < w1.heap.size by omega)).trans cD; have cE2 := (hb2.cell (p := ⟨w.heap.size + 2, 0, none⟩) hsz).trans cE; have cF2 := (hb2.cell (p := ⟨w.heap.size + 2, 1, none⟩) hsz).trans cF; have fE2 := (hb2.frozen (p := ⟨w.heap.size + 2, 0, none⟩) hsz).trans fE; have fF2 := (hb2.frozen (p := ⟨w.heap.size + 2, 1, none⟩) hsz).trans fF))
  have HR := Lib.hid (hr2.store2 cE2 cF2 (by intro n h; cases h) (by intro n h; cases h))
  have HB := Lib.hid ((below3 w _ _ _).drew.trans ((hb1.mono (Nat.le_of_lt (by simp <;> omega))).trans (hb2.mono (by omega))))
  clear ho1 hb1 hr2 hb2
  go_wp2
  refine bodyPost_ret (v := .agg #[.bool (decide (sg (bx != by') (m * n) < 0)), .slice ad2 n2 c2]) (by simp [results, Try.results42, go_sem, cE2, cF2]) rfl ⟨_, rfl, ⟨_, _, _, rfl, HR.out _ _⟩, ?_⟩
  exact (HB.out.setCell (by simp; omega) _).setCell (by simp; omega) _

theorem sg_add_same (b : Bool) (m n : Nat) : sg b (m + n) = sg b m + sg b n := by unfold sg; cases b <;> simp <;> omega
theorem sg_add_lt (bx by' : Bool) (h : (bx == by') = false) (m n : Nat) (hmn : m ≤ n) : sg by' (n - m) = sg bx m + sg by' n := by unfold sg; cases bx <;> cases by' <;> simp at h ⊢ <;> omega
theorem sg_add_ge (bx by' : Bool) (h : (bx == by') = false) (m n : Nat) (hmn : n ≤ m) : sg bx (m - n) = sg bx m + sg by' n := by unfold sg; cases bx <;> cases by' <;> simp at h ⊢ <;> omega
theorem sg_mul (bx by' : Bool) (m n : Nat) : sg (bx != by') (m * n) = sg bx m * sg by' n := by
  unfold sg; cases bx <;> cases by' <;> simp [Int.natCast_mul, Int.neg_mul, Int.mul_neg]
theorem sg_self (z : Int) : sg (decide (z < 0)) z.natAbs = z := by unfold sg; split <;> simp_all <;> omega

/-- Add, of a sign and limbs. -/
theorem Add_raw (bx by' : Bool) (adx ady : Option Addr) (nx cx ny cy : Nat) (m n : Nat) (w : World) (hm : (digs 4294967296 m).length ≤ 1000000) (hn : (digs 4294967296 n).length ≤ 1000000)
    (ha : Rd .u32 w (.slice adx nx cx) (digs 4294967296 m)) (hb : Rd .u32 w (.slice ady ny cy) (digs 4294967296 n)) :
    Calls Try.prog 38 #[.agg #[.bool bx, .slice adx nx cx], .agg #[.bool by', .slice ady ny cy]] w (IntPost w (sg bx m + sg by' n)) := by
  cases hs : (bx == by')
  · rcases Nat.lt_trichotomy m n with h | h | h
    · rw [← sg_add_lt bx by' hs m n (Nat.le_of_lt h)]
      exact Add_lt bx by' adx ady nx cx ny cy m n w hm hn hs h ha hb
    · rw [← sg_add_ge bx by' hs m n (Nat.le_of_eq h.symm)]
      exact Add_eq bx by' adx ady nx cx ny cy m n w hm hn hs h ha hb
    · rw [← sg_add_ge bx by' hs m n (Nat.le_of_lt h)]
      exact Add_gt bx by' adx ady nx cx ny cy m n w hm hn hs h ha hb
  · obtain rfl : bx = by' := by simpa using hs
    rw [← sg_add_same]
    exact Add_same bx bx adx ady nx cx ny cy m n w hm hn hs ha hb

/-- How many limbs a number has. -/
def len (z : Int) : Nat := (digs 4294967296 z.natAbs).length
theorem Add_any (x y : Int) (vx vy : Value) (w : World) (hx : len x ≤ 1000000) (hy : len y ≤ 1000000) (ha : IntV w vx x) (hb : IntV w vy y) :
    Calls Try.prog 38 #[vx, vy] w (IntPost w (x + y)) := by
  obtain ⟨adx, nx, cx, rfl, ra⟩ := ha
  obtain ⟨ady, ny, cy, rfl, rb⟩ := hb
  have := Add_raw (decide (x < 0)) (decide (y < 0)) adx ady nx cx ny cy x.natAbs y.natAbs w hx hy ra rb
  rw [sg_self, sg_self] at this
  exact this
theorem Mul_any (x y : Int) (vx vy : Value) (w : World) (hx : len x ≤ 1000000) (hy : len y ≤ 1000000) (ha : IntV w vx x) (hb : IntV w vy y) :
    Calls Try.prog 42 #[vx, vy] w (IntPost w (x * y)) := by
  obtain ⟨adx, nx, cx, rfl, ra⟩ := ha
  obtain ⟨ady, ny, cy, rfl, rb⟩ := hb
  have := Mul_raw (decide (x < 0)) (decide (y < 0)) adx ady nx cx ny cy x.natAbs y.natAbs w hx hy ra rb
  rw [sg_mul, sg_self, sg_self] at this
  exact this

end Go.Proofs.Ytfieecdedilonaa
