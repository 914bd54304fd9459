/-  combine and Boole.  -/
import Derived.Test.YtfieecdedilonaaSigned
namespace Go.Proofs.Ytfieecdedilonaa
open Go.RowKit Digs

def tbl (op : Nat) : Array Value := #[.int .u32 (tb op 0 : Nat), .int .u32 (tb op 1 : Nat), .int .u32 (tb op 2 : Nat), .int .u32 (tb op 3 : Nat)]
def opN (op a b : Nat) : Nat := opT (tb op 0) (tb op 1) (tb op 2) (tb op 3) a b
theorem tb_lt (op i : Nat) : tb op i < 4294967296 := by unfold tb; split <;> decide
theorem opN_lt (op a b : Nat) : opN op a b < 4294967296 := opT_lt (tb_lt _ _) (tb_lt _ _) (tb_lt _ _) (tb_lt _ _)

theorem words_any (z : Int) (v : Value) (n : Nat) (w : World) (hn : n ≤ 1000001) (hln : len z ≤ n) (hlz : len z ≤ 1000000) (h : IntV w v z) :
    Calls Try.prog 123 #[v, .int .i64 n] w (WordsPost w n (wordsN z n)) := by
  have h' := h
  obtain ⟨ad, nx, c, rfl, hr⟩ := h
  unfold wordsN
  by_cases hz : z < 0
  · rw [if_pos hz]
    have hd : decide (z < 0) = true := by simpa using hz
    rw [hd] at h' ⊢
    exact words_neg z ad nx c n w hn hz hln hlz h'
  · rw [if_neg hz]
    have hd : decide (z < 0) = false := by simpa using hz
    rw [hd]
    obtain ⟨ad', c', hv, ra⟩ := hr.opt
    cases hv
    exact words_pos ad c n _ w hn hln ra

theorem wordsN_length (z : Int) (n : Nat) (h : len z ≤ n) : (wordsN z n).length = n := by
  unfold wordsN
  split
  · rw [inv32_length, padN_length _ _ (Nat.le_trans (compl_len (by assumption)) h)]
  · exact padN_length _ _ h
theorem wordsN_lt (z : Int) (n : Nat) : ∀ x ∈ wordsN z n, x < 4294967296 := by
  unfold wordsN
  split
  · exact inv32_lt _
  · exact padN_lt _ _ (digs_lt (by decide) _)

/-- The limbs that an operation makes of two numbers'. -/
def combW (op : Nat) (x y : Int) (n : Nat) : List Nat := List.zipWith (opN op) (wordsN x n) (wordsN y n)
/-- The integer that an operation of bits makes. -/
def boolZ (op : Nat) (x y : Int) : Int := signedZ (combW op x y (max (len x) (len y) + 1))

def CombRel (op : Nat) (lx ly : List Nat) (w : World) (gx gy R N : Nat) (i : Value) (wr : World) : Prop :=
  ∃ (k : Nat) (p : List Nat), i = .int .i64 k ∧ k ≤ N ∧ Row wr w.heap.size gx N p ∧ (∀ j : Nat, p[j]?.getD 0 = if j < k then (List.zipWith (opN op) lx ly)[j]?.getD 0 else lx[j]?.getD 0) ∧
    Row wr w.heap.size gy N ly ∧ Below w.heap.size w wr ∧ wr.heap[R]? = some (.cells #[.bool false, .slice none 0 0] 28 (0, 0)) ∧ gx ≠ gy ∧ gx ≠ R ∧ w.heap.size ≤ R

set_option maxHeartbeats 4000000 in
set_option maxRecDepth 100000 in
theorem combine_lt (op T : Nat) (x y : Int) (vx vy : Value) (w : World) (hx : len x ≤ 999999) (hy : len y ≤ 999999) (hcond : len x < len y) (ha : IntV w vx x) (hb : IntV w vy y) (hT : w.heap[T]? = some (.cells (tbl op) 143 (0, 0))) :
    Calls Try.prog 99 #[vx, .func (.func 125) #[] #[.pointer (some ⟨T, 0, none⟩)], vy] w (IntPost w (boolZ op x y)) := by
  have ha' := ha
  have hb' := hb
  obtain ⟨adx, nx, cx, rfl, hrx⟩ := ha
  obtain ⟨ady, ny, cy, rfl, hry⟩ := hb
  have hnx : nx = len x := by obtain ⟨_, _, hv⟩ := hrx.shape'; cases hv; rfl
  have hny : ny = len y := by obtain ⟨_, _, hv⟩ := hry.shape'; cases hv; rfl
  rw [← hnx, ← hny] at hcond
  rw [← hnx] at hx
  rw [← hny] at hy
  obtain ⟨N, hN⟩ : ∃ N, N = ny + 1 := ⟨_, rfl⟩
  have hNmax : max (len x) (len y) + 1 = N := by rw [← hnx, ← hny]; omega
  have hNi : ((N : Nat) : Int) = (ny : Int) + 1 := by omega
  have hNb : N ≤ 1000000 := by omega
  have hN1 : 1 ≤ N := by omega
  have hxN : len x ≤ N := by omega
  have hyN : len y ≤ N := by omega
  have HWX := fun W hw => Lib.hid (words_any x _ N W (by omega) hxN (by omega) (ha'.keep (w' := W) hw))
  have HWY := fun W hw => Lib.hid (words_any y _ N W (by omega) hyN (by omega) (hb'.keep (w' := W) hw))
  rw [hNi] at HWX HWY
  have HWX := Lib.hid HWX
  have HWY := Lib.hid HWY
  have HLX := Lib.hid (wordsN_length x N hxN)
  have HLY := Lib.hid (wordsN_length y N hyN)
  unfold boolZ combW
  rw [hNmax]
  have HTT := Lib.hid hT
  have hTlt := (Array.getElem?_eq_some_iff.1 hT).1
  have HNI := Lib.hid hNi
  clear hT ha' hb' hrx hry hnx hny hN hNmax hNi hxN hyN
  generalize decide (x < 0) = bx at *
  generalize decide (y < 0) = by' at *
  go_enter Try.func99, Try.ntmps99
  go_wp2_with fail
  go_region_held3 (fun w' => w'.cell? ⟨w.heap.size, 0, none⟩ = some (.bool bx) ∧ w'.cell? ⟨w.heap.size, 1, none⟩ = some (.slice adx nx cx) ∧ w'.cell? ⟨w.heap.size + 1, 0, none⟩ = some (.bool by') ∧ w'.cell? ⟨w.heap.size + 1, 1, none⟩ = some (.slice ady ny cy))
    (first | exact ⟨cA2, cB2, cC2, cD2⟩ | exact ⟨cA, cB, cC, cD⟩ | go_keep)
    (first
      | (go_at_call_of 123 (Value.agg #[.bool bx, .slice adx nx cx]); refine (HWX.out _ (below3 _ _ _ _).drew).out.mono ?_; rintro e w1 ⟨gx, rfl, hrx, hb1'⟩; have hb1 := (Below.refl _ _).drew.trans hb1'; obtain ⟨cA, cB, cC, cD, cE, cF, fC, fE, fF, hsz⟩ := box3 hb1; have hb0 := (below3 w _ _ _).trans (hb1.mono (by simp <;> omega)))
      | (go_at_call_of 123 (Value.agg #[.bool by', .slice ady ny cy]); refine (HWY.out _ hb0).out.mono ?_; rintro e w2 ⟨gy, rfl, hry, hb2⟩; obtain ⟨cA2, cB2, cC2, cD2, cE2, cF2, fC2, fE2, fF2, hsz2⟩ := box3 (hb1.trans (hb2.mono hb1.size))))
  have hB2 := hb0.trans (hb2.mono hb0.size)
  have hgx := hrx.lt
  have hgy := hry.lt
  have hX := hb1.trans (hb2.mono hb1.size)
  have hbox : w2.heap[w.heap.size + 2]? = some (.cells #[.bool false, .slice none 0 0] 28 (0, 0)) := by
    rw [hX.block (w.heap.size + 2) (by simp)]
    have := heap_alloc_new ((w.alloc (.cells #[.bool bx, .slice adx nx cx] 28)).alloc (.cells #[.bool by', .slice ady ny cy] 28)) (.cells #[.bool false, .slice none 0 0] 28)
    simp only [World.size_alloc] at this
    exact this
  have hsx : w.heap.size + 2 < gx := by have := hgx.1; simp at this; omega
  have hxy : gx < gy := by omega
  have hrowx : Row w2 w.heap.size gx N (wordsN x N) := Row.of_block (by rw [hb2.block gx hgx.2]; exact hrx.block) (by omega) HLX.out (by unfold maxLen; omega)
  have hrowy : Row w2 w.heap.size gy N (wordsN y N) := Row.of_block hry.block (by omega) HLY.out (by unfold maxLen; omega)
  have HBX := Lib.hid hbox
  have HRX := Lib.hid hrowx
  have HRY := Lib.hid hrowy
  have HB2 := Lib.hid hB2
  clear hB2 hgx hgy hX hbox hrowx hrowy hrx hry hb1 hb1' hb2 hb0 cA cB cC cD cE cF fC fE fF cA2 cB2 cC2 cD2 cE2 cF2 fC2 fE2 fF2 hsz hsz2
  go_wp2
  go_loopw [27] (CombRel op (wordsN x N) (wordsN y N) w gx gy (w.heap.size + 2) N) (fun i _ => N - (intOf i).toNat)
  case atStart => exact ⟨0, _, rfl, Nat.zero_le _, HRX.out, fun j => by rw [if_neg (Nat.not_lt_zero _)], HRY.out, HB2.out, HBX.out, by omega, by omega, by omega⟩
  case round =>
    obtain ⟨k, p, rfl, hk, hrow, hp, hrowy, hnx, hbox, _, _, _⟩ := hrel
    have HROW := Lib.hid hrow
    have HROWY := Lib.hid hrowy
    have HP := Lib.hid hp
    have HNX := Lib.hid hnx
    have HBOX := Lib.hid hbox
    clear hrow hp hnx hbox hrowy
    by_cases hkn : k < N
    · have gx1 := HROW.out.cell k hkn
      have gf1 := HROW.out.frozen k
      have gy1 := HROWY.out.cell k hkn
      have hx0 : p[k]?.getD 0 = (wordsN x N)[k]?.getD 0 := by rw [HP.out, if_neg (Nat.lt_irrefl _)]
      rw [hx0] at gx1
      have hab : (wordsN x N)[k]?.getD 0 < 4294967296 := by
        rw [List.getElem?_eq_getElem (by rw [HLX.out]; exact hkn)]
        exact wordsN_lt _ _ _ (List.getElem_mem _)
      have hbb : (wordsN y N)[k]?.getD 0 < 4294967296 := by
        rw [List.getElem?_eq_getElem (by rw [HLY.out]; exact hkn)]
        exact wordsN_lt _ _ _ (List.getElem_mem _)
      obtain ⟨a, haa⟩ : ∃ a, a = (wordsN x N)[k]?.getD 0 := ⟨_, rfl⟩
      obtain ⟨b, hbb'⟩ : ∃ b, b = (wordsN y N)[k]?.getD 0 := ⟨_, rfl⟩
      rw [← haa] at gx1 hab
      rw [← hbb'] at gy1 hbb
      have HA := Lib.hid haa
      have HBV := Lib.hid hbb'
      have hTb : wr.heap[T]? = some (.cells (tbl op) 143 (0, 0)) := by rw [HNX.out.block T hTlt]; exact HTT.out
      have HOP : ∀ d, Calls Try.prog 125 #[.int .u32 a, .int .u32 b, .pointer (some ⟨T, 0, none⟩)] (wr.drewN d) fun e w' => e = .returned (.int .u32 ((opN op a b : Nat) : Int)) ∧ w' = wr.drewN d := fun d =>
        op_any T _ _ _ _ a b (wr.drewN d) (cell_of_row wr T 0 _ _ _ hTb) (cell_of_row wr T 1 _ _ _ hTb) (cell_of_row wr T 2 _ _ _ hTb) (cell_of_row wr T 3 _ _ _ hTb) (tb_lt _ _) (tb_lt _ _) (tb_lt _ _) (tb_lt _ _) hab hbb
      have HOP := Lib.hid HOP
      clear hx0 haa hbb' hTb
      go_wp2_with fail
      go_region_with (go_at_call 125; refine (HOP.out 1).mono ?_; rintro e w' ⟨rfl, rfl⟩)
      all_goals
        go_wp2
        go_roundw
        case rel =>
          refine ⟨k + 1, p.set k (opN op a b), by go_num, by omega, HROW.out.store k (opN op a b) _ rfl, ?_, ?_, (HNX.out.setCell (p := ⟨gx, k, none⟩) (by show w.heap.size ≤ gx; omega) _).drew, ?_, by omega, by omega, by omega⟩
          · intro j
            by_cases hj : j = k
            · subst hj
              rw [List.getElem?_set_self (by rw [HROW.out.1]; exact hkn), if_pos (by omega), List.getElem?_zipWith, List.getElem?_eq_getElem (by rw [HLX.out]; exact hkn), List.getElem?_eq_getElem (by rw [HLY.out]; exact hkn)]
              have h1 := HA.out
              have h2 := HBV.out
              rw [List.getElem?_eq_getElem (by rw [HLX.out]; exact hkn)] at h1
              rw [List.getElem?_eq_getElem (by rw [HLY.out]; exact hkn)] at h2
              simp only [Option.getD_some] at h1 h2 ⊢
              rw [← h1, ← h2]
            · rw [getD_set_ne _ _ _ _ (by omega), HP.out]
              by_cases h1 : j < k
              · rw [if_pos h1, if_pos (by omega)]
              · rw [if_neg h1, if_neg (by omega)]
          · exact Row.of_block (w := (wr.setCell ⟨gx, k, none⟩ (.int .u32 ((opN op a b : Nat) : Int))).drew) (by show (wr.setCell _ _).heap[gy]? = _; rw [heap_setCell_other _ _ _ _ (by simp; omega)]; exact HROWY.out.block) (by omega) HLY.out (by unfold maxLen; omega)
          · show (wr.setCell _ _).heap[w.heap.size + 2]? = _
            rw [heap_setCell_other _ _ _ _ (by simp; omega)]
            exact HBOX.out
        case measure => simp [intOf]; omega
    · obtain rfl : k = N := by omega
      have e : p = List.zipWith (opN op) (wordsN x k) (wordsN y k) := by
        have hzl : (List.zipWith (opN op) (wordsN x k) (wordsN y k)).length = k := by rw [List.length_zipWith, HLX.out, HLY.out, Nat.min_self]
        apply List.ext_getElem (by rw [hzl, HROW.out.1])
        intro i h1 h2
        have := HP.out i
        rw [if_pos (by rw [HROW.out.1] at h1; exact h1), List.getElem?_eq_getElem h1, List.getElem?_eq_getElem h2] at this
        exact this
      have hlt : ∀ z ∈ List.zipWith (opN op) (wordsN x k) (wordsN y k), z < 4294967296 := by
        intro z hz
        obtain ⟨i, hi, rfl⟩ := List.getElem_of_mem hz
        rw [List.getElem_zipWith]
        exact opN_lt _ _ _
      have hrow := HROW.out
      rw [e] at hrow
      have HS := Lib.hid (signed_any w.heap.size gx k _ wr hNb hN1 hrow hlt HNX.out.size)
      clear e hlt hrow
      go_wp2_with fail
      refine HS.out.mono ?_
      rintro e w3 ⟨v3, rfl, ⟨ad, n, c, rfl, hr3⟩, hb3, ho3⟩
      have hRl := (Array.getElem?_eq_some_iff.1 HBOX.out).1
      have hbox3 : w3.heap[w.heap.size + 2]? = some (.cells #[.bool false, .slice none 0 0] 28 (0, 0)) := by rw [ho3 _ hRl (by omega)]; exact HBOX.out
      obtain ⟨c0, c1, f0, f1, hlt⟩ := box_of hbox3 (Below.refl _ _)
      have HR := Lib.hid (hr3.store2 c0 c1 (by intro n h; cases h) (by intro n h; cases h))
      have HBB := Lib.hid (HNX.out.trans hb3)
      clear hb3 hr3 hbox3 ho3
      go_wp2_with fail
      refine bodyPost_ret (v := .agg #[.bool (decide (signedZ (List.zipWith (opN op) (wordsN x k) (wordsN y k)) < 0)), .slice ad n c]) (by simp [results, Try.results99, go_sem, c0, c1]) rfl ⟨_, rfl, ⟨_, _, _, rfl, HR.out _ _⟩, ?_⟩
      exact (HBB.out.setCell (by simp; omega) _).setCell (by simp; omega) _

set_option maxHeartbeats 4000000 in
set_option maxRecDepth 100000 in
theorem combine_gt (op T : Nat) (x y : Int) (vx vy : Value) (w : World) (hx : len x ≤ 999999) (hy : len y ≤ 999999) (hcond : len y < len x) (ha : IntV w vx x) (hb : IntV w vy y) (hT : w.heap[T]? = some (.cells (tbl op) 143 (0, 0))) :
    Calls Try.prog 99 #[vx, .func (.func 125) #[] #[.pointer (some ⟨T, 0, none⟩)], vy] w (IntPost w (boolZ op x y)) := by
  have ha' := ha
  have hb' := hb
  obtain ⟨adx, nx, cx, rfl, hrx⟩ := ha
  obtain ⟨ady, ny, cy, rfl, hry⟩ := hb
  have hnx : nx = len x := by obtain ⟨_, _, hv⟩ := hrx.shape'; cases hv; rfl
  have hny : ny = len y := by obtain ⟨_, _, hv⟩ := hry.shape'; cases hv; rfl
  rw [← hnx, ← hny] at hcond
  rw [← hnx] at hx
  rw [← hny] at hy
  obtain ⟨N, hN⟩ : ∃ N, N = nx + 1 := ⟨_, rfl⟩
  have hNmax : max (len x) (len y) + 1 = N := by rw [← hnx, ← hny]; omega
  have hNi : ((N : Nat) : Int) = (nx : Int) + 1 := by omega
  have hNb : N ≤ 1000000 := by omega
  have hN1 : 1 ≤ N := by omega
  have hxN : len x ≤ N := by omega
  have hyN : len y ≤ N := by omega
  have HWX := fun W hw => Lib.hid (words_any x _ N W (by omega) hxN (by omega) (ha'.keep (w' := W) hw))
  have HWY := fun W hw => Lib.hid (words_any y _ N W (by omega) hyN (by omega) (hb'.keep (w' := W) hw))
  rw [hNi] at HWX HWY
  have HWX := Lib.hid HWX
  have HWY := Lib.hid HWY
  have HLX := Lib.hid (wordsN_length x N hxN)
  have HLY := Lib.hid (wordsN_length y N hyN)
  unfold boolZ combW
  rw [hNmax]
  have HTT := Lib.hid hT
  have hTlt := (Array.getElem?_eq_some_iff.1 hT).1
  have HNI := Lib.hid hNi
  clear hT ha' hb' hrx hry hnx hny hN hNmax hNi hxN hyN
  generalize decide (x < 0) = bx at *
  generalize decide (y < 0) = by' at *
  go_enter Try.func99, Try.ntmps99
  go_wp2_with fail
  go_region_held3 (fun w' => w'.cell? ⟨w.heap.size, 0, none⟩ = some (.bool bx) ∧ w'.cell? ⟨w.heap.size, 1, none⟩ = some (.slice adx nx cx) ∧ w'.cell? ⟨w.heap.size + 1, 0, none⟩ = some (.bool by') ∧ w'.cell? ⟨w.heap.size + 1, 1, none⟩ = some (.slice ady ny cy))
    (first | exact ⟨cA2, cB2, cC2, cD2⟩ | exact ⟨cA, cB, cC, cD⟩ | go_keep)
    (first
      | (go_at_call_of 123 (Value.agg #[.bool bx, .slice adx nx cx]); refine (HWX.out _ (below3 _ _ _ _).drew).out.mono ?_; rintro e w1 ⟨gx, rfl, hrx, hb1'⟩; have hb1 := (Below.refl _ _).drew.trans hb1'; obtain ⟨cA, cB, cC, cD, cE, cF, fC, fE, fF, hsz⟩ := box3 hb1; have hb0 := (below3 w _ _ _).trans (hb1.mono (by simp <;> omega)))
      | (go_at_call_of 123 (Value.agg #[.bool by', .slice ady ny cy]); refine (HWY.out _ hb0).out.mono ?_; rintro e w2 ⟨gy, rfl, hry, hb2⟩; obtain ⟨cA2, cB2, cC2, cD2, cE2, cF2, fC2, fE2, fF2, hsz2⟩ := box3 (hb1.trans (hb2.mono hb1.size))))
  have hB2 := hb0.trans (hb2.mono hb0.size)
  have hgx := hrx.lt
  have hgy := hry.lt
  have hX := hb1.trans (hb2.mono hb1.size)
  have hbox : w2.heap[w.heap.size + 2]? = some (.cells #[.bool false, .slice none 0 0] 28 (0, 0)) := by
    rw [hX.block (w.heap.size + 2) (by simp)]
    have := heap_alloc_new ((w.alloc (.cells #[.bool bx, .slice adx nx cx] 28)).alloc (.cells #[.bool by', .slice ady ny cy] 28)) (.cells #[.bool false, .slice none 0 0] 28)
    simp only [World.size_alloc] at this
    exact this
  have hsx : w.heap.size + 2 < gx := by have := hgx.1; simp at this; omega
  have hxy : gx < gy := by omega
  have hrowx : Row w2 w.heap.size gx N (wordsN x N) := Row.of_block (by rw [hb2.block gx hgx.2]; exact hrx.block) (by omega) HLX.out (by unfold maxLen; omega)
  have hrowy : Row w2 w.heap.size gy N (wordsN y N) := Row.of_block hry.block (by omega) HLY.out (by unfold maxLen; omega)
  have HBX := Lib.hid hbox
  have HRX := Lib.hid hrowx
  have HRY := Lib.hid hrowy
  have HB2 := Lib.hid hB2
  clear hB2 hgx hgy hX hbox hrowx hrowy hrx hry hb1 hb1' hb2 hb0 cA cB cC cD cE cF fC fE fF cA2 cB2 cC2 cD2 cE2 cF2 fC2 fE2 fF2 hsz hsz2
  go_wp2
  go_loopw [27] (CombRel op (wordsN x N) (wordsN y N) w gx gy (w.heap.size + 2) N) (fun i _ => N - (intOf i).toNat)
  case atStart => exact ⟨0, _, rfl, Nat.zero_le _, HRX.out, fun j => by rw [if_neg (Nat.not_lt_zero _)], HRY.out, HB2.out, HBX.out, by omega, by omega, by omega⟩
  case round =>
    obtain ⟨k, p, rfl, hk, hrow, hp, hrowy, hnx, hbox, _, _, _⟩ := hrel
    have HROW := Lib.hid hrow
    have HROWY := Lib.hid hrowy
    have HP := Lib.hid hp
    have HNX := Lib.hid hnx
    have HBOX := Lib.hid hbox
    clear hrow hp hnx hbox hrowy
    by_cases hkn : k < N
    · have gx1 := HROW.out.cell k hkn
      have gf1 := HROW.out.frozen k
      have gy1 := HROWY.out.cell k hkn
      have hx0 : p[k]?.getD 0 = (wordsN x N)[k]?.getD 0 := by rw [HP.out, if_neg (Nat.lt_irrefl _)]
      rw [hx0] at gx1
      have hab : (wordsN x N)[k]?.getD 0 < 4294967296 := by
        rw [List.getElem?_eq_getElem (by rw [HLX.out]; exact hkn)]
        exact wordsN_lt _ _ _ (List.getElem_mem _)
      have hbb : (wordsN y N)[k]?.getD 0 < 4294967296 := by
        rw [List.getElem?_eq_getElem (by rw [HLY.out]; exact hkn)]
        exact wordsN_lt _ _ _ (List.getElem_mem _)
      obtain ⟨a, haa⟩ : ∃ a, a = (wordsN x N)[k]?.getD 0 := ⟨_, rfl⟩
      obtain ⟨b, hbb'⟩ : ∃ b, b = (wordsN y N)[k]?.getD 0 := ⟨_, rfl⟩
      rw [← haa] at gx1 hab
      rw [← hbb'] at gy1 hbb
      have HA := Lib.hid haa
      have HBV := Lib.hid hbb'
      have hTb : wr.heap[T]? = some (.cells (tbl op) 143 (0, 0)) := by rw [HNX.out.block T hTlt]; exact HTT.out
      have HOP : ∀ d, Calls Try.prog 125 #[.int .u32 a, .int .u32 b, .pointer (some ⟨T, 0, none⟩)] (wr.drewN d) fun e w' => e = .returned (.int .u32 ((opN op a b : Nat) : Int)) ∧ w' = wr.drewN d := fun d =>
        op_any T _ _ _ _ a b (wr.drewN d) (cell_of_row wr T 0 _ _ _ hTb) (cell_of_row wr T 1 _ _ _ hTb) (cell_of_row wr T 2 _ _ _ hTb) (cell_of_row wr T 3 _ _ _ hTb) (tb_lt _ _) (tb_lt _ _) (tb_lt _ _) (tb_lt _ _) hab hbb
      have HOP := Lib.hid HOP
      clear hx0 haa hbb' hTb
      go_wp2_with fail
      go_region_with (go_at_call 125; refine (HOP.out 1).mono ?_; rintro e w' ⟨rfl, rfl⟩)
      all_goals
        go_wp2
        go_roundw
        case rel =>
          refine ⟨k + 1, p.set k (opN op a b), by go_num, by omega, HROW.out.store k (opN op a b) _ rfl, ?_, ?_, (HNX.out.setCell (p := ⟨gx, k, none⟩) (by show w.heap.size ≤ gx; omega) _).drew, ?_, by omega, by omega, by omega⟩
          · intro j
            by_cases hj : j = k
            · subst hj
              rw [List.getElem?_set_self (by rw [HROW.out.1]; exact hkn), if_pos (by omega), List.getElem?_zipWith, List.getElem?_eq_getElem (by rw [HLX.out]; exact hkn), List.getElem?_eq_getElem (by rw [HLY.out]; exact hkn)]
              have h1 := HA.out
              have h2 := HBV.out
              rw [List.getElem?_eq_getElem (by rw [HLX.out]; exact hkn)] at h1
              rw [List.getElem?_eq_getElem (by rw [HLY.out]; exact hkn)] at h2
              simp only [Option.getD_some] at h1 h2 ⊢
              rw [← h1, ← h2]
            · rw [getD_set_ne _ _ _ _ (by omega), HP.out]
              by_cases h1 : j < k
              · rw [if_pos h1, if_pos (by omega)]
              · rw [if_neg h1, if_neg (by omega)]
          · exact Row.of_block (w := (wr.setCell ⟨gx, k, none⟩ (.int .u32 ((opN op a b : Nat) : Int))).drew) (by show (wr.setCell _ _).heap[gy]? = _; rw [heap_setCell_other _ _ _ _ (by simp; omega)]; exact HROWY.out.block) (by omega) HLY.out (by unfold maxLen; omega)
          · show (wr.setCell _ _).heap[w.heap.size + 2]? = _
            rw [heap_setCell_other _ _ _ _ (by simp; omega)]
            exact HBOX.out
        case measure => simp [intOf]; omega
    · obtain rfl : k = N := by omega
      have e : p = List.zipWith (opN op) (wordsN x k) (wordsN y k) := by
        have hzl : (List.zipWith (opN op) (wordsN x k) (wordsN y k)).length = k := by rw [List.length_zipWith, HLX.out, HLY.out, Nat.min_self]
        apply List.ext_getElem (by rw [hzl, HROW.out.1])
        intro i h1 h2
        have := HP.out i
        rw [if_pos (by rw [HROW.out.1] at h1; exact h1), List.getElem?_eq_getElem h1, List.getElem?_eq_getElem h2] at this
        exact this
      have hlt : ∀ z ∈ List.zipWith (opN op) (wordsN x k) (wordsN y k), z < 4294967296 := by
        intro z hz
        obtain ⟨i, hi, rfl⟩ := List.getElem_of_mem hz
        rw [List.getElem_zipWith]
        exact opN_lt _ _ _
      have hrow := HROW.out
      rw [e] at hrow
      have HS := Lib.hid (signed_any w.heap.size gx k _ wr hNb hN1 hrow hlt HNX.out.size)
      clear e hlt hrow
      go_wp2_with fail
      refine HS.out.mono ?_
      rintro e w3 ⟨v3, rfl, ⟨ad, n, c, rfl, hr3⟩, hb3, ho3⟩
      have hRl := (Array.getElem?_eq_some_iff.1 HBOX.out).1
      have hbox3 : w3.heap[w.heap.size + 2]? = some (.cells #[.bool false, .slice none 0 0] 28 (0, 0)) := by rw [ho3 _ hRl (by omega)]; exact HBOX.out
      obtain ⟨c0, c1, f0, f1, hlt⟩ := box_of hbox3 (Below.refl _ _)
      have HR := Lib.hid (hr3.store2 c0 c1 (by intro n h; cases h) (by intro n h; cases h))
      have HBB := Lib.hid (HNX.out.trans hb3)
      clear hb3 hr3 hbox3 ho3
      go_wp2_with fail
      refine bodyPost_ret (v := .agg #[.bool (decide (signedZ (List.zipWith (opN op) (wordsN x k) (wordsN y k)) < 0)), .slice ad n c]) (by simp [results, Try.results99, go_sem, c0, c1]) rfl ⟨_, rfl, ⟨_, _, _, rfl, HR.out _ _⟩, ?_⟩
      exact (HBB.out.setCell (by simp; omega) _).setCell (by simp; omega) _

set_option maxHeartbeats 4000000 in
set_option maxRecDepth 100000 in
theorem combine_eq (op T : Nat) (x y : Int) (vx vy : Value) (w : World) (_hx : len x ≤ 999999) (hy : len y ≤ 999999) (hcond : len x = len y) (ha : IntV w vx x) (hb : IntV w vy y) (hT : w.heap[T]? = some (.cells (tbl op) 143 (0, 0))) :
    Calls Try.prog 99 #[vx, .func (.func 125) #[] #[.pointer (some ⟨T, 0, none⟩)], vy] w (IntPost w (boolZ op x y)) := by
  have ha' := ha
  have hb' := hb
  obtain ⟨adx, nx, cx, rfl, hrx⟩ := ha
  obtain ⟨ady, ny, cy, rfl, hry⟩ := hb
  have hnx : nx = len x := by obtain ⟨_, _, hv⟩ := hrx.shape'; cases hv; rfl
  have hny : ny = len y := by obtain ⟨_, _, hv⟩ := hry.shape'; cases hv; rfl
  obtain rfl : nx = ny := by rw [hnx, hny, hcond]
  clear hcond
  rw [← hnx] at _hx
  rw [← hny] at hy
  obtain ⟨N, hN⟩ : ∃ N, N = nx + 1 := ⟨_, rfl⟩
  have hNmax : max (len x) (len y) + 1 = N := by rw [← hnx, ← hny]; omega
  have hNi : ((N : Nat) : Int) = (nx : Int) + 1 := by omega
  have hNb : N ≤ 1000000 := by omega
  have hN1 : 1 ≤ N := by omega
  have hxN : len x ≤ N := by omega
  have hyN : len y ≤ N := by omega
  have HWX := fun W hw => Lib.hid (words_any x _ N W (by omega) hxN (by omega) (ha'.keep (w' := W) hw))
  have HWY := fun W hw => Lib.hid (words_any y _ N W (by omega) hyN (by omega) (hb'.keep (w' := W) hw))
  rw [hNi] at HWX HWY
  have HWX := Lib.hid HWX
  have HWY := Lib.hid HWY
  have HLX := Lib.hid (wordsN_length x N hxN)
  have HLY := Lib.hid (wordsN_length y N hyN)
  unfold boolZ combW
  rw [hNmax]
  have HTT := Lib.hid hT
  have hTlt := (Array.getElem?_eq_some_iff.1 hT).1
  have HNI := Lib.hid hNi
  clear hT ha' hb' hrx hry hnx hny hN hNmax hNi hxN hyN
  generalize decide (x < 0) = bx at *
  generalize decide (y < 0) = by' at *
  go_enter Try.func99, Try.ntmps99
  go_wp2_with fail
  go_region_held3 (fun w' => w'.cell? ⟨w.heap.size, 0, none⟩ = some (.bool bx) ∧ w'.cell? ⟨w.heap.size, 1, none⟩ = some (.slice adx nx cx) ∧ w'.cell? ⟨w.heap.size + 1, 0, none⟩ = some (.bool by') ∧ w'.cell? ⟨w.heap.size + 1, 1, none⟩ = some (.slice ady nx cy))
    (first | exact ⟨cA2, cB2, cC2, cD2⟩ | exact ⟨cA, cB, cC, cD⟩ | go_keep)
    (first
      | (go_at_call_of 123 (Value.agg #[.bool bx, .slice adx nx cx]); refine (HWX.out _ (below3 _ _ _ _).drew).out.mono ?_; rintro e w1 ⟨gx, rfl, hrx, hb1'⟩; have hb1 := (Below.refl _ _).drew.trans hb1'; obtain ⟨cA, cB, cC, cD, cE, cF, fC, fE, fF, hsz⟩ := box3 hb1; have hb0 := (below3 w _ _ _).trans (hb1.mono (by simp <;> omega)))
      | (go_at_call_of 123 (Value.agg #[.bool by', .slice ady nx cy]); refine (HWY.out _ hb0).out.mono ?_; rintro e w2 ⟨gy, rfl, hry, hb2⟩; obtain ⟨cA2, cB2, cC2, cD2, cE2, cF2, fC2, fE2, fF2, hsz2⟩ := box3 (hb1.trans (hb2.mono hb1.size))))
  have hB2 := hb0.trans (hb2.mono hb0.size)
  have hgx := hrx.lt
  have hgy := hry.lt
  have hX := hb1.trans (hb2.mono hb1.size)
  have hbox : w2.heap[w.heap.size + 2]? = some (.cells #[.bool false, .slice none 0 0] 28 (0, 0)) := by
    rw [hX.block (w.heap.size + 2) (by simp)]
    have := heap_alloc_new ((w.alloc (.cells #[.bool bx, .slice adx nx cx] 28)).alloc (.cells #[.bool by', .slice ady nx cy] 28)) (.cells #[.bool false, .slice none 0 0] 28)
    simp only [World.size_alloc] at this
    exact this
  have hsx : w.heap.size + 2 < gx := by have := hgx.1; simp at this; omega
  have hxy : gx < gy := by omega
  have hrowx : Row w2 w.heap.size gx N (wordsN x N) := Row.of_block (by rw [hb2.block gx hgx.2]; exact hrx.block) (by omega) HLX.out (by unfold maxLen; omega)
  have hrowy : Row w2 w.heap.size gy N (wordsN y N) := Row.of_block hry.block (by omega) HLY.out (by unfold maxLen; omega)
  have HBX := Lib.hid hbox
  have HRX := Lib.hid hrowx
  have HRY := Lib.hid hrowy
  have HB2 := Lib.hid hB2
  clear hB2 hgx hgy hX hbox hrowx hrowy hrx hry hb1 hb1' hb2 hb0 cA cB cC cD cE cF fC fE fF cA2 cB2 cC2 cD2 cE2 cF2 fC2 fE2 fF2 hsz hsz2
  go_wp2
  go_loopw [27] (CombRel op (wordsN x N) (wordsN y N) w gx gy (w.heap.size + 2) N) (fun i _ => N - (intOf i).toNat)
  case atStart => exact ⟨0, _, rfl, Nat.zero_le _, HRX.out, fun j => by rw [if_neg (Nat.not_lt_zero _)], HRY.out, HB2.out, HBX.out, by omega, by omega, by omega⟩
  case round =>
    obtain ⟨k, p, rfl, hk, hrow, hp, hrowy, hnx, hbox, _, _, _⟩ := hrel
    have HROW := Lib.hid hrow
    have HROWY := Lib.hid hrowy
    have HP := Lib.hid hp
    have HNX := Lib.hid hnx
    have HBOX := Lib.hid hbox
    clear hrow hp hnx hbox hrowy
    by_cases hkn : k < N
    · have gx1 := HROW.out.cell k hkn
      have gf1 := HROW.out.frozen k
      have gy1 := HROWY.out.cell k hkn
      have hx0 : p[k]?.getD 0 = (wordsN x N)[k]?.getD 0 := by rw [HP.out, if_neg (Nat.lt_irrefl _)]
      rw [hx0] at gx1
      have hab : (wordsN x N)[k]?.getD 0 < 4294967296 := by
        rw [List.getElem?_eq_getElem (by rw [HLX.out]; exact hkn)]
        exact wordsN_lt _ _ _ (List.getElem_mem _)
      have hbb : (wordsN y N)[k]?.getD 0 < 4294967296 := by
        rw [List.getElem?_eq_getElem (by rw [HLY.out]; exact hkn)]
        exact wordsN_lt _ _ _ (List.getElem_mem _)
      obtain ⟨a, haa⟩ : ∃ a, a = (wordsN x N)[k]?.getD 0 := ⟨_, rfl⟩
      obtain ⟨b, hbb'⟩ : ∃ b, b = (wordsN y N)[k]?.getD 0 := ⟨_, rfl⟩
      rw [← haa] at gx1 hab
      rw [← hbb'] at gy1 hbb
      have HA := Lib.hid haa
      have HBV := Lib.hid hbb'
      have hTb : wr.heap[T]? = some (.cells (tbl op) 143 (0, 0)) := by rw [HNX.out.block T hTlt]; exact HTT.out
      have HOP : ∀ d, Calls Try.prog 125 #[.int .u32 a, .int .u32 b, .pointer (some ⟨T, 0, none⟩)] (wr.drewN d) fun e w' => e = .returned (.int .u32 ((opN op a b : Nat) : Int)) ∧ w' = wr.drewN d := fun d =>
        op_any T _ _ _ _ a b (wr.drewN d) (cell_of_row wr T 0 _ _ _ hTb) (cell_of_row wr T 1 _ _ _ hTb) (cell_of_row wr T 2 _ _ _ hTb) (cell_of_row wr T 3 _ _ _ hTb) (tb_lt _ _) (tb_lt _ _) (tb_lt _ _) (tb_lt _ _) hab hbb
      have HOP := Lib.hid HOP
      clear hx0 haa hbb' hTb
      go_wp2_with fail
      go_region_with (go_at_call 125; refine (HOP.out 1).mono ?_; rintro e w' ⟨rfl, rfl⟩)
      all_goals
        go_wp2
        go_roundw
        case rel =>
          refine ⟨k + 1, p.set k (opN op a b), by go_num, by omega, HROW.out.store k (opN op a b) _ rfl, ?_, ?_, (HNX.out.setCell (p := ⟨gx, k, none⟩) (by show w.heap.size ≤ gx; omega) _).drew, ?_, by omega, by omega, by omega⟩
          · intro j
            by_cases hj : j = k
            · subst hj
              rw [List.getElem?_set_self (by rw [HROW.out.1]; exact hkn), if_pos (by omega), List.getElem?_zipWith, List.getElem?_eq_getElem (by rw [HLX.out]; exact hkn), List.getElem?_eq_getElem (by rw [HLY.out]; exact hkn)]
              have h1 := HA.out
              have h2 := HBV.out
              rw [List.getElem?_eq_getElem (by rw [HLX.out]; exact hkn)] at h1
              rw [List.getElem?_eq_getElem (by rw [HLY.out]; exact hkn)] at h2
              simp only [Option.getD_some] at h1 h2 ⊢
              rw [← h1, ← h2]
            · rw [getD_set_ne _ _ _ _ (by omega), HP.out]
              by_cases h1 : j < k
              · rw [if_pos h1, if_pos (by omega)]
              · rw [if_neg h1, if_neg (by omega)]
          · exact Row.of_block (w := (wr.setCell ⟨gx, k, none⟩ (.int .u32 ((opN op a b : Nat) : Int))).drew) (by show (wr.setCell _ _).heap[gy]? = _; rw [heap_setCell_other _ _ _ _ (by simp; omega)]; exact HROWY.out.block) (by omega) HLY.out (by unfold maxLen; omega)
          · show (wr.setCell _ _).heap[w.heap.size + 2]? = _
            rw [heap_setCell_other _ _ _ _ (by simp; omega)]
            exact HBOX.out
        case measure => simp [intOf]; omega
    · obtain rfl : k = N := by omega
      have e : p = List.zipWith (opN op) (wordsN x k) (wordsN y k) := by
        have hzl : (List.zipWith (opN op) (wordsN x k) (wordsN y k)).length = k := by rw [List.length_zipWith, HLX.out, HLY.out, Nat.min_self]
        apply List.ext_getElem (by rw [hzl, HROW.out.1])
        intro i h1 h2
        have := HP.out i
        rw [if_pos (by rw [HROW.out.1] at h1; exact h1), List.getElem?_eq_getElem h1, List.getElem?_eq_getElem h2] at this
        exact this
      have hlt : ∀ z ∈ List.zipWith (opN op) (wordsN x k) (wordsN y k), z < 4294967296 := by
        intro z hz
        obtain ⟨i, hi, rfl⟩ := List.getElem_of_mem hz
        rw [List.getElem_zipWith]
        exact opN_lt _ _ _
      have hrow := HROW.out
      rw [e] at hrow
      have HS := Lib.hid (signed_any w.heap.size gx k _ wr hNb hN1 hrow hlt HNX.out.size)
      clear e hlt hrow
      go_wp2_with fail
      refine HS.out.mono ?_
      rintro e w3 ⟨v3, rfl, ⟨ad, n, c, rfl, hr3⟩, hb3, ho3⟩
      have hRl := (Array.getElem?_eq_some_iff.1 HBOX.out).1
      have hbox3 : w3.heap[w.heap.size + 2]? = some (.cells #[.bool false, .slice none 0 0] 28 (0, 0)) := by rw [ho3 _ hRl (by omega)]; exact HBOX.out
      obtain ⟨c0, c1, f0, f1, hlt⟩ := box_of hbox3 (Below.refl _ _)
      have HR := Lib.hid (hr3.store2 c0 c1 (by intro n h; cases h) (by intro n h; cases h))
      have HBB := Lib.hid (HNX.out.trans hb3)
      clear hb3 hr3 hbox3 ho3
      go_wp2_with fail
      refine bodyPost_ret (v := .agg #[.bool (decide (signedZ (List.zipWith (opN op) (wordsN x k) (wordsN y k)) < 0)), .slice ad n c]) (by simp [results, Try.results99, go_sem, c0, c1]) rfl ⟨_, rfl, ⟨_, _, _, rfl, HR.out _ _⟩, ?_⟩
      exact (HBB.out.setCell (by simp; omega) _).setCell (by simp; omega) _

theorem combine_any (op T : Nat) (x y : Int) (vx vy : Value) (w : World) (hx : len x ≤ 999999) (hy : len y ≤ 999999) (ha : IntV w vx x) (hb : IntV w vy y) (hT : w.heap[T]? = some (.cells (tbl op) 143 (0, 0))) :
    Calls Try.prog 99 #[vx, .func (.func 125) #[] #[.pointer (some ⟨T, 0, none⟩)], vy] w (IntPost w (boolZ op x y)) := by
  rcases Nat.lt_trichotomy (len x) (len y) with h | h | h
  · exact combine_lt op T x y vx vy w hx hy h ha hb hT
  · exact combine_eq op T x y vx vy w hx hy h ha hb hT
  · exact combine_gt op T x y vx vy w hx hy h ha hb hT

end Go.Proofs.Ytfieecdedilonaa
