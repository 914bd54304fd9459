/-  The reference's chosen and Of (of bits).  -/
import Derived.Test.YtgepnkdnenjogaaRB
namespace Go.Proofs.Ytgepnkdnenjogaa
open Go.RowKit Digs

theorem opB_at (op n : Nat) (a b : Bool) (h : (if a then 2 else 0) + (if b then 1 else 0) = n) : opB op a b = decide (op / 2 ^ n % 2 = 1) := by
  unfold opB
  rw [h, Nat.testBit_eq_decide_div_mod_eq]

set_option maxHeartbeats 1000000 in
set_option maxRecDepth 100000 in
theorem chosen_0 (op : Nat) (w : World) (hop : op ≤ 15) : Calls Try.prog 101 #[.int .i64 (op : Int), .bool false, .bool false] w fun e w' => e = .returned (.bool (opB op false false)) ∧ w = w' := by
  have HBT := Lib.hid (opB_at op 0 false false rfl).symm
  go_enter Try.func101, Try.ntmps101
  go_wp2
  go_loopw [0, 8] (fun o i wr => ∃ k : Nat, k ≤ 0 ∧ i = .int .i64 k ∧ o = .int .i64 ((op / 2 ^ k : Nat) : Int) ∧ w = wr) (fun _ i _ => 0 - (intOf i).toNat)
  case atStart => exact ⟨0, Nat.zero_le _, rfl, by simp, rfl⟩
  case round =>
    obtain ⟨k, hk, rfl, rfl, rfl⟩ := hrel
    have htb : op / 2 ^ k ≤ 15 := Nat.le_trans (Nat.div_le_self _ _) hop
    have HS := Lib.hid (show op / 2 ^ (k + 1) = op / 2 ^ k / 2 by rw [Nat.pow_succ, Nat.div_div_eq_div_mul])
    by_cases hkr : k < 0
    · exact absurd hkr (Nat.not_lt_zero _)
    · obtain rfl : k = 0 := by omega
      generalize op / 2 ^ 0 = q at *
      go_wp2
      go_ret
      refine ⟨congrArg (fun b => Ending.returned (.bool b)) ?_, rfl⟩
      rw [← HBT.out, Bool.eq_iff_iff, decide_eq_true_iff]
      simp
      omega

set_option maxHeartbeats 1000000 in
set_option maxRecDepth 100000 in
theorem chosen_1 (op : Nat) (w : World) (hop : op ≤ 15) : Calls Try.prog 101 #[.int .i64 (op : Int), .bool false, .bool true] w fun e w' => e = .returned (.bool (opB op false true)) ∧ w = w' := by
  have HBT := Lib.hid (opB_at op 1 false true rfl).symm
  go_enter Try.func101, Try.ntmps101
  go_wp2
  go_loopw [0, 8] (fun o i wr => ∃ k : Nat, k ≤ 1 ∧ i = .int .i64 k ∧ o = .int .i64 ((op / 2 ^ k : Nat) : Int) ∧ w = wr) (fun _ i _ => 1 - (intOf i).toNat)
  case atStart => exact ⟨0, Nat.zero_le _, rfl, by simp, rfl⟩
  case round =>
    obtain ⟨k, hk, rfl, rfl, rfl⟩ := hrel
    have htb : op / 2 ^ k ≤ 15 := Nat.le_trans (Nat.div_le_self _ _) hop
    have HS := Lib.hid (show op / 2 ^ (k + 1) = op / 2 ^ k / 2 by rw [Nat.pow_succ, Nat.div_div_eq_div_mul])
    by_cases hkr : k < 1
    · generalize op / 2 ^ k = q at *
      go_wp2
      go_roundw
      case rel => exact ⟨k + 1, hkr, by go_num, by rw [HS.out]; exact congrArg (Value.int .i64) (by omega), (by first | trivial | rfl)⟩
      case measure => simp [intOf] <;> omega
    · obtain rfl : k = 1 := by omega
      generalize op / 2 ^ 1 = q at *
      go_wp2
      go_ret
      refine ⟨congrArg (fun b => Ending.returned (.bool b)) ?_, rfl⟩
      rw [← HBT.out, Bool.eq_iff_iff, decide_eq_true_iff]
      simp
      omega

set_option maxHeartbeats 1000000 in
set_option maxRecDepth 100000 in
theorem chosen_2 (op : Nat) (w : World) (hop : op ≤ 15) : Calls Try.prog 101 #[.int .i64 (op : Int), .bool true, .bool false] w fun e w' => e = .returned (.bool (opB op true false)) ∧ w = w' := by
  have HBT := Lib.hid (opB_at op 2 true false rfl).symm
  go_enter Try.func101, Try.ntmps101
  go_wp2
  go_loopw [0, 8] (fun o i wr => ∃ k : Nat, k ≤ 2 ∧ i = .int .i64 k ∧ o = .int .i64 ((op / 2 ^ k : Nat) : Int) ∧ w = wr) (fun _ i _ => 2 - (intOf i).toNat)
  case atStart => exact ⟨0, Nat.zero_le _, rfl, by simp, rfl⟩
  case round =>
    obtain ⟨k, hk, rfl, rfl, rfl⟩ := hrel
    have htb : op / 2 ^ k ≤ 15 := Nat.le_trans (Nat.div_le_self _ _) hop
    have HS := Lib.hid (show op / 2 ^ (k + 1) = op / 2 ^ k / 2 by rw [Nat.pow_succ, Nat.div_div_eq_div_mul])
    by_cases hkr : k < 2
    · generalize op / 2 ^ k = q at *
      go_wp2
      go_roundw
      case rel => exact ⟨k + 1, hkr, by go_num, by rw [HS.out]; exact congrArg (Value.int .i64) (by omega), (by first | trivial | rfl)⟩
      case measure => simp [intOf] <;> omega
    · obtain rfl : k = 2 := by omega
      generalize op / 2 ^ 2 = q at *
      go_wp2
      go_ret
      refine ⟨congrArg (fun b => Ending.returned (.bool b)) ?_, rfl⟩
      rw [← HBT.out, Bool.eq_iff_iff, decide_eq_true_iff]
      simp
      omega

set_option maxHeartbeats 1000000 in
set_option maxRecDepth 100000 in
theorem chosen_3 (op : Nat) (w : World) (hop : op ≤ 15) : Calls Try.prog 101 #[.int .i64 (op : Int), .bool true, .bool true] w fun e w' => e = .returned (.bool (opB op true true)) ∧ w = w' := by
  have HBT := Lib.hid (opB_at op 3 true true rfl).symm
  go_enter Try.func101, Try.ntmps101
  go_wp2
  go_loopw [0, 8] (fun o i wr => ∃ k : Nat, k ≤ 3 ∧ i = .int .i64 k ∧ o = .int .i64 ((op / 2 ^ k : Nat) : Int) ∧ w = wr) (fun _ i _ => 3 - (intOf i).toNat)
  case atStart => exact ⟨0, Nat.zero_le _, rfl, by simp, rfl⟩
  case round =>
    obtain ⟨k, hk, rfl, rfl, rfl⟩ := hrel
    have htb : op / 2 ^ k ≤ 15 := Nat.le_trans (Nat.div_le_self _ _) hop
    have HS := Lib.hid (show op / 2 ^ (k + 1) = op / 2 ^ k / 2 by rw [Nat.pow_succ, Nat.div_div_eq_div_mul])
    by_cases hkr : k < 3
    · generalize op / 2 ^ k = q at *
      go_wp2
      go_roundw
      case rel => exact ⟨k + 1, hkr, by go_num, by rw [HS.out]; exact congrArg (Value.int .i64) (by omega), (by first | trivial | rfl)⟩
      case measure => simp [intOf] <;> omega
    · obtain rfl : k = 3 := by omega
      generalize op / 2 ^ 3 = q at *
      go_wp2
      go_ret
      refine ⟨congrArg (fun b => Ending.returned (.bool b)) ?_, rfl⟩
      rw [← HBT.out, Bool.eq_iff_iff, decide_eq_true_iff]
      simp
      omega

theorem chosen_any (op : Nat) (a b : Bool) (w : World) (hop : op ≤ 15) : Calls Try.prog 101 #[.int .i64 (op : Int), .bool a, .bool b] w fun e w' => e = .returned (.bool (opB op a b)) ∧ w = w' := by
  cases a <;> cases b
  · exact chosen_0 op w hop
  · exact chosen_1 op w hop
  · exact chosen_2 op w hop
  · exact chosen_3 op w hop

/-- A digit to 65536 of V, as far as its bits from j on are there. -/
def dig (V j K : Nat) : Nat := if 16 * K + 16 ≤ j then 0 else if j ≤ 16 * K then V / 2 ^ (16 * K) % 65536 else V / 2 ^ j % 2 ^ (16 * K + 16 - j)
theorem dig_mid (V j K : Nat) (h1 : 16 * K ≤ j) (h2 : j ≤ 16 * K + 16) : dig V j K = V / 2 ^ j % 2 ^ (16 * K + 16 - j) := by
  unfold dig
  by_cases h : 16 * K + 16 ≤ j
  · rw [if_pos h, show 16 * K + 16 - j = 0 by omega, Nat.pow_zero, Nat.mod_one]
  · rw [if_neg h]
    by_cases h3 : j ≤ 16 * K
    · obtain rfl : j = 16 * K := by omega
      rw [if_pos h3, show 16 * K + 16 - 16 * K = 16 by omega]
    · rw [if_neg h3]
theorem mod_half (x e : Nat) : x % 2 ^ (e + 1) = 2 * (x / 2 % 2 ^ e) + x % 2 := by
  rw [Nat.pow_succ, Nat.mul_comm, Nat.mod_mul, Nat.add_comm]
theorem dig_step (V j K : Nat) (hK : K = j / 16) : dig V j K = dig V (j + 1) K * 2 + if V.testBit j then 1 else 0 := by
  rw [dig_mid V j K (by omega) (by omega), dig_mid V (j + 1) K (by omega) (by omega), show 16 * K + 16 - j = (16 * K + 16 - (j + 1)) + 1 by omega, mod_half, Nat.div_div_eq_div_mul, show 2 ^ j * 2 = 2 ^ (j + 1) from (Nat.pow_succ 2 j).symm, Nat.testBit_eq_decide_div_mod_eq]
  have h2 : V / 2 ^ j % 2 < 2 := Nat.mod_lt _ (by decide)
  by_cases h : V / 2 ^ j % 2 = 1
  · rw [decide_eq_true h, if_pos rfl, h]
    omega
  · rw [decide_eq_false h, if_neg (by decide)]
    omega
theorem dig_other (V j K : Nat) (hK : K ≠ j / 16) : dig V j K = dig V (j + 1) K := by
  unfold dig
  by_cases h : 16 * K + 16 ≤ j
  · rw [if_pos h, if_pos (by omega)]
  · rw [if_neg h, if_pos (show j ≤ 16 * K by omega), if_neg (show ¬ 16 * K + 16 ≤ j + 1 by omega), if_pos (show j + 1 ≤ 16 * K by omega)]
theorem dig_half (V j K : Nat) (hK : K = j / 16) : dig V (j + 1) K < 32768 := by
  rw [dig_mid V (j + 1) K (by omega) (by omega)]
  exact Nat.lt_of_lt_of_le (Nat.mod_lt _ (Nat.two_pow_pos _)) (show 2 ^ (16 * K + 16 - (j + 1)) ≤ 2 ^ 15 from Nat.pow_le_pow_right (by decide) (by omega))
theorem dig_lt (V j K : Nat) : dig V j K < 65536 := by
  unfold dig
  split
  · decide
  · split
    · exact Nat.mod_lt _ (by decide)
    · exact Nat.lt_of_lt_of_le (Nat.mod_lt _ (Nat.two_pow_pos _)) (show _ ≤ 2 ^ 16 from Nat.pow_le_pow_right (by decide) (by omega))
def rowD (V j M : Nat) : List Nat := (List.range M).map (dig V j)
theorem rowD_length (V j M : Nat) : (rowD V j M).length = M := by simp [rowD]
theorem rowD_get (V j M K : Nat) (h : K < M) : (rowD V j M)[K]?.getD 0 = dig V j K := by
  unfold rowD
  rw [List.getElem?_map, List.getElem?_range h]
  rfl
theorem rowD_lt (V j M : Nat) : ∀ x ∈ rowD V j M, x < 65536 := by
  intro x hx
  simp only [rowD, List.mem_map] at hx
  obtain ⟨K, _, rfl⟩ := hx
  exact dig_lt V j K
theorem rowD_set (V j M K x : Nat) (hK : K = j / 16) (hx : x = dig V j K) : (rowD V (j + 1) M).set K x = rowD V j M := by
  apply List.ext_getElem
  · simp [rowD]
  · intro i h1 h2
    rw [List.getElem_set]
    by_cases h : K = i
    · rw [if_pos h, hx, h]
      simp [rowD]
    · rw [if_neg h]
      simp only [rowD, List.getElem_map, List.getElem_range]
      exact (dig_other V j i (by omega)).symm
theorem rowD_start (V n M : Nat) (h : V < 2 ^ n) : rowD V n M = List.replicate M 0 := by
  apply List.ext_getElem
  · simp [rowD]
  · intro i h1 h2
    simp only [rowD, List.getElem_map, List.getElem_range, List.getElem_replicate]
    unfold dig
    split
    · rfl
    · split
      · rw [Nat.div_eq_of_lt (Nat.lt_of_lt_of_le h (Nat.pow_le_pow_right (by decide) (by assumption))), Nat.zero_mod]
      · rw [Nat.div_eq_of_lt h, Nat.zero_mod]
theorem vl_range (b V M : Nat) : vl b ((List.range M).map fun K => V / b ^ K % b) = V % b ^ M := by
  induction M with
  | zero => simp [vl, Nat.mod_one]
  | succ M ih =>
    rw [List.range_succ, List.map_append, List.map_singleton, vl_snoc, ih, List.length_map, List.length_range, Nat.pow_succ, Nat.mod_mul]
theorem rowD_val (V n M : Nat) (h : V < 2 ^ n) (hM : n / 16 + 1 = M) : vl 65536 (rowD V 0 M) = V := by
  have e : rowD V 0 M = (List.range M).map fun K => V / 65536 ^ K % 65536 := by
    unfold rowD
    refine List.map_congr_left fun K _ => ?_
    unfold dig
    rw [if_neg (by omega), if_pos (Nat.zero_le _), pow16]
  rw [e, vl_range, Nat.mod_eq_of_lt]
  rw [pow16]
  exact Nat.lt_of_lt_of_le h (Nat.pow_le_pow_right (by decide) (by omega))

/-- The bits that differ from the sign. -/
def xb (l : List Bool) (s : Bool) : List Bool := l.map (· != s)
theorem xb_length (l : List Bool) (s : Bool) : (xb l s).length = l.length := by simp [xb]
theorem xb_bit (l : List Bool) (s : Bool) (j : Nat) (h : j < l.length) : (valB (xb l s)).testBit j = (l[j]?.getD false != s) := by
  rw [valB_bit]
  unfold xb
  rw [List.getElem?_map, List.getElem?_eq_getElem h]
  rfl
theorem ofB_xb (l : List Bool) (s : Bool) : ofB l s = if s then -1 - (valB (xb l s) : Int) else (valB (xb l s) : Int) := by
  unfold ofB xb
  cases s with
  | false =>
    rw [if_neg (by decide), if_neg (by decide)]
    congr 2
    induction l with
    | nil => rfl
    | cons b l ih => rw [List.map_cons, ← ih]; cases b <;> rfl
  | true =>
    rw [if_pos rfl, if_pos rfl]
    congr 3
    refine List.map_congr_left fun b _ => ?_
    cases b <;> rfl

def OfRel (V n M : Nat) (W : World) (base : Nat) (i : Value) (wr : World) : Prop :=
  ∃ (j : Nat) (q : Int), j ≤ n ∧ i = .int .i64 q ∧ q = (j : Int) - 1 ∧ Ri wr base base M (rowD V j M) ∧ Below base W wr

set_option maxHeartbeats 2000000 in
set_option maxRecDepth 100000 in
theorem rOf_pos (l : List Bool) (v : Value) (w : World) (hn : l.length ≤ 1000000) (h : RdB w v l) :
    Calls Try.prog 102 #[v, .bool false] w (RefPost w (ofB l false)) := by
  obtain ⟨ad, cap, rfl, hcm, hlc, hx⟩ := h
  rw [ofB_xb, if_neg (by decide)]
  have HBIT := Lib.hid (fun j hj => xb_bit l false j hj)
  have hVlt := valB_lt (xb l false)
  rw [xb_length] at hVlt
  have HVL := Lib.hid hVlt
  generalize valB (xb l false) = V at *
  obtain ⟨n, hnl⟩ : ∃ n, n = l.length := ⟨_, rfl⟩
  rw [← hnl] at hn hlc hx HBIT HVL ⊢
  obtain ⟨K, hK⟩ : ∃ K, K = n / 16 := ⟨_, rfl⟩
  have hq : (n : Int) / 16 = (K : Int) := by omega
  have hKb : K ≤ 100000 := by omega
  have HST := Lib.hid (rowD_start V n (K + 1) HVL.out)
  have HVV := Lib.hid (rowD_val V n (K + 1) HVL.out (by omega))
  have HX : Hid (∀ j, j < n → ∃ b off, ad = some ⟨b, off, none⟩ ∧ b < w.heap.size ∧ w.cell? ⟨b, off + j, none⟩ = some (.bool (l[j]?.getD false))) := Lib.hid hx
  have HNL := Lib.hid (And.intro hnl hK)
  clear hVlt hx hcm hlc hnl hK
  obtain ⟨i0, hi, hz0, hz1, hz2⟩ := info_parts Try.infoI64
  go_enter Try.func102, Try.ntmps102
  have HB0 := Lib.hid ((Below.refl w.heap.size w).alloc (Nat.le_refl _) (.cells #[.bool false, .slice none 0 0] 31))
  go_wp2_with (at_make; refine wpList_make_full _ rfl _ _ 29 rfl (w.heap.size + 1) 3 i0 (.int .i64 0) 1 Try.underlying29 hi hz0 hz1 _ _ _ _ (K + 1) rfl rfl (by omega) (by omega) ?b2 ?b3 (by simp) ?_)
  case b2 => rw [hz2]; omega
  case b3 => unfold maxLen; omega
  intro w0 hown0 hgrow0
  have hrow0 : Ri w0 (w.heap.size + 1) (w.heap.size + 1) (K + 1) (List.replicate (K + 1) 0) := by
    refine ⟨by simp, ?_⟩
    rw [iw_zeros] at hown0
    simpa using hown0
  have hb0 : Below (w.heap.size + 1) (w.alloc (.cells #[.bool false, .slice none 0 0] 31)) w0 := (Below.refl (w.heap.size + 1) _).grown hgrow0 (by simp) (fun k h => by cases h)
  rw [← HST.out] at hrow0
  have HB1 := Lib.hid hb0
  have HR0 := Lib.hid hrow0
  clear hown0 hgrow0 hrow0 hb0
  go_wp2
  go_loopw [6] (OfRel V n (K + 1) (w.alloc (.cells #[.bool false, .slice none 0 0] 31)) (w.heap.size + 1)) (fun i _ => (intOf i + 1).toNat)
  case atStart => exact ⟨n, _, Nat.le_refl _, rfl, rfl, HR0.out, HB1.out⟩
  case round =>
    obtain ⟨j, q, hj, rfl, hqj, hrow, hnx⟩ := hrel
    by_cases hj0 : j = 0
    · subst hj0
      obtain rfl : q = -1 := by omega
      have HM := Lib.hid (rmade_any false _ _ wr hrow.oi.rd (rowD_lt V 0 (K + 1)))
      rw [HVV.out, show sg false V = (V : Int) from rfl] at HM
      have HNX := Lib.hid hnx
      clear hrow hnx hqj
      go_wp2_with fail
      (with_reducible refine HM.out.mono ?_)
      rintro e w1 ⟨v1, rfl, ⟨ad1, n1, c1, rfl, hr1⟩, hb1⟩
      have hbx : Below (w.alloc (.cells #[.bool false, .slice none 0 0] 31)).heap.size (w.alloc (.cells #[.bool false, .slice none 0 0] 31)) w1 := by
        rw [World.size_alloc]
        exact HNX.out.trans (hb1.mono (by have := HNX.out.size; simp at this; omega))
      obtain ⟨cE, cF, fE, fF, hsz⟩ := box2 hbx
      have HI1 : Hid (RefV w1 (.agg #[.bool (decide ((V : Int) < 0)), .slice ad1 n1 c1]) (V : Int)) := Lib.hid ⟨_, _, _, rfl, hr1⟩
      have HBW := Lib.hid (HB0.out.trans (hbx.mono HB0.out.size))
      have hv0 : decide ((V : Int) < 0) = false := decide_eq_false (by omega)
      rw [hv0] at HI1
      clear hr1 hb1 hbx
      have hX : RX w.heap.size (.bool false) (.slice none 0 0) 0 w1 := ⟨cE, cF, fE, fF, RefV.zero0 _⟩
      have HX2 := Lib.hid ((hX.mine HI1.out).keep ((Below.refl _ _).alloc (Nat.le_refl _) (.cells #[.bool false, .slice ad1 n1 c1] 31)))
      clear hX
      go_wp2_with fail
      refine bodyPost_ret (v := .agg #[.bool false, .slice ad1 n1 c1]) (by simp [results, Try.results102, go_sem, HX2.out.c0, HX2.out.c1]) rfl ⟨_, rfl, HX2.out.rv, ?_⟩
      exact ((HBW.out.setCell (Nat.le_refl _) _).setCell (Nat.le_refl _) _).alloc (by have := HBW.out.size; simpa using this) _
    · obtain ⟨i, rfl⟩ : ∃ i, j = i + 1 := ⟨j - 1, by omega⟩
      obtain rfl : q = (i : Int) := by omega
      clear hqj hj0
      obtain ⟨bb, ob, rfl, hbl, gx⟩ := HX.out i hj
      obtain ⟨K', hK'⟩ : ∃ K', K' = i / 16 := ⟨_, rfl⟩
      have hq2 : (i : Int) / 16 = (K' : Int) := by omega
      have hKK : K' < K + 1 := by have := HNL.out.2; omega
      have gz := hrow.cell K' hKK
      have gf := hrow.frozen K'
      rw [rowD_get V (i + 1) (K + 1) K' hKK] at gz
      have hdh := dig_half V i K' hK'
      have HDS := Lib.hid (dig_step V i K' hK')
      have HSET := Lib.hid fun x hx => rowD_set V i (K + 1) K' x hK' hx
      have HBI := HBIT.out i hj
      rw [HBI] at HDS
      clear HBI
      generalize dig V (i + 1) K' = d at *
      generalize l[i]?.getD false = bx at *
      have gx1 : wr.cell? ⟨bb, ob + i, none⟩ = some (.bool bx) := (hnx.cell (p := ⟨bb, ob + i, none⟩) (by show bb < _; omega)).trans ((HB0.out.cell (p := ⟨bb, ob + i, none⟩) hbl).trans gx)
      have gx2 : ∀ u, (wr.setCell ⟨w.heap.size + 1, K', none⟩ u).cell? ⟨bb, ob + i, none⟩ = some (.bool bx) := fun u => by
        rw [World.cell?_setCell_other _ _ _ _ (by simp <;> omega)]
        exact gx1
      have gz2 : ∀ u, (wr.setCell ⟨w.heap.size + 1, K', none⟩ u).cell? ⟨w.heap.size + 1, K', none⟩ = some u := fun u => World.cell?_setCell_same _ _ _ gz
      have HROW := Lib.hid hrow
      have HNX := Lib.hid hnx
      clear hrow hnx gx hK'
      cases bx
      · go_wp2
        go_roundw
        case rel =>
          refine ⟨i, (i : Int) - 1, by omega, by go_num, rfl, ?_, HNX.out.setCell (by simp) _⟩
          rw [← HSET.out (d * 2) (by rw [HDS.out]; rfl)]
          exact HROW.out.store _ _ _ (by first | rfl | omega)
        case measure => simp [intOf] <;> omega
      · go_wp2
        go_roundw
        case rel =>
          refine ⟨i, (i : Int) - 1, by omega, by go_num, rfl, ?_, (HNX.out.setCell (by simp) _).setCell (by simp) _⟩
          rw [← HSET.out (d * 2 + 1) (by rw [HDS.out]; rfl), ← List.set_set (a := d * 2)]
          exact (HROW.out.store _ _ _ (by first | rfl | omega)).store _ _ _ (by first | rfl | omega)
        case measure => simp [intOf] <;> omega

set_option maxHeartbeats 2000000 in
set_option maxRecDepth 100000 in
theorem rOf_neg (l : List Bool) (v : Value) (w : World) (hn : l.length ≤ 1000000) (h : RdB w v l) :
    Calls Try.prog 102 #[v, .bool true] w (RefPost w (ofB l true)) := by
  obtain ⟨ad, cap, rfl, hcm, hlc, hx⟩ := h
  rw [ofB_xb, if_pos rfl]
  have HBIT := Lib.hid (fun j hj => xb_bit l true j hj)
  have hVlt := valB_lt (xb l true)
  rw [xb_length] at hVlt
  have HVL := Lib.hid hVlt
  generalize valB (xb l true) = V at *
  obtain ⟨n, hnl⟩ : ∃ n, n = l.length := ⟨_, rfl⟩
  rw [← hnl] at hn hlc hx HBIT HVL ⊢
  obtain ⟨K, hK⟩ : ∃ K, K = n / 16 := ⟨_, rfl⟩
  have hq : (n : Int) / 16 = (K : Int) := by omega
  have hKb : K ≤ 100000 := by omega
  have HST := Lib.hid (rowD_start V n (K + 1) HVL.out)
  have HVV := Lib.hid (rowD_val V n (K + 1) HVL.out (by omega))
  have HX : Hid (∀ j, j < n → ∃ b off, ad = some ⟨b, off, none⟩ ∧ b < w.heap.size ∧ w.cell? ⟨b, off + j, none⟩ = some (.bool (l[j]?.getD false))) := Lib.hid hx
  have HNL := Lib.hid (And.intro hnl hK)
  have hrl : rlen (V : Int) ≤ 999999 := by
    unfold rlen
    rw [Int.natAbs_natCast]
    refine Nat.le_trans (digs_length_le (by decide) V (K + 1) ?_) (by omega)
    rw [pow16]
    exact Nat.lt_of_lt_of_le HVL.out (Nat.pow_le_pow_right (by decide) (by omega))
  have HN := Lib.hid fun W => Lib.hid (rnew_any (-1) W (by decide) (by decide))
  have HA := Lib.hid fun W u v hu hv => Lib.hid (rSub_any (-1) (V : Int) u v W (Nat.le_trans (rlen_small (-1) (by decide)) (by decide)) (Nat.le_trans hrl (by decide)) hu hv)
  clear hVlt hx hcm hlc hnl hK hrl
  obtain ⟨i0, hi, hz0, hz1, hz2⟩ := info_parts Try.infoI64
  go_enter Try.func102, Try.ntmps102
  have HB0 := Lib.hid ((Below.refl w.heap.size w).alloc (Nat.le_refl _) (.cells #[.bool false, .slice none 0 0] 31))
  go_wp2_with (at_make; refine wpList_make_full _ rfl _ _ 29 rfl (w.heap.size + 1) 3 i0 (.int .i64 0) 1 Try.underlying29 hi hz0 hz1 _ _ _ _ (K + 1) rfl rfl (by omega) (by omega) ?b2 ?b3 (by simp) ?_)
  case b2 => rw [hz2]; omega
  case b3 => unfold maxLen; omega
  intro w0 hown0 hgrow0
  have hrow0 : Ri w0 (w.heap.size + 1) (w.heap.size + 1) (K + 1) (List.replicate (K + 1) 0) := by
    refine ⟨by simp, ?_⟩
    rw [iw_zeros] at hown0
    simpa using hown0
  have hb0 : Below (w.heap.size + 1) (w.alloc (.cells #[.bool false, .slice none 0 0] 31)) w0 := (Below.refl (w.heap.size + 1) _).grown hgrow0 (by simp) (fun k h => by cases h)
  rw [← HST.out] at hrow0
  have HB1 := Lib.hid hb0
  have HR0 := Lib.hid hrow0
  clear hown0 hgrow0 hrow0 hb0
  go_wp2
  go_loopw [6] (OfRel V n (K + 1) (w.alloc (.cells #[.bool false, .slice none 0 0] 31)) (w.heap.size + 1)) (fun i _ => (intOf i + 1).toNat)
  case atStart => exact ⟨n, _, Nat.le_refl _, rfl, rfl, HR0.out, HB1.out⟩
  case round =>
    obtain ⟨j, q, hj, rfl, hqj, hrow, hnx⟩ := hrel
    by_cases hj0 : j = 0
    · subst hj0
      obtain rfl : q = -1 := by omega
      have HM := Lib.hid (rmade_any false _ _ wr hrow.oi.rd (rowD_lt V 0 (K + 1)))
      rw [HVV.out, show sg false V = (V : Int) from rfl] at HM
      have HNX := Lib.hid hnx
      clear hrow hnx hqj
      go_wp2_with fail
      (with_reducible refine HM.out.mono ?_)
      rintro e w1 ⟨v1, rfl, ⟨ad1, n1, c1, rfl, hr1⟩, hb1⟩
      have hbx : Below (w.alloc (.cells #[.bool false, .slice none 0 0] 31)).heap.size (w.alloc (.cells #[.bool false, .slice none 0 0] 31)) w1 := by
        rw [World.size_alloc]
        exact HNX.out.trans (hb1.mono (by have := HNX.out.size; simp at this; omega))
      obtain ⟨cE, cF, fE, fF, hsz⟩ := box2 hbx
      have HI1 : Hid (RefV w1 (.agg #[.bool (decide ((V : Int) < 0)), .slice ad1 n1 c1]) (V : Int)) := Lib.hid ⟨_, _, _, rfl, hr1⟩
      have HBW := Lib.hid (HB0.out.trans (hbx.mono HB0.out.size))
      have hv0 : decide ((V : Int) < 0) = false := decide_eq_false (by omega)
      rw [hv0] at HI1
      clear hr1 hb1 hbx
      have hX : RX w.heap.size (.bool false) (.slice none 0 0) 0 w1 := ⟨cE, cF, fE, fF, RefV.zero0 _⟩
      have HX := Lib.hid hX
      have HY := Lib.hid (RX.made (t := 31) HI1.out)
      have hY := HY.out
      obtain ⟨cy0, cy1⟩ := hY.cells
      have hsl : w.heap.size < w1.heap.size := hsz
      clear hX hY cE cF fE fF
      go_wp2_with fail
      go_region_held3 (fun w' => w'.cell? ⟨w1.heap.size, 0, none⟩ = some (.bool false) ∧ w'.cell? ⟨w1.heap.size, 1, none⟩ = some (.slice ad1 n1 c1))
        (first | exact ⟨(cell_store2 (by omega)).trans hs2.1, (cell_store2 (by omega)).trans hs2.2⟩ | exact hs2 | exact hs1 | go_keep)
        (go_loud (first
          | (go_at_call 18; (with_reducible refine (HN.out _).out.mono ?_); rintro e w2 ⟨v2, rfl, hi2, hb2'⟩; have hb2 := below_dr hb2'; have hs1 := (HY.out.keep hb2).cells)
          | (go_at_call 41; (with_reducible refine (HA.out _ _ _ hi2 (HY.out.keep hb2).rv).out.mono ?_); rintro e w3 ⟨v3, rfl, ⟨ad3, n3, c3, rfl, hr3⟩, hb3'⟩; have hb3 := hb2.trans (hb3'.mono hb2.size); have hs2 := (HY.out.keep hb3).cells; have hb4 := ((Below.refl w1.heap.size w1).alloc (Nat.le_refl _) (.cells #[.bool false, .slice ad1 n1 c1] 31)).trans (hb3.mono (by simp)); have hX4 := HX.out.keep hb4; have kc0 := hX4.c0; have kc1 := hX4.c1; have kf0 := hX4.f0; have kf1 := hX4.f1)))
      have HI3 : RefV w3 (.agg #[.bool (decide (-1 - (V : Int) < 0)), .slice ad3 n3 c3]) (-1 - (V : Int)) := ⟨_, _, _, rfl, hr3⟩
      have HX5 := Lib.hid (hX4.mine HI3)
      have HB5 := Lib.hid (HBW.out.trans (hb4.mono HBW.out.size))
      have hc5 := HX5.out.cells
      clear hb2 hb2' hb3 hb3' hb4 hr3 HI3 hs1 hs2 hi2
      go_wp2
      refine bodyPost_ret (v := .agg #[.bool (decide (-1 - (V : Int) < 0)), .slice ad3 n3 c3]) (by simp [results, Try.results102, go_sem, hc5.1, hc5.2]) rfl ⟨_, rfl, HX5.out.rv, ?_⟩
      exact (HB5.out.setCell (Nat.le_refl _) _).setCell (Nat.le_refl _) _
    · obtain ⟨i, rfl⟩ : ∃ i, j = i + 1 := ⟨j - 1, by omega⟩
      obtain rfl : q = (i : Int) := by omega
      clear hqj hj0
      obtain ⟨bb, ob, rfl, hbl, gx⟩ := HX.out i hj
      obtain ⟨K', hK'⟩ : ∃ K', K' = i / 16 := ⟨_, rfl⟩
      have hq2 : (i : Int) / 16 = (K' : Int) := by omega
      have hKK : K' < K + 1 := by have := HNL.out.2; omega
      have gz := hrow.cell K' hKK
      have gf := hrow.frozen K'
      rw [rowD_get V (i + 1) (K + 1) K' hKK] at gz
      have hdh := dig_half V i K' hK'
      have HDS := Lib.hid (dig_step V i K' hK')
      have HSET := Lib.hid fun x hx => rowD_set V i (K + 1) K' x hK' hx
      have HBI := HBIT.out i hj
      rw [HBI] at HDS
      clear HBI
      generalize dig V (i + 1) K' = d at *
      generalize l[i]?.getD false = bx at *
      have gx1 : wr.cell? ⟨bb, ob + i, none⟩ = some (.bool bx) := (hnx.cell (p := ⟨bb, ob + i, none⟩) (by show bb < _; omega)).trans ((HB0.out.cell (p := ⟨bb, ob + i, none⟩) hbl).trans gx)
      have gx2 : ∀ u, (wr.setCell ⟨w.heap.size + 1, K', none⟩ u).cell? ⟨bb, ob + i, none⟩ = some (.bool bx) := fun u => by
        rw [World.cell?_setCell_other _ _ _ _ (by simp <;> omega)]
        exact gx1
      have gz2 : ∀ u, (wr.setCell ⟨w.heap.size + 1, K', none⟩ u).cell? ⟨w.heap.size + 1, K', none⟩ = some u := fun u => World.cell?_setCell_same _ _ _ gz
      have HROW := Lib.hid hrow
      have HNX := Lib.hid hnx
      clear hrow hnx gx hK'
      cases bx
      · go_wp2
        go_roundw
        case rel =>
          refine ⟨i, (i : Int) - 1, by omega, by go_num, rfl, ?_, (HNX.out.setCell (by simp) _).setCell (by simp) _⟩
          rw [← HSET.out (d * 2 + 1) (by rw [HDS.out]; rfl), ← List.set_set (a := d * 2)]
          exact (HROW.out.store _ _ _ (by first | rfl | omega)).store _ _ _ (by first | rfl | omega)
        case measure => simp [intOf] <;> omega
      · go_wp2
        go_roundw
        case rel =>
          refine ⟨i, (i : Int) - 1, by omega, by go_num, rfl, ?_, HNX.out.setCell (by simp) _⟩
          rw [← HSET.out (d * 2) (by rw [HDS.out]; rfl)]
          exact HROW.out.store _ _ _ (by first | rfl | omega)
        case measure => simp [intOf] <;> omega

theorem rOf_any (l : List Bool) (s : Bool) (v : Value) (w : World) (hn : l.length ≤ 1000000) (h : RdB w v l) :
    Calls Try.prog 102 #[v, .bool s] w (RefPost w (ofB l s)) := by
  cases s with
  | false => exact rOf_pos l v w hn h
  | true => exact rOf_neg l v w hn h

end Go.Proofs.Ytgepnkdnenjogaa
