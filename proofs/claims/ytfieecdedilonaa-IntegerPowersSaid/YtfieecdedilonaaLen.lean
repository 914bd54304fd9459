/-  bits.Len32, bits.LeadingZeros32; bitLength, of limbs.  -/
import Derived.Test.YtfieecdedilonaaCompl
import Derived.Test.YtfieecdedilonaaBl
import Derived.Lib.BitFns
import Derived.Lib.Walk
import Derived.Laws.BitsAllLaws
import Derived.IntWalk
import Derived.OwnWalk
namespace Go.Proofs.Ytfieecdedilonaa
open Go.RowKit Digs

theorem bitLen_bl (x : Nat) (h : x < 2 ^ 64) : Lib.bitLen x = bl x := by
  induction x using Nat.strongRecOn with
  | ind x ih =>
    by_cases h0 : x = 0
    · subst h0; decide
    · rw [Lib.bitLen_half x h0 h, bl_half x h0, ih (x / 2) (by omega) (by omega)]

theorem top_limb (m : Nat) (h0 : m ≠ 0) : ∃ k t, (digs 4294967296 m).length = k + 1 ∧ (digs 4294967296 m)[k]?.getD 0 = t ∧ t ≠ 0 ∧ t < 4294967296 ∧ bl m = 32 * k + bl t := by
  have hl : (digs 4294967296 m).length ≠ 0 := by rw [Ne, digs_length_zero (by decide)]; exact h0
  obtain ⟨k, hk⟩ : ∃ k, (digs 4294967296 m).length = k + 1 := ⟨(digs 4294967296 m).length - 1, by omega⟩
  obtain ⟨t, ht, ht0⟩ := digs_getLast (b := 4294967296) (by decide) m h0
  rw [List.getLast?_eq_getElem?, hk, Nat.add_sub_cancel] at ht
  have hlt := digs_lt (b := 4294967296) (by decide) m
  refine ⟨k, t, hk, by rw [ht]; rfl, ht0, hlt t (List.mem_of_getElem? ht), ?_⟩
  have h1 := vl_take_succ 4294967296 (digs 4294967296 m) k (by omega)
  rw [List.take_of_length_le (by omega), vl_digs (by decide), ht] at h1
  simp only [Option.getD_some] at h1
  have h2 := vl_lt ((digs 4294967296 m).take k) (fun x hx => hlt x (List.mem_of_mem_take hx))
  rw [List.length_take, Nat.min_eq_left (by omega)] at h2
  have h3 := bl_top k _ t h2 ht0
  rw [← h1] at h3
  exact h3

theorem wrap_sum (k : Int) (b c : Nat) (hb : b ≤ 8) (h0 : 0 ≤ k) (hk : k ≤ 24) (h : (c : Int) = k + b) : wrap64 (k + wrap64 (b : Int)) = c := by unfold wrap64; omega
theorem wrap_one (b : Nat) (hb : b ≤ 8) : wrap64 (wrap64 (b : Int)) = b := by unfold wrap64; omega
theorem sum3 (b : Nat) : ((16 + (8 + b) : Nat) : Int) = 24 + b := by omega
theorem len8_elem (i : Int) (h0 : 0 ≤ i) (h : i.toNat < Lib.len8tab.size) : ((Lib.len8tab[i.toNat]'h).toNat : Int) = (Lib.bitLen i.toNat : Int) := by
  have h1 : i.toNat < 256 := by rw [Lib.len8tab_size] at h; exact h
  rw [← Lib.len8_of i h0 (by omega)]
  unfold Lib.len8
  rw [getElem?_pos Lib.len8tab i.toNat h]
  rfl

set_option maxHeartbeats 400000 in
set_option maxRecDepth 100000 in
theorem len32_any (x : Nat) (w : World) (h : x < 4294967296) : Calls Try.prog 116 #[.int .u32 x] w fun e w' => e = .returned (.int .i64 ((bl x : Nat) : Int)) ∧ w = w' := by
  rw [← bitLen_bl x (by omega)]
  have h0 : (0 : Int) ≤ (x : Int) := by omega
  have h1 : (x : Int) ≤ 4294967295 := by omega
  obtain ⟨z, hz⟩ : ∃ z : Int, z = (x : Int) := ⟨_, rfl⟩
  have hx : x = z.toNat := by omega
  rw [← hz] at h0 h1 ⊢
  rw [hx]
  clear hz hx h
  have hs := Lib.len8tab_size
  go_enter Try.func116, Try.ntmps116
  go_wp2
  all_goals (go_ret; refine ⟨congrArg Ending.returned (congrArg (Value.int IntKind.i64) ?_), rfl⟩; rw [len8_elem _ (by omega)])
  · have e : (z / 65536 / 256).toNat = z.toNat / 65536 / 256 := by omega
    have s := Lib.bitLen_shift16 z.toNat (by omega) (by omega)
    have s2 := Lib.bitLen_shift8 (z.toNat / 65536) (by omega) (by omega)
    exact wrap_sum 24 _ _ (Lib.bitLen_le8' (z / 65536 / 256) (by omega) (by omega)) (by decide) (by decide) (by rw [e, s, s2]; exact sum3 _)
  · have e : (z / 65536).toNat = z.toNat / 65536 := by omega
    have s := Lib.bitLen_shift16 z.toNat (by omega) (by omega)
    exact wrap_sum 16 _ _ (Lib.bitLen_le8' (z / 65536) (by omega) (by omega)) (by decide) (by decide) (by rw [e, s]; exact Int.natCast_add _ _)
  · have e : (z / 256).toNat = z.toNat / 256 := by omega
    have s := Lib.bitLen_shift8 z.toNat (by omega) (by omega)
    exact wrap_sum 8 _ _ (Lib.bitLen_le8' (z / 256) (by omega) (by omega)) (by decide) (by decide) (by rw [e, s]; exact Int.natCast_add _ _)
  · exact wrap_one _ (Lib.bitLen_le8' z (by omega) (by omega))

set_option maxHeartbeats 400000 in
set_option maxRecDepth 100000 in
theorem bitLength_any (m : Nat) (v : Value) (w : World) (hm : (digs 4294967296 m).length ≤ 1000000) (h : Rd .u32 w v (digs 4294967296 m)) :
    Calls Try.prog 75 #[v] w fun e w' => e = .returned (.int .i64 ((bl m : Nat) : Int)) ∧ w = w' := by
  obtain ⟨ad, cap, rfl, hr⟩ := h.opt
  by_cases h0 : m = 0
  · subst h0
    rw [digs_zero]
    clear hr
    go_enter Try.func75, Try.ntmps75
    go_wp2
    go_ret
    exact ⟨rfl, rfl⟩
  · obtain ⟨k, t, hk, ht, ht0, htl, hb⟩ := top_limb m h0
    obtain ⟨b, off, rfl, hbl, gx⟩ := hr k (by omega)
    rw [ht] at gx
    rw [hk] at hm ⊢
    rw [hb]
    have hbt : bl t ≤ 32 := bl_le_iff.2 (by omega)
    have H := fun W => Lib.hid (len32_any t W htl)
    have H := Lib.hid H
    clear hk ht hb hr h0 h
    go_enter Try.func75, Try.ntmps75
    go_wp2_with (go_at_call 116; refine (H.out _).out.mono ?_; rintro e w' ⟨rfl, rfl⟩)
    go_ret
    exact ⟨ret_int (by omega), rfl⟩

/-- 'make([]T, m, n)', m and n VARIABLES, T of one cell: m zeros are owned, with room for n. -/
theorem wpList_make_part {P : Program} (w : World) {ops : Array Oper} {rest : List Oper} {o : Oper} {a : Act} {Q : Exit → Act → World → Prop}
    (hg : o.guard = none) (l c : Operand) (t : TypeId) (hop : o.op = Op.makeSlice t l c)
    (base : Nat) (e : TypeId) (i : TypeInfo) (z : Value) (h1 : P.underlying t = some (.slice e)) (h2 : P.info? e = some i) (h3 : i.zero = some z) (h4 : i.size = 1) (hz1 : z.cells = #[z])
    (kl kc : IntKind) (L C : Int) (m n : Nat) (hl : a.eval l = .int kl L) (hc : a.eval c = .int kc C) (hL : L = (m : Int)) (hC : C = (n : Int)) (hmn : m ≤ n) (b2 : i.bytes * n ≤ 281474976710656) (b3 : n ≤ maxLen) (b4 : base ≤ w.heap.size)
    (hK : ∀ w', w'.ownsRow base e 1 (.slice (some ⟨w.heap.size, 0, none⟩) m n) m (List.replicate m z) → w.grownBy w' none → wpList P ops Q rest (a.put o.dst (.slice (some ⟨w.heap.size, 0, none⟩) m n)) w') :
    wpList P ops Q (o :: rest) a w := by
  refine wpList_plain hg fun K hK' => ?_
  have h63' : (n : Int) ≤ 9223372036854775807 := by
    have h := b3
    simp [maxLen] at h
    omega
  have hb' : (i.bytes : Int) * (n : Int) ≤ 281474976710656 := by
    have h : ((i.bytes * n : Nat) : Int) ≤ 281474976710656 := by omega
    rwa [Int.natCast_mul] at h
  have hrun := run_make (P := P) w t e i z h1 h2 h3 kl kc m n (by omega) (by omega) hb' h63'
  simp only [Int.toNat_natCast, h4, Nat.mul_one, hz1] at hrun
  subst hL
  subst hC
  unfold Oper.wp
  simp [execOp, hop, hl, hc, hrun, Result.andThen]
  refine hK' _ _ (hK _ ⟨by simp, .inr ⟨w.heap.size, n, madeCells #[z] n, rfl, b4, heap_alloc_new w _, hmn, b3, by simp [madeCells], ?_⟩⟩ (World.grownBy_alloc w _ none))
  rw [toList_madeCells_one, Nat.mul_one, List.take_replicate, Nat.min_eq_left hmn]

end Go.Proofs.Ytfieecdedilonaa
