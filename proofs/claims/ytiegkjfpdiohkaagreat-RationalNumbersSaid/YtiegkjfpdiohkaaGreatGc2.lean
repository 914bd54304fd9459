/- Gcd: the first 64 bits. -/
import Derived.Test.YtiegkjfpdiohkaaGreatGc1
import Derived.Test.YtiegkjfpdiohkaaGreatBm
namespace Go.Proofs.YtiegkjfpdiohkaaGreat
section
open Go.RowKit Digs

/-- The limb at a place, 0 outside. -/
def limbAt (l : List Nat) (i : Int) : Nat := if i < 0 then 0 else l[i.toNat]?.getD 0

theorem limb_any (i : Int) (p : Nat) (ad : Option Addr) (cap : Nat) (l : List Nat) (w : World) (h1 : -9223372036854775808 ≤ i) (h2 : i ≤ 9223372036854775807) (hp : w.cell? ⟨p, 0, none⟩ = some (.slice ad l.length cap)) (hr : RdA .u32 w ad l) (hlt : ∀ x ∈ l, x < 4294967296) :
    Calls Tryz.prog 180 #[.int .i64 i, .pointer (some ⟨p, 0, none⟩)] w fun e w' => e = .returned (.int .u64 (limbAt l i : Nat)) ∧ w = w' := by
  unfold limbAt
  by_cases h0 : i < 0
  · rw [if_pos h0]
    clear hr hlt
    go_enter Tryz.func180, Tryz.ntmps180
    go_wp2
    go_ret
    exact ⟨rfl, rfl⟩
  · rw [if_neg h0]
    obtain ⟨k, rfl⟩ : ∃ k : Nat, i = k := ⟨i.toNat, by omega⟩
    rw [Int.toNat_natCast]
    by_cases hk : k < l.length
    · obtain ⟨b, off, rfl, _, hc⟩ := hr k hk
      obtain ⟨x, hx⟩ : ∃ x, x = l[k]?.getD 0 := ⟨_, rfl⟩
      have hxb : x < 4294967296 := by rw [hx, List.getElem?_eq_getElem hk]; exact hlt _ (List.getElem_mem hk)
      rw [← hx] at hc ⊢
      generalize l.length = n at *
      clear hr hlt h0 hx
      go_enter Tryz.func180, Tryz.ntmps180
      go_wp2
      go_ret
      exact ⟨rfl, rfl⟩
    · have e : l[k]?.getD 0 = 0 := by rw [List.getElem?_eq_none (by omega)]; rfl
      rw [e]
      have hk' : l.length ≤ k := by omega
      generalize l.length = n at *
      clear hr hlt h0 e hk
      go_enter Tryz.func180, Tryz.ntmps180
      go_wp2
      go_ret
      exact ⟨rfl, rfl⟩

theorem or_add (i a b : Nat) (hb : b < 2 ^ i) (h : 2 ^ i * a + b < 18446744073709551616) : bits BinOp.or IntKind.u64 ((2 ^ i * a : Nat) : Int) (b : Int) = ((2 ^ i * a + b : Nat) : Int) := by
  rw [bits_or_u64_nat _ _ (by omega) (by omega), Nat.two_pow_add_eq_or_of_lt hb]

theorem top_bits (l1 l2 l3 up : Nat) (hup : up < 32) (h1 : l1 < 2 ^ (32 - up)) (h2 : l2 < 4294967296) (h3 : l3 < 4294967296) :
    bits BinOp.or IntKind.u64 (bits BinOp.or IntKind.u64 (IntKind.u64.wrap ((l1 : Int) * 2 ^ (32 + up))) (IntKind.u64.wrap ((l2 : Int) * 2 ^ up))) ((l3 : Int) / 2 ^ (32 - up)) = ((2 ^ (32 + up) * l1 + 2 ^ up * l2 + l3 / 2 ^ (32 - up) : Nat) : Int) := by
  have p1 : (2 : Nat) ^ (32 - up) * 2 ^ (32 + up) = 18446744073709551616 := by rw [← Nat.pow_add, show 32 - up + (32 + up) = 64 by omega]
  have p2 : (2 : Nat) ^ (32 - up) * 2 ^ up = 4294967296 := by rw [← Nat.pow_add, show 32 - up + up = 32 by omega]
  have p3 : (2 : Nat) ^ (32 + up) = 4294967296 * 2 ^ up := by rw [Nat.pow_add]
  have e1 : ((l1 : Int) * 2 ^ (32 + up)) = ((2 ^ (32 + up) * l1 : Nat) : Int) := by rw [Int.natCast_mul, Int.natCast_pow, Int.mul_comm]; rfl
  have e2 : ((l2 : Int) * 2 ^ up) = ((2 ^ up * l2 : Nat) : Int) := by rw [Int.natCast_mul, Int.natCast_pow, Int.mul_comm]; rfl
  have e3 : ((l3 : Int) / 2 ^ (32 - up)) = ((l3 / 2 ^ (32 - up) : Nat) : Int) := by rw [Int.natCast_ediv, Int.natCast_pow]; rfl
  have g1 : (l1 + 1) * 2 ^ (32 + up) ≤ 18446744073709551616 := by rw [← p1]; exact Nat.mul_le_mul_right _ h1
  have g2 : 2 ^ up * l2 + 2 ^ up ≤ 2 ^ (32 + up) := by rw [p3, ← Nat.mul_succ, Nat.mul_comm 4294967296]; exact Nat.mul_le_mul_left _ h2
  have g3 : l3 / 2 ^ (32 - up) < 2 ^ up := by rw [Nat.div_lt_iff_lt_mul (Nat.pow_pos (by decide)), Nat.mul_comm, p2]; exact h3
  have g4 : (l1 + 1) * 2 ^ (32 + up) = 2 ^ (32 + up) * l1 + 2 ^ (32 + up) := by rw [Nat.add_mul, Nat.one_mul, Nat.mul_comm]
  have hpos : 0 < 2 ^ up := Nat.pow_pos (by decide)
  rw [e1, e2, e3]
  have w1 : IntKind.u64.wrap ((2 ^ (32 + up) * l1 : Nat) : Int) = ((2 ^ (32 + up) * l1 : Nat) : Int) := by rw [IntKind.wrap_u64]; omega
  have w2 : IntKind.u64.wrap ((2 ^ up * l2 : Nat) : Int) = ((2 ^ up * l2 : Nat) : Int) := by rw [IntKind.wrap_u64]; omega
  rw [w1, w2, or_add (32 + up) l1 (2 ^ up * l2) (by omega) (by omega)]
  have e4 : 2 ^ (32 + up) * l1 + 2 ^ up * l2 = 2 ^ up * (4294967296 * l1 + l2) := by rw [p3, Nat.mul_add, ← Nat.mul_assoc, Nat.mul_comm 4294967296]
  rw [e4, or_add up _ _ g3 (by rw [← e4]; omega)]

/-- The upper 64 bits of n limbs, behind the first up of them. -/
def topV (A n up : Nat) : Nat := A * 2 ^ up / 4294967296 ^ (n - 2)

theorem topV_eq (A n up : Nat) (hup : up < 32) (hn : 2 ≤ n) (hA : A < 4294967296 ^ n) :
    topV A n up = 2 ^ (32 + up) * limbAt (digs 4294967296 A) ((n : Int) - 1) + 2 ^ up * limbAt (digs 4294967296 A) ((n : Int) - 2) + limbAt (digs 4294967296 A) ((n : Int) - 3) / 2 ^ (32 - up) := by
  obtain ⟨m, rfl⟩ : ∃ m, n = m + 2 := ⟨n - 2, by omega⟩
  have hb : 0 < 4294967296 ^ m := Nat.pow_pos (by decide)
  have k1 : limbAt (digs 4294967296 A) (((m + 2 : Nat) : Int) - 1) = A / 4294967296 ^ m / 4294967296 := by
    unfold limbAt
    rw [if_neg (by omega), show (((m + 2 : Nat) : Int) - 1).toNat = m + 1 by omega, digs_get (by decide), Nat.pow_succ, ← Nat.div_div_eq_div_mul, Nat.mod_eq_of_lt]
    rw [Nat.div_lt_iff_lt_mul (by decide), Nat.div_lt_iff_lt_mul hb]
    rw [Nat.pow_succ, Nat.pow_succ] at hA
    rw [Nat.mul_comm, ← Nat.mul_assoc]; exact hA
  have k2 : limbAt (digs 4294967296 A) (((m + 2 : Nat) : Int) - 2) = A / 4294967296 ^ m % 4294967296 := by
    unfold limbAt
    rw [if_neg (by omega), show (((m + 2 : Nat) : Int) - 2).toNat = m by omega, digs_get (by decide)]
  have k3 : limbAt (digs 4294967296 A) (((m + 2 : Nat) : Int) - 3) / 2 ^ (32 - up) = A % 4294967296 ^ m * 2 ^ up / 4294967296 ^ m := by
    rcases Nat.eq_zero_or_pos m with rfl | hm
    · unfold limbAt
      rw [if_pos (by omega), Nat.pow_zero, Nat.mod_one, Nat.zero_mul, Nat.zero_div, Nat.zero_div]
    · obtain ⟨j, rfl⟩ : ∃ j, m = j + 1 := ⟨m - 1, by omega⟩
      unfold limbAt
      rw [if_neg (by omega), show (((j + 1 + 2 : Nat) : Int) - 3).toNat = j by omega, digs_get (by decide)]
      have p2 : (2 : Nat) ^ (32 - up) * 2 ^ up = 4294967296 := by rw [← Nat.pow_add, show 32 - up + up = 32 by omega]
      have e1 : (4294967296 : Nat) ^ (j + 1) = 4294967296 ^ j * 2 ^ (32 - up) * 2 ^ up := by rw [Nat.mul_assoc, p2, Nat.pow_succ]
      have e2 : A % 4294967296 ^ (j + 1) / 4294967296 ^ j = A / 4294967296 ^ j % 4294967296 := by rw [Nat.pow_succ, Nat.mod_mul_right_div_self]
      rw [← e2, Nat.div_div_eq_div_mul]
      generalize A % 4294967296 ^ (j + 1) = R
      rw [e1, Nat.mul_div_mul_right _ _ (Nat.pow_pos (by decide))]
  rw [k1, k2, k3]
  unfold topV
  rw [show m + 2 - 2 = m by omega]
  have hd := Nat.div_add_mod A (4294967296 ^ m)
  have hq := Nat.div_add_mod (A / 4294967296 ^ m) 4294967296
  generalize A / 4294967296 ^ m / 4294967296 = l1 at *
  generalize A / 4294967296 ^ m % 4294967296 = l2 at *
  have e5 : A * 2 ^ up = 4294967296 ^ m * (2 ^ up * (4294967296 * l1 + l2)) + A % 4294967296 ^ m * 2 ^ up := by
    rw [hq]
    generalize A / 4294967296 ^ m = Q at *
    generalize A % 4294967296 ^ m = R at *
    rw [← hd]
    grind
  rw [e5, Nat.mul_add_div hb, Nat.pow_add]
  grind

set_option maxHeartbeats 2000000 in
set_option maxRecDepth 100000 in
theorem first_any (up n A : Nat) (ad : Option Addr) (cap : Nat) (w : World) (hup : up < 32) (hn : 2 ≤ n) (hn2 : n ≤ 1000000) (hA : A < 4294967296 ^ n) (htop : limbAt (digs 4294967296 A) ((n : Int) - 1) < 2 ^ (32 - up)) (hr : RdA .u32 w ad (digs 4294967296 A)) :
    Calls Tryz.prog 169 #[.slice ad (digs 4294967296 A).length cap, .int .i64 n, .int .i64 up] w fun e w' => e = .returned (.int .u64 (topV A n up : Nat)) ∧ Below w.heap.size w w' := by
  have hlt := digs_lt (b := 4294967296) (by decide) A
  have hl : (digs 4294967296 A).length ≤ 1000000 := Nat.le_trans (digs_length_le (by decide) A n hA) hn2
  have hlim : ∀ i, limbAt (digs 4294967296 A) i < 4294967296 := fun i => by
    unfold limbAt
    split
    · decide
    · rw [digs_get (by decide)]; exact Nat.mod_lt _ (by decide)
  have HTB := Lib.hid (top_bits (limbAt (digs 4294967296 A) ((n : Int) - 1)) (limbAt (digs 4294967296 A) ((n : Int) - 2)) (limbAt (digs 4294967296 A) ((n : Int) - 3)) up hup htop (hlim _) (hlim _))
  rw [← topV_eq A n up hup hn hA] at HTB
  have HL := Lib.hid fun (i : Int) (W : World) (hW : Below (w.alloc (.cells #[.slice ad (digs 4294967296 A).length cap] 22)).heap.size (w.alloc (.cells #[.slice ad (digs 4294967296 A).length cap] 22)) W) (h1 : -9223372036854775808 ≤ i) (h2 : i ≤ 9223372036854775807) => limb_any i w.heap.size ad cap (digs 4294967296 A) W h1 h2
    ((hW.cell (p := ⟨w.heap.size, 0, none⟩) (by simp)).trans (by rw [World.cell?_alloc_at _ _ _ _ rfl]; rfl))
    (fun j hj => by
      obtain ⟨b, off, e1, e2, e3⟩ := hr j hj
      exact ⟨b, off, e1, by have := hW.size; simp at this; omega, (hW.cell (p := ⟨b, off + j, none⟩) (by simp; omega)).trans ((World.cell?_alloc_past _ _ _ e2).trans e3)⟩) hlt
  generalize digs 4294967296 A = l at *
  generalize topV A n up = V at *
  generalize limbAt l = f at *
  clear hr hlt htop hA hlim
  go_enter Tryz.func169, Tryz.ntmps169
  go_wp2_with fail
  go_quiet ((go_at_call 180; exact Calls.quiet_of_same ((HL.out _ _ (below_drewN' (Below.refl _ _) _) (by omega) (by omega)).mono fun _ _ ⟨a, b⟩ => ⟨a, b.symm⟩)))
  go_wp2
  go_ret
  exact ⟨by rw [← HTB.out]; rfl, below_drewN' ((Below.refl _ _).alloc (Nat.le_refl _) _) _⟩

end
end Go.Proofs.YtiegkjfpdiohkaaGreat
