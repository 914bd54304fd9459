/-  PowB Powers  -/
import Derived.Test.YtiegkjfpdiohkaaGreatRPow
namespace Go.Proofs.YtiegkjfpdiohkaaGreat
section
open Go.RowKit Digs

def IntRes (w : World) (z c : Int) (e : Ending) (w' : World) : Prop := ∃ v, e = .returned (.tuple #[v, .int .i64 c]) ∧ IntV w' v z ∧ Below w.heap.size w w'
def RefRes (w : World) (z c : Int) (e : Ending) (w' : World) : Prop := ∃ v, e = .returned (.tuple #[v, .int .i64 c]) ∧ RefV w' v z ∧ Below w.heap.size w w'
theorem IntErr.res {w w' : World} {c : Int} {e : Ending} (h : IntErr w c e w') : IntRes w 0 c e w' := ⟨_, h.1, IntV.zero _ false 0 rfl, h.2⟩
theorem RefErr.res {w w' : World} {c : Int} {e : Ending} (h : RefErr w c e w') : RefRes w 0 c e w' := ⟨_, h.1, RefV.zero0 _, h.2⟩

theorem sqrt_ex (m : Nat) : ∃ s : Nat, s * s ≤ m ∧ m < (s + 1) * (s + 1) := by
  induction m with
  | zero => exact ⟨0, by decide, by decide⟩
  | succ m ih =>
    obtain ⟨s, h1, h2⟩ := ih
    by_cases h : (s + 1) * (s + 1) ≤ m + 1
    · refine ⟨s + 1, h, ?_⟩
      have h3 : (s + 1) * (s + 1) < (s + 1 + 1) * (s + 1 + 1) := Nat.mul_self_lt_mul_self (Nat.lt_succ_self _)
      omega
    · exact ⟨s, by omega, by omega⟩

def Pair (x : Int) (F G : FuncId) (ex : Value → Array Value) : Prop :=
  ∃ z c : Int, (∀ W v, IntV W v x → Calls Tryz.prog F (ex v) W (IntRes W z c)) ∧ (∀ W v, RefV W v x → Calls Tryz.prog G (ex v) W (RefRes W z c)) ∧ len z ≤ 1000000 ∧ rlen z ≤ 1000000

theorem pow_pair (x n : Int) (hB : Bd 2 x) (hn : n < 9223372036854775808) (h : n ≤ 40 ∨ bl x.natAbs ≤ 1) :
    Pair x 92 94 (fun v => #[v, .int .i64 n]) := by
  by_cases h0 : n < 0
  · exact ⟨0, 1, fun W v hv => (Power_bad x v n W h0 hv).mono fun _ _ h => h.res, fun W v hv => (rPower_bad x v n W h0 hv).mono fun _ _ h => h.res, len_le (by decide) Bd.zero, rlen_bd Bd.zero (by decide)⟩
  · obtain ⟨k, rfl⟩ : ∃ k : Nat, n = (k : Int) := ⟨n.toNat, by omega⟩
    have hlx : len x ≤ 1000000 := len_le (by decide) hB
    by_cases h1 : bl x.natAbs ≤ 1
    · have hzz : x ^ k = 0 ∨ x ^ k = 1 ∨ x ^ k = -1 := by
        have hxx : x = 0 ∨ x = 1 ∨ x = -1 := by have := bl_le_iff.1 h1; omega
        rcases hxx with rfl | rfl | rfl
        · rcases Nat.eq_zero_or_pos k with rfl | hk
          · right; left; rfl
          · left; exact Int.zero_pow (by omega)
        · right; left; exact Int.one_pow
        · rw [neg_pow_par, Int.one_pow]
          split
          · right; right; rfl
          · right; left; rfl
      have hB1 : Bd 1 (x ^ k) := by
        unfold Bd
        rcases hzz with h | h | h <;> rw [h] <;> decide
      have hl : lenZ (x ^ k) ≤ 65536 := lenZ_bda (hB1) (by decide)
      exact ⟨x ^ k, 0, fun W v hv => (Power_any x v k W (by omega) hlx hv).mono fun _ _ h => h.2 hl, fun W v hv => rPower_unit x v k W h1 hv (by omega), len_le (by decide) hB1, rlen_bd hB1 (by decide)⟩
    · have hk : k ≤ 40 := by rcases h with h | h <;> omega
      have hBk := (hB.pow' k).up (show 2 * k + 1 ≤ 81 by omega)
      have hl : lenZ (x ^ k) ≤ 65536 := lenZ_bda hBk (by decide)
      exact ⟨x ^ k, 0, fun W v hv => (Power_any x v k W (by omega) hlx hv).mono fun _ _ h => h.2 hl, fun W v hv => rPower_run x v k W (by omega) hB hv hk, len_le (by decide) hBk, rlen_bd hBk (by decide)⟩

theorem root_pair (y : Int) (hB : Bd 8 y) : Pair y 132 96 (fun v => #[v]) := by
  by_cases h0 : y < 0
  · exact ⟨0, 1, fun W v hv => (Root_neg y v W hv h0).mono fun _ _ h => h.res, fun W v hv => (rRoot_neg y v W h0 (rlen_bd hB (by decide)) hv).mono fun _ _ h => h.res, len_le (by decide) Bd.zero, rlen_bd Bd.zero (by decide)⟩
  · obtain ⟨m, rfl⟩ : ∃ m : Nat, y = (m : Int) := ⟨y.toNat, by omega⟩
    obtain ⟨s, hs1, hs2⟩ : ∃ s : Nat, s * s ≤ m ∧ m < (s + 1) * (s + 1) := sqrt_ex m
    have hBs := root_bd hs1 hB
    refine ⟨(s : Int), 0, fun W v hv => (Root_any (m : Int) v W (Nat.le_trans (digs_length_le (by decide) _ _ hB) (by decide)) hv (by omega)).mono fun e w' h => ?_, fun W v hv => (rRoot_any m v W hB hv).mono fun e w' h => ?_, len_le (by decide) hBs, rlen_bd hBs (by decide)⟩
    · obtain ⟨r, h1, h2, h3⟩ := h
      rw [Int.natAbs_natCast] at h1 h2
      have e1 := sqrt_unique h1 hs2
      have e2 := sqrt_unique hs1 h2
      obtain rfl : r = s := by omega
      exact h3
    · obtain ⟨r, h1, h2, h3⟩ := h
      have e1 := sqrt_unique h1 hs2
      have e2 := sqrt_unique hs1 h2
      obtain rfl : r = s := by omega
      exact h3

theorem is_same (z : Int) (vx vy : Value) (w : World) (hx : len z ≤ 1000000) (hy : rlen z ≤ 1000000) (ha : IntV w vx z) (hb : RefV w vy z) :
    Calls Tryz.prog 48 #[vx, vy] w (BoolPost w true) := by
  have h := is_any z z vx vy w hx hy ha hb
  rw [decide_eq_true (rfl : z = z)] at h
  exact h
end

section
open Go.RowKit Digs

theorem zcells (w : World) (a b c d : Value) (t u : TypeId) {w' : World} (h : Below ((w.alloc (.cells #[a, b] t)).alloc (.cells #[c, d] u)).heap.size ((w.alloc (.cells #[a, b] t)).alloc (.cells #[c, d] u)) w') :
    (w'.cell? ⟨w.heap.size, 0, none⟩ = some a ∧ w'.cell? ⟨w.heap.size, 1, none⟩ = some b) ∧ (w'.cell? ⟨w.heap.size + 1, 0, none⟩ = some c ∧ w'.cell? ⟨w.heap.size + 1, 1, none⟩ = some d) := by
  have k1 := box2r h
  have k0 := box2 (w := w) (((Below.refl (w.alloc (.cells #[a, b] t)).heap.size _).alloc (Nat.le_refl _) (.cells #[c, d] u)).trans (h.mono (by simp)))
  exact ⟨⟨k0.1, k0.2.1⟩, k1.1, k1.2.1⟩

theorem nz_bd2 {b : Bool} {l : List Nat} (hl : l.length ≤ 2) (hlt : ∀ x ∈ l, x < 4294967296) : Bd 2 (nz (b, l)) := by
  have h : (nz (b, l)).natAbs = vl 4294967296 l := sg_natAbs _ _
  unfold Bd
  rw [h]
  exact Nat.lt_of_lt_of_le (vl_lt l hlt) (Nat.pow_le_pow_right (by decide) hl)
theorem short18 (b1 : Bool) (a1 : Option Addr) (c1 : Nat) (l1 : List Nat) (w : World) (N : Nat) (hN : w.heap.size = N) (h1 : NArg w a1 c1 l1) :
    Calls Tryz.prog 12 #[.int .i64 8, .slice (some ⟨N, 0, none⟩) 1 1] (w.alloc (.cells #[.bool b1, .slice a1 l1.length c1] 24)) (BoolPost (w.alloc (.cells #[.bool b1, .slice a1 l1.length c1] 24)) (allLe [l1.length] 8)) :=
  short1a b1 a1 c1 l1 w N 8 hN h1
theorem short12 (b1 : Bool) (a1 : Option Addr) (c1 : Nat) (l1 : List Nat) (w : World) (N : Nat) (hN : w.heap.size = N) (h1 : NArg w a1 c1 l1) :
    Calls Tryz.prog 12 #[.int .i64 2, .slice (some ⟨N, 0, none⟩) 1 1] (w.alloc (.cells #[.bool b1, .slice a1 l1.length c1] 24)) (BoolPost (w.alloc (.cells #[.bool b1, .slice a1 l1.length c1] 24)) (allLe [l1.length] 2)) :=
  short1a b1 a1 c1 l1 w N 2 hN h1

end

end Go.Proofs.YtiegkjfpdiohkaaGreat
