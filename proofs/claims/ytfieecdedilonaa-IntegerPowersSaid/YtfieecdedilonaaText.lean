/-  group; slices.Reverse of bytes.  -/
import Derived.Test.YtfieecdedilonaaBBase
namespace Go.Proofs.Ytfieecdedilonaa
open Go.RowKit Digs

def GroupPost (r : Nat) (w : World) (e : Ending) (w' : World) : Prop :=
  ∃ c P : Nat, e = .returned (.tuple #[.int .i64 c, .int .u32 P]) ∧ P = r ^ c ∧ P < 4294967296 ∧ 1 ≤ c ∧ c < 32 ∧ w = w'

theorem pow_lt_32 {r c : Nat} (hr : 2 ≤ r) (h : r ^ c < 4294967296) : c < 32 := by
  rcases Nat.lt_or_ge c 32 with h1 | h1
  · exact h1
  · have h2 : 2 ^ 32 ≤ r ^ c := Nat.le_trans (Nat.pow_le_pow_right (by decide) h1) (Nat.pow_le_pow_left hr c)
    omega

set_option maxHeartbeats 1000000 in
set_option maxRecDepth 100000 in
theorem group_any (r : Nat) (w : World) (h2 : 2 ≤ r) (h36 : r ≤ 36) :
    Calls Try.prog 108 #[.int .i64 r] w (GroupPost r w) := by
  go_enter Try.func108, Try.ntmps108
  go_wp2
  go_loop [2, 4] (fun cv av => ∃ c a : Nat, cv = .int .i64 c ∧ av = .int .u64 a ∧ a = r ^ c ∧ a < 4294967296 ∧ 1 ≤ c) (fun _ av => 4294967296 - (intOf av).toNat)
  case atStart => exact ⟨1, r, rfl, rfl, by rw [Nat.pow_one], by omega, Nat.le_refl _⟩
  case round =>
    obtain ⟨c, a, rfl, rfl, ha, hab, hc⟩ := hrel
    have hc32 : c < 32 := pow_lt_32 h2 (by rw [← ha]; exact hab)
    have HA := Lib.hid ha
    have ha1 : 1 ≤ a := by rw [ha]; exact Nat.pow_pos (by omega)
    clear ha
    have hm0 : (0 : Int) ≤ (a : Int) * (r : Int) := Int.mul_nonneg (by omega) (by omega)
    have hmb : a * r ≤ 4294967295 * 36 := Nat.mul_le_mul (by omega) h36
    have hm1 : (a : Int) * (r : Int) ≤ 154618822620 := by
      have h3 : ((a * r : Nat) : Int) ≤ ((4294967295 * 36 : Nat) : Int) := Int.ofNat_le.2 hmb
      rw [Int.natCast_mul] at h3
      exact h3
    have hmm : a * 2 ≤ a * r := Nat.mul_le_mul_left a h2
    by_cases hle : a * r ≤ 4294967295
    · have hle' : (a : Int) * (r : Int) ≤ 4294967295 := by
        have h3 : ((a * r : Nat) : Int) ≤ ((4294967295 : Nat) : Int) := Int.ofNat_le.2 hle
        rw [Int.natCast_mul] at h3
        exact h3
      go_wp2
      go_round
      case rel =>
        refine ⟨c + 1, a * r, by go_num, by rw [Int.natCast_mul], by rw [HA.out, Nat.pow_succ], by omega, by omega⟩
      case measure =>
        rw [← Int.natCast_mul]
        simp only [intOf, Int.toNat_natCast]
        omega
    · have hle' : ¬ (a : Int) * (r : Int) ≤ 4294967295 := by
        intro h
        rw [← Int.natCast_mul] at h
        omega
      go_wp2
      go_ret2
      exact ⟨c, a, rfl, HA.out, hab, hc, hc32, rfl⟩

/-- A row of bytes of the call's own, cut to n of them. -/
def RbC (w : World) (base g n cap : Nat) (p : List Nat) : Prop := p.length = n ∧ w.ownsRow base 5 1 (.slice (some ⟨g, 0, none⟩) n cap) n (bw p)
theorem RbC.cell {w : World} {base g n cap : Nat} {p : List Nat} (h : RbC w base g n cap p) (j : Nat) (hj : j < n) : w.cell? ⟨g, j, none⟩ = some (.int .u8 ((p[j]?.getD 0 : Nat) : Int)) := by
  rw [h.2.cellAt j (by omega), bw_getElem? _ _ (by rw [h.1]; exact hj)]
theorem RbC.frozen {w : World} {base g n cap : Nat} {p : List Nat} (h : RbC w base g n cap p) (j : Nat) : w.frozen? ⟨g, j, none⟩ = false := h.2.frozenAt j
theorem RbC.store {w : World} {base g n cap : Nat} {p : List Nat} (h : RbC w base g n cap p) (j x : Nat) (z : Int) (hz : z = x) : RbC (w.setCell ⟨g, j, none⟩ (.int .u8 z)) base g n cap (p.set j x) := by
  subst hz
  exact ⟨by rw [List.length_set, h.1], by rw [bw_set]; exact (h.2.stored j _).1⟩
theorem RbC.of {w : World} {base g n cap : Nat} {p : List Nat} (h : Ob w base (.slice (some ⟨g, 0, none⟩) n cap) p) (hn : p.length = n) : RbC w base g n cap p := ⟨hn, by unfold Ob at h; rw [hn] at h; exact h⟩

def RevRel (l : List Nat) (w : World) (base g n cap : Nat) (i j : Value) (wr : World) : Prop :=
  ∃ (k : Nat) (z : Int) (p : List Nat), i = .int .i64 k ∧ j = .int .i64 z ∧ z = (n : Int) - 1 - k ∧ 2 * k ≤ n + 1 ∧ RbC wr base g n cap p ∧ (∀ q, q < n → p[q]?.getD 0 = if q < k ∨ n ≤ q + k then l[n - 1 - q]?.getD 0 else l[q]?.getD 0) ∧ Below base w wr ∧ Only g w wr

theorem Only.refl (g : Nat) (w : World) : Only g w w := fun _ _ _ => rfl
theorem Only.setCell {g : Nat} {w w' : World} (h : Only g w w') (j : Nat) (u : Value) : Only g w (w'.setCell ⟨g, j, none⟩ u) := fun k hk hg => by
  rw [heap_setCell_other _ _ _ _ hg]; exact h k hk hg

set_option maxHeartbeats 2000000 in
set_option maxRecDepth 100000 in
theorem reverse_any (base g n cap : Nat) (l : List Nat) (w : World) (hn : n ≤ 100000000) (hr : RbC w base g n cap l) (hbase : base ≤ g) :
    Calls Try.prog 109 #[.slice (some ⟨g, 0, none⟩) n cap] w fun e w' => e = .returned (.tuple #[]) ∧ RbC w' base g n cap l.reverse ∧ Below base w w' ∧ Only g w w' := by
  have HR := Lib.hid hr
  clear hr
  go_enter Try.func109, Try.ntmps109
  go_wp2
  go_loopw [2, 3] (RevRel l w base g n cap) (fun i _ _ => n + 1 - (intOf i).toNat)
  case atStart => exact ⟨0, _, l, rfl, rfl, by omega, by omega, HR.out, fun q hq => by rw [if_neg (by omega)], Below.refl _ _, Only.refl _ _⟩
  case round =>
    obtain ⟨k, z, p, rfl, rfl, hz, hk, hrow, hp, hnx, hon⟩ := hrel
    have HROW := Lib.hid hrow
    have HP := Lib.hid hp
    have HNX := Lib.hid hnx
    have HON := Lib.hid hon
    clear hrow hp hnx hon
    by_cases hkz : (k : Int) < z
    · obtain ⟨m, rfl⟩ : ∃ m : Nat, z = m := ⟨z.toNat, by omega⟩
      have hm : m < n := by omega
      have hkm : k < m := by omega
      have gx := HROW.out.cell k (by omega)
      have gy := HROW.out.cell m hm
      have fx := HROW.out.frozen k
      have fy := HROW.out.frozen m
      have HZ : Hid (m + 1 + k = n) := by show m + 1 + k = n; omega
      obtain ⟨a, ha⟩ : ∃ a, a = p[k]?.getD 0 := ⟨_, rfl⟩
      obtain ⟨b, hb⟩ : ∃ b, b = p[m]?.getD 0 := ⟨_, rfl⟩
      rw [← ha] at gx
      rw [← hb] at gy
      have HA := Lib.hid ha
      have HBV := Lib.hid hb
      clear hz ha hb
      go_wp2
      go_region
      go_wp2
      go_roundw
      case rel =>
        refine ⟨k + 1, _, (p.set k b).set m a, by go_num, rfl, by have := HZ.out; omega, by have := HZ.out; omega, ?_, ?_, ?_, ?_⟩
        · exact (HROW.out.store k b _ rfl).store m a _ rfl
        · intro q hq
          have h1 := HZ.out
          have h2 := HROW.out.1
          by_cases hqm : q = m
          · subst hqm
            rw [List.getElem?_set_self (by rw [List.length_set, h2]; exact hq), if_pos (by omega), Option.getD_some, HA.out, HP.out k (by omega), if_neg (by omega), show n - 1 - q = k by omega]
          · rw [getD_set_ne _ _ _ _ (by omega)]
            by_cases hqk : q = k
            · subst hqk
              rw [List.getElem?_set_self (by rw [h2]; exact hq), if_pos (by omega), Option.getD_some, HBV.out, HP.out m (by omega), if_neg (by omega), show n - 1 - q = m by omega]
            · rw [getD_set_ne _ _ _ _ (by omega), HP.out q hq]
              by_cases h3 : q < k ∨ n ≤ q + k
              · rw [if_pos h3, if_pos (by omega)]
              · rw [if_neg h3, if_neg (by omega)]
        · exact ((HNX.out.setCell (p := ⟨g, k, none⟩) hbase _).setCell (p := ⟨g, m, none⟩) hbase _).drew
        · exact (HON.out.setCell k _).setCell m _
      case measure => simp [intOf]; have := HZ.out; omega
    · go_wp2
      go_end0
      have e : p = l.reverse := by
        have h2 := HROW.out.1
        have h4 := HR.out.1
        apply List.ext_getElem (by rw [List.length_reverse, h2, h4])
        intro i h5 h6
        rw [h2] at h5
        have h7 := HP.out i h5
        rw [List.getElem?_eq_getElem (by omega)] at h7
        rw [List.getElem_reverse]
        by_cases h3 : i < k ∨ n ≤ i + k
        · rw [if_pos h3, List.getElem?_eq_getElem (by omega)] at h7
          simp only [Option.getD_some] at h7
          rw [h7]
          congr 1
          omega
        · rw [if_neg h3, List.getElem?_eq_getElem (by omega)] at h7
          simp only [Option.getD_some] at h7
          rw [h7]
          congr 1
          omega
      exact ⟨rfl, by rw [← e]; exact HROW.out, HNX.out, HON.out⟩

end Go.Proofs.Ytfieecdedilonaa
