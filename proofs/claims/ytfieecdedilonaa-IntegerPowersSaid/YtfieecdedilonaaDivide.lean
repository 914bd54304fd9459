/-  divide: by one limb, and of a number below the divisor.  -/
import Derived.Test.YtfieecdedilonaaDiv
namespace Go.Proofs.Ytfieecdedilonaa
open Go.RowKit Digs

def QRPost (w : World) (q r : Nat) (e : Ending) (w' : World) : Prop :=
  ∃ vq vr, e = .returned (.tuple #[vq, vr]) ∧ Rd .u32 w' vq (digs 4294967296 q) ∧ Rd .u32 w' vr (digs 4294967296 r) ∧ Below w.heap.size w w'

set_option maxHeartbeats 1000000 in
set_option maxRecDepth 100000 in
theorem divide_less (m n : Nat) (va vb : Value) (w : World) (hm : (digs 4294967296 m).length ≤ 1000000) (hmn : m < n) (ha : Rd .u32 w va (digs 4294967296 m)) (hb : Rd .u32 w vb (digs 4294967296 n)) :
    Calls Try.prog 80 #[va, vb] w (QRPost w (m / n) (m % n)) := by
  have HC := Lib.hid (compare_any m n va vb w ha hb)
  have HCL := fun d => Lib.hid (clone_any va _ (w.drewN d) (by omega) (ha.keep (below_drewN' (Below.refl _ _) d)))
  have HCL := Lib.hid HCL
  clear hm ha hb
  have hc : cmpN m n = -1 := by unfold cmpN; rw [if_pos hmn]
  rw [hc] at HC
  rw [Nat.div_eq_of_lt hmn, Nat.mod_eq_of_lt hmn]
  clear hc
  go_enter Try.func80, Try.ntmps80
  go_wp2_with fail
  refine HC.out.mono ?_
  rintro e w0 ⟨rfl, d, rfl⟩
  go_wp2_with fail
  refine (HCL.out d).out.mono ?_
  rintro e w1 ⟨v1, rfl, ho1, hb1⟩
  go_wp2
  go_ret2
  exact ⟨_, _, rfl, .inl ⟨rfl, by rw [digs_zero]⟩, ho1.rd, (below_drewN' (Below.refl _ _) d).trans hb1⟩

theorem Ow.one (w : World) (base g : Nat) (z : Int) (n : Nat) (hg : g = w.heap.size) (hb : base ≤ w.heap.size) (hz : z = n) : Ow (w.alloc (.cells #[.int .u32 z] 93)) base (.slice (some ⟨g, 0, none⟩) 1 1) [n] := by
  subst hg hz
  exact World.ownsRow_lit w #[.int .u32 (n : Int)] 1 hb (by unfold maxLen; omega) rfl

theorem one_limb {n : Nat} (h : (digs 4294967296 n).length = 1) : n < 4294967296 ∧ 1 ≤ n ∧ (digs 4294967296 n)[0]?.getD 0 = n := by
  have h0 : n ≠ 0 := by rintro rfl; rw [digs_zero] at h; cases h
  have h1 := digs_lt_pow (b := 4294967296) (by decide) n
  rw [h, Nat.pow_one] at h1
  refine ⟨h1, by omega, ?_⟩
  rw [digs_pos (by decide) h0]
  simp [Nat.mod_eq_of_lt h1]

set_option maxHeartbeats 1000000 in
set_option maxRecDepth 100000 in
theorem divide_one (m n : Nat) (va vb : Value) (w : World) (hm : (digs 4294967296 m).length ≤ 1000000) (h1 : (digs 4294967296 n).length = 1) (hmn : n ≤ m) (ha : Rd .u32 w va (digs 4294967296 m)) (hb : Rd .u32 w vb (digs 4294967296 n)) :
    Calls Try.prog 80 #[va, vb] w (QRPost w (m / n) (m % n)) := by
  have HC := Lib.hid (compare_any m n va vb w ha hb)
  obtain ⟨hn, hn1, hd⟩ := one_limb h1
  have HDS := fun d => Lib.hid (divSmall_any m n va (w.drewN d) hm (ha.keep (below_drewN' (Below.refl _ _) d)) hn1 hn)
  have HDS := Lib.hid HDS
  obtain ⟨adb, cb, rfl, rb⟩ := hb.opt
  obtain ⟨bb, ob, rfl, hbb, gx⟩ := rb 0 (by rw [h1]; decide)
  rw [hd] at gx
  rw [h1] at HC ⊢
  have gx' : w.cell? ⟨bb, ob, none⟩ = some (.int .u32 (n : Int)) := gx
  have hc : (cmpN m n < 0) = False := by
    rw [eq_iff_iff, iff_false]
    unfold cmpN
    rw [if_neg (by omega)]
    split <;> omega
  have hc2 : decide (cmpN m n < 0) = false := by simp [hc]
  have HMR : Hid (m % n < 4294967296) := Nat.lt_trans (Nat.mod_lt _ (by omega)) hn
  clear hm h1 hd ha hb rb gx hc hmn
  generalize hcv : cmpN m n = c at *
  have HCV := Lib.hid hcv
  have hc3 : ¬ c < 0 := by simpa using hc2
  clear hcv hc2
  go_enter Try.func80, Try.ntmps80
  go_wp2_with fail
  refine HC.out.mono ?_
  rintro e w0 ⟨rfl, d, rfl⟩
  go_wp2_with fail
  refine (HDS.out d).out.mono ?_
  rintro e w1 ⟨v1, rfl, ho1, hb1⟩
  go_wp2_with fail
  refine (trim_ow (Ow.one w1 w.heap.size _ _ (m % n) rfl (Nat.le_trans (by simp) hb1.size) (by omega)) (by have := HMR.out; intro x hx; rw [List.mem_singleton.1 hx]; exact this)).mono ?_
  rintro e w2 ⟨⟨v2, rfl, ho2⟩, rfl⟩
  have HO2 := Lib.hid ho2.rd
  clear ho2
  go_wp2
  go_ret2
  have h8 := HO2.out
  rw [show vl 4294967296 [m % n] = m % n by simp [vl]] at h8
  exact ⟨_, _, rfl, ho1.rd.keep ((Below.refl _ _).alloc (Nat.le_refl _) _), h8, ((below_drewN' (Below.refl _ _) d).trans hb1).alloc (Nat.le_trans (by simp) hb1.size) _⟩

end Go.Proofs.Ytfieecdedilonaa
