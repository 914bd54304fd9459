/-  New, Limbs; the reference's Limbs; the law's Is.  -/
import Derived.Test.YtfieecdedilonaaRefNum
namespace Go.Proofs.Ytfieecdedilonaa
open Go.RowKit Digs

theorem Rd.two (w : World) (t : TypeId) (a b : Int) (x y g : Nat) (hg : g = w.heap.size) (ha : a = x) (hb : b = y) : Rd .u32 (w.alloc (.cells #[.int .u32 a, .int .u32 b] t)) (.slice (some ⟨g, 0, none⟩) 2 2) [x, y] := by
  subst hg ha hb
  refine .inr ⟨w.heap.size, 0, 2, rfl, by simp, by simp, by unfold maxLen; omega, fun j hj => ?_⟩
  rw [World.cell?_alloc_at _ _ _ _ rfl]
  simp only [List.length_cons, List.length_nil] at hj
  rcases (show j = 0 ∨ j = 1 by omega) with rfl | rfl <;> rfl

set_option maxHeartbeats 1000000 in
set_option maxRecDepth 100000 in
theorem new_neg (z : Int) (w : World) (hlo : -9223372036854775808 ≤ z) (hhi : z ≤ 9223372036854775807) (hz : z < 0) :
    Calls Try.prog 17 #[.int .i64 z] w (IntPost w z) := by
  have HU := Lib.hid (wrap_abs z hlo hhi)
  have HA : Hid (z.natAbs < 18446744073709551616) := by show z.natAbs < 18446744073709551616; omega
  clear hlo hhi
  have hzd : decide (z < 0) = true := by simp; omega
  go_enter Try.func17, Try.ntmps17
  go_wp2_with fail
  refine (own_any true _ [z.natAbs % 4294967296, z.natAbs / 4294967296] _ (Rd.two _ _ _ _ _ _ _ ?h1 ?h2 ?h3) ?h4).mono ?_
  case h1 => simp
  case h2 => have h := HU.out; rw [if_pos hz] at h; rw [h]; omega
  case h3 => have h := HU.out; have := HA.out; rw [if_pos hz] at h; rw [h]; omega
  case h4 =>
    have := HA.out
    intro x hx
    simp only [List.mem_cons, List.not_mem_nil, or_false] at hx
    rcases hx with rfl | rfl <;> omega
  rintro e w2 ⟨v2, rfl, ⟨ad, n, c, rfl, hr2⟩, hb2⟩
  have hB := ((Below.refl _ _).alloc (Nat.le_refl _) _).trans (hb2.mono (by simp))
  obtain ⟨c0, c1, f0, f1, hlt⟩ := box2 hB
  have HR := Lib.hid (hr2.store2 c0 c1 (by intro n h; cases h) (by intro n h; cases h))
  have HBB := Lib.hid hB
  have e : sg true (vl 4294967296 [z.natAbs % 4294967296, z.natAbs / 4294967296]) = z := by
    simp only [vl]
    show -(((z.natAbs % 4294967296 + 4294967296 * (z.natAbs / 4294967296 + 4294967296 * 0) : Nat) : Int)) = z
    omega
  have HE := Lib.hid e
  clear hB hb2 hr2 e
  go_wp2_with fail
  refine bodyPost_ret (v := .agg #[.bool (decide (sg true (vl 4294967296 [z.natAbs % 4294967296, z.natAbs / 4294967296]) < 0)), .slice ad n c]) (by simp [results, Try.results17, go_sem, c0, c1]) rfl ⟨_, rfl, ⟨_, _, _, by rw [HE.out], ?_⟩, ?_⟩
  · have := HR.out (.bool (decide (sg true (vl 4294967296 [z.natAbs % 4294967296, z.natAbs / 4294967296]) < 0))) (.slice ad n c)
    rw [HE.out] at this ⊢
    exact this
  · exact ((((Below.refl _ _).alloc (Nat.le_refl _) _).trans (HBB.out.mono (by simp))).setCell (by simp) _).setCell (by simp) _

set_option maxHeartbeats 1000000 in
set_option maxRecDepth 100000 in
theorem new_pos (z : Int) (w : World) (hlo : -9223372036854775808 ≤ z) (hhi : z ≤ 9223372036854775807) (hz : ¬ z < 0) :
    Calls Try.prog 17 #[.int .i64 z] w (IntPost w z) := by
  have HU := Lib.hid (wrap_abs z hlo hhi)
  have HA : Hid (z.natAbs < 18446744073709551616) := by show z.natAbs < 18446744073709551616; omega
  clear hlo hhi
  have hzd : decide (z < 0) = false := by simp; omega
  go_enter Try.func17, Try.ntmps17
  go_wp2_with fail
  refine (own_any false _ [z.natAbs % 4294967296, z.natAbs / 4294967296] _ (Rd.two _ _ _ _ _ _ _ ?h1 ?h2 ?h3) ?h4).mono ?_
  case h1 => simp
  case h2 => have h := HU.out; rw [if_neg (by omega)] at h; rw [h]; omega
  case h3 => have h := HU.out; have := HA.out; rw [if_neg (by omega)] at h; rw [h]; omega
  case h4 =>
    have := HA.out
    intro x hx
    simp only [List.mem_cons, List.not_mem_nil, or_false] at hx
    rcases hx with rfl | rfl <;> omega
  rintro e w2 ⟨v2, rfl, ⟨ad, n, c, rfl, hr2⟩, hb2⟩
  have hB := ((Below.refl _ _).alloc (Nat.le_refl _) _).trans (hb2.mono (by simp))
  obtain ⟨c0, c1, f0, f1, hlt⟩ := box2 hB
  have HR := Lib.hid (hr2.store2 c0 c1 (by intro n h; cases h) (by intro n h; cases h))
  have HBB := Lib.hid hB
  have e : sg false (vl 4294967296 [z.natAbs % 4294967296, z.natAbs / 4294967296]) = z := by
    simp only [vl]
    show ((z.natAbs % 4294967296 + 4294967296 * (z.natAbs / 4294967296 + 4294967296 * 0) : Nat) : Int) = z
    omega
  have HE := Lib.hid e
  clear hB hb2 hr2 e
  go_wp2_with fail
  refine bodyPost_ret (v := .agg #[.bool (decide (sg false (vl 4294967296 [z.natAbs % 4294967296, z.natAbs / 4294967296]) < 0)), .slice ad n c]) (by simp [results, Try.results17, go_sem, c0, c1]) rfl ⟨_, rfl, ⟨_, _, _, by rw [HE.out], ?_⟩, ?_⟩
  · have := HR.out (.bool (decide (sg false (vl 4294967296 [z.natAbs % 4294967296, z.natAbs / 4294967296]) < 0))) (.slice ad n c)
    rw [HE.out] at this ⊢
    exact this
  · exact ((((Below.refl _ _).alloc (Nat.le_refl _) _).trans (HBB.out.mono (by simp))).setCell (by simp) _).setCell (by simp) _

theorem new_any (z : Int) (w : World) (hlo : -9223372036854775808 ≤ z) (hhi : z ≤ 9223372036854775807) :
    Calls Try.prog 17 #[.int .i64 z] w (IntPost w z) := by
  by_cases h : z < 0
  · exact new_neg z w hlo hhi h
  · exact new_pos z w hlo hhi h

/-- One variable of two cells, read alone. -/
theorem box1 {w w2 : World} {a b : Value} {t : TypeId} (h : Below (w.alloc (.cells #[a, b] t)).heap.size (w.alloc (.cells #[a, b] t)) w2) :
    w2.cell? ⟨w.heap.size, 0, none⟩ = some a ∧ w2.cell? ⟨w.heap.size, 1, none⟩ = some b := ⟨(box2 h).1, (box2 h).2.1⟩

def LimbsPost (w : World) (z : Int) (e : Ending) (w' : World) : Prop := ∃ v, e = .returned (.tuple #[.bool (decide (z < 0)), v]) ∧ Rd .u32 w' v (digs 4294967296 z.natAbs) ∧ Below w.heap.size w w'

set_option maxHeartbeats 1000000 in
set_option maxRecDepth 100000 in
theorem limbs_any (z : Int) (v : Value) (w : World) (hl : len z ≤ 1000000) (h : IntV w v z) :
    Calls Try.prog 72 #[v] w (LimbsPost w z) := by
  obtain ⟨ad, n, c, rfl, hr⟩ := h
  have HC := fun W hw => Lib.hid (clone_any _ _ W (by unfold len at hl; omega) (hr.keep (w' := W) hw))
  have HC := Lib.hid HC
  clear hl hr
  go_enter Try.func72, Try.ntmps72
  go_wp2_with fail
  go_region_held3 (fun w' => w'.cell? ⟨w.heap.size, 0, none⟩ = some (.bool (decide (z < 0))) ∧ w'.cell? ⟨w.heap.size, 1, none⟩ = some (.slice ad n c))
    (first | exact ⟨cA, cB⟩ | go_keep)
    (first | (go_at_call 114; refine (HC.out _ ((Below.refl _ _).alloc (Nat.le_refl _) _).drew).out.mono ?_; rintro e w1 ⟨v1, rfl, ho1, hb1⟩; obtain ⟨cA, cB⟩ := box1 ((Below.refl _ _).drew.trans hb1)))
  go_wp2
  go_ret2
  exact ⟨_, rfl, ho1.rd, ((Below.refl _ _).alloc (Nat.le_refl _) _).drew.trans (hb1.mono (by simp))⟩

end Go.Proofs.Ytfieecdedilonaa
