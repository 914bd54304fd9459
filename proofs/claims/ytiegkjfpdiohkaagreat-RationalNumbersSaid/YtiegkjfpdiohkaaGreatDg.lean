/- The value of a digit, in the program and in the reference; and a row of limbs times a limb and one more: for every input. -/
import Derived.Test.YtiegkjfpdiohkaaGreatCompl
import Derived.Test.YtiegkjfpdiohkaaGreatBl
import Derived.Lib.Walk
import Derived.IntWalk
import Derived.OwnWalk
namespace Go.Proofs.YtiegkjfpdiohkaaGreat
section
open Go.RowKit Digs

/-- The value of a digit: 36 for a byte that is none. -/
def dg (c : Nat) : Nat := if 48 ≤ c ∧ c ≤ 57 then c - 48 else if 65 ≤ c ∧ c ≤ 90 then c - 55 else if 97 ≤ c ∧ c ≤ 122 then c - 87 else 36

theorem dg_num {c : Nat} (h0 : 48 ≤ c) (h1 : c ≤ 57) : dg c = c - 48 := by unfold dg; rw [if_pos ⟨h0, h1⟩]
theorem dg_up {c : Nat} (h0 : 65 ≤ c) (h1 : c ≤ 90) : dg c = c - 55 := by unfold dg; rw [if_neg (by omega), if_pos ⟨h0, h1⟩]
theorem dg_low {c : Nat} (h0 : 97 ≤ c) (h1 : c ≤ 122) : dg c = c - 87 := by unfold dg; rw [if_neg (by omega), if_neg (by omega), if_pos ⟨h0, h1⟩]
theorem dg_none {c : Nat} (h0 : ¬ (48 ≤ c ∧ c ≤ 57)) (h1 : ¬ (65 ≤ c ∧ c ≤ 90)) (h2 : ¬ (97 ≤ c ∧ c ≤ 122)) : dg c = 36 := by unfold dg; rw [if_neg h0, if_neg h1, if_neg h2]
theorem dg_le (c : Nat) : dg c ≤ 36 := by unfold dg; split; · omega
                                          split; · omega
                                          split <;> omega

/-- A digit's value, in the program. -/
theorem digitValue_any (c : Nat) (hc : c < 256) (w : World) :
    Calls Tryz.prog 175 #[.int .u8 c] w fun e w' => e = .returned (.int .i64 ((dg c : Nat) : Int)) ∧ w = w' := by
  go_enter Tryz.func175, Tryz.ntmps175
  by_cases h1 : 48 ≤ c ∧ c ≤ 57
  · obtain ⟨a, b⟩ := h1
    have e : (((c - 48 : Nat) : Int)) = (c : Int) - 48 := by omega
    rw [dg_num a b, e]
    clear e
    go_wp2
    all_goals first | (go_ret; exact ⟨rfl, rfl⟩) | (exfalso; omega)
  by_cases h2 : 65 ≤ c ∧ c ≤ 90
  · obtain ⟨a, b⟩ := h2
    have e : (((c - 55 : Nat) : Int)) = (c : Int) - 65 + 10 := by omega
    rw [dg_up a b, e]
    clear e
    go_wp2
    all_goals first | (go_ret; exact ⟨rfl, rfl⟩) | (exfalso; omega)
  by_cases h3 : 97 ≤ c ∧ c ≤ 122
  · obtain ⟨a, b⟩ := h3
    have e : (((c - 87 : Nat) : Int)) = (c : Int) - 97 + 10 := by omega
    rw [dg_low a b, e]
    clear e
    go_wp2
    all_goals first | (go_ret; exact ⟨rfl, rfl⟩) | (exfalso; omega)
  rw [dg_none h1 h2 h3]
  go_wp2
  all_goals first | (go_ret; exact ⟨rfl, rfl⟩) | (exfalso; omega)

/-- A digit's value, in the reference. -/
theorem rDigit_any (c : Nat) (hc : c < 256) (w : World) :
    Calls Tryz.prog 160 #[.int .u8 c] w fun e w' => e = .returned (.int .i64 ((dg c : Nat) : Int)) ∧ w = w' := by
  go_enter Tryz.func160, Tryz.ntmps160
  by_cases h1 : 48 ≤ c ∧ c ≤ 57
  · obtain ⟨a, b⟩ := h1
    have e : (((c - 48 : Nat) : Int)) = (c : Int) - 48 := by omega
    rw [dg_num a b, e]
    clear e
    go_wp2
    all_goals first | (go_ret; exact ⟨rfl, rfl⟩) | (exfalso; omega)
  by_cases h2 : 65 ≤ c ∧ c ≤ 90
  · obtain ⟨a, b⟩ := h2
    have e : (((c - 55 : Nat) : Int)) = (c : Int) - 65 + 10 := by omega
    rw [dg_up a b, e]
    clear e
    go_wp2
    all_goals first | (go_ret; exact ⟨rfl, rfl⟩) | (exfalso; omega)
  by_cases h3 : 97 ≤ c ∧ c ≤ 122
  · obtain ⟨a, b⟩ := h3
    have e : (((c - 87 : Nat) : Int)) = (c : Int) - 97 + 10 := by omega
    rw [dg_low a b, e]
    clear e
    go_wp2
    all_goals first | (go_ret; exact ⟨rfl, rfl⟩) | (exfalso; omega)
  rw [dg_none h1 h2 h3]
  go_wp2
  all_goals first | (go_ret; exact ⟨rfl, rfl⟩) | (exfalso; omega)

/-- A round of a product with one digit, with a carry: the digits so far and the carry make the product so far. -/
theorem scale_step {b k : Nat} (s : List Nat) (c x f a A A' : Nat) (hs : s.length = k) (h : vl b s + b ^ k * c = A * f + a) (hA : A' = A + b ^ k * x) :
    vl b (s ++ [(c + x * f) % b]) + b ^ (k + 1) * ((c + x * f) / b) = A' * f + a := by
  rw [vl_snoc, hs, Nat.pow_succ, Nat.add_assoc, split_mod, Nat.mul_add, ← Nat.add_assoc, h, hA, Nat.add_mul, Nat.mul_assoc]
  omega

def ScaleRel (la : List Nat) (f a : Nat) (w : World) (v c i : Value) (wr : World) : Prop :=
  ∃ (k cy : Nat) (s : List Nat), k ≤ la.length ∧ i = .int .i64 k ∧ c = .int .u64 cy ∧ cy < 4294967296 ∧ s.length = k ∧ (∀ x ∈ s, x < 4294967296) ∧ Ow wr w.heap.size v s ∧
    vl 4294967296 s + 4294967296 ^ k * cy = vl 4294967296 (la.take k) * f + a ∧ Below w.heap.size w wr

set_option maxHeartbeats 1000000 in
set_option maxRecDepth 100000 in
theorem scale_core (ada : Option Addr) (ca : Nat) (la : List Nat) (f a : Nat) (w : World) (hf : f < 4294967296) (ha : a < 4294967296) (hlen : la.length ≤ 1000000) (hca : RdA .u32 w ada la) (hla : ∀ x ∈ la, x < 4294967296) :
    Calls Tryz.prog 176 #[.slice ada la.length ca, .int .u32 f, .int .u32 a] w (OwPost w (digs 4294967296 (vl 4294967296 la * f + a))) := by
  have HLA := Lib.hid hla
  have HCA := Lib.hid hca
  clear hla hca
  obtain ⟨i0, hi, hz0, hz1, hz2⟩ := info_parts Tryz.infoU32
  go_enter Tryz.func176, Tryz.ntmps176
  go_wp2_with (at_make; refine wpList_make_own _ rfl _ _ 22 rfl w.heap.size 137 i0 (.int .u32 0) 1 Tryz.underlying22 hi hz0 hz1 _ _ _ (la.length + 1) rfl rfl (by omega) ?b2 ?b3 (Nat.le_refl _) ?_)
  case b2 => rw [hz2]; omega
  case b3 => unfold maxLen; omega
  intro w0 hown0 hgrow0
  go_wp2
  go_loopw [7, 8, 19] (ScaleRel la f a w) (fun _ _ i _ => la.length - (intOf i).toNat)
  case atStart => exact ⟨0, a, [], Nat.zero_le _, rfl, rfl, ha, rfl, (by simp), hown0, by simp [vl], (Below.refl _ _).grown hgrow0 (Nat.le_refl _) (fun k h => by cases h)⟩
  case round =>
    obtain ⟨k, cy, s, hk, rfl, rfl, hcy, hs, hsl, hown, hv, hnx⟩ := hrel
    have HS := Lib.hid hs
    have HSL := Lib.hid hsl
    have HV := Lib.hid hv
    have HO := Lib.hid hown
    have HNX := Lib.hid hnx
    clear hs hsl hv hown hnx
    by_cases hkl : k < la.length
    · obtain ⟨ba, oa, rfl, hba, gx0⟩ := HCA.out k hkl
      have gx : wr.cell? ⟨ba, oa + k, none⟩ = some (.int .u32 ((la[k]?.getD 0 : Nat) : Int)) := (HNX.out.cell (p := ⟨ba, oa + k, none⟩) hba).trans gx0
      clear gx0
      obtain ⟨x, hx⟩ : ∃ x, x = la[k]?.getD 0 := ⟨_, rfl⟩
      rw [← hx] at gx
      have hxb : x < 4294967296 := by rw [hx, List.getElem?_eq_getElem hkl]; exact HLA.out _ (List.getElem_mem hkl)
      have HX := Lib.hid hx
      clear hx
      have hb1 := carry_lt (b := 4294967296) (z := 0) (by decide) hxb hf hcy (by decide)
      rw [Nat.add_zero] at hb1
      have hxy0 : (0 : Int) ≤ (x : Int) * (f : Int) := Int.mul_nonneg (by omega) (by omega)
      have hb2 : (cy : Int) + (x : Int) * (f : Int) < 18446744073709551616 := by
        have h3 : ((cy + x * f : Nat) : Int) < ((4294967296 * 4294967296 : Nat) : Int) := Int.ofNat_lt.2 hb1
        simpa using h3
      have HB1 := Lib.hid hb1
      clear hb1
      go_wp2_with (at_builtin; refine wpList_append_own _ rfl (.tmp 30) (.tmp 33) 22 rfl w.heap.size 137 i0 (.int .u32 0) 1 4 Tryz.underlying22 hi hz0 hz1 hz2 rfl (by decide) _ _ _ rfl (HO.out.alloc _) ⟨wr.heap.size, 0, none⟩ 1 1 (uw [(cy + x * f) % 4294967296]) rfl rfl ?c1 (uw_oneCell _) ?c2 ?c3 ?c4 ?_)
      case c1 => refine new_one _ _ _ _ ?_; rw [Int.natCast_emod, Int.natCast_add, Int.natCast_mul]; congr 1
      case c2 => have := HS.out; unfold maxLen; omega
      case c3 => have := HS.out; omega
      case c4 => have := HNX.out.size; simp; omega
      intro v' w1 hown1 hgrow _
      have HO1 := Lib.hid hown1
      have HG := Lib.hid hgrow
      clear hown1 hgrow
      go_wp2
      go_roundw
      case rel =>
        refine ⟨k + 1, (cy + x * f) / 4294967296, s ++ [(cy + x * f) % 4294967296], by omega, by go_num, ?_, ?_, by rw [List.length_append, HS.out]; rfl, all_snoc HSL.out (Nat.mod_lt _ (by decide)), Ow.snoc HO1.out, ?_, ?_⟩
        · refine congrArg (Value.int .u64) ?_
          rw [Int.natCast_ediv, Int.natCast_add, Int.natCast_mul]
          congr 1
        · rw [Nat.div_lt_iff_lt_mul (by decide)]; exact HB1.out
        · exact scale_step s cy x f a _ _ HS.out HV.out (by rw [vl_take_succ _ _ _ hkl, HX.out])
        · exact (HNX.out.alloc HNX.out.size _).grown HG.out (by have := HNX.out.size; simp; omega) (fun q hq => (HO.out.lt q hq).1)
      case measure => simp [intOf]; omega
    · obtain rfl : k = la.length := by omega
      go_wp2_with (at_builtin; refine wpList_append_own _ rfl (.tmp 38) (.tmp 41) 22 rfl w.heap.size 137 i0 (.int .u32 0) 1 4 Tryz.underlying22 hi hz0 hz1 hz2 rfl (by decide) _ _ _ rfl (HO.out.alloc _) ⟨wr.heap.size, 0, none⟩ 1 1 (uw [cy]) rfl rfl ?d1 (uw_oneCell _) ?d2 ?d3 ?d4 ?_)
      case d1 => exact new_one _ _ _ _ (by omega)
      case d2 => have := HS.out; unfold maxLen; omega
      case d3 => have := HS.out; omega
      case d4 => have := HNX.out.size; simp; omega
      intro v' w1 hown1 hgrow _
      have HO1 := Lib.hid (Ow.snoc hown1)
      have hb1 := (HNX.out.alloc HNX.out.size _).grown hgrow (by have := HNX.out.size; simp; omega) (fun q hq => (HO.out.lt q hq).1)
      have HB1 := Lib.hid hb1
      have HT := Lib.hid (trim_ow HO1.out (all_snoc HSL.out hcy))
      clear hown1 hgrow hb1
      go_wp2_with (go_at_call 163; refine HT.out.mono ?_; rintro e w' ⟨⟨v2, rfl, ho2⟩, rfl⟩)
      go_ret
      refine ⟨_, rfl, ?_, HB1.out⟩
      have e : vl 4294967296 (s ++ [cy]) = vl 4294967296 la * f + a := by
        rw [vl_snoc, HS.out, HV.out, List.take_of_length_le (Nat.le_refl _)]
      rw [e] at ho2
      exact ho2

/-- scaleAndAdd: limbs times a limb, and one more. -/
theorem scale_any (m f a : Nat) (v : Value) (w : World) (hf : f < 4294967296) (ha : a < 4294967296) (hm : (digs 4294967296 m).length ≤ 1000000) (h : Rd .u32 w v (digs 4294967296 m)) :
    Calls Tryz.prog 176 #[v, .int .u32 f, .int .u32 a] w (OwPost w (digs 4294967296 (m * f + a))) := by
  obtain ⟨ad, ca, rfl, r⟩ := h.opt
  have := scale_core ad ca _ f a w hf ha hm r (digs_lt (by decide) m)
  rw [vl_digs (by decide)] at this
  exact this

end
end Go.Proofs.YtiegkjfpdiohkaaGreat
