/-  subtract, of limbs.  -/
import Derived.Test.YtfieecdedilonaaAdd
namespace Go.Proofs.Ytfieecdedilonaa
open Go.RowKit Digs

/-- What the loop of a difference holds. -/
def SubRel (la lb : List Nat) (w : World) (v c i : Value) (wr : World) : Prop :=
  ∃ (k r : Nat) (s : List Nat), k ≤ la.length ∧ i = .int .i64 k ∧ c = .int .u64 r ∧ r ≤ 1 ∧ s.length = k ∧ (∀ x ∈ s, x < 4294967296) ∧ Ow wr w.heap.size v s ∧
    vl 4294967296 (la.take k) + 4294967296 ^ k * r = vl 4294967296 s + vl 4294967296 (lb.take k) ∧ Below w.heap.size w wr

set_option maxHeartbeats 1000000 in
set_option maxRecDepth 100000 in
theorem sub_core (ada adb : Option Addr) (ca cb : Nat) (la lb : List Nat) (w : World) (hlen : la.length ≤ 1000000) (hll : lb.length ≤ la.length) (hca : RdA .u32 w ada la) (hcb : RdA .u32 w adb lb)
    (hla : ∀ x ∈ la, x < 4294967296) (hlb : ∀ x ∈ lb, x < 4294967296) (hge : vl 4294967296 lb ≤ vl 4294967296 la) :
    Calls Try.prog 84 #[.slice ada la.length ca, .slice adb lb.length cb] w (OwPost w (digs 4294967296 (vl 4294967296 la - vl 4294967296 lb))) := by
  have HLA := Lib.hid hla
  have HLB := Lib.hid hlb
  have HCA := Lib.hid hca
  have HCB := Lib.hid hcb
  have HGE := Lib.hid hge
  clear hla hlb hca hcb hge
  obtain ⟨i0, hi, hz0, hz1, hz2⟩ := info_parts Try.infoU32
  go_enter Try.func84, Try.ntmps84
  go_wp2_with (at_make; refine wpList_make_own _ rfl _ _ 22 rfl w.heap.size 93 i0 (.int .u32 0) 1 Try.underlying22 hi hz0 hz1 _ _ _ la.length rfl rfl (by omega) ?b2 ?b3 (Nat.le_refl _) ?_)
  case b2 => rw [hz2]; omega
  case b3 => unfold maxLen; omega
  intro w0 hown0 hgrow0
  go_wp2
  go_loopw [5, 6, 15] (SubRel la lb w) (fun _ _ i _ => la.length - (intOf i).toNat)
  case atStart => exact ⟨0, 0, [], Nat.zero_le _, rfl, rfl, Nat.zero_le _, rfl, (by simp), hown0, rfl, (Below.refl _ _).grown hgrow0 (Nat.le_refl _) (fun k h => by cases h)⟩
  case round =>
    obtain ⟨k, r, s, hk, rfl, rfl, hr, hs, hsl, hown, hv, hnx⟩ := hrel
    have HS := Lib.hid hs
    have HSL := Lib.hid hsl
    have HV := Lib.hid hv
    have HO := Lib.hid hown
    have HNX := Lib.hid hnx
    clear hs hsl hv hown hnx
    by_cases hkl : k < la.length
    · obtain ⟨ba, oa, rfl, hba, gx0⟩ := HCA.out k hkl
      have gx : wr.cell? ⟨ba, oa + k, none⟩ = some (.int .u32 ((la[k]?.getD 0 : Nat) : Int)) := (HNX.out.cell (p := ⟨ba, oa + k, none⟩) hba).trans gx0
      clear gx0
      obtain ⟨x, hx⟩ : ∃ x, x = la[k]?.getD 0 := ⟨_, rfl⟩
      rw [← hx] at gx
      have hxb : x < 4294967296 := by rw [hx, List.getElem?_eq_getElem hkl]; exact HLA.out _ (List.getElem_mem hkl)
      have HX := Lib.hid hx
      clear hx
      by_cases hkb : k < lb.length
      · obtain ⟨bb, ob, rfl, hbb, gy0⟩ := HCB.out k hkb
        have gy : wr.cell? ⟨bb, ob + k, none⟩ = some (.int .u32 ((lb[k]?.getD 0 : Nat) : Int)) := (HNX.out.cell (p := ⟨bb, ob + k, none⟩) hbb).trans gy0
        clear gy0
        obtain ⟨y, hy⟩ : ∃ y, y = lb[k]?.getD 0 := ⟨_, rfl⟩
        rw [← hy] at gy
        have hyb : y < 4294967296 := by rw [hy, List.getElem?_eq_getElem hkb]; exact HLB.out _ (List.getElem_mem hkb)
        have HY := Lib.hid hy
        clear hy
        rcases (show y + r ≤ x ∨ x < r ∨ (r ≤ x ∧ x < y + r) by omega) with h | h | h
        · have HD : Hid (x + 4294967296 * 0 = (x - r - y) + y + r) := by show _ = _; omega
          have hdb : x - r - y < 4294967296 := by omega
          go_wp2_with (at_builtin; refine wpList_append_own _ rfl (.tmp 35) (.tmp 38) 22 rfl w.heap.size 93 i0 (.int .u32 0) 1 4 Try.underlying22 hi hz0 hz1 hz2 rfl (by decide) _ _ _ rfl (HO.out.alloc _) ⟨wr.heap.size, 0, none⟩ 1 1 (uw [x - r - y]) rfl rfl ?c1 (uw_oneCell _) ?c2 ?c3 ?c4 ?_)
          case c1 => exact new_one _ _ _ _ (by first | omega | (simp only [IntKind.wrap_u64]; omega))
          case c2 => have := HS.out; unfold maxLen; omega
          case c3 => have := HS.out; omega
          case c4 => have := HNX.out.size; simp; omega
          intro v' w1 hown1 hgrow _
          have HO1 := Lib.hid hown1
          have HG := Lib.hid hgrow
          clear hown1 hgrow
          go_wp2
          go_roundw
          case rel =>
            refine ⟨k + 1, 0, s ++ [x - r - y], by omega, by go_num, (by refine congrArg (Value.int .u64) ?_; first | omega | (simp only [IntKind.wrap_u64]; omega)), by omega, by rw [List.length_append, HS.out]; rfl, all_snoc HSL.out hdb, Ow.snoc HO1.out, ?_, ?_⟩
            · exact sub_step s r x y (x - r - y) 0 _ _ _ _ HS.out HV.out (by rw [vl_take_succ _ _ _ hkl, HX.out]) (by rw [vl_take_succ _ _ _ hkb, HY.out]) HD.out
            · exact (HNX.out.alloc HNX.out.size _).grown HG.out (by have := HNX.out.size; simp; omega) (fun q hq => (HO.out.lt q hq).1)
          case measure => simp [intOf]; omega
        · have HD : Hid (x + 4294967296 * 1 = (x + 4294967296 - r - y) + y + r) := by show _ = _; omega
          have hdb : x + 4294967296 - r - y < 4294967296 := by omega
          go_wp2_with (at_builtin; refine wpList_append_own _ rfl (.tmp 35) (.tmp 38) 22 rfl w.heap.size 93 i0 (.int .u32 0) 1 4 Try.underlying22 hi hz0 hz1 hz2 rfl (by decide) _ _ _ rfl (HO.out.alloc _) ⟨wr.heap.size, 0, none⟩ 1 1 (uw [x + 4294967296 - r - y]) rfl rfl ?c1 (uw_oneCell _) ?c2 ?c3 ?c4 ?_)
          case c1 => exact new_one _ _ _ _ (by first | omega | (simp only [IntKind.wrap_u64]; omega))
          case c2 => have := HS.out; unfold maxLen; omega
          case c3 => have := HS.out; omega
          case c4 => have := HNX.out.size; simp; omega
          intro v' w1 hown1 hgrow _
          have HO1 := Lib.hid hown1
          have HG := Lib.hid hgrow
          clear hown1 hgrow
          go_wp2
          go_roundw
          case rel =>
            refine ⟨k + 1, 1, s ++ [x + 4294967296 - r - y], by omega, by go_num, (by refine congrArg (Value.int .u64) ?_; first | omega | (simp only [IntKind.wrap_u64]; omega)), by omega, by rw [List.length_append, HS.out]; rfl, all_snoc HSL.out hdb, Ow.snoc HO1.out, ?_, ?_⟩
            · exact sub_step s r x y (x + 4294967296 - r - y) 1 _ _ _ _ HS.out HV.out (by rw [vl_take_succ _ _ _ hkl, HX.out]) (by rw [vl_take_succ _ _ _ hkb, HY.out]) HD.out
            · exact (HNX.out.alloc HNX.out.size _).grown HG.out (by have := HNX.out.size; simp; omega) (fun q hq => (HO.out.lt q hq).1)
          case measure => simp [intOf]; omega
        · have HD : Hid (x + 4294967296 * 1 = (x + 4294967296 - r - y) + y + r) := by show _ = _; omega
          have hdb : x + 4294967296 - r - y < 4294967296 := by omega
          go_wp2_with (at_builtin; refine wpList_append_own _ rfl (.tmp 35) (.tmp 38) 22 rfl w.heap.size 93 i0 (.int .u32 0) 1 4 Try.underlying22 hi hz0 hz1 hz2 rfl (by decide) _ _ _ rfl (HO.out.alloc _) ⟨wr.heap.size, 0, none⟩ 1 1 (uw [x + 4294967296 - r - y]) rfl rfl ?c1 (uw_oneCell _) ?c2 ?c3 ?c4 ?_)
          case c1 => exact new_one _ _ _ _ (by first | omega | (simp only [IntKind.wrap_u64]; omega))
          case c2 => have := HS.out; unfold maxLen; omega
          case c3 => have := HS.out; omega
          case c4 => have := HNX.out.size; simp; omega
          intro v' w1 hown1 hgrow _
          have HO1 := Lib.hid hown1
          have HG := Lib.hid hgrow
          clear hown1 hgrow
          go_wp2
          go_roundw
          case rel =>
            refine ⟨k + 1, 1, s ++ [x + 4294967296 - r - y], by omega, by go_num, (by refine congrArg (Value.int .u64) ?_; first | omega | (simp only [IntKind.wrap_u64]; omega)), by omega, by rw [List.length_append, HS.out]; rfl, all_snoc HSL.out hdb, Ow.snoc HO1.out, ?_, ?_⟩
            · exact sub_step s r x y (x + 4294967296 - r - y) 1 _ _ _ _ HS.out HV.out (by rw [vl_take_succ _ _ _ hkl, HX.out]) (by rw [vl_take_succ _ _ _ hkb, HY.out]) HD.out
            · exact (HNX.out.alloc HNX.out.size _).grown HG.out (by have := HNX.out.size; simp; omega) (fun q hq => (HO.out.lt q hq).1)
          case measure => simp [intOf]; omega
      · rcases (show r ≤ x ∨ x < r by omega) with h | h
        · have HD : Hid (x + 4294967296 * 0 = (x - r) + 0 + r) := by show _ = _; omega
          have hdb : x - r < 4294967296 := by omega
          go_wp2_with (at_builtin; refine wpList_append_own _ rfl (.tmp 35) (.tmp 38) 22 rfl w.heap.size 93 i0 (.int .u32 0) 1 4 Try.underlying22 hi hz0 hz1 hz2 rfl (by decide) _ _ _ rfl (HO.out.alloc _) ⟨wr.heap.size, 0, none⟩ 1 1 (uw [x - r]) rfl rfl ?c1 (uw_oneCell _) ?c2 ?c3 ?c4 ?_)
          case c1 => exact new_one _ _ _ _ (by first | omega | (simp only [IntKind.wrap_u64]; omega))
          case c2 => have := HS.out; unfold maxLen; omega
          case c3 => have := HS.out; omega
          case c4 => have := HNX.out.size; simp; omega
          intro v' w1 hown1 hgrow _
          have HO1 := Lib.hid hown1
          have HG := Lib.hid hgrow
          clear hown1 hgrow
          go_wp2
          go_roundw
          case rel =>
            refine ⟨k + 1, 0, s ++ [x - r], by omega, by go_num, (by refine congrArg (Value.int .u64) ?_; first | omega | (simp only [IntKind.wrap_u64]; omega)), by omega, by rw [List.length_append, HS.out]; rfl, all_snoc HSL.out hdb, Ow.snoc HO1.out, ?_, ?_⟩
            · exact sub_step s r x 0 (x - r) 0 _ _ _ _ HS.out HV.out (by rw [vl_take_succ _ _ _ hkl, HX.out]) (by rw [vl_take_le _ _ _ (by omega), Nat.mul_zero, Nat.add_zero]) HD.out
            · exact (HNX.out.alloc HNX.out.size _).grown HG.out (by have := HNX.out.size; simp; omega) (fun q hq => (HO.out.lt q hq).1)
          case measure => simp [intOf]; omega
        · have HD : Hid (x + 4294967296 * 1 = (x + 4294967296 - r) + 0 + r) := by show _ = _; omega
          have hdb : x + 4294967296 - r < 4294967296 := by omega
          go_wp2_with (at_builtin; refine wpList_append_own _ rfl (.tmp 35) (.tmp 38) 22 rfl w.heap.size 93 i0 (.int .u32 0) 1 4 Try.underlying22 hi hz0 hz1 hz2 rfl (by decide) _ _ _ rfl (HO.out.alloc _) ⟨wr.heap.size, 0, none⟩ 1 1 (uw [x + 4294967296 - r]) rfl rfl ?c1 (uw_oneCell _) ?c2 ?c3 ?c4 ?_)
          case c1 => exact new_one _ _ _ _ (by first | omega | (simp only [IntKind.wrap_u64]; omega))
          case c2 => have := HS.out; unfold maxLen; omega
          case c3 => have := HS.out; omega
          case c4 => have := HNX.out.size; simp; omega
          intro v' w1 hown1 hgrow _
          have HO1 := Lib.hid hown1
          have HG := Lib.hid hgrow
          clear hown1 hgrow
          go_wp2
          go_roundw
          case rel =>
            refine ⟨k + 1, 1, s ++ [x + 4294967296 - r], by omega, by go_num, (by refine congrArg (Value.int .u64) ?_; first | omega | (simp only [IntKind.wrap_u64]; omega)), by omega, by rw [List.length_append, HS.out]; rfl, all_snoc HSL.out hdb, Ow.snoc HO1.out, ?_, ?_⟩
            · exact sub_step s r x 0 (x + 4294967296 - r) 1 _ _ _ _ HS.out HV.out (by rw [vl_take_succ _ _ _ hkl, HX.out]) (by rw [vl_take_le _ _ _ (by omega), Nat.mul_zero, Nat.add_zero]) HD.out
            · exact (HNX.out.alloc HNX.out.size _).grown HG.out (by have := HNX.out.size; simp; omega) (fun q hq => (HO.out.lt q hq).1)
          case measure => simp [intOf]; omega
    · obtain rfl : k = la.length := by omega
      have hlast := HV.out
      rw [List.take_of_length_le (Nat.le_refl _), List.take_of_length_le hll] at hlast
      have hvs := vl_lt s HSL.out
      rw [HS.out] at hvs
      have hge := HGE.out
      have e : vl 4294967296 s = vl 4294967296 la - vl 4294967296 lb := by
        rcases (show r = 0 ∨ r = 1 by omega) with rfl | rfl
        · omega
        · omega
      have HE := Lib.hid e
      have HT := Lib.hid (trim_ow HO.out HSL.out)
      clear hlast hvs hge e
      go_wp2_with (go_at_call 115; refine HT.out.mono ?_; rintro e w' ⟨⟨v2, rfl, ho2⟩, rfl⟩)
      go_ret
      refine ⟨_, rfl, ?_, HNX.out⟩
      rw [HE.out] at ho2
      exact ho2

/-- subtract: the difference. -/
theorem sub_any (m n : Nat) (va vb : Value) (w : World) (hm : (digs 4294967296 m).length ≤ 1000000) (hmn : n ≤ m) (ha : Rd .u32 w va (digs 4294967296 m)) (hb : Rd .u32 w vb (digs 4294967296 n)) :
    Calls Try.prog 84 #[va, vb] w (OwPost w (digs 4294967296 (m - n))) := by
  obtain ⟨ada, ca, rfl, ra⟩ := ha.opt
  obtain ⟨adb, cb, rfl, rb⟩ := hb.opt
  have := sub_core ada adb ca cb _ _ w hm (digs_length_mono (by decide) hmn) ra rb (digs_lt (by decide) m) (digs_lt (by decide) n) (by rw [vl_digs (by decide), vl_digs (by decide)]; exact hmn)
  rw [vl_digs (by decide), vl_digs (by decide)] at this
  exact this

end Go.Proofs.Ytfieecdedilonaa
