/-  add, of limbs.  -/
import Derived.Test.YtfieecdedilonaaOwn
namespace Go.Proofs.Ytfieecdedilonaa
open Go.RowKit Digs

theorem Ow.headN {w : World} {base g cap n : Nat} {l d : List Nat} (h : Ow w base (.slice (some ⟨g, 0, none⟩) l.length cap) l) (hn : n ≤ l.length) (hd : l.take n = d) : Ow w base (.slice (some ⟨g, 0, none⟩) n cap) d := by
  subst hd
  have hlen : (l.take n).length = n := by rw [List.length_take]; omega
  obtain ⟨_, ⟨hv, _⟩ | ⟨g', cap', cur, hv, hb, hg, hc, hm, hs, ht⟩⟩ := h
  · cases hv
  · cases hv
    refine ⟨by simp [uw_length], .inr ⟨g, cap, cur, by rw [hlen], hb, hg, by omega, hm, hs, ?_⟩⟩
    rw [hlen, Nat.mul_one]
    rw [Nat.mul_one] at ht
    have h1 : (cur.toList.take l.length).take n = (uw l).take n := by rw [ht]
    rw [List.take_take, Nat.min_eq_left hn] at h1
    rw [h1]
    simp [uw]

/-- trim, of a slice of the call's own. -/
theorem trim_ow {w : World} {base : Nat} {v : Value} {l : List Nat} (h : Ow w base v l) (hlt : ∀ x ∈ l, x < 4294967296) :
    Calls Try.prog 115 #[v] w fun e w' => (∃ v', e = .returned v' ∧ Ow w base v' (digs 4294967296 (vl 4294967296 l))) ∧ w = w' := by
  have hr := h.rd
  have h' := h
  rcases h.2 with ⟨rfl, hn⟩ | ⟨g, cap, cur, rfl, _, _, hc, hm, _⟩
  · obtain rfl := List.eq_nil_of_length_eq_zero hn
    exact (trim_nil w).mono fun _ _ ⟨he, hw⟩ => ⟨⟨_, he, by rw [vl, digs_zero]; exact World.ownsRow_nil _ _ _ _⟩, hw⟩
  · have hcells : ∀ j, j < l.length → w.cell? ⟨g, 0 + j, none⟩ = some (.int .u32 ((l[j]?.getD 0 : Nat) : Int)) := by
      rcases hr with ⟨hv, _⟩ | ⟨b, off, cap', hv, _, _, _, h4⟩
      · cases hv
      · cases hv; exact h4
    refine (trim_some g 0 cap l w hc hm hcells).mono ?_
    rintro e w' ⟨k, rfl, h1, h2, h3, rfl⟩
    exact ⟨⟨_, rfl, Ow.headN h' h1 (trim_digs hlt h1 h2 h3)⟩, rfl⟩

/-- What the loop of a sum holds. -/
def AddRel (la lb : List Nat) (w : World) (v c i : Value) (wr : World) : Prop :=
  ∃ (k cy : Nat) (s : List Nat), k ≤ la.length ∧ i = .int .i64 k ∧ c = .int .u64 cy ∧ cy ≤ 1 ∧ s.length = k ∧ (∀ x ∈ s, x < 4294967296) ∧ Ow wr w.heap.size v s ∧
    vl 4294967296 s + 4294967296 ^ k * cy = vl 4294967296 (la.take k) + vl 4294967296 (lb.take k) ∧ Below w.heap.size w wr

set_option maxHeartbeats 1000000 in
set_option maxRecDepth 100000 in
theorem add_ge (ada adb : Option Addr) (ca cb : Nat) (la lb : List Nat) (w : World) (hlen : la.length ≤ 1000000) (hll : lb.length ≤ la.length) (hca : RdA .u32 w ada la) (hcb : RdA .u32 w adb lb)
    (hla : ∀ x ∈ la, x < 4294967296) (hlb : ∀ x ∈ lb, x < 4294967296) :
    Calls Try.prog 83 #[.slice ada la.length ca, .slice adb lb.length cb] w (OwPost w (digs 4294967296 (vl 4294967296 la + vl 4294967296 lb))) := by
  have HLA := Lib.hid hla
  have HLB := Lib.hid hlb
  have HCA := Lib.hid hca
  have HCB := Lib.hid hcb
  clear hla hlb hca hcb
  obtain ⟨i0, hi, hz0, hz1, hz2⟩ := info_parts Try.infoU32
  go_enter Try.func83, Try.ntmps83
  go_wp2_with (at_make; refine wpList_make_own _ rfl _ _ 22 rfl w.heap.size 93 i0 (.int .u32 0) 1 Try.underlying22 hi hz0 hz1 _ _ _ (la.length + 1) rfl rfl (by omega) ?b2 ?b3 (Nat.le_refl _) ?_)
  case b2 => rw [hz2]; omega
  case b3 => unfold maxLen; omega
  intro w0 hown0 hgrow0
  go_wp2
  go_loopw [5, 6, 22] (AddRel la lb w) (fun _ _ i _ => la.length - (intOf i).toNat)
  case atStart => exact ⟨0, 0, [], Nat.zero_le _, rfl, rfl, Nat.zero_le _, rfl, (by simp), hown0, rfl, (Below.refl _ _).grown hgrow0 (Nat.le_refl _) (fun k h => by cases h)⟩
  case round =>
    obtain ⟨k, cy, s, hk, rfl, rfl, hcy, hs, hsl, hown, hv, hnx⟩ := hrel
    have HS := Lib.hid hs
    have HSL := Lib.hid hsl
    have HV := Lib.hid hv
    have HO := Lib.hid hown
    have HNX := Lib.hid hnx
    clear hs hsl hv hown hnx
    by_cases hkl : k < la.length
    · obtain ⟨ba, oa, rfl, hba, gx0⟩ := HCA.out k hkl
      have gx : wr.cell? ⟨ba, oa + k, none⟩ = some (.int .u32 ((la[k]?.getD 0 : Nat) : Int)) := (HNX.out.cell (p := ⟨ba, oa + k, none⟩) hba).trans gx0
      clear gx0
      obtain ⟨x, hx⟩ : ∃ x, x = la[k]?.getD 0 := ⟨_, rfl⟩
      rw [← hx] at gx
      have hxb : x < 4294967296 := by rw [hx, List.getElem?_eq_getElem hkl]; exact HLA.out _ (List.getElem_mem hkl)
      have HX := Lib.hid hx
      clear hx
      by_cases hkb : k < lb.length
      · obtain ⟨bb, ob, rfl, hbb, gy0⟩ := HCB.out k hkb
        have gy : wr.cell? ⟨bb, ob + k, none⟩ = some (.int .u32 ((lb[k]?.getD 0 : Nat) : Int)) := (HNX.out.cell (p := ⟨bb, ob + k, none⟩) hbb).trans gy0
        clear gy0
        obtain ⟨y, hy⟩ : ∃ y, y = lb[k]?.getD 0 := ⟨_, rfl⟩
        rw [← hy] at gy
        have hyb : y < 4294967296 := by rw [hy, List.getElem?_eq_getElem hkb]; exact HLB.out _ (List.getElem_mem hkb)
        have HY := Lib.hid hy
        clear hy
        go_wp2_with (at_builtin; refine wpList_append_own _ rfl (.tmp 42) (.tmp 45) 22 rfl w.heap.size 93 i0 (.int .u32 0) 1 4 Try.underlying22 hi hz0 hz1 hz2 rfl (by decide) _ _ _ rfl (HO.out.alloc _) ⟨wr.heap.size, 0, none⟩ 1 1 (uw [(cy + x + y) % 4294967296]) rfl rfl ?c1 (uw_oneCell _) ?c2 ?c3 ?c4 ?_)
        case c1 => exact new_one _ _ _ _ (by omega)
        case c2 => have := HS.out; unfold maxLen; omega
        case c3 => have := HS.out; omega
        case c4 => have := HNX.out.size; simp; omega
        intro v' w1 hown1 hgrow _
        have HO1 := Lib.hid hown1
        have HG := Lib.hid hgrow
        clear hown1 hgrow
        go_wp2
        go_roundw
        case rel =>
          refine ⟨k + 1, (cy + x + y) / 4294967296, s ++ [(cy + x + y) % 4294967296], by omega, by go_num, by go_num, by omega, by rw [List.length_append, HS.out]; rfl, all_snoc HSL.out (Nat.mod_lt _ (by decide)), Ow.snoc HO1.out, ?_, ?_⟩
          · exact add_step s cy x y _ _ _ _ HS.out HV.out (by rw [vl_take_succ _ _ _ hkl, HX.out]) (by rw [vl_take_succ _ _ _ hkb, HY.out])
          · exact (HNX.out.alloc HNX.out.size _).grown HG.out (by have := HNX.out.size; simp; omega) (fun q hq => (HO.out.lt q hq).1)
        case measure => simp [intOf]; omega
      · go_wp2_with (at_builtin; refine wpList_append_own _ rfl (.tmp 42) (.tmp 45) 22 rfl w.heap.size 93 i0 (.int .u32 0) 1 4 Try.underlying22 hi hz0 hz1 hz2 rfl (by decide) _ _ _ rfl (HO.out.alloc _) ⟨wr.heap.size, 0, none⟩ 1 1 (uw [(cy + x + 0) % 4294967296]) rfl rfl ?c1 (uw_oneCell _) ?c2 ?c3 ?c4 ?_)
        case c1 => exact new_one _ _ _ _ (by omega)
        case c2 => have := HS.out; unfold maxLen; omega
        case c3 => have := HS.out; omega
        case c4 => have := HNX.out.size; simp; omega
        intro v' w1 hown1 hgrow _
        have HO1 := Lib.hid hown1
        have HG := Lib.hid hgrow
        clear hown1 hgrow
        go_wp2
        go_roundw
        case rel =>
          refine ⟨k + 1, (cy + x + 0) / 4294967296, s ++ [(cy + x + 0) % 4294967296], by omega, by go_num, by go_num, by omega, by rw [List.length_append, HS.out]; rfl, all_snoc HSL.out (Nat.mod_lt _ (by decide)), Ow.snoc HO1.out, ?_, ?_⟩
          · exact add_step s cy x 0 _ _ _ _ HS.out HV.out (by rw [vl_take_succ _ _ _ hkl, HX.out]) (by rw [vl_take_le _ _ _ (by omega), Nat.mul_zero, Nat.add_zero])
          · exact (HNX.out.alloc HNX.out.size _).grown HG.out (by have := HNX.out.size; simp; omega) (fun q hq => (HO.out.lt q hq).1)
        case measure => simp [intOf]; omega
    · obtain rfl : k = la.length := by omega
      go_wp2_with (at_builtin; refine wpList_append_own _ rfl (.tmp 50) (.tmp 53) 22 rfl w.heap.size 93 i0 (.int .u32 0) 1 4 Try.underlying22 hi hz0 hz1 hz2 rfl (by decide) _ _ _ rfl (HO.out.alloc _) ⟨wr.heap.size, 0, none⟩ 1 1 (uw [cy]) rfl rfl ?d1 (uw_oneCell _) ?d2 ?d3 ?d4 ?_)
      case d1 => exact new_one _ _ _ _ (by omega)
      case d2 => have := HS.out; unfold maxLen; omega
      case d3 => have := HS.out; omega
      case d4 => have := HNX.out.size; simp; omega
      intro v' w1 hown1 hgrow _
      have HO1 := Lib.hid (Ow.snoc hown1)
      have hb1 := (HNX.out.alloc HNX.out.size _).grown hgrow (by have := HNX.out.size; simp; omega) (fun q hq => (HO.out.lt q hq).1)
      have HB1 := Lib.hid hb1
      have HT := Lib.hid (trim_ow HO1.out (all_snoc HSL.out (by omega)))
      clear hown1 hgrow hb1
      go_wp2_with (go_at_call 115; refine HT.out.mono ?_; rintro e w' ⟨⟨v2, rfl, ho2⟩, rfl⟩)
      go_ret
      refine ⟨_, rfl, ?_, HB1.out⟩
      have e : vl 4294967296 (s ++ [cy]) = vl 4294967296 la + vl 4294967296 lb := by
        rw [vl_snoc, HS.out, HV.out, List.take_of_length_le (Nat.le_refl _), List.take_of_length_le hll]
      rw [e] at ho2
      exact ho2
set_option maxHeartbeats 1000000 in
set_option maxRecDepth 100000 in
theorem add_lt (ada adb : Option Addr) (ca cb : Nat) (la lb : List Nat) (w : World) (hlen : la.length ≤ 1000000) (hll : lb.length < la.length) (hca : RdA .u32 w ada la) (hcb : RdA .u32 w adb lb)
    (hla : ∀ x ∈ la, x < 4294967296) (hlb : ∀ x ∈ lb, x < 4294967296) :
    Calls Try.prog 83 #[.slice adb lb.length cb, .slice ada la.length ca] w (OwPost w (digs 4294967296 (vl 4294967296 la + vl 4294967296 lb))) := by
  have HLA := Lib.hid hla
  have HLB := Lib.hid hlb
  have HCA := Lib.hid hca
  have HCB := Lib.hid hcb
  clear hla hlb hca hcb
  obtain ⟨i0, hi, hz0, hz1, hz2⟩ := info_parts Try.infoU32
  go_enter Try.func83, Try.ntmps83
  go_wp2_with (at_make; refine wpList_make_own _ rfl _ _ 22 rfl w.heap.size 93 i0 (.int .u32 0) 1 Try.underlying22 hi hz0 hz1 _ _ _ (la.length + 1) rfl rfl (by omega) ?b2 ?b3 (Nat.le_refl _) ?_)
  case b2 => rw [hz2]; omega
  case b3 => unfold maxLen; omega
  intro w0 hown0 hgrow0
  go_wp2
  go_loopw [5, 6, 22] (AddRel la lb w) (fun _ _ i _ => la.length - (intOf i).toNat)
  case atStart => exact ⟨0, 0, [], Nat.zero_le _, rfl, rfl, Nat.zero_le _, rfl, (by simp), hown0, rfl, (Below.refl _ _).grown hgrow0 (Nat.le_refl _) (fun k h => by cases h)⟩
  case round =>
    obtain ⟨k, cy, s, hk, rfl, rfl, hcy, hs, hsl, hown, hv, hnx⟩ := hrel
    have HS := Lib.hid hs
    have HSL := Lib.hid hsl
    have HV := Lib.hid hv
    have HO := Lib.hid hown
    have HNX := Lib.hid hnx
    clear hs hsl hv hown hnx
    by_cases hkl : k < la.length
    · obtain ⟨ba, oa, rfl, hba, gx0⟩ := HCA.out k hkl
      have gx : wr.cell? ⟨ba, oa + k, none⟩ = some (.int .u32 ((la[k]?.getD 0 : Nat) : Int)) := (HNX.out.cell (p := ⟨ba, oa + k, none⟩) hba).trans gx0
      clear gx0
      obtain ⟨x, hx⟩ : ∃ x, x = la[k]?.getD 0 := ⟨_, rfl⟩
      rw [← hx] at gx
      have hxb : x < 4294967296 := by rw [hx, List.getElem?_eq_getElem hkl]; exact HLA.out _ (List.getElem_mem hkl)
      have HX := Lib.hid hx
      clear hx
      by_cases hkb : k < lb.length
      · obtain ⟨bb, ob, rfl, hbb, gy0⟩ := HCB.out k hkb
        have gy : wr.cell? ⟨bb, ob + k, none⟩ = some (.int .u32 ((lb[k]?.getD 0 : Nat) : Int)) := (HNX.out.cell (p := ⟨bb, ob + k, none⟩) hbb).trans gy0
        clear gy0
        obtain ⟨y, hy⟩ : ∃ y, y = lb[k]?.getD 0 := ⟨_, rfl⟩
        rw [← hy] at gy
        have hyb : y < 4294967296 := by rw [hy, List.getElem?_eq_getElem hkb]; exact HLB.out _ (List.getElem_mem hkb)
        have HY := Lib.hid hy
        clear hy
        go_wp2_with (at_builtin; refine wpList_append_own _ rfl (.tmp 42) (.tmp 45) 22 rfl w.heap.size 93 i0 (.int .u32 0) 1 4 Try.underlying22 hi hz0 hz1 hz2 rfl (by decide) _ _ _ rfl (HO.out.alloc _) ⟨wr.heap.size, 0, none⟩ 1 1 (uw [(cy + x + y) % 4294967296]) rfl rfl ?c1 (uw_oneCell _) ?c2 ?c3 ?c4 ?_)
        case c1 => exact new_one _ _ _ _ (by omega)
        case c2 => have := HS.out; unfold maxLen; omega
        case c3 => have := HS.out; omega
        case c4 => have := HNX.out.size; simp; omega
        intro v' w1 hown1 hgrow _
        have HO1 := Lib.hid hown1
        have HG := Lib.hid hgrow
        clear hown1 hgrow
        go_wp2
        go_roundw
        case rel =>
          refine ⟨k + 1, (cy + x + y) / 4294967296, s ++ [(cy + x + y) % 4294967296], by omega, by go_num, by go_num, by omega, by rw [List.length_append, HS.out]; rfl, all_snoc HSL.out (Nat.mod_lt _ (by decide)), Ow.snoc HO1.out, ?_, ?_⟩
          · exact add_step s cy x y _ _ _ _ HS.out HV.out (by rw [vl_take_succ _ _ _ hkl, HX.out]) (by rw [vl_take_succ _ _ _ hkb, HY.out])
          · exact (HNX.out.alloc HNX.out.size _).grown HG.out (by have := HNX.out.size; simp; omega) (fun q hq => (HO.out.lt q hq).1)
        case measure => simp [intOf]; omega
      · go_wp2_with (at_builtin; refine wpList_append_own _ rfl (.tmp 42) (.tmp 45) 22 rfl w.heap.size 93 i0 (.int .u32 0) 1 4 Try.underlying22 hi hz0 hz1 hz2 rfl (by decide) _ _ _ rfl (HO.out.alloc _) ⟨wr.heap.size, 0, none⟩ 1 1 (uw [(cy + x + 0) % 4294967296]) rfl rfl ?c1 (uw_oneCell _) ?c2 ?c3 ?c4 ?_)
        case c1 => exact new_one _ _ _ _ (by omega)
        case c2 => have := HS.out; unfold maxLen; omega
        case c3 => have := HS.out; omega
        case c4 => have := HNX.out.size; simp; omega
        intro v' w1 hown1 hgrow _
        have HO1 := Lib.hid hown1
        have HG := Lib.hid hgrow
        clear hown1 hgrow
        go_wp2
        go_roundw
        case rel =>
          refine ⟨k + 1, (cy + x + 0) / 4294967296, s ++ [(cy + x + 0) % 4294967296], by omega, by go_num, by go_num, by omega, by rw [List.length_append, HS.out]; rfl, all_snoc HSL.out (Nat.mod_lt _ (by decide)), Ow.snoc HO1.out, ?_, ?_⟩
          · exact add_step s cy x 0 _ _ _ _ HS.out HV.out (by rw [vl_take_succ _ _ _ hkl, HX.out]) (by rw [vl_take_le _ _ _ (by omega), Nat.mul_zero, Nat.add_zero])
          · exact (HNX.out.alloc HNX.out.size _).grown HG.out (by have := HNX.out.size; simp; omega) (fun q hq => (HO.out.lt q hq).1)
        case measure => simp [intOf]; omega
    · obtain rfl : k = la.length := by omega
      go_wp2_with (at_builtin; refine wpList_append_own _ rfl (.tmp 50) (.tmp 53) 22 rfl w.heap.size 93 i0 (.int .u32 0) 1 4 Try.underlying22 hi hz0 hz1 hz2 rfl (by decide) _ _ _ rfl (HO.out.alloc _) ⟨wr.heap.size, 0, none⟩ 1 1 (uw [cy]) rfl rfl ?d1 (uw_oneCell _) ?d2 ?d3 ?d4 ?_)
      case d1 => exact new_one _ _ _ _ (by omega)
      case d2 => have := HS.out; unfold maxLen; omega
      case d3 => have := HS.out; omega
      case d4 => have := HNX.out.size; simp; omega
      intro v' w1 hown1 hgrow _
      have HO1 := Lib.hid (Ow.snoc hown1)
      have hb1 := (HNX.out.alloc HNX.out.size _).grown hgrow (by have := HNX.out.size; simp; omega) (fun q hq => (HO.out.lt q hq).1)
      have HB1 := Lib.hid hb1
      have HT := Lib.hid (trim_ow HO1.out (all_snoc HSL.out (by omega)))
      clear hown1 hgrow hb1
      go_wp2_with (go_at_call 115; refine HT.out.mono ?_; rintro e w' ⟨⟨v2, rfl, ho2⟩, rfl⟩)
      go_ret
      refine ⟨_, rfl, ?_, HB1.out⟩
      have e : vl 4294967296 (s ++ [cy]) = vl 4294967296 la + vl 4294967296 lb := by
        rw [vl_snoc, HS.out, HV.out, List.take_of_length_le (Nat.le_refl _), List.take_of_length_le (Nat.le_of_lt hll)]
      rw [e] at ho2
      exact ho2

/-- add: the sum. -/
theorem add_any (m n : Nat) (va vb : Value) (w : World) (hm : (digs 4294967296 m).length ≤ 1000000) (hn : (digs 4294967296 n).length ≤ 1000000) (ha : Rd .u32 w va (digs 4294967296 m)) (hb : Rd .u32 w vb (digs 4294967296 n)) :
    Calls Try.prog 83 #[va, vb] w (OwPost w (digs 4294967296 (m + n))) := by
  obtain ⟨ada, ca, rfl, ra⟩ := ha.opt
  obtain ⟨adb, cb, rfl, rb⟩ := hb.opt
  have lm := digs_lt (b := 4294967296) (by decide) m
  have ln := digs_lt (b := 4294967296) (by decide) n
  rcases Nat.lt_or_ge (digs 4294967296 m).length (digs 4294967296 n).length with h | h
  · have := add_lt adb ada cb ca _ _ w hn h rb ra ln lm
    rw [vl_digs (by decide), vl_digs (by decide), Nat.add_comm] at this
    exact this
  · have := add_ge ada adb ca cb _ _ w hm h ra rb lm ln
    rw [vl_digs (by decide), vl_digs (by decide)] at this
    exact this

end Go.Proofs.Ytfieecdedilonaa
