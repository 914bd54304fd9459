/-  Act  -/
import Derived.Deep.RegionHeld3
import Derived.Test.YtghgcbedajaldaaGreatMpab
/-  Own Add Sub Mul Act  -/
namespace Go.Proofs.YtghgcbedajaldaaGreat
section
open Go.RowKit Digs
set_option maxHeartbeats 400000 in
theorem clone_nil (w : World) : Calls Tryz.prog 121 #[.slice none 0 0] w fun e w' => e = .returned (.slice none 0 0) ∧ w = w' := by
 have hq := fun (a : Option Addr) (n c : Nat) (w : World) => Lib.run_eql_slice_nil (P := Tryz.prog) w 22 137 a n c 0 0 Tryz.underlying22
 go_enter Tryz.func121, Tryz.ntmps121
 go_wp2
 go_ret
 exact ⟨rfl, rfl⟩
def OwPost (w : World) (l : List Nat) (e : Ending) (w' : World) : Prop := ∃ v, e = .returned v ∧ Ow w' w.heap.size v l ∧ Below w.heap.size w w'
set_option maxHeartbeats 400000 in
set_option maxRecDepth 100000 in
theorem clone_some (b off cap : Nat) (l : List Nat) (w : World) (hl : l.length * 4 ≤ 140737488355328)
  (hc : ∀ j, j < l.length → w.cell? ⟨b, off + j, none⟩ = some (.int .u32 ((l[j]?.getD 0 : Nat) : Int))) (hb : b < w.heap.size) :
  Calls Tryz.prog 121 #[.slice (some ⟨b, off, none⟩) l.length cap] w (OwPost w l) := by
 have hq := fun (a : Option Addr) (n c : Nat) (w : World) => Lib.run_eql_slice_nil (P := Tryz.prog) w 22 137 a n c 0 0 Tryz.underlying22
 have HL := Lib.hid hl
 have HC := Lib.hid hc
 have HB := Lib.hid hb
 clear hl hc hb
 obtain ⟨i0, hi, hz0, hz1, hz2⟩ := info_parts Tryz.infoU32
 go_enter Tryz.func121, Tryz.ntmps121
 have hown : (w.alloc (.cells #[] 137)).ownsRow w.heap.size 137 1 (.slice (some ⟨w.heap.size, 0, none⟩) 0 0) 0 [] := World.ownsRow_made w #[] 0 (Nat.le_refl _) (by unfold maxLen; omega) rfl
 have hcw : ∀ j, j < l.length → (w.alloc (.cells #[] 137)).cell? ⟨b, off + j, none⟩ = some (.int .u32 ((l[j]?.getD 0 : Nat) : Int)) := fun j hj => by
  rw [World.cell?_alloc_past _ _ _ HB.out]; exact HC.out j hj
 have HN := Lib.hid (Rd.news hcw)
 have HO := Lib.hid hown
 clear hcw hown
 go_wp2_with (at_builtin; refine wpList_append_own _ rfl (.tmp 5) (.tmp 6) 22 rfl w.heap.size 137 i0 (.int .u32 0) 1 4 Tryz.underlying22 hi hz0 hz1 hz2 rfl (by decide) _ 0 [] rfl HO.out ⟨b, off, none⟩ l.length cap (uw l) rfl ?c1 HN.out (uw_oneCell l) ?c2 ?c3 ?c4 ?_)
 case c1 => simp [uw_length]
 case c2 => have := HL.out; unfold maxLen; omega
 case c3 => have := HL.out; omega
 case c4 => simp
 intro v' w1 hown' hgrow _
 go_wp2
 go_ret
 refine ⟨v', rfl, ?_, (((Below.refl _ _).alloc (Nat.le_refl _) _).grown hgrow (by simp) (fun k hk => by simp [Value.ownBlock] at hk; omega))⟩
 exact hown'
theorem clone_any (v : Value) (l : List Nat) (w : World) (hl : l.length * 4 ≤ 140737488355328) (h : Rd .u32 w v l) :
  Calls Tryz.prog 121 #[v] w (OwPost w l) := by
 rcases h with ⟨rfl, rfl⟩ | ⟨b, off, cap, rfl, hb, _, _, hc⟩
 ·exact (clone_nil w).mono fun _ _ ⟨he, hw⟩ => ⟨_, he, by rw [← hw]; exact World.ownsRow_nil _ _ _ _, by rw [← hw]; exact Below.refl _ _⟩
 ·exact clone_some b off cap l w hl hc hb
def IntV (w : World) (v : Value) (z : Int) : Prop := ∃ ad n c, v = .agg #[.bool (decide (z < 0)), .slice ad n c] ∧ Rd .u32 w (.slice ad n c) (digs 4294967296 z.natAbs)
def IntPost (w : World) (z : Int) (e : Ending) (w' : World) : Prop := ∃ v, e = .returned v ∧ IntV w' v z ∧ Below w.heap.size w w'
theorem IntV.keep {w w' : World} {v : Value} {z : Int} (h : IntV w v z) (hb : Below w.heap.size w w') : IntV w' v z := by
 obtain ⟨ad, n, c, rfl, hr⟩ := h
 exact ⟨ad, n, c, rfl, hr.keep hb⟩
def sg (b : Bool) (n : Nat) : Int := if b then -(n : Int) else n
theorem sg_natAbs (b : Bool) (n : Nat) : (sg b n).natAbs = n := by unfold sg; cases b <;> simp
theorem sg_neg (b : Bool) (n : Nat) (h : n ≠ 0) : decide (sg b n < 0) = b := by unfold sg; cases b <;> simp <;> omega
theorem IntV.zero (w : World) (b : Bool) (n : Nat) (h : n = 0) : IntV w (.agg #[.bool false, .slice none 0 0]) (sg b n) := by
 subst h
 refine ⟨_, _, _, ?_, .inl ⟨rfl, ?_⟩⟩
 ·unfold sg; cases b <;> rfl
 ·rw [sg_natAbs, digs_zero]
theorem trim_digs {l : List Nat} {k : Nat} (hl : ∀ x ∈ l, x < 4294967296) (h1 : k ≤ l.length) (h2 : ∀ j, k ≤ j → l[j]?.getD 0 = 0) (h3 : k = 0 ∨ l[k - 1]?.getD 0 ≠ 0) :
  l.take k = digs 4294967296 (vl 4294967296 l) := digs_trim (by decide) l k hl h1 h2 h3
set_option maxHeartbeats 400000 in
theorem own_nil (neg : Bool) (w : World) :
  Calls Tryz.prog 118 #[.bool neg, .slice none 0 0] w fun e w' => e = .returned (.agg #[.bool false, .slice none 0 0]) ∧ Below w.heap.size w w' := by
 go_enter Tryz.func118, Tryz.ntmps118
 go_wp2_with (go_at_call 163; refine (trim_nil _).mono ?_; rintro e w' ⟨rfl, rfl⟩)
 exact bodyPost_ret (v := .agg #[.bool false, .slice none 0 0]) (by simp [results, Tryz.results118, go_sem]) rfl ⟨rfl, (Below.refl _ _).alloc (Nat.le_refl _) _⟩
set_option maxHeartbeats 400000 in
theorem own_some (neg : Bool) (b off cap : Nat) (l : List Nat) (w : World) (hlc : l.length ≤ cap) (hcm : cap ≤ maxLen) (hb : b < w.heap.size)
  (hc : ∀ j, j < l.length → w.cell? ⟨b, off + j, none⟩ = some (.int .u32 ((l[j]?.getD 0 : Nat) : Int))) (hlt : ∀ x ∈ l, x < 4294967296) :
  Calls Tryz.prog 118 #[.bool neg, .slice (some ⟨b, off, none⟩) l.length cap] w (IntPost w (sg neg (vl 4294967296 l))) := by
 have HT : ∀ o : Obj, Calls Tryz.prog 163 #[.slice (some ⟨b, off, none⟩) l.length cap] (w.alloc o) (TrimPost b off cap l (w.alloc o)) := fun o =>
  trim_some b off cap l _ hlc hcm (fun j hj => by rw [World.cell?_alloc_past _ _ _ hb]; exact hc j hj)
 have H := Lib.hid HT
 have HC := Lib.hid hc
 clear HT hc
 go_enter Tryz.func118, Tryz.ntmps118
 go_wp2_with fail
 refine (H.out _).mono ?_
 rintro e w' ⟨k, rfl, h1, h2, h3, rfl⟩
 have ht := trim_digs hlt h1 h2 h3
 have HTD := Lib.hid ht
 have H2 := Lib.hid h2
 have H3 := Lib.hid h3
 have HLT := Lib.hid hlt
 clear ht h2 h3 hlt
 by_cases hk : k = 0
 ·subst hk
  go_wp2_with fail
  refine bodyPost_ret (v := .agg #[.bool false, .slice none 0 0]) (by simp [results, Tryz.results118, go_sem]) rfl ⟨_, rfl, IntV.zero _ _ _ ?_, (Below.refl _ _).alloc (Nat.le_refl _) _⟩
  rw [← vl_digs (b := 4294967296) (by decide) (vl 4294967296 l), ← HTD.out]
  rfl
 ·have hk0 : ((k : Int) == 0) = false := by rw [beq_eq_false_iff_ne]; omega
  go_wp2_with fail
  have hv0 : vl 4294967296 l ≠ 0 := by
   intro h0
   have h4 := HTD.out
   rw [h0, digs_zero] at h4
   have h5 : (l.take k).length = 0 := by rw [h4]; rfl
   rw [List.length_take] at h5
   omega
  refine bodyPost_ret (v := .agg #[.bool neg, .slice (some ⟨b, off, none⟩) k cap]) (by simp [results, Tryz.results118, go_sem]) rfl ⟨_, rfl, ⟨_, _, _, by rw [sg_neg _ _ hv0], ?_⟩, (Below.refl _ _).alloc (Nat.le_refl _) _⟩
  rw [sg_natAbs]
  exact Rd.take (l := l) hlc hcm (by simp; omega) (cells_alloc _ hb HC.out) h1 HTD.out
theorem own_any (neg : Bool) (v : Value) (l : List Nat) (w : World) (h : Rd .u32 w v l) (hlt : ∀ x ∈ l, x < 4294967296) :
  Calls Tryz.prog 118 #[.bool neg, v] w (IntPost w (sg neg (vl 4294967296 l))) := by
 rcases h with ⟨rfl, rfl⟩ | ⟨b, off, cap, rfl, hb, hlc, hcm, hc⟩
 ·exact (own_nil neg w).mono fun _ _ ⟨he, hw⟩ => ⟨_, he, IntV.zero _ _ _ rfl, hw⟩
 ·exact own_some neg b off cap l w hlc hcm hb hc hlt
set_option maxHeartbeats 400000 in
theorem make_any (neg : Bool) (v : Value) (l : List Nat) (w : World) (hl : l.length * 4 ≤ 140737488355328) (h : Rd .u32 w v l) (hlt : ∀ x ∈ l, x < 4294967296) :
  Calls Tryz.prog 74 #[.bool neg, v] w (IntPost w (sg neg (vl 4294967296 l))) := by
 have H := fun W hw => Lib.hid (clone_any v l W hl (h.keep hw))
 have H2 := fun v1 w1 h1 => Lib.hid (own_any neg v1 l w1 h1 hlt)
 clear hl h hlt
 go_enter Tryz.func74, Tryz.ntmps74
 go_wp2_with fail
 refine (H _ ((Below.refl _ _).alloc (Nat.le_refl _) _)).out.mono ?_
 rintro e w1 ⟨v1, rfl, ho, hb1⟩
 have hsz := hb1.size
 go_wp2_with fail
 refine (H2 _ _ ho.rd).out.mono ?_
 rintro e w2 ⟨v2, rfl, hv2, hb2⟩
 obtain ⟨ad, n, c, rfl, hr2⟩ := hv2
 have hB := hb1.trans (hb2.mono hsz)
 obtain ⟨c0, c1, f0, f1, hlt⟩ := box2 hB
 have HR := Lib.hid (hr2.store2 c0 c1 (by intro n h; cases h) (by intro n h; cases h))
 have HBB := Lib.hid hB
 clear hB hb1 hb2 hr2 ho
 go_wp2_with fail
 refine bodyPost_ret (v := .agg #[.bool (decide (sg neg (vl 4294967296 l) < 0)), .slice ad n c]) (by simp [results, Tryz.results74, go_sem, c0, c1]) rfl ⟨_, rfl, ⟨_, _, _, rfl, HR.out _ _⟩, ?_⟩
 exact ((((Below.refl _ _).alloc (Nat.le_refl _) _).trans (HBB.out.mono (by simp))).setCell (by simp) _).setCell (by simp) _
end
section
open Go.RowKit Digs
theorem Ow.headN {w : World} {base g cap n : Nat} {l d : List Nat} (h : Ow w base (.slice (some ⟨g, 0, none⟩) l.length cap) l) (hn : n ≤ l.length) (hd : l.take n = d) : Ow w base (.slice (some ⟨g, 0, none⟩) n cap) d := by
 subst hd
 have hlen : (l.take n).length = n := by rw [List.length_take]; omega
 obtain ⟨_, ⟨hv, _⟩ | ⟨g', cap', cur, hv, hb, hg, hc, hm, hs, ht⟩⟩ := h
 ·cases hv
 ·cases hv
  refine ⟨by simp [uw_length], .inr ⟨g, cap, cur, by rw [hlen], hb, hg, by omega, hm, hs, ?_⟩⟩
  rw [hlen, Nat.mul_one]
  rw [Nat.mul_one] at ht
  have h1 : (cur.toList.take l.length).take n = (uw l).take n := by rw [ht]
  rw [List.take_take, Nat.min_eq_left hn] at h1
  rw [h1]
  simp [uw]
theorem trim_ow {w : World} {base : Nat} {v : Value} {l : List Nat} (h : Ow w base v l) (hlt : ∀ x ∈ l, x < 4294967296) :
  Calls Tryz.prog 163 #[v] w fun e w' => (∃ v', e = .returned v' ∧ Ow w base v' (digs 4294967296 (vl 4294967296 l))) ∧ w = w' := by
 have hr := h.rd
 have h' := h
 rcases h.2 with ⟨rfl, hn⟩ | ⟨g, cap, cur, rfl, _, _, hc, hm, _⟩
 ·obtain rfl := List.eq_nil_of_length_eq_zero hn
  exact (trim_nil w).mono fun _ _ ⟨he, hw⟩ => ⟨⟨_, he, by rw [vl, digs_zero]; exact World.ownsRow_nil _ _ _ _⟩, hw⟩
 ·have hcells : ∀ j, j < l.length → w.cell? ⟨g, 0 + j, none⟩ = some (.int .u32 ((l[j]?.getD 0 : Nat) : Int)) := by
   rcases hr with ⟨hv, _⟩ | ⟨b, off, cap', hv, _, _, _, h4⟩
   ·cases hv
   ·cases hv; exact h4
  refine (trim_some g 0 cap l w hc hm hcells).mono ?_
  rintro e w' ⟨k, rfl, h1, h2, h3, rfl⟩
  exact ⟨⟨_, rfl, Ow.headN h' h1 (trim_digs hlt h1 h2 h3)⟩, rfl⟩
def AddRel (la lb : List Nat) (w : World) (v c i : Value) (wr : World) : Prop :=
 ∃ (k cy : Nat) (s : List Nat), k ≤ la.length ∧ i = .int .i64 k ∧ c = .int .u64 cy ∧ cy ≤ 1 ∧ s.length = k ∧ (∀ x ∈ s, x < 4294967296) ∧ Ow wr w.heap.size v s ∧
  vl 4294967296 s + 4294967296 ^ k * cy = vl 4294967296 (la.take k) + vl 4294967296 (lb.take k) ∧ Below w.heap.size w wr
set_option maxHeartbeats 1000000 in
set_option maxRecDepth 100000 in
theorem add_ge (ada adb : Option Addr) (ca cb : Nat) (la lb : List Nat) (w : World) (hlen : la.length ≤ 1000000) (hll : lb.length ≤ la.length) (hca : RdA .u32 w ada la) (hcb : RdA .u32 w adb lb)
  (hla : ∀ x ∈ la, x < 4294967296) (hlb : ∀ x ∈ lb, x < 4294967296) :
  Calls Tryz.prog 140 #[.slice ada la.length ca, .slice adb lb.length cb] w (OwPost w (digs 4294967296 (vl 4294967296 la + vl 4294967296 lb))) := by
 have HLA := Lib.hid hla
 have HLB := Lib.hid hlb
 have HCA := Lib.hid hca
 have HCB := Lib.hid hcb
 clear hla hlb hca hcb
 obtain ⟨i0, hi, hz0, hz1, hz2⟩ := info_parts Tryz.infoU32
 go_enter Tryz.func140, Tryz.ntmps140
 go_wp2_with (at_make; refine wpList_make_own _ rfl _ _ 22 rfl w.heap.size 137 i0 (.int .u32 0) 1 Tryz.underlying22 hi hz0 hz1 _ _ _ (la.length + 1) rfl rfl (by omega) ?b2 ?b3 (Nat.le_refl _) ?_)
 case b2 => rw [hz2]; omega
 case b3 => unfold maxLen; omega
 intro w0 hown0 hgrow0
 go_wp2
 go_loopw [5, 6, 22] (AddRel la lb w) (fun _ _ i _ => la.length - (intOf i).toNat)
 case atStart => exact ⟨0, 0, [], Nat.zero_le _, rfl, rfl, Nat.zero_le _, rfl, (by simp), hown0, rfl, (Below.refl _ _).grown hgrow0 (Nat.le_refl _) (fun k h => by cases h)⟩
 case round =>
  obtain ⟨k, cy, s, hk, rfl, rfl, hcy, hs, hsl, hown, hv, hnx⟩ := hrel
  have HS := Lib.hid hs
  have HSL := Lib.hid hsl
  have HV := Lib.hid hv
  have HO := Lib.hid hown
  have HNX := Lib.hid hnx
  clear hs hsl hv hown hnx
  by_cases hkl : k < la.length
  ·obtain ⟨ba, oa, rfl, hba, gx0⟩ := HCA.out k hkl
   have gx : wr.cell? ⟨ba, oa + k, none⟩ = some (.int .u32 ((la[k]?.getD 0 : Nat) : Int)) := (HNX.out.cell (p := ⟨ba, oa + k, none⟩) hba).trans gx0
   clear gx0
   obtain ⟨x, hx⟩ : ∃ x, x = la[k]?.getD 0 := ⟨_, rfl⟩
   rw [← hx] at gx
   have hxb : x < 4294967296 := by rw [hx, List.getElem?_eq_getElem hkl]; exact HLA.out _ (List.getElem_mem hkl)
   have HX := Lib.hid hx
   clear hx
   by_cases hkb : k < lb.length
   ·obtain ⟨bb, ob, rfl, hbb, gy0⟩ := HCB.out k hkb
    have gy : wr.cell? ⟨bb, ob + k, none⟩ = some (.int .u32 ((lb[k]?.getD 0 : Nat) : Int)) := (HNX.out.cell (p := ⟨bb, ob + k, none⟩) hbb).trans gy0
    clear gy0
    obtain ⟨y, hy⟩ : ∃ y, y = lb[k]?.getD 0 := ⟨_, rfl⟩
    rw [← hy] at gy
    have hyb : y < 4294967296 := by rw [hy, List.getElem?_eq_getElem hkb]; exact HLB.out _ (List.getElem_mem hkb)
    have HY := Lib.hid hy
    clear hy
    go_wp2_with (at_builtin; refine wpList_append_own _ rfl (.tmp 42) (.tmp 45) 22 rfl w.heap.size 137 i0 (.int .u32 0) 1 4 Tryz.underlying22 hi hz0 hz1 hz2 rfl (by decide) _ _ _ rfl (HO.out.alloc _) ⟨wr.heap.size, 0, none⟩ 1 1 (uw [(cy + x + y) % 4294967296]) rfl rfl ?c1 (uw_oneCell _) ?c2 ?c3 ?c4 ?_)
    case c1 => exact new_one _ _ _ _ (by omega)
    case c2 => have := HS.out; unfold maxLen; omega
    case c3 => have := HS.out; omega
    case c4 => have := HNX.out.size; simp; omega
    intro v' w1 hown1 hgrow _
    have HO1 := Lib.hid hown1
    have HG := Lib.hid hgrow
    clear hown1 hgrow
    go_wp2
    go_roundw
    case rel =>
     refine ⟨k + 1, (cy + x + y) / 4294967296, s ++ [(cy + x + y) % 4294967296], by omega, by go_num, by go_num, by omega, by rw [List.length_append, HS.out]; rfl, all_snoc HSL.out (Nat.mod_lt _ (by decide)), Ow.snoc HO1.out, ?_, ?_⟩
     ·exact add_step s cy x y _ _ _ _ HS.out HV.out (by rw [vl_take_succ _ _ _ hkl, HX.out]) (by rw [vl_take_succ _ _ _ hkb, HY.out])
     ·exact (HNX.out.alloc HNX.out.size _).grown HG.out (by have := HNX.out.size; simp; omega) (fun q hq => (HO.out.lt q hq).1)
    case measure => simp [intOf]; omega
   ·go_wp2_with (at_builtin; refine wpList_append_own _ rfl (.tmp 42) (.tmp 45) 22 rfl w.heap.size 137 i0 (.int .u32 0) 1 4 Tryz.underlying22 hi hz0 hz1 hz2 rfl (by decide) _ _ _ rfl (HO.out.alloc _) ⟨wr.heap.size, 0, none⟩ 1 1 (uw [(cy + x + 0) % 4294967296]) rfl rfl ?c1 (uw_oneCell _) ?c2 ?c3 ?c4 ?_)
    case c1 => exact new_one _ _ _ _ (by omega)
    case c2 => have := HS.out; unfold maxLen; omega
    case c3 => have := HS.out; omega
    case c4 => have := HNX.out.size; simp; omega
    intro v' w1 hown1 hgrow _
    have HO1 := Lib.hid hown1
    have HG := Lib.hid hgrow
    clear hown1 hgrow
    go_wp2
    go_roundw
    case rel =>
     refine ⟨k + 1, (cy + x + 0) / 4294967296, s ++ [(cy + x + 0) % 4294967296], by omega, by go_num, by go_num, by omega, by rw [List.length_append, HS.out]; rfl, all_snoc HSL.out (Nat.mod_lt _ (by decide)), Ow.snoc HO1.out, ?_, ?_⟩
     ·exact add_step s cy x 0 _ _ _ _ HS.out HV.out (by rw [vl_take_succ _ _ _ hkl, HX.out]) (by rw [vl_take_le _ _ _ (by omega), Nat.mul_zero, Nat.add_zero])
     ·exact (HNX.out.alloc HNX.out.size _).grown HG.out (by have := HNX.out.size; simp; omega) (fun q hq => (HO.out.lt q hq).1)
    case measure => simp [intOf]; omega
  ·obtain rfl : k = la.length := by omega
   go_wp2_with (at_builtin; refine wpList_append_own _ rfl (.tmp 50) (.tmp 53) 22 rfl w.heap.size 137 i0 (.int .u32 0) 1 4 Tryz.underlying22 hi hz0 hz1 hz2 rfl (by decide) _ _ _ rfl (HO.out.alloc _) ⟨wr.heap.size, 0, none⟩ 1 1 (uw [cy]) rfl rfl ?d1 (uw_oneCell _) ?d2 ?d3 ?d4 ?_)
   case d1 => exact new_one _ _ _ _ (by omega)
   case d2 => have := HS.out; unfold maxLen; omega
   case d3 => have := HS.out; omega
   case d4 => have := HNX.out.size; simp; omega
   intro v' w1 hown1 hgrow _
   have HO1 := Lib.hid (Ow.snoc hown1)
   have hb1 := (HNX.out.alloc HNX.out.size _).grown hgrow (by have := HNX.out.size; simp; omega) (fun q hq => (HO.out.lt q hq).1)
   have HB1 := Lib.hid hb1
   have HT := Lib.hid (trim_ow HO1.out (all_snoc HSL.out (by omega)))
   clear hown1 hgrow hb1
   go_wp2_with (go_at_call 163; refine HT.out.mono ?_; rintro e w' ⟨⟨v2, rfl, ho2⟩, rfl⟩)
   go_ret
   refine ⟨_, rfl, ?_, HB1.out⟩
   have e : vl 4294967296 (s ++ [cy]) = vl 4294967296 la + vl 4294967296 lb := by
    rw [vl_snoc, HS.out, HV.out, List.take_of_length_le (Nat.le_refl _), List.take_of_length_le hll]
   rw [e] at ho2
   exact ho2
set_option maxHeartbeats 1000000 in
set_option maxRecDepth 100000 in
theorem add_lt (ada adb : Option Addr) (ca cb : Nat) (la lb : List Nat) (w : World) (hlen : la.length ≤ 1000000) (hll : lb.length < la.length) (hca : RdA .u32 w ada la) (hcb : RdA .u32 w adb lb)
  (hla : ∀ x ∈ la, x < 4294967296) (hlb : ∀ x ∈ lb, x < 4294967296) :
  Calls Tryz.prog 140 #[.slice adb lb.length cb, .slice ada la.length ca] w (OwPost w (digs 4294967296 (vl 4294967296 la + vl 4294967296 lb))) := by
 have HLA := Lib.hid hla
 have HLB := Lib.hid hlb
 have HCA := Lib.hid hca
 have HCB := Lib.hid hcb
 clear hla hlb hca hcb
 obtain ⟨i0, hi, hz0, hz1, hz2⟩ := info_parts Tryz.infoU32
 go_enter Tryz.func140, Tryz.ntmps140
 go_wp2_with (at_make; refine wpList_make_own _ rfl _ _ 22 rfl w.heap.size 137 i0 (.int .u32 0) 1 Tryz.underlying22 hi hz0 hz1 _ _ _ (la.length + 1) rfl rfl (by omega) ?b2 ?b3 (Nat.le_refl _) ?_)
 case b2 => rw [hz2]; omega
 case b3 => unfold maxLen; omega
 intro w0 hown0 hgrow0
 go_wp2
 go_loopw [5, 6, 22] (AddRel la lb w) (fun _ _ i _ => la.length - (intOf i).toNat)
 case atStart => exact ⟨0, 0, [], Nat.zero_le _, rfl, rfl, Nat.zero_le _, rfl, (by simp), hown0, rfl, (Below.refl _ _).grown hgrow0 (Nat.le_refl _) (fun k h => by cases h)⟩
 case round =>
  obtain ⟨k, cy, s, hk, rfl, rfl, hcy, hs, hsl, hown, hv, hnx⟩ := hrel
  have HS := Lib.hid hs
  have HSL := Lib.hid hsl
  have HV := Lib.hid hv
  have HO := Lib.hid hown
  have HNX := Lib.hid hnx
  clear hs hsl hv hown hnx
  by_cases hkl : k < la.length
  ·obtain ⟨ba, oa, rfl, hba, gx0⟩ := HCA.out k hkl
   have gx : wr.cell? ⟨ba, oa + k, none⟩ = some (.int .u32 ((la[k]?.getD 0 : Nat) : Int)) := (HNX.out.cell (p := ⟨ba, oa + k, none⟩) hba).trans gx0
   clear gx0
   obtain ⟨x, hx⟩ : ∃ x, x = la[k]?.getD 0 := ⟨_, rfl⟩
   rw [← hx] at gx
   have hxb : x < 4294967296 := by rw [hx, List.getElem?_eq_getElem hkl]; exact HLA.out _ (List.getElem_mem hkl)
   have HX := Lib.hid hx
   clear hx
   by_cases hkb : k < lb.length
   ·obtain ⟨bb, ob, rfl, hbb, gy0⟩ := HCB.out k hkb
    have gy : wr.cell? ⟨bb, ob + k, none⟩ = some (.int .u32 ((lb[k]?.getD 0 : Nat) : Int)) := (HNX.out.cell (p := ⟨bb, ob + k, none⟩) hbb).trans gy0
    clear gy0
    obtain ⟨y, hy⟩ : ∃ y, y = lb[k]?.getD 0 := ⟨_, rfl⟩
    rw [← hy] at gy
    have hyb : y < 4294967296 := by rw [hy, List.getElem?_eq_getElem hkb]; exact HLB.out _ (List.getElem_mem hkb)
    have HY := Lib.hid hy
    clear hy
    go_wp2_with (at_builtin; refine wpList_append_own _ rfl (.tmp 42) (.tmp 45) 22 rfl w.heap.size 137 i0 (.int .u32 0) 1 4 Tryz.underlying22 hi hz0 hz1 hz2 rfl (by decide) _ _ _ rfl (HO.out.alloc _) ⟨wr.heap.size, 0, none⟩ 1 1 (uw [(cy + x + y) % 4294967296]) rfl rfl ?c1 (uw_oneCell _) ?c2 ?c3 ?c4 ?_)
    case c1 => exact new_one _ _ _ _ (by omega)
    case c2 => have := HS.out; unfold maxLen; omega
    case c3 => have := HS.out; omega
    case c4 => have := HNX.out.size; simp; omega
    intro v' w1 hown1 hgrow _
    have HO1 := Lib.hid hown1
    have HG := Lib.hid hgrow
    clear hown1 hgrow
    go_wp2
    go_roundw
    case rel =>
     refine ⟨k + 1, (cy + x + y) / 4294967296, s ++ [(cy + x + y) % 4294967296], by omega, by go_num, by go_num, by omega, by rw [List.length_append, HS.out]; rfl, all_snoc HSL.out (Nat.mod_lt _ (by decide)), Ow.snoc HO1.out, ?_, ?_⟩
     ·exact add_step s cy x y _ _ _ _ HS.out HV.out (by rw [vl_take_succ _ _ _ hkl, HX.out]) (by rw [vl_take_succ _ _ _ hkb, HY.out])
     ·exact (HNX.out.alloc HNX.out.size _).grown HG.out (by have := HNX.out.size; simp; omega) (fun q hq => (HO.out.lt q hq).1)
    case measure => simp [intOf]; omega
   ·go_wp2_with (at_builtin; refine wpList_append_own _ rfl (.tmp 42) (.tmp 45) 22 rfl w.heap.size 137 i0 (.int .u32 0) 1 4 Tryz.underlying22 hi hz0 hz1 hz2 rfl (by decide) _ _ _ rfl (HO.out.alloc _) ⟨wr.heap.size, 0, none⟩ 1 1 (uw [(cy + x + 0) % 4294967296]) rfl rfl ?c1 (uw_oneCell _) ?c2 ?c3 ?c4 ?_)
    case c1 => exact new_one _ _ _ _ (by omega)
    case c2 => have := HS.out; unfold maxLen; omega
    case c3 => have := HS.out; omega
    case c4 => have := HNX.out.size; simp; omega
    intro v' w1 hown1 hgrow _
    have HO1 := Lib.hid hown1
    have HG := Lib.hid hgrow
    clear hown1 hgrow
    go_wp2
    go_roundw
    case rel =>
     refine ⟨k + 1, (cy + x + 0) / 4294967296, s ++ [(cy + x + 0) % 4294967296], by omega, by go_num, by go_num, by omega, by rw [List.length_append, HS.out]; rfl, all_snoc HSL.out (Nat.mod_lt _ (by decide)), Ow.snoc HO1.out, ?_, ?_⟩
     ·exact add_step s cy x 0 _ _ _ _ HS.out HV.out (by rw [vl_take_succ _ _ _ hkl, HX.out]) (by rw [vl_take_le _ _ _ (by omega), Nat.mul_zero, Nat.add_zero])
     ·exact (HNX.out.alloc HNX.out.size _).grown HG.out (by have := HNX.out.size; simp; omega) (fun q hq => (HO.out.lt q hq).1)
    case measure => simp [intOf]; omega
  ·obtain rfl : k = la.length := by omega
   go_wp2_with (at_builtin; refine wpList_append_own _ rfl (.tmp 50) (.tmp 53) 22 rfl w.heap.size 137 i0 (.int .u32 0) 1 4 Tryz.underlying22 hi hz0 hz1 hz2 rfl (by decide) _ _ _ rfl (HO.out.alloc _) ⟨wr.heap.size, 0, none⟩ 1 1 (uw [cy]) rfl rfl ?d1 (uw_oneCell _) ?d2 ?d3 ?d4 ?_)
   case d1 => exact new_one _ _ _ _ (by omega)
   case d2 => have := HS.out; unfold maxLen; omega
   case d3 => have := HS.out; omega
   case d4 => have := HNX.out.size; simp; omega
   intro v' w1 hown1 hgrow _
   have HO1 := Lib.hid (Ow.snoc hown1)
   have hb1 := (HNX.out.alloc HNX.out.size _).grown hgrow (by have := HNX.out.size; simp; omega) (fun q hq => (HO.out.lt q hq).1)
   have HB1 := Lib.hid hb1
   have HT := Lib.hid (trim_ow HO1.out (all_snoc HSL.out (by omega)))
   clear hown1 hgrow hb1
   go_wp2_with (go_at_call 163; refine HT.out.mono ?_; rintro e w' ⟨⟨v2, rfl, ho2⟩, rfl⟩)
   go_ret
   refine ⟨_, rfl, ?_, HB1.out⟩
   have e : vl 4294967296 (s ++ [cy]) = vl 4294967296 la + vl 4294967296 lb := by
    rw [vl_snoc, HS.out, HV.out, List.take_of_length_le (Nat.le_refl _), List.take_of_length_le (Nat.le_of_lt hll)]
   rw [e] at ho2
   exact ho2
theorem add_any (m n : Nat) (va vb : Value) (w : World) (hm : (digs 4294967296 m).length ≤ 1000000) (hn : (digs 4294967296 n).length ≤ 1000000) (ha : Rd .u32 w va (digs 4294967296 m)) (hb : Rd .u32 w vb (digs 4294967296 n)) :
  Calls Tryz.prog 140 #[va, vb] w (OwPost w (digs 4294967296 (m + n))) := by
 obtain ⟨ada, ca, rfl, ra⟩ := ha.opt
 obtain ⟨adb, cb, rfl, rb⟩ := hb.opt
 have lm := digs_lt (b := 4294967296) (by decide) m
 have ln := digs_lt (b := 4294967296) (by decide) n
 rcases Nat.lt_or_ge (digs 4294967296 m).length (digs 4294967296 n).length with h | h
 ·have := add_lt adb ada cb ca _ _ w hn h rb ra ln lm
  rw [vl_digs (by decide), vl_digs (by decide), Nat.add_comm] at this
  exact this
 ·have := add_ge ada adb ca cb _ _ w hm h ra rb lm ln
  rw [vl_digs (by decide), vl_digs (by decide)] at this
  exact this
end
section
open Go.RowKit Digs
def SubRel (la lb : List Nat) (w : World) (v c i : Value) (wr : World) : Prop :=
 ∃ (k r : Nat) (s : List Nat), k ≤ la.length ∧ i = .int .i64 k ∧ c = .int .u64 r ∧ r ≤ 1 ∧ s.length = k ∧ (∀ x ∈ s, x < 4294967296) ∧ Ow wr w.heap.size v s ∧
  vl 4294967296 (la.take k) + 4294967296 ^ k * r = vl 4294967296 s + vl 4294967296 (lb.take k) ∧ Below w.heap.size w wr
set_option maxHeartbeats 1000000 in
set_option maxRecDepth 100000 in
theorem sub_core (ada adb : Option Addr) (ca cb : Nat) (la lb : List Nat) (w : World) (hlen : la.length ≤ 1000000) (hll : lb.length ≤ la.length) (hca : RdA .u32 w ada la) (hcb : RdA .u32 w adb lb)
  (hla : ∀ x ∈ la, x < 4294967296) (hlb : ∀ x ∈ lb, x < 4294967296) (hge : vl 4294967296 lb ≤ vl 4294967296 la) :
  Calls Tryz.prog 141 #[.slice ada la.length ca, .slice adb lb.length cb] w (OwPost w (digs 4294967296 (vl 4294967296 la - vl 4294967296 lb))) := by
 have HLA := Lib.hid hla
 have HLB := Lib.hid hlb
 have HCA := Lib.hid hca
 have HCB := Lib.hid hcb
 have HGE := Lib.hid hge
 clear hla hlb hca hcb hge
 obtain ⟨i0, hi, hz0, hz1, hz2⟩ := info_parts Tryz.infoU32
 go_enter Tryz.func141, Tryz.ntmps141
 go_wp2_with (at_make; refine wpList_make_own _ rfl _ _ 22 rfl w.heap.size 137 i0 (.int .u32 0) 1 Tryz.underlying22 hi hz0 hz1 _ _ _ la.length rfl rfl (by omega) ?b2 ?b3 (Nat.le_refl _) ?_)
 case b2 => rw [hz2]; omega
 case b3 => unfold maxLen; omega
 intro w0 hown0 hgrow0
 go_wp2
 go_loopw [5, 6, 15] (SubRel la lb w) (fun _ _ i _ => la.length - (intOf i).toNat)
 case atStart => exact ⟨0, 0, [], Nat.zero_le _, rfl, rfl, Nat.zero_le _, rfl, (by simp), hown0, rfl, (Below.refl _ _).grown hgrow0 (Nat.le_refl _) (fun k h => by cases h)⟩
 case round =>
  obtain ⟨k, r, s, hk, rfl, rfl, hr, hs, hsl, hown, hv, hnx⟩ := hrel
  have HS := Lib.hid hs
  have HSL := Lib.hid hsl
  have HV := Lib.hid hv
  have HO := Lib.hid hown
  have HNX := Lib.hid hnx
  clear hs hsl hv hown hnx
  by_cases hkl : k < la.length
  ·obtain ⟨ba, oa, rfl, hba, gx0⟩ := HCA.out k hkl
   have gx : wr.cell? ⟨ba, oa + k, none⟩ = some (.int .u32 ((la[k]?.getD 0 : Nat) : Int)) := (HNX.out.cell (p := ⟨ba, oa + k, none⟩) hba).trans gx0
   clear gx0
   obtain ⟨x, hx⟩ : ∃ x, x = la[k]?.getD 0 := ⟨_, rfl⟩
   rw [← hx] at gx
   have hxb : x < 4294967296 := by rw [hx, List.getElem?_eq_getElem hkl]; exact HLA.out _ (List.getElem_mem hkl)
   have HX := Lib.hid hx
   clear hx
   by_cases hkb : k < lb.length
   ·obtain ⟨bb, ob, rfl, hbb, gy0⟩ := HCB.out k hkb
    have gy : wr.cell? ⟨bb, ob + k, none⟩ = some (.int .u32 ((lb[k]?.getD 0 : Nat) : Int)) := (HNX.out.cell (p := ⟨bb, ob + k, none⟩) hbb).trans gy0
    clear gy0
    obtain ⟨y, hy⟩ : ∃ y, y = lb[k]?.getD 0 := ⟨_, rfl⟩
    rw [← hy] at gy
    have hyb : y < 4294967296 := by rw [hy, List.getElem?_eq_getElem hkb]; exact HLB.out _ (List.getElem_mem hkb)
    have HY := Lib.hid hy
    clear hy
    rcases (show y + r ≤ x ∨ x < r ∨ (r ≤ x ∧ x < y + r) by omega) with h | h | h
    ·have HD : Hid (x + 4294967296 * 0 = (x - r - y) + y + r) := by show _ = _; omega
     have hdb : x - r - y < 4294967296 := by omega
     go_wp2_with (at_builtin; refine wpList_append_own _ rfl (.tmp 35) (.tmp 38) 22 rfl w.heap.size 137 i0 (.int .u32 0) 1 4 Tryz.underlying22 hi hz0 hz1 hz2 rfl (by decide) _ _ _ rfl (HO.out.alloc _) ⟨wr.heap.size, 0, none⟩ 1 1 (uw [x - r - y]) rfl rfl ?c1 (uw_oneCell _) ?c2 ?c3 ?c4 ?_)
     case c1 => exact new_one _ _ _ _ (by first | omega | (simp only [IntKind.wrap_u64]; omega))
     case c2 => have := HS.out; unfold maxLen; omega
     case c3 => have := HS.out; omega
     case c4 => have := HNX.out.size; simp; omega
     intro v' w1 hown1 hgrow _
     have HO1 := Lib.hid hown1
     have HG := Lib.hid hgrow
     clear hown1 hgrow
     go_wp2
     go_roundw
     case rel =>
      refine ⟨k + 1, 0, s ++ [x - r - y], by omega, by go_num, (by refine congrArg (Value.int .u64) ?_; first | omega | (simp only [IntKind.wrap_u64]; omega)), by omega, by rw [List.length_append, HS.out]; rfl, all_snoc HSL.out hdb, Ow.snoc HO1.out, ?_, ?_⟩
      ·exact sub_step s r x y (x - r - y) 0 _ _ _ _ HS.out HV.out (by rw [vl_take_succ _ _ _ hkl, HX.out]) (by rw [vl_take_succ _ _ _ hkb, HY.out]) HD.out
      ·exact (HNX.out.alloc HNX.out.size _).grown HG.out (by have := HNX.out.size; simp; omega) (fun q hq => (HO.out.lt q hq).1)
     case measure => simp [intOf]; omega
    ·have HD : Hid (x + 4294967296 * 1 = (x + 4294967296 - r - y) + y + r) := by show _ = _; omega
     have hdb : x + 4294967296 - r - y < 4294967296 := by omega
     go_wp2_with (at_builtin; refine wpList_append_own _ rfl (.tmp 35) (.tmp 38) 22 rfl w.heap.size 137 i0 (.int .u32 0) 1 4 Tryz.underlying22 hi hz0 hz1 hz2 rfl (by decide) _ _ _ rfl (HO.out.alloc _) ⟨wr.heap.size, 0, none⟩ 1 1 (uw [x + 4294967296 - r - y]) rfl rfl ?c1 (uw_oneCell _) ?c2 ?c3 ?c4 ?_)
     case c1 => exact new_one _ _ _ _ (by first | omega | (simp only [IntKind.wrap_u64]; omega))
     case c2 => have := HS.out; unfold maxLen; omega
     case c3 => have := HS.out; omega
     case c4 => have := HNX.out.size; simp; omega
     intro v' w1 hown1 hgrow _
     have HO1 := Lib.hid hown1
     have HG := Lib.hid hgrow
     clear hown1 hgrow
     go_wp2
     go_roundw
     case rel =>
      refine ⟨k + 1, 1, s ++ [x + 4294967296 - r - y], by omega, by go_num, (by refine congrArg (Value.int .u64) ?_; first | omega | (simp only [IntKind.wrap_u64]; omega)), by omega, by rw [List.length_append, HS.out]; rfl, all_snoc HSL.out hdb, Ow.snoc HO1.out, ?_, ?_⟩
      ·exact sub_step s r x y (x + 4294967296 - r - y) 1 _ _ _ _ HS.out HV.out (by rw [vl_take_succ _ _ _ hkl, HX.out]) (by rw [vl_take_succ _ _ _ hkb, HY.out]) HD.out
      ·exact (HNX.out.alloc HNX.out.size _).grown HG.out (by have := HNX.out.size; simp; omega) (fun q hq => (HO.out.lt q hq).1)
     case measure => simp [intOf]; omega
    ·have HD : Hid (x + 4294967296 * 1 = (x + 4294967296 - r - y) + y + r) := by show _ = _; omega
     have hdb : x + 4294967296 - r - y < 4294967296 := by omega
     go_wp2_with (at_builtin; refine wpList_append_own _ rfl (.tmp 35) (.tmp 38) 22 rfl w.heap.size 137 i0 (.int .u32 0) 1 4 Tryz.underlying22 hi hz0 hz1 hz2 rfl (by decide) _ _ _ rfl (HO.out.alloc _) ⟨wr.heap.size, 0, none⟩ 1 1 (uw [x + 4294967296 - r - y]) rfl rfl ?c1 (uw_oneCell _) ?c2 ?c3 ?c4 ?_)
     case c1 => exact new_one _ _ _ _ (by first | omega | (simp only [IntKind.wrap_u64]; omega))
     case c2 => have := HS.out; unfold maxLen; omega
     case c3 => have := HS.out; omega
     case c4 => have := HNX.out.size; simp; omega
     intro v' w1 hown1 hgrow _
     have HO1 := Lib.hid hown1
     have HG := Lib.hid hgrow
     clear hown1 hgrow
     go_wp2
     go_roundw
     case rel =>
      refine ⟨k + 1, 1, s ++ [x + 4294967296 - r - y], by omega, by go_num, (by refine congrArg (Value.int .u64) ?_; first | omega | (simp only [IntKind.wrap_u64]; omega)), by omega, by rw [List.length_append, HS.out]; rfl, all_snoc HSL.out hdb, Ow.snoc HO1.out, ?_, ?_⟩
      ·exact sub_step s r x y (x + 4294967296 - r - y) 1 _ _ _ _ HS.out HV.out (by rw [vl_take_succ _ _ _ hkl, HX.out]) (by rw [vl_take_succ _ _ _ hkb, HY.out]) HD.out
      ·exact (HNX.out.alloc HNX.out.size _).grown HG.out (by have := HNX.out.size; simp; omega) (fun q hq => (HO.out.lt q hq).1)
     case measure => simp [intOf]; omega
   ·rcases (show r ≤ x ∨ x < r by omega) with h | h
    ·have HD : Hid (x + 4294967296 * 0 = (x - r) + 0 + r) := by show _ = _; omega
     have hdb : x - r < 4294967296 := by omega
     go_wp2_with (at_builtin; refine wpList_append_own _ rfl (.tmp 35) (.tmp 38) 22 rfl w.heap.size 137 i0 (.int .u32 0) 1 4 Tryz.underlying22 hi hz0 hz1 hz2 rfl (by decide) _ _ _ rfl (HO.out.alloc _) ⟨wr.heap.size, 0, none⟩ 1 1 (uw [x - r]) rfl rfl ?c1 (uw_oneCell _) ?c2 ?c3 ?c4 ?_)
     case c1 => exact new_one _ _ _ _ (by first | omega | (simp only [IntKind.wrap_u64]; omega))
     case c2 => have := HS.out; unfold maxLen; omega
     case c3 => have := HS.out; omega
     case c4 => have := HNX.out.size; simp; omega
     intro v' w1 hown1 hgrow _
     have HO1 := Lib.hid hown1
     have HG := Lib.hid hgrow
     clear hown1 hgrow
     go_wp2
     go_roundw
     case rel =>
      refine ⟨k + 1, 0, s ++ [x - r], by omega, by go_num, (by refine congrArg (Value.int .u64) ?_; first | omega | (simp only [IntKind.wrap_u64]; omega)), by omega, by rw [List.length_append, HS.out]; rfl, all_snoc HSL.out hdb, Ow.snoc HO1.out, ?_, ?_⟩
      ·exact sub_step s r x 0 (x - r) 0 _ _ _ _ HS.out HV.out (by rw [vl_take_succ _ _ _ hkl, HX.out]) (by rw [vl_take_le _ _ _ (by omega), Nat.mul_zero, Nat.add_zero]) HD.out
      ·exact (HNX.out.alloc HNX.out.size _).grown HG.out (by have := HNX.out.size; simp; omega) (fun q hq => (HO.out.lt q hq).1)
     case measure => simp [intOf]; omega
    ·have HD : Hid (x + 4294967296 * 1 = (x + 4294967296 - r) + 0 + r) := by show _ = _; omega
     have hdb : x + 4294967296 - r < 4294967296 := by omega
     go_wp2_with (at_builtin; refine wpList_append_own _ rfl (.tmp 35) (.tmp 38) 22 rfl w.heap.size 137 i0 (.int .u32 0) 1 4 Tryz.underlying22 hi hz0 hz1 hz2 rfl (by decide) _ _ _ rfl (HO.out.alloc _) ⟨wr.heap.size, 0, none⟩ 1 1 (uw [x + 4294967296 - r]) rfl rfl ?c1 (uw_oneCell _) ?c2 ?c3 ?c4 ?_)
     case c1 => exact new_one _ _ _ _ (by first | omega | (simp only [IntKind.wrap_u64]; omega))
     case c2 => have := HS.out; unfold maxLen; omega
     case c3 => have := HS.out; omega
     case c4 => have := HNX.out.size; simp; omega
     intro v' w1 hown1 hgrow _
     have HO1 := Lib.hid hown1
     have HG := Lib.hid hgrow
     clear hown1 hgrow
     go_wp2
     go_roundw
     case rel =>
      refine ⟨k + 1, 1, s ++ [x + 4294967296 - r], by omega, by go_num, (by refine congrArg (Value.int .u64) ?_; first | omega | (simp only [IntKind.wrap_u64]; omega)), by omega, by rw [List.length_append, HS.out]; rfl, all_snoc HSL.out hdb, Ow.snoc HO1.out, ?_, ?_⟩
      ·exact sub_step s r x 0 (x + 4294967296 - r) 1 _ _ _ _ HS.out HV.out (by rw [vl_take_succ _ _ _ hkl, HX.out]) (by rw [vl_take_le _ _ _ (by omega), Nat.mul_zero, Nat.add_zero]) HD.out
      ·exact (HNX.out.alloc HNX.out.size _).grown HG.out (by have := HNX.out.size; simp; omega) (fun q hq => (HO.out.lt q hq).1)
     case measure => simp [intOf]; omega
  ·obtain rfl : k = la.length := by omega
   have hlast := HV.out
   rw [List.take_of_length_le (Nat.le_refl _), List.take_of_length_le hll] at hlast
   have hvs := vl_lt s HSL.out
   rw [HS.out] at hvs
   have hge := HGE.out
   have e : vl 4294967296 s = vl 4294967296 la - vl 4294967296 lb := by
    rcases (show r = 0 ∨ r = 1 by omega) with rfl | rfl
    ·omega
    ·omega
   have HE := Lib.hid e
   have HT := Lib.hid (trim_ow HO.out HSL.out)
   clear hlast hvs hge e
   go_wp2_with (go_at_call 163; refine HT.out.mono ?_; rintro e w' ⟨⟨v2, rfl, ho2⟩, rfl⟩)
   go_ret
   refine ⟨_, rfl, ?_, HNX.out⟩
   rw [HE.out] at ho2
   exact ho2
theorem sub_any (m n : Nat) (va vb : Value) (w : World) (hm : (digs 4294967296 m).length ≤ 1000000) (hmn : n ≤ m) (ha : Rd .u32 w va (digs 4294967296 m)) (hb : Rd .u32 w vb (digs 4294967296 n)) :
  Calls Tryz.prog 141 #[va, vb] w (OwPost w (digs 4294967296 (m - n))) := by
 obtain ⟨ada, ca, rfl, ra⟩ := ha.opt
 obtain ⟨adb, cb, rfl, rb⟩ := hb.opt
 have := sub_core ada adb ca cb _ _ w hm (digs_length_mono (by decide) hmn) ra rb (digs_lt (by decide) m) (digs_lt (by decide) n) (by rw [vl_digs (by decide), vl_digs (by decide)]; exact hmn)
 rw [vl_digs (by decide), vl_digs (by decide)] at this
 exact this
end
section
open Go.RowKit Digs
def Row (w : World) (base g N : Nat) (p : List Nat) : Prop := p.length = N ∧ w.ownsRow base 137 1 (.slice (some ⟨g, 0, none⟩) N N) N (uw p)
theorem Row.cell {w : World} {base g N : Nat} {p : List Nat} (h : Row w base g N p) (j : Nat) (hj : j < N) : w.cell? ⟨g, j, none⟩ = some (.int .u32 ((p[j]?.getD 0 : Nat) : Int)) := by
 rw [h.2.cellAt j (by omega), uw_getElem? _ _ (by rw [h.1]; exact hj)]
theorem Row.frozen {w : World} {base g N : Nat} {p : List Nat} (h : Row w base g N p) (j : Nat) : w.frozen? ⟨g, j, none⟩ = false := h.2.frozenAt j
theorem uw_set (p : List Nat) (j x : Nat) : uw (p.set j x) = (uw p).set j (.int .u32 (x : Int)) := by unfold uw; rw [List.map_set]
theorem Row.store {w : World} {base g N : Nat} {p : List Nat} (h : Row w base g N p) (j x : Nat) (z : Int) (hz : z = x) : Row (w.setCell ⟨g, j, none⟩ (.int .u32 z)) base g N (p.set j x) := by
 subst hz
 exact ⟨by rw [List.length_set, h.1], by rw [uw_set]; exact (h.2.stored j _).1⟩
theorem Row.ow {w : World} {base g N : Nat} {p : List Nat} (h : Row w base g N p) : Ow w base (.slice (some ⟨g, 0, none⟩) N N) p := by
 unfold Ow; rw [h.1]; exact h.2
theorem Row.lt {w : World} {base g N : Nat} {p : List Nat} (h : Row w base g N p) : base ≤ g ∧ g < w.heap.size := h.2.lt g rfl
theorem uw_zeros (n : Nat) : (madeCells #[Value.int .u32 0] n).toList = uw (List.replicate n 0) := by
 rw [toList_madeCells_one]; simp [uw]
theorem all_set {b : Nat} {p : List Nat} {j x : Nat} (h : ∀ y ∈ p, y < b) (hx : x < b) : ∀ y ∈ p.set j x, y < b := by
 intro y hy
 rcases List.mem_or_eq_of_mem_set hy with h1 | h1
 ·exact h y h1
 ·rw [h1]; exact hx
theorem getD_set_ne (p : List Nat) (i j x : Nat) (h : i ≠ j) : (p.set i x)[j]?.getD 0 = p[j]?.getD 0 := by rw [List.getElem?_set_ne h]
def MulRel (la lb : List Nat) (w : World) (N : Nat) (i : Value) (wr : World) : Prop :=
 ∃ (k : Nat) (p : List Nat), k ≤ la.length ∧ i = .int .i64 k ∧ Row wr w.heap.size w.heap.size N p ∧ (∀ x ∈ p, x < 4294967296) ∧
  vl 4294967296 p = vl 4294967296 (la.take k) * vl 4294967296 lb ∧ (∀ j, k + lb.length ≤ j → p[j]?.getD 0 = 0) ∧ Below w.heap.size w wr
def MulRow (lb : List Nat) (w : World) (N k x V : Nat) (c i : Value) (wr : World) : Prop :=
 ∃ (q cy : Nat) (p : List Nat), q ≤ lb.length ∧ i = .int .i64 q ∧ c = .int .u64 cy ∧ cy < 4294967296 ∧ Row wr w.heap.size w.heap.size N p ∧ (∀ x ∈ p, x < 4294967296) ∧
  vl 4294967296 p + 4294967296 ^ (k + q) * cy = V + 4294967296 ^ k * (x * vl 4294967296 (lb.take q)) ∧ (∀ j, k + lb.length ≤ j → p[j]?.getD 0 = 0) ∧ Below w.heap.size w wr
set_option maxHeartbeats 2000000 in
set_option maxRecDepth 100000 in
theorem mul_core (ada adb : Option Addr) (ca cb : Nat) (la lb : List Nat) (w : World) (hlen : la.length ≤ 1000000) (hlenb : lb.length ≤ 1000000) (hca : RdA .u32 w ada la) (hcb : RdA .u32 w adb lb)
  (hla : ∀ x ∈ la, x < 4294967296) (hlb : ∀ x ∈ lb, x < 4294967296) :
  Calls Tryz.prog 125 #[.slice ada la.length ca, .slice adb lb.length cb] w (OwPost w (digs 4294967296 (vl 4294967296 la * vl 4294967296 lb))) := by
 have HLA := Lib.hid hla
 have HLB := Lib.hid hlb
 have HCA := Lib.hid hca
 have HCB := Lib.hid hcb
 clear hla hlb hca hcb
 obtain ⟨i0, hi, hz0, hz1, hz2⟩ := info_parts Tryz.infoU32
 go_enter Tryz.func125, Tryz.ntmps125
 go_wp2_with (at_make; refine wpList_make_full _ rfl _ _ 22 rfl w.heap.size 137 i0 (.int .u32 0) 1 Tryz.underlying22 hi hz0 hz1 _ _ _ _ (la.length + lb.length) rfl rfl (by omega) (by omega) ?b2 ?b3 (Nat.le_refl _) ?_)
 case b2 => rw [hz2]; omega
 case b3 => unfold maxLen; omega
 intro w0 hown0 hgrow0
 have hrow0 : Row w0 w.heap.size w.heap.size (la.length + lb.length) (List.replicate (la.length + lb.length) 0) := by
  refine ⟨by simp, ?_⟩
  rw [uw_zeros] at hown0
  exact hown0
 have HB0 := Lib.hid ((Below.refl w.heap.size w).grown hgrow0 (Nat.le_refl _) (fun k h => by cases h))
 have HR0 := Lib.hid hrow0
 clear hown0 hgrow0 hrow0
 go_wp2
 go_loopw [20] (MulRel la lb w (la.length + lb.length)) (fun i _ => la.length - (intOf i).toNat)
 case atStart => exact ⟨0, _, Nat.zero_le _, rfl, HR0.out, (by intro x hx; rw [List.eq_of_mem_replicate hx]; decide), by rw [vl_replicate_zero]; simp [vl], fun j _ => by rw [List.getElem?_replicate]; split <;> rfl, HB0.out⟩
 case round =>
  obtain ⟨k, p, hk, rfl, hrow, hpl, hv, hz, hnx⟩ := hrel
  have HROW := Lib.hid hrow
  have HPL := Lib.hid hpl
  have HV := Lib.hid hv
  have HZ := Lib.hid hz
  have HNX := Lib.hid hnx
  clear hrow hpl hv hz hnx
  by_cases hkl : k < la.length
  ·obtain ⟨ba, oa, rfl, hba, gx0⟩ := HCA.out k hkl
   have gx : wr.cell? ⟨ba, oa + k, none⟩ = some (.int .u32 ((la[k]?.getD 0 : Nat) : Int)) := (HNX.out.cell (p := ⟨ba, oa + k, none⟩) hba).trans gx0
   clear gx0
   obtain ⟨x, hx⟩ : ∃ x, x = la[k]?.getD 0 := ⟨_, rfl⟩
   rw [← hx] at gx
   have hxb : x < 4294967296 := by rw [hx, List.getElem?_eq_getElem hkl]; exact HLA.out _ (List.getElem_mem hkl)
   have HX := Lib.hid hx
   clear hx
   by_cases hx0 : x = 0
   ·have hxz : ((x : Int) == 0) = true := by rw [beq_iff_eq]; omega
    have HX0 := Lib.hid hx0
    clear hx0
    go_wp2
    go_roundw
    case rel =>
     refine ⟨k + 1, p, by omega, by go_num, HROW.out, HPL.out, ?_, fun j hj => HZ.out j (by omega), HNX.out⟩
     rw [vl_take_succ _ _ _ hkl, ← HX.out, HX0.out, Nat.mul_zero, Nat.add_zero]
     exact HV.out
    case measure => simp [intOf]; omega
   ·have hxz : ((x : Int) == 0) = false := by rw [beq_eq_false_iff_ne]; omega
    have hp2 : k + lb.length < la.length + lb.length := by omega
    go_wp2
    obtain ⟨wo, hwo⟩ : ∃ wo : World, wo = wr := ⟨_, rfl⟩
    have HWO := Lib.hid hwo
    clear hwo
    go_loopw [8, 32] (MulRow lb w (la.length + lb.length) k x (vl 4294967296 p)) (fun _ i _ => lb.length - (intOf i).toNat)
    case atStart => exact ⟨0, 0, p, Nat.zero_le _, rfl, rfl, by omega, HROW.out, HPL.out, by simp [vl], HZ.out, HNX.out⟩
    case round =>
     obtain ⟨q, cy, p1, hq, rfl, rfl, hcy, hrow, hpl, hv, hz, hnx⟩ := hrel
     have HROW1 := Lib.hid hrow
     have HPL1 := Lib.hid hpl
     have HV1 := Lib.hid hv
     have HZ1 := Lib.hid hz
     have HNX1 := Lib.hid hnx
     clear hrow hpl hv hz hnx
     by_cases hql : q < lb.length
     ·obtain ⟨bb, ob, rfl, hbb, gy0⟩ := HCB.out q hql
      have gy : wr.cell? ⟨bb, ob + q, none⟩ = some (.int .u32 ((lb[q]?.getD 0 : Nat) : Int)) := (HNX1.out.cell (p := ⟨bb, ob + q, none⟩) hbb).trans gy0
      clear gy0 gx
      obtain ⟨y, hy⟩ : ∃ y, y = lb[q]?.getD 0 := ⟨_, rfl⟩
      rw [← hy] at gy
      have hyb : y < 4294967296 := by rw [hy, List.getElem?_eq_getElem hql]; exact HLB.out _ (List.getElem_mem hql)
      have HY := Lib.hid hy
      clear hy
      have gz := HROW1.out.cell (k + q) (by omega)
      have gf := HROW1.out.frozen (k + q)
      obtain ⟨z, hz⟩ : ∃ z, z = p1[k + q]?.getD 0 := ⟨_, rfl⟩
      rw [← hz] at gz
      have hkq : k + q < p1.length := by rw [HROW1.out.1]; omega
      have hzb : z < 4294967296 := by rw [hz, List.getElem?_eq_getElem hkq]; exact HPL1.out _ (List.getElem_mem hkq)
      have HZZ := Lib.hid hz
      clear hz
      have hb1 := carry_lt (b := 4294967296) (by decide) hxb hyb hcy hzb
      have hxy0 : (0 : Int) ≤ (x : Int) * (y : Int) := Int.mul_nonneg (by omega) (by omega)
      have hb2 : (cy : Int) + (x : Int) * (y : Int) + (z : Int) < 18446744073709551616 := by
       have h3 : ((cy + x * y + z : Nat) : Int) < ((4294967296 * 4294967296 : Nat) : Int) := Int.ofNat_lt.2 hb1
       simpa using h3
      have HB1 := Lib.hid hb1
      clear hb1
      go_wp2
      go_roundw
      case rel =>
       refine ⟨q + 1, (cy + x * y + z) / 4294967296, p1.set (k + q) ((cy + x * y + z) % 4294967296), by omega, by go_num, ?_, ?_, HROW1.out.store _ _ _ ?_, all_set HPL1.out (Nat.mod_lt _ (by decide)), ?_, ?_, ?_⟩
       ·refine congrArg (Value.int .u64) ?_
        rw [Int.natCast_ediv, Int.natCast_add, Int.natCast_add, Int.natCast_mul]
        congr 1
        omega
       ·rw [Nat.div_lt_iff_lt_mul (by decide)]; exact HB1.out
       ·rw [Int.natCast_emod, Int.natCast_add, Int.natCast_add, Int.natCast_mul]
        congr 1
        omega
       ·have h5 := mul_step p1 k q cy x y _ _ hkq HV1.out
        rw [← HZZ.out] at h5
        rw [vl_take_succ _ _ _ hql, ← HY.out]
        exact h5
       ·intro j hj
        rw [getD_set_ne _ _ _ _ (by omega)]
        exact HZ1.out j hj
       ·exact HNX1.out.setCell (by simp) _
      case measure => simp [intOf]; omega
     ·obtain rfl : q = lb.length := by omega
      have gz := HROW1.out.cell (k + lb.length) hp2
      have gf := HROW1.out.frozen (k + lb.length)
      go_wp2
      go_roundw
      case rel =>
       refine ⟨k + 1, p1.set (k + lb.length) cy, by omega, by go_num, HROW1.out.store _ _ _ (by omega), all_set HPL1.out hcy, ?_, ?_, ?_⟩
       ·have h6 := HV1.out
        rw [List.take_of_length_le (Nat.le_refl _)] at h6
        rw [mul_row p1 (k + lb.length) cy _ _ (by rw [HROW1.out.1]; exact hp2) (HZ1.out _ (Nat.le_refl _)) h6, HV.out, vl_take_succ _ _ _ hkl, ← HX.out, Nat.add_mul, Nat.mul_assoc]
       ·intro j hj
        rw [getD_set_ne _ _ _ _ (by omega)]
        exact HZ1.out j (by omega)
       ·exact HNX1.out.setCell (by simp) _
      case measure => simp [intOf]; omega
  ·obtain rfl : k = la.length := by omega
   have hlast := HV.out
   rw [List.take_of_length_le (Nat.le_refl _)] at hlast
   have HE := Lib.hid hlast
   have ho := HROW.out.ow
   have HT := Lib.hid (trim_ow ho HPL.out)
   clear hlast ho
   go_wp2_with (go_at_call 163; refine HT.out.mono ?_; rintro e w' ⟨⟨v2, rfl, ho2⟩, rfl⟩)
   go_ret
   refine ⟨_, rfl, ?_, HNX.out⟩
   rw [HE.out] at ho2
   exact ho2
theorem mul_any (m n : Nat) (va vb : Value) (w : World) (hm : (digs 4294967296 m).length ≤ 1000000) (hn : (digs 4294967296 n).length ≤ 1000000) (ha : Rd .u32 w va (digs 4294967296 m)) (hb : Rd .u32 w vb (digs 4294967296 n)) :
  Calls Tryz.prog 125 #[va, vb] w (OwPost w (digs 4294967296 (m * n))) := by
 obtain ⟨ada, ca, rfl, ra⟩ := ha.opt
 obtain ⟨adb, cb, rfl, rb⟩ := hb.opt
 have := mul_core ada adb ca cb _ _ w hm hn ra rb (digs_lt (by decide) m) (digs_lt (by decide) n)
 rw [vl_digs (by decide), vl_digs (by decide)] at this
 exact this
end
section
open Go.RowKit Digs
theorem box3 {w w2 : World} {a b c d e f : Value} {t : TypeId} (h : Below (((w.alloc (.cells #[a, b] t)).alloc (.cells #[c, d] t)).alloc (.cells #[e, f] t)).heap.size (((w.alloc (.cells #[a, b] t)).alloc (.cells #[c, d] t)).alloc (.cells #[e, f] t)) w2) :
  w2.cell? ⟨w.heap.size, 0, none⟩ = some a ∧ w2.cell? ⟨w.heap.size, 1, none⟩ = some b ∧ w2.cell? ⟨w.heap.size + 1, 0, none⟩ = some c ∧ w2.cell? ⟨w.heap.size + 1, 1, none⟩ = some d ∧
  w2.cell? ⟨w.heap.size + 2, 0, none⟩ = some e ∧ w2.cell? ⟨w.heap.size + 2, 1, none⟩ = some f ∧ w2.frozen? ⟨w.heap.size + 1, 0, none⟩ = false ∧ w2.frozen? ⟨w.heap.size + 2, 0, none⟩ = false ∧ w2.frozen? ⟨w.heap.size + 2, 1, none⟩ = false ∧ w.heap.size + 2 < w2.heap.size := by
 have hs := h.size
 simp only [World.size_alloc] at hs
 refine ⟨?_, ?_, ?_, ?_, ?_, ?_, ?_, ?_, ?_, by omega⟩
 ·rw [h.cell (p := ⟨w.heap.size, 0, none⟩) (by simp; omega), World.cell?_alloc_past _ _ _ (by simp; omega), World.cell?_alloc_past _ _ _ (by simp), World.cell?_alloc_at _ _ _ _ rfl]; rfl
 ·rw [h.cell (p := ⟨w.heap.size, 1, none⟩) (by simp; omega), World.cell?_alloc_past _ _ _ (by simp; omega), World.cell?_alloc_past _ _ _ (by simp), World.cell?_alloc_at _ _ _ _ rfl]; rfl
 ·rw [h.cell (p := ⟨w.heap.size + 1, 0, none⟩) (by simp), World.cell?_alloc_past _ _ _ (by simp), World.cell?_alloc_at _ _ _ _ (by simp)]; rfl
 ·rw [h.cell (p := ⟨w.heap.size + 1, 1, none⟩) (by simp), World.cell?_alloc_past _ _ _ (by simp), World.cell?_alloc_at _ _ _ _ (by simp)]; rfl
 ·rw [h.cell (p := ⟨w.heap.size + 2, 0, none⟩) (by simp), World.cell?_alloc_at _ _ _ _ (by simp)]; rfl
 ·rw [h.cell (p := ⟨w.heap.size + 2, 1, none⟩) (by simp), World.cell?_alloc_at _ _ _ _ (by simp)]; rfl
 ·rw [h.frozen (p := ⟨w.heap.size + 1, 0, none⟩) (by simp), World.frozen?_alloc_past _ _ _ (by simp), World.frozen?_alloc_at _ _ _ _ (by simp)]
 ·rw [h.frozen (p := ⟨w.heap.size + 2, 0, none⟩) (by simp), World.frozen?_alloc_at _ _ _ _ (by simp)]
 ·rw [h.frozen (p := ⟨w.heap.size + 2, 1, none⟩) (by simp), World.frozen?_alloc_at _ _ _ _ (by simp)]
theorem cell_store2 {w : World} {R b o : Nat} {x y : Value} (h : b ≠ R) : ((w.setCell ⟨R, 0, none⟩ x).setCell ⟨R, 1, none⟩ y).cell? ⟨b, o, none⟩ = w.cell? ⟨b, o, none⟩ := by
 rw [World.cell?_setCell_other _ _ _ _ (by simp <;> omega), World.cell?_setCell_other _ _ _ _ (by simp <;> omega)]
theorem below3 (w : World) (a b c : Obj) : Below w.heap.size w (((w.alloc a).alloc b).alloc c) := (((Below.refl _ _).alloc (Nat.le_refl _) _).alloc (by simp) _).alloc (by simp; omega) _
set_option maxHeartbeats 2000000 in
set_option maxRecDepth 100000 in
theorem Add_same (bx by' : Bool) (adx ady : Option Addr) (nx cx ny cy : Nat) (m n : Nat) (w : World) (hm : (digs 4294967296 m).length ≤ 1000000) (hn : (digs 4294967296 n).length ≤ 1000000) (hs : (bx == by') = true)
  (ha : Rd .u32 w (.slice adx nx cx) (digs 4294967296 m)) (hb : Rd .u32 w (.slice ady ny cy) (digs 4294967296 n)) :
  Calls Tryz.prog 99 #[.agg #[.bool bx, .slice adx nx cx], .agg #[.bool by', .slice ady ny cy]] w (IntPost w (sg bx (m + n))) := by
 have HCALL := fun W hw => Lib.hid (add_any m n _ _ W hm hn (ha.keep (w' := W) hw) (hb.keep hw))
 have HOWN := fun v1 w1 h1 => Lib.hid (own_any bx v1 (digs 4294967296 (m + n)) w1 h1 (digs_lt (by decide) _))
 rw [vl_digs (by decide)] at HOWN
 have HCALL := Lib.hid HCALL
 have HOWN := Lib.hid HOWN
 clear hm hn ha hb
 go_enter Tryz.func99, Tryz.ntmps99
 go_wp2_with fail
 go_region_held3 (fun w' => w'.cell? ⟨w.heap.size, 0, none⟩ = some (.bool bx) ∧ w'.cell? ⟨w.heap.size, 1, none⟩ = some (.slice adx nx cx) ∧ w'.cell? ⟨w.heap.size + 1, 1, none⟩ = some (.slice ady ny cy))
  (first | exact ⟨cA, cB, cD⟩ | exact ⟨cA2, cB2, cD2⟩ | exact ⟨(cell_store2 (by omega)).trans cA2, (cell_store2 (by omega)).trans cB2, (cell_store2 (by omega)).trans cD2⟩ | go_keep)
  (first | (go_at_call 140; refine (HCALL.out _ (below3 _ _ _ _).drew).out.mono ?_; rintro e w1 ⟨v1, rfl, ho1, hb1⟩; obtain ⟨cA, cB, cC, cD, cE, cF, fC, fE, fF, hsz⟩ := box3 ((Below.refl _ _).drew.trans hb1)) | (go_at_call 118; refine (HOWN.out _ _ (Ow.rd (by assumption))).out.mono ?_; rintro e w2 ⟨v2, rfl, ⟨ad2, n2, c2, rfl, hr2⟩, hb2⟩; have cA2 := (hb2.cell (p := ⟨w.heap.size, 0, none⟩) (show w.heap.size < w1.heap.size by omega)).trans cA; have cB2 := (hb2.cell (p := ⟨w.heap.size, 1, none⟩) (show w.heap.size < w1.heap.size by omega)).trans cB; have cD2 := (hb2.cell (p := ⟨w.heap.size + 1, 1, none⟩) (show w.heap.size + 1 < w1.heap.size by omega)).trans cD; have cE2 := (hb2.cell (p := ⟨w.heap.size + 2, 0, none⟩) hsz).trans cE; have cF2 := (hb2.cell (p := ⟨w.heap.size + 2, 1, none⟩) hsz).trans cF; have fE2 := (hb2.frozen (p := ⟨w.heap.size + 2, 0, none⟩) hsz).trans fE; have fF2 := (hb2.frozen (p := ⟨w.heap.size + 2, 1, none⟩) hsz).trans fF))
 have HR := Lib.hid (hr2.store2 cE2 cF2 (by intro n h; cases h) (by intro n h; cases h))
 have HB := Lib.hid ((below3 w _ _ _).drew.trans ((hb1.mono (Nat.le_of_lt (by simp <;> omega))).trans (hb2.mono (by omega))))
 clear ho1 hb1 hr2 hb2
 go_wp2
 refine bodyPost_ret (v := .agg #[.bool (decide (sg bx (m + n) < 0)), .slice ad2 n2 c2]) (by simp [results, Tryz.results99, go_sem, cE2, cF2]) rfl ⟨_, rfl, ⟨_, _, _, rfl, HR.out _ _⟩, ?_⟩
 exact (HB.out.setCell (by simp; omega) _).setCell (by simp; omega) _
set_option maxHeartbeats 2000000 in
set_option maxRecDepth 100000 in
theorem Add_lt (bx by' : Bool) (adx ady : Option Addr) (nx cx ny cy : Nat) (m n : Nat) (w : World) (_hm : (digs 4294967296 m).length ≤ 1000000) (hn : (digs 4294967296 n).length ≤ 1000000) (hs : (bx == by') = false) (hmn : m < n)
  (ha : Rd .u32 w (.slice adx nx cx) (digs 4294967296 m)) (hb : Rd .u32 w (.slice ady ny cy) (digs 4294967296 n)) :
  Calls Tryz.prog 99 #[.agg #[.bool bx, .slice adx nx cx], .agg #[.bool by', .slice ady ny cy]] w (IntPost w (sg by' (n - m))) := by
 have HCALL := fun W hw => Lib.hid (sub_any n m _ _ W hn (Nat.le_of_lt hmn) (hb.keep (w' := W) hw) (ha.keep hw))
 have HOWN := fun v1 w1 h1 => Lib.hid (own_any by' v1 (digs 4294967296 (n - m)) w1 h1 (digs_lt (by decide) _))
 rw [vl_digs (by decide)] at HOWN
 have HCALL := Lib.hid HCALL
 have HOWN := Lib.hid HOWN
 have HCMP := fun W hw => Lib.hid (compare_any m n _ _ W (ha.keep (w' := W) hw) (hb.keep hw))
 have HCMP := Lib.hid HCMP
 clear _hm hn ha hb
 go_enter Tryz.func99, Tryz.ntmps99
 go_wp2_with fail
 refine (HCMP.out _ (below3 _ _ _ _)).out.mono ?_
 rintro e w0 ⟨rfl, d, rfl⟩
 have hc : cmpN m n = -1 := by unfold cmpN; rw [if_pos hmn]
 rw [hc]
 clear hc
 go_wp2_with fail
 go_region_held3 (fun w' => w'.cell? ⟨w.heap.size, 1, none⟩ = some (.slice adx nx cx) ∧ w'.cell? ⟨w.heap.size + 1, 0, none⟩ = some (.bool by') ∧ w'.cell? ⟨w.heap.size + 1, 1, none⟩ = some (.slice ady ny cy))
  (first | exact ⟨cB, cC, cD⟩ | exact ⟨cB2, cC2, cD2⟩ | exact ⟨(cell_store2 (by omega)).trans cB2, (cell_store2 (by omega)).trans cC2, (cell_store2 (by omega)).trans cD2⟩ | go_keep)
  (first | (go_at_call 141; refine (HCALL.out _ (below_drewN' (below3 _ _ _ _) _).drew).out.mono ?_; rintro e w1 ⟨v1, rfl, ho1, hb1⟩; obtain ⟨cA, cB, cC, cD, cE, cF, fC, fE, fF, hsz⟩ := box3 ((below_drewN' (Below.refl _ _) _).drew.trans hb1)) | (go_at_call 118; refine (HOWN.out _ _ (Ow.rd (by assumption))).out.mono ?_; rintro e w2 ⟨v2, rfl, ⟨ad2, n2, c2, rfl, hr2⟩, hb2⟩; have cB2 := (hb2.cell (p := ⟨w.heap.size, 1, none⟩) (show w.heap.size < w1.heap.size by omega)).trans cB; have cC2 := (hb2.cell (p := ⟨w.heap.size + 1, 0, none⟩) (show w.heap.size + 1 < w1.heap.size by omega)).trans cC; have cD2 := (hb2.cell (p := ⟨w.heap.size + 1, 1, none⟩) (show w.heap.size + 1 < w1.heap.size by omega)).trans cD; have cE2 := (hb2.cell (p := ⟨w.heap.size + 2, 0, none⟩) hsz).trans cE; have cF2 := (hb2.cell (p := ⟨w.heap.size + 2, 1, none⟩) hsz).trans cF; have fE2 := (hb2.frozen (p := ⟨w.heap.size + 2, 0, none⟩) hsz).trans fE; have fF2 := (hb2.frozen (p := ⟨w.heap.size + 2, 1, none⟩) hsz).trans fF))
 have HR := Lib.hid (hr2.store2 cE2 cF2 (by intro n h; cases h) (by intro n h; cases h))
 have HB := Lib.hid ((below_drewN' (below3 w _ _ _) _).drew.trans ((hb1.mono (Nat.le_of_lt (by simp <;> omega))).trans (hb2.mono (by omega))))
 clear ho1 hb1 hr2 hb2
 go_wp2
 refine bodyPost_ret (v := .agg #[.bool (decide (sg by' (n - m) < 0)), .slice ad2 n2 c2]) (by simp [results, Tryz.results99, go_sem, cE2, cF2]) rfl ⟨_, rfl, ⟨_, _, _, rfl, HR.out _ _⟩, ?_⟩
 exact (HB.out.setCell (by simp; omega) _).setCell (by simp; omega) _
set_option maxHeartbeats 2000000 in
set_option maxRecDepth 100000 in
theorem Add_gt (bx by' : Bool) (adx ady : Option Addr) (nx cx ny cy : Nat) (m n : Nat) (w : World) (hm : (digs 4294967296 m).length ≤ 1000000) (_hn : (digs 4294967296 n).length ≤ 1000000) (hs : (bx == by') = false) (hmn : n < m)
  (ha : Rd .u32 w (.slice adx nx cx) (digs 4294967296 m)) (hb : Rd .u32 w (.slice ady ny cy) (digs 4294967296 n)) :
  Calls Tryz.prog 99 #[.agg #[.bool bx, .slice adx nx cx], .agg #[.bool by', .slice ady ny cy]] w (IntPost w (sg bx (m - n))) := by
 have HCALL := fun W hw => Lib.hid (sub_any m n _ _ W hm (Nat.le_of_lt hmn) (ha.keep (w' := W) hw) (hb.keep hw))
 have HOWN := fun v1 w1 h1 => Lib.hid (own_any bx v1 (digs 4294967296 (m - n)) w1 h1 (digs_lt (by decide) _))
 rw [vl_digs (by decide)] at HOWN
 have HCALL := Lib.hid HCALL
 have HOWN := Lib.hid HOWN
 have HCMP := fun W hw => Lib.hid (compare_any m n _ _ W (ha.keep (w' := W) hw) (hb.keep hw))
 have HCMP := Lib.hid HCMP
 clear hm _hn ha hb
 go_enter Tryz.func99, Tryz.ntmps99
 go_wp2_with fail
 refine (HCMP.out _ (below3 _ _ _ _)).out.mono ?_
 rintro e w0 ⟨rfl, d, rfl⟩
 have hc : cmpN m n = 1 := by unfold cmpN; rw [if_neg (by omega), if_pos hmn]
 rw [hc]
 clear hc
 go_wp2_with fail
 go_region_held3 (fun w' => w'.cell? ⟨w.heap.size, 0, none⟩ = some (.bool bx) ∧ w'.cell? ⟨w.heap.size, 1, none⟩ = some (.slice adx nx cx) ∧ w'.cell? ⟨w.heap.size + 1, 1, none⟩ = some (.slice ady ny cy))
  (first | exact ⟨cA, cB, cD⟩ | exact ⟨cA2, cB2, cD2⟩ | exact ⟨(cell_store2 (by omega)).trans cA2, (cell_store2 (by omega)).trans cB2, (cell_store2 (by omega)).trans cD2⟩ | go_keep)
  (first | (go_at_call 141; refine (HCALL.out _ (below_drewN' (below3 _ _ _ _) _).drew).out.mono ?_; rintro e w1 ⟨v1, rfl, ho1, hb1⟩; obtain ⟨cA, cB, cC, cD, cE, cF, fC, fE, fF, hsz⟩ := box3 ((below_drewN' (Below.refl _ _) _).drew.trans hb1)) | (go_at_call 118; refine (HOWN.out _ _ (Ow.rd (by assumption))).out.mono ?_; rintro e w2 ⟨v2, rfl, ⟨ad2, n2, c2, rfl, hr2⟩, hb2⟩; have cA2 := (hb2.cell (p := ⟨w.heap.size, 0, none⟩) (show w.heap.size < w1.heap.size by omega)).trans cA; have cB2 := (hb2.cell (p := ⟨w.heap.size, 1, none⟩) (show w.heap.size < w1.heap.size by omega)).trans cB; have cD2 := (hb2.cell (p := ⟨w.heap.size + 1, 1, none⟩) (show w.heap.size + 1 < w1.heap.size by omega)).trans cD; have cE2 := (hb2.cell (p := ⟨w.heap.size + 2, 0, none⟩) hsz).trans cE; have cF2 := (hb2.cell (p := ⟨w.heap.size + 2, 1, none⟩) hsz).trans cF; have fE2 := (hb2.frozen (p := ⟨w.heap.size + 2, 0, none⟩) hsz).trans fE; have fF2 := (hb2.frozen (p := ⟨w.heap.size + 2, 1, none⟩) hsz).trans fF))
 have HR := Lib.hid (hr2.store2 cE2 cF2 (by intro n h; cases h) (by intro n h; cases h))
 have HB := Lib.hid ((below_drewN' (below3 w _ _ _) _).drew.trans ((hb1.mono (Nat.le_of_lt (by simp <;> omega))).trans (hb2.mono (by omega))))
 clear ho1 hb1 hr2 hb2
 go_wp2
 refine bodyPost_ret (v := .agg #[.bool (decide (sg bx (m - n) < 0)), .slice ad2 n2 c2]) (by simp [results, Tryz.results99, go_sem, cE2, cF2]) rfl ⟨_, rfl, ⟨_, _, _, rfl, HR.out _ _⟩, ?_⟩
 exact (HB.out.setCell (by simp; omega) _).setCell (by simp; omega) _
set_option maxHeartbeats 2000000 in
set_option maxRecDepth 100000 in
theorem Add_eq (bx by' : Bool) (adx ady : Option Addr) (nx cx ny cy : Nat) (m n : Nat) (w : World) (hm : (digs 4294967296 m).length ≤ 1000000) (_hn : (digs 4294967296 n).length ≤ 1000000) (hs : (bx == by') = false) (hmn : m = n)
  (ha : Rd .u32 w (.slice adx nx cx) (digs 4294967296 m)) (hb : Rd .u32 w (.slice ady ny cy) (digs 4294967296 n)) :
  Calls Tryz.prog 99 #[.agg #[.bool bx, .slice adx nx cx], .agg #[.bool by', .slice ady ny cy]] w (IntPost w (sg bx (m - n))) := by
 have HCALL := fun W hw => Lib.hid (sub_any m n _ _ W hm (Nat.le_of_eq hmn.symm) (ha.keep (w' := W) hw) (hb.keep hw))
 have HOWN := fun v1 w1 h1 => Lib.hid (own_any bx v1 (digs 4294967296 (m - n)) w1 h1 (digs_lt (by decide) _))
 rw [vl_digs (by decide)] at HOWN
 have HCALL := Lib.hid HCALL
 have HOWN := Lib.hid HOWN
 have HCMP := fun W hw => Lib.hid (compare_any m n _ _ W (ha.keep (w' := W) hw) (hb.keep hw))
 have HCMP := Lib.hid HCMP
 have HMN := Lib.hid hmn
 clear hmn
 clear hm _hn ha hb
 go_enter Tryz.func99, Tryz.ntmps99
 go_wp2_with fail
 refine (HCMP.out _ (below3 _ _ _ _)).out.mono ?_
 rintro e w0 ⟨rfl, d, rfl⟩
 have hc : cmpN m n = 0 := by rw [HMN.out, cmpN_self]
 rw [hc]
 clear hc
 go_wp2_with fail
 go_region_held3 (fun w' => w'.cell? ⟨w.heap.size, 0, none⟩ = some (.bool bx) ∧ w'.cell? ⟨w.heap.size, 1, none⟩ = some (.slice adx nx cx) ∧ w'.cell? ⟨w.heap.size + 1, 1, none⟩ = some (.slice ady ny cy))
  (first | exact ⟨cA, cB, cD⟩ | exact ⟨cA2, cB2, cD2⟩ | exact ⟨(cell_store2 (by omega)).trans cA2, (cell_store2 (by omega)).trans cB2, (cell_store2 (by omega)).trans cD2⟩ | go_keep)
  (first | (go_at_call 141; refine (HCALL.out _ (below_drewN' (below3 _ _ _ _) _).drew).out.mono ?_; rintro e w1 ⟨v1, rfl, ho1, hb1⟩; obtain ⟨cA, cB, cC, cD, cE, cF, fC, fE, fF, hsz⟩ := box3 ((below_drewN' (Below.refl _ _) _).drew.trans hb1)) | (go_at_call 118; refine (HOWN.out _ _ (Ow.rd (by assumption))).out.mono ?_; rintro e w2 ⟨v2, rfl, ⟨ad2, n2, c2, rfl, hr2⟩, hb2⟩; have cA2 := (hb2.cell (p := ⟨w.heap.size, 0, none⟩) (show w.heap.size < w1.heap.size by omega)).trans cA; have cB2 := (hb2.cell (p := ⟨w.heap.size, 1, none⟩) (show w.heap.size < w1.heap.size by omega)).trans cB; have cD2 := (hb2.cell (p := ⟨w.heap.size + 1, 1, none⟩) (show w.heap.size + 1 < w1.heap.size by omega)).trans cD; have cE2 := (hb2.cell (p := ⟨w.heap.size + 2, 0, none⟩) hsz).trans cE; have cF2 := (hb2.cell (p := ⟨w.heap.size + 2, 1, none⟩) hsz).trans cF; have fE2 := (hb2.frozen (p := ⟨w.heap.size + 2, 0, none⟩) hsz).trans fE; have fF2 := (hb2.frozen (p := ⟨w.heap.size + 2, 1, none⟩) hsz).trans fF))
 have HR := Lib.hid (hr2.store2 cE2 cF2 (by intro n h; cases h) (by intro n h; cases h))
 have HB := Lib.hid ((below_drewN' (below3 w _ _ _) _).drew.trans ((hb1.mono (Nat.le_of_lt (by simp <;> omega))).trans (hb2.mono (by omega))))
 clear ho1 hb1 hr2 hb2
 go_wp2
 refine bodyPost_ret (v := .agg #[.bool (decide (sg bx (m - n) < 0)), .slice ad2 n2 c2]) (by simp [results, Tryz.results99, go_sem, cE2, cF2]) rfl ⟨_, rfl, ⟨_, _, _, rfl, HR.out _ _⟩, ?_⟩
 exact (HB.out.setCell (by simp; omega) _).setCell (by simp; omega) _
set_option maxHeartbeats 2000000 in
set_option maxRecDepth 100000 in
theorem Mul_raw (bx by' : Bool) (adx ady : Option Addr) (nx cx ny cy : Nat) (m n : Nat) (w : World) (hm : (digs 4294967296 m).length ≤ 1000000) (hn : (digs 4294967296 n).length ≤ 1000000)
  (ha : Rd .u32 w (.slice adx nx cx) (digs 4294967296 m)) (hb : Rd .u32 w (.slice ady ny cy) (digs 4294967296 n)) :
  Calls Tryz.prog 84 #[.agg #[.bool bx, .slice adx nx cx], .agg #[.bool by', .slice ady ny cy]] w (IntPost w (sg (bx != by') (m * n))) := by
 have HCALL := fun W hw => Lib.hid (mul_any m n _ _ W hm hn (ha.keep (w' := W) hw) (hb.keep hw))
 have HOWN := fun v1 w1 h1 => Lib.hid (own_any (bx != by') v1 (digs 4294967296 (m * n)) w1 h1 (digs_lt (by decide) _))
 rw [vl_digs (by decide)] at HOWN
 have HCALL := Lib.hid HCALL
 have HOWN := Lib.hid HOWN
 clear hm hn ha hb
 go_enter Tryz.func84, Tryz.ntmps84
 go_wp2_with fail
 go_region_held3 (fun w' => w'.cell? ⟨w.heap.size, 0, none⟩ = some (.bool bx) ∧ w'.cell? ⟨w.heap.size, 1, none⟩ = some (.slice adx nx cx) ∧ w'.cell? ⟨w.heap.size + 1, 0, none⟩ = some (.bool by') ∧ w'.cell? ⟨w.heap.size + 1, 1, none⟩ = some (.slice ady ny cy))
  (first | exact ⟨cA, cB, cC, cD⟩ | exact ⟨cA2, cB2, cC2, cD2⟩ | exact ⟨(cell_store2 (by omega)).trans cA2, (cell_store2 (by omega)).trans cB2, (cell_store2 (by omega)).trans cC2, (cell_store2 (by omega)).trans cD2⟩ | go_keep)
  (first | (go_at_call 125; refine (HCALL.out _ (below3 _ _ _ _).drew).out.mono ?_; rintro e w1 ⟨v1, rfl, ho1, hb1⟩; obtain ⟨cA, cB, cC, cD, cE, cF, fC, fE, fF, hsz⟩ := box3 ((Below.refl _ _).drew.trans hb1)) | (go_at_call 118; refine (HOWN.out _ _ (Ow.rd (by assumption))).out.mono ?_; rintro e w2 ⟨v2, rfl, ⟨ad2, n2, c2, rfl, hr2⟩, hb2⟩; have cA2 := (hb2.cell (p := ⟨w.heap.size, 0, none⟩) (show w.heap.size < w1.heap.size by omega)).trans cA; have cB2 := (hb2.cell (p := ⟨w.heap.size, 1, none⟩) (show w.heap.size < w1.heap.size by omega)).trans cB; have cC2 := (hb2.cell (p := ⟨w.heap.size + 1, 0, none⟩) (show w.heap.size + 1 < w1.heap.size by omega)).trans cC; have cD2 := (hb2.cell (p := ⟨w.heap.size + 1, 1, none⟩) (show w.heap.size + 1 < w1.heap.size by omega)).trans cD; have cE2 := (hb2.cell (p := ⟨w.heap.size + 2, 0, none⟩) hsz).trans cE; have cF2 := (hb2.cell (p := ⟨w.heap.size + 2, 1, none⟩) hsz).trans cF; have fE2 := (hb2.frozen (p := ⟨w.heap.size + 2, 0, none⟩) hsz).trans fE; have fF2 := (hb2.frozen (p := ⟨w.heap.size + 2, 1, none⟩) hsz).trans fF))
 have HR := Lib.hid (hr2.store2 cE2 cF2 (by intro n h; cases h) (by intro n h; cases h))
 have HB := Lib.hid ((below3 w _ _ _).drew.trans ((hb1.mono (Nat.le_of_lt (by simp <;> omega))).trans (hb2.mono (by omega))))
 clear ho1 hb1 hr2 hb2
 go_wp2
 refine bodyPost_ret (v := .agg #[.bool (decide (sg (bx != by') (m * n) < 0)), .slice ad2 n2 c2]) (by simp [results, Tryz.results84, go_sem, cE2, cF2]) rfl ⟨_, rfl, ⟨_, _, _, rfl, HR.out _ _⟩, ?_⟩
 exact (HB.out.setCell (by simp; omega) _).setCell (by simp; omega) _
theorem sg_add_same (b : Bool) (m n : Nat) : sg b (m + n) = sg b m + sg b n := by unfold sg; cases b <;> simp <;> omega
theorem sg_add_lt (bx by' : Bool) (h : (bx == by') = false) (m n : Nat) (hmn : m ≤ n) : sg by' (n - m) = sg bx m + sg by' n := by unfold sg; cases bx <;> cases by' <;> simp at h ⊢ <;> omega
theorem sg_add_ge (bx by' : Bool) (h : (bx == by') = false) (m n : Nat) (hmn : n ≤ m) : sg bx (m - n) = sg bx m + sg by' n := by unfold sg; cases bx <;> cases by' <;> simp at h ⊢ <;> omega
theorem sg_mul (bx by' : Bool) (m n : Nat) : sg (bx != by') (m * n) = sg bx m * sg by' n := by
 unfold sg; cases bx <;> cases by' <;> simp [Int.natCast_mul, Int.neg_mul, Int.mul_neg]
theorem sg_self (z : Int) : sg (decide (z < 0)) z.natAbs = z := by unfold sg; split <;> simp_all <;> omega
theorem Add_raw (bx by' : Bool) (adx ady : Option Addr) (nx cx ny cy : Nat) (m n : Nat) (w : World) (hm : (digs 4294967296 m).length ≤ 1000000) (hn : (digs 4294967296 n).length ≤ 1000000)
  (ha : Rd .u32 w (.slice adx nx cx) (digs 4294967296 m)) (hb : Rd .u32 w (.slice ady ny cy) (digs 4294967296 n)) :
  Calls Tryz.prog 99 #[.agg #[.bool bx, .slice adx nx cx], .agg #[.bool by', .slice ady ny cy]] w (IntPost w (sg bx m + sg by' n)) := by
 cases hs : (bx == by')
 ·rcases Nat.lt_trichotomy m n with h | h | h
  ·rw [← sg_add_lt bx by' hs m n (Nat.le_of_lt h)]
   exact Add_lt bx by' adx ady nx cx ny cy m n w hm hn hs h ha hb
  ·rw [← sg_add_ge bx by' hs m n (Nat.le_of_eq h.symm)]
   exact Add_eq bx by' adx ady nx cx ny cy m n w hm hn hs h ha hb
  ·rw [← sg_add_ge bx by' hs m n (Nat.le_of_lt h)]
   exact Add_gt bx by' adx ady nx cx ny cy m n w hm hn hs h ha hb
 ·obtain rfl : bx = by' := by simpa using hs
  rw [← sg_add_same]
  exact Add_same bx bx adx ady nx cx ny cy m n w hm hn hs ha hb
def len (z : Int) : Nat := (digs 4294967296 z.natAbs).length
theorem Add_any (x y : Int) (vx vy : Value) (w : World) (hx : len x ≤ 1000000) (hy : len y ≤ 1000000) (ha : IntV w vx x) (hb : IntV w vy y) :
  Calls Tryz.prog 99 #[vx, vy] w (IntPost w (x + y)) := by
 obtain ⟨adx, nx, cx, rfl, ra⟩ := ha
 obtain ⟨ady, ny, cy, rfl, rb⟩ := hb
 have := Add_raw (decide (x < 0)) (decide (y < 0)) adx ady nx cx ny cy x.natAbs y.natAbs w hx hy ra rb
 rw [sg_self, sg_self] at this
 exact this
theorem Mul_any (x y : Int) (vx vy : Value) (w : World) (hx : len x ≤ 1000000) (hy : len y ≤ 1000000) (ha : IntV w vx x) (hb : IntV w vy y) :
  Calls Tryz.prog 84 #[vx, vy] w (IntPost w (x * y)) := by
 obtain ⟨adx, nx, cx, rfl, ra⟩ := ha
 obtain ⟨ady, ny, cy, rfl, rb⟩ := hb
 have := Mul_raw (decide (x < 0)) (decide (y < 0)) adx ady nx cx ny cy x.natAbs y.natAbs w hx hy ra rb
 rw [sg_mul, sg_self, sg_self] at this
 exact this
end
end Go.Proofs.YtghgcbedajaldaaGreat
