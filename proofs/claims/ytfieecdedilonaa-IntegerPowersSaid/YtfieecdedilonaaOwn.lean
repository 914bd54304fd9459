/-  slices.Clone; own; Make.  -/
import Derived.Test.YtfieecdedilonaaCmp
namespace Go.Proofs.Ytfieecdedilonaa
open Go.RowKit Digs

set_option maxHeartbeats 400000 in
theorem clone_nil (w : World) : Calls Try.prog 114 #[.slice none 0 0] w fun e w' => e = .returned (.slice none 0 0) ∧ w = w' := by
  have hq := fun (a : Option Addr) (n c : Nat) (w : World) => Lib.run_eql_slice_nil (P := Try.prog) w 22 93 a n c 0 0 Try.underlying22
  go_enter Try.func114, Try.ntmps114
  go_wp2
  go_ret
  exact ⟨rfl, rfl⟩

/-- What a call hands back: a slice of its own. -/
def OwPost (w : World) (l : List Nat) (e : Ending) (w' : World) : Prop := ∃ v, e = .returned v ∧ Ow w' w.heap.size v l ∧ Below w.heap.size w w'

set_option maxHeartbeats 400000 in
set_option maxRecDepth 100000 in
theorem clone_some (b off cap : Nat) (l : List Nat) (w : World) (hl : l.length * 4 ≤ 140737488355328)
    (hc : ∀ j, j < l.length → w.cell? ⟨b, off + j, none⟩ = some (.int .u32 ((l[j]?.getD 0 : Nat) : Int))) (hb : b < w.heap.size) :
    Calls Try.prog 114 #[.slice (some ⟨b, off, none⟩) l.length cap] w (OwPost w l) := by
  have hq := fun (a : Option Addr) (n c : Nat) (w : World) => Lib.run_eql_slice_nil (P := Try.prog) w 22 93 a n c 0 0 Try.underlying22
  have HL := Lib.hid hl
  have HC := Lib.hid hc
  have HB := Lib.hid hb
  clear hl hc hb
  obtain ⟨i0, hi, hz0, hz1, hz2⟩ := info_parts Try.infoU32
  go_enter Try.func114, Try.ntmps114
  have hown : (w.alloc (.cells #[] 93)).ownsRow w.heap.size 93 1 (.slice (some ⟨w.heap.size, 0, none⟩) 0 0) 0 [] := World.ownsRow_made w #[] 0 (Nat.le_refl _) (by unfold maxLen; omega) rfl
  have hcw : ∀ j, j < l.length → (w.alloc (.cells #[] 93)).cell? ⟨b, off + j, none⟩ = some (.int .u32 ((l[j]?.getD 0 : Nat) : Int)) := fun j hj => by
    rw [World.cell?_alloc_past _ _ _ HB.out]; exact HC.out j hj
  have HN := Lib.hid (Rd.news hcw)
  have HO := Lib.hid hown
  clear hcw hown
  go_wp2_with (at_builtin; refine wpList_append_own _ rfl (.tmp 5) (.tmp 6) 22 rfl w.heap.size 93 i0 (.int .u32 0) 1 4 Try.underlying22 hi hz0 hz1 hz2 rfl (by decide) _ 0 [] rfl HO.out ⟨b, off, none⟩ l.length cap (uw l) rfl ?c1 HN.out (uw_oneCell l) ?c2 ?c3 ?c4 ?_)
  case c1 => simp [uw_length]
  case c2 => have := HL.out; unfold maxLen; omega
  case c3 => have := HL.out; omega
  case c4 => simp
  intro v' w1 hown' hgrow _
  go_wp2
  go_ret
  refine ⟨v', rfl, ?_, (((Below.refl _ _).alloc (Nat.le_refl _) _).grown hgrow (by simp) (fun k hk => by simp [Value.ownBlock] at hk; omega))⟩
  exact hown'

theorem clone_any (v : Value) (l : List Nat) (w : World) (hl : l.length * 4 ≤ 140737488355328) (h : Rd .u32 w v l) :
    Calls Try.prog 114 #[v] w (OwPost w l) := by
  rcases h with ⟨rfl, rfl⟩ | ⟨b, off, cap, rfl, hb, _, _, hc⟩
  · exact (clone_nil w).mono fun _ _ ⟨he, hw⟩ => ⟨_, he, by rw [← hw]; exact World.ownsRow_nil _ _ _ _, by rw [← hw]; exact Below.refl _ _⟩
  · exact clone_some b off cap l w hl hc hb

/-- An integer's value: its sign and the limbs of its absolute value. -/
def IntV (w : World) (v : Value) (z : Int) : Prop := ∃ ad n c, v = .agg #[.bool (decide (z < 0)), .slice ad n c] ∧ Rd .u32 w (.slice ad n c) (digs 4294967296 z.natAbs)
def IntPost (w : World) (z : Int) (e : Ending) (w' : World) : Prop := ∃ v, e = .returned v ∧ IntV w' v z ∧ Below w.heap.size w w'
theorem IntV.keep {w w' : World} {v : Value} {z : Int} (h : IntV w v z) (hb : Below w.heap.size w w') : IntV w' v z := by
  obtain ⟨ad, n, c, rfl, hr⟩ := h
  exact ⟨ad, n, c, rfl, hr.keep hb⟩
/-- The number with a sign. -/
def sg (b : Bool) (n : Nat) : Int := if b then -(n : Int) else n
theorem sg_natAbs (b : Bool) (n : Nat) : (sg b n).natAbs = n := by unfold sg; cases b <;> simp
theorem sg_neg (b : Bool) (n : Nat) (h : n ≠ 0) : decide (sg b n < 0) = b := by unfold sg; cases b <;> simp <;> omega
theorem IntV.zero (w : World) (b : Bool) (n : Nat) (h : n = 0) : IntV w (.agg #[.bool false, .slice none 0 0]) (sg b n) := by
  subst h
  refine ⟨_, _, _, ?_, .inl ⟨rfl, ?_⟩⟩
  · unfold sg; cases b <;> rfl
  · rw [sg_natAbs, digs_zero]

/-- The results of a trim are the digits of the number. -/
theorem trim_digs {l : List Nat} {k : Nat} (hl : ∀ x ∈ l, x < 4294967296) (h1 : k ≤ l.length) (h2 : ∀ j, k ≤ j → l[j]?.getD 0 = 0) (h3 : k = 0 ∨ l[k - 1]?.getD 0 ≠ 0) :
    l.take k = digs 4294967296 (vl 4294967296 l) := digs_trim (by decide) l k hl h1 h2 h3

set_option maxHeartbeats 400000 in
theorem own_nil (neg : Bool) (w : World) :
    Calls Try.prog 70 #[.bool neg, .slice none 0 0] w fun e w' => e = .returned (.agg #[.bool false, .slice none 0 0]) ∧ Below w.heap.size w w' := by
  go_enter Try.func70, Try.ntmps70
  go_wp2_with (go_at_call 115; refine (trim_nil _).mono ?_; rintro e w' ⟨rfl, rfl⟩)
  exact bodyPost_ret (v := .agg #[.bool false, .slice none 0 0]) (by simp [results, Try.results70, go_sem]) rfl ⟨rfl, (Below.refl _ _).alloc (Nat.le_refl _) _⟩

set_option maxHeartbeats 400000 in
theorem own_some (neg : Bool) (b off cap : Nat) (l : List Nat) (w : World) (hlc : l.length ≤ cap) (hcm : cap ≤ maxLen) (hb : b < w.heap.size)
    (hc : ∀ j, j < l.length → w.cell? ⟨b, off + j, none⟩ = some (.int .u32 ((l[j]?.getD 0 : Nat) : Int))) (hlt : ∀ x ∈ l, x < 4294967296) :
    Calls Try.prog 70 #[.bool neg, .slice (some ⟨b, off, none⟩) l.length cap] w (IntPost w (sg neg (vl 4294967296 l))) := by
  have HT : ∀ o : Obj, Calls Try.prog 115 #[.slice (some ⟨b, off, none⟩) l.length cap] (w.alloc o) (TrimPost b off cap l (w.alloc o)) := fun o =>
    trim_some b off cap l _ hlc hcm (fun j hj => by rw [World.cell?_alloc_past _ _ _ hb]; exact hc j hj)
  have H := Lib.hid HT
  have HC := Lib.hid hc
  clear HT hc
  go_enter Try.func70, Try.ntmps70
  go_wp2_with fail
  refine (H.out _).mono ?_
  rintro e w' ⟨k, rfl, h1, h2, h3, rfl⟩
  have ht := trim_digs hlt h1 h2 h3
  have HTD := Lib.hid ht
  have H2 := Lib.hid h2
  have H3 := Lib.hid h3
  have HLT := Lib.hid hlt
  clear ht h2 h3 hlt
  by_cases hk : k = 0
  · subst hk
    go_wp2_with fail
    refine bodyPost_ret (v := .agg #[.bool false, .slice none 0 0]) (by simp [results, Try.results70, go_sem]) rfl ⟨_, rfl, IntV.zero _ _ _ ?_, (Below.refl _ _).alloc (Nat.le_refl _) _⟩
    rw [← vl_digs (b := 4294967296) (by decide) (vl 4294967296 l), ← HTD.out]
    rfl
  · have hk0 : ((k : Int) == 0) = false := by rw [beq_eq_false_iff_ne]; omega
    go_wp2_with fail
    have hv0 : vl 4294967296 l ≠ 0 := by
      intro h0
      have h4 := HTD.out
      rw [h0, digs_zero] at h4
      have h5 : (l.take k).length = 0 := by rw [h4]; rfl
      rw [List.length_take] at h5
      omega
    refine bodyPost_ret (v := .agg #[.bool neg, .slice (some ⟨b, off, none⟩) k cap]) (by simp [results, Try.results70, go_sem]) rfl ⟨_, rfl, ⟨_, _, _, by rw [sg_neg _ _ hv0], ?_⟩, (Below.refl _ _).alloc (Nat.le_refl _) _⟩
    rw [sg_natAbs]
    exact Rd.take (l := l) hlc hcm (by simp; omega) (cells_alloc _ hb HC.out) h1 HTD.out

/-- own: the number with a sign and limbs. -/
theorem own_any (neg : Bool) (v : Value) (l : List Nat) (w : World) (h : Rd .u32 w v l) (hlt : ∀ x ∈ l, x < 4294967296) :
    Calls Try.prog 70 #[.bool neg, v] w (IntPost w (sg neg (vl 4294967296 l))) := by
  rcases h with ⟨rfl, rfl⟩ | ⟨b, off, cap, rfl, hb, hlc, hcm, hc⟩
  · exact (own_nil neg w).mono fun _ _ ⟨he, hw⟩ => ⟨_, he, IntV.zero _ _ _ rfl, hw⟩
  · exact own_some neg b off cap l w hlc hcm hb hc hlt

set_option maxHeartbeats 400000 in
/-- Make: likewise, of a copy. -/
theorem make_any (neg : Bool) (v : Value) (l : List Nat) (w : World) (hl : l.length * 4 ≤ 140737488355328) (h : Rd .u32 w v l) (hlt : ∀ x ∈ l, x < 4294967296) :
    Calls Try.prog 68 #[.bool neg, v] w (IntPost w (sg neg (vl 4294967296 l))) := by
  have H := fun W hw => Lib.hid (clone_any v l W hl (h.keep hw))
  have H2 := fun v1 w1 h1 => Lib.hid (own_any neg v1 l w1 h1 hlt)
  clear hl h hlt
  go_enter Try.func68, Try.ntmps68
  go_wp2_with fail
  refine (H _ ((Below.refl _ _).alloc (Nat.le_refl _) _)).out.mono ?_
  rintro e w1 ⟨v1, rfl, ho, hb1⟩
  have hsz := hb1.size
  go_wp2_with fail
  refine (H2 _ _ ho.rd).out.mono ?_
  rintro e w2 ⟨v2, rfl, hv2, hb2⟩
  obtain ⟨ad, n, c, rfl, hr2⟩ := hv2
  have hB := hb1.trans (hb2.mono hsz)
  obtain ⟨c0, c1, f0, f1, hlt⟩ := box2 hB
  have HR := Lib.hid (hr2.store2 c0 c1 (by intro n h; cases h) (by intro n h; cases h))
  have HBB := Lib.hid hB
  clear hB hb1 hb2 hr2 ho
  go_wp2_with fail
  refine bodyPost_ret (v := .agg #[.bool (decide (sg neg (vl 4294967296 l) < 0)), .slice ad n c]) (by simp [results, Try.results68, go_sem, c0, c1]) rfl ⟨_, rfl, ⟨_, _, _, rfl, HR.out _ _⟩, ?_⟩
  exact ((((Below.refl _ _).alloc (Nat.le_refl _) _).trans (HBB.out.mono (by simp))).setCell (by simp) _).setCell (by simp) _

end Go.Proofs.Ytfieecdedilonaa
