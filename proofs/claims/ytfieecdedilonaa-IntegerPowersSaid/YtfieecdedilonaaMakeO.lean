/-  Make, whose limbs lie in a block of words.  -/
import Derived.Test.YtfieecdedilonaaSteps
namespace Go.Proofs.Ytfieecdedilonaa
open Go.RowKit Digs

/-- Block b is an array of words. -/
def U32At (w : World) (b : Nat) : Prop := ∃ cur f, w.heap[b]? = some (.cells cur 93 f)
theorem U32At.lt {w : World} {b : Nat} (h : U32At w b) : b < w.heap.size := by
  obtain ⟨cur, f, h⟩ := h
  exact (Array.getElem?_eq_some_iff.1 h).1
theorem U32At.keep {w w' : World} {b : Nat} (h : U32At w b) (hb : b < w.heap.size) (hw : Below w.heap.size w w') : U32At w' b := by
  obtain ⟨cur, f, h⟩ := h
  exact ⟨cur, f, (hw.block b hb).trans h⟩
theorem U32At.setCell {w : World} {b : Nat} (h : U32At w b) (a : Addr) (u : Value) : U32At (w.setCell a u) b := by
  obtain ⟨cur, f, h⟩ := h
  by_cases e : b = a.block
  · subst e
    refine ⟨if a.spot.isSome then cur else cur.setIfInBounds a.off u, f, ?_⟩
    simp [World.setCell, Array.getElem?_modify, h]
  · exact ⟨cur, f, by rw [Below.heap_setCell _ _ _ _ e]; exact h⟩
/-- The limbs lie in a block of words. -/
def Typed (w : World) (v : Value) : Prop := ∀ b a n c, v = .agg #[b, .slice (some a) n c] → U32At w a.block
theorem Typed.zero (w : World) : Typed w (.agg #[.bool false, .slice none 0 0]) := fun b a n c h => by cases h
theorem Typed.some {w : World} {b off k cap : Nat} {x : Value} (h : U32At w b) : Typed w (.agg #[x, .slice (some ⟨b, off, none⟩) k cap]) := fun b a n c h => by cases h; assumption
theorem Typed.keep {w w' : World} {v : Value} (h : Typed w v) (hw : Below w.heap.size w w') : Typed w' v := fun b a n c he => (h b a n c he).keep (h b a n c he).lt hw
theorem Typed.setCell {w : World} {v : Value} (h : Typed w v) (a : Addr) (u : Value) : Typed (w.setCell a u) v := fun b a' n c he => (h b a' n c he).setCell a u
theorem u32_of_ow {w : World} {base : Nat} {v : Value} {l : List Nat} (h : Ow w base v l) : ∀ g, v.ownBlock = some g → U32At w g := fun g hg => by
  obtain ⟨_, ⟨rfl, _⟩ | ⟨g', cap, cur, rfl, _, hgg, _⟩⟩ := h
  · cases hg
  · cases hg
    exact ⟨cur, (0, 0), hgg⟩
def IntPostO (w : World) (z : Int) (e : Ending) (w' : World) : Prop := ∃ v, e = .returned v ∧ IntV w' v z ∧ Typed w' v ∧ Below w.heap.size w w'

set_option maxHeartbeats 400000 in
theorem own_someO (neg : Bool) (b off cap : Nat) (l : List Nat) (w : World) (hlc : l.length ≤ cap) (hcm : cap ≤ maxLen) (hb : b < w.heap.size)
    (hc : ∀ j, j < l.length → w.cell? ⟨b, off + j, none⟩ = some (.int .u32 ((l[j]?.getD 0 : Nat) : Int))) (hlt : ∀ x ∈ l, x < 4294967296) (hty : U32At w b) :
    Calls Try.prog 70 #[.bool neg, .slice (some ⟨b, off, none⟩) l.length cap] w (IntPostO w (sg neg (vl 4294967296 l))) := by
  have HTY := Lib.hid hty
  clear hty
  have HT : ∀ o : Obj, Calls Try.prog 115 #[.slice (some ⟨b, off, none⟩) l.length cap] (w.alloc o) (TrimPost b off cap l (w.alloc o)) := fun o =>
    trim_some b off cap l _ hlc hcm (fun j hj => by rw [World.cell?_alloc_past _ _ _ hb]; exact hc j hj)
  have H := Lib.hid HT
  have HC := Lib.hid hc
  clear HT hc
  go_enter Try.func70, Try.ntmps70
  go_wp2_with fail
  refine (H.out _).mono ?_
  rintro e w' ⟨k, rfl, h1, h2, h3, rfl⟩
  have ht := trim_digs hlt h1 h2 h3
  have HTD := Lib.hid ht
  have H2 := Lib.hid h2
  have H3 := Lib.hid h3
  have HLT := Lib.hid hlt
  clear ht h2 h3 hlt
  by_cases hk : k = 0
  · subst hk
    go_wp2_with fail
    refine bodyPost_ret (v := .agg #[.bool false, .slice none 0 0]) (by simp [results, Try.results70, go_sem]) rfl ⟨_, rfl, IntV.zero _ _ _ ?_, Typed.zero _, (Below.refl _ _).alloc (Nat.le_refl _) _⟩
    rw [← vl_digs (b := 4294967296) (by decide) (vl 4294967296 l), ← HTD.out]
    rfl
  · have hk0 : ((k : Int) == 0) = false := by rw [beq_eq_false_iff_ne]; omega
    go_wp2_with fail
    have hv0 : vl 4294967296 l ≠ 0 := by
      intro h0
      have h4 := HTD.out
      rw [h0, digs_zero] at h4
      have h5 : (l.take k).length = 0 := by rw [h4]; rfl
      rw [List.length_take] at h5
      omega
    refine bodyPost_ret (v := .agg #[.bool neg, .slice (some ⟨b, off, none⟩) k cap]) (by simp [results, Try.results70, go_sem]) rfl ⟨_, rfl, ⟨_, _, _, by rw [sg_neg _ _ hv0], ?_⟩, Typed.some (HTY.out.keep hb ((Below.refl _ _).alloc (Nat.le_refl _) _)), (Below.refl _ _).alloc (Nat.le_refl _) _⟩
    rw [sg_natAbs]
    exact Rd.take (l := l) hlc hcm (by simp; omega) (cells_alloc _ hb HC.out) h1 HTD.out

/-- own: the number with a sign and limbs. -/
theorem own_anyO (neg : Bool) (v : Value) (l : List Nat) (w : World) (h : Rd .u32 w v l) (hlt : ∀ x ∈ l, x < 4294967296) (hty : ∀ g, v.ownBlock = some g → U32At w g) :
    Calls Try.prog 70 #[.bool neg, v] w (IntPostO w (sg neg (vl 4294967296 l))) := by
  rcases h with ⟨rfl, rfl⟩ | ⟨b, off, cap, rfl, hb, hlc, hcm, hc⟩
  · exact (own_nil neg w).mono fun _ _ ⟨he, hw⟩ => ⟨_, he, IntV.zero _ _ _ rfl, Typed.zero _, hw⟩
  · exact own_someO neg b off cap l w hlc hcm hb hc hlt (hty b rfl)

/-- A slice that came in: an empty one may have any address. -/
def RdE (w : World) (v : Value) (l : List Nat) : Prop := Rd .u32 w v l ∨ (l = [] ∧ ∃ a c, v = .slice (some a) 0 c)
theorem RdE.keep {w w' : World} {v : Value} {l : List Nat} (h : RdE w v l) (hb : Below w.heap.size w w') : RdE w' v l := h.elim (fun h => .inl (h.keep hb)) .inr

set_option maxRecDepth 100000 in
theorem clone_odd (ad : Addr) (cap : Nat) (w : World) :
    Calls Try.prog 114 #[.slice (some ad) 0 cap] w (OwPost w []) := by
  have hq := fun (a : Option Addr) (n c : Nat) (w : World) => Lib.run_eql_slice_nil (P := Try.prog) w 22 93 a n c 0 0 Try.underlying22
  obtain ⟨i0, hi, hz0, hz1, hz2⟩ := info_parts Try.infoU32
  go_enter Try.func114, Try.ntmps114
  have hown : (w.alloc (.cells #[] 93)).ownsRow w.heap.size 93 1 (.slice (some ⟨w.heap.size, 0, none⟩) 0 0) 0 [] := World.ownsRow_made w #[] 0 (Nat.le_refl _) (by unfold maxLen; omega) rfl
  have HO := Lib.hid hown
  clear hown
  go_wp2_with (at_builtin; refine wpList_append_own _ rfl (.tmp 5) (.tmp 6) 22 rfl w.heap.size 93 i0 (.int .u32 0) 1 4 Try.underlying22 hi hz0 hz1 hz2 rfl (by decide) _ 0 [] rfl HO.out ad 0 cap [] rfl rfl ?c1 ?c2 ?c3 ?c4 ?c5 ?_)
  case c1 => intro j u h; cases h
  case c2 => intro u h; cases h
  case c3 => unfold maxLen; omega
  case c4 => omega
  case c5 => simp
  intro v' w1 hown' hgrow _
  go_wp2
  go_ret
  refine ⟨v', rfl, ?_, (((Below.refl _ _).alloc (Nat.le_refl _) _).grown hgrow (by simp) (fun k hk => by simp [Value.ownBlock] at hk; omega))⟩
  exact hown'
theorem clone_e (v : Value) (l : List Nat) (w : World) (hl : l.length * 4 ≤ 140737488355328) (h : RdE w v l) :
    Calls Try.prog 114 #[v] w (OwPost w l) := by
  rcases h with h | ⟨rfl, a, c, rfl⟩
  · exact clone_any v l w hl h
  · exact clone_odd a c w

set_option maxHeartbeats 400000 in
/-- Make: likewise, of a copy. -/
theorem make_anyO (neg : Bool) (v : Value) (l : List Nat) (w : World) (hl : l.length * 4 ≤ 140737488355328) (h : RdE w v l) (hlt : ∀ x ∈ l, x < 4294967296) :
    Calls Try.prog 68 #[.bool neg, v] w (IntPostO w (sg neg (vl 4294967296 l))) := by
  have H := fun W hw => Lib.hid (clone_e v l W hl (h.keep hw))
  have H2 := fun v1 w1 h1 hf => Lib.hid (own_anyO neg v1 l w1 h1 hlt hf)
  clear hl h hlt
  go_enter Try.func68, Try.ntmps68
  go_wp2_with fail
  refine (H _ ((Below.refl _ _).alloc (Nat.le_refl _) _)).out.mono ?_
  rintro e w1 ⟨v1, rfl, ho, hb1⟩
  have hsz := hb1.size
  go_wp2_with fail
  refine (H2 _ _ ho.rd (u32_of_ow ho)).out.mono ?_
  rintro e w2 ⟨v2, rfl, hv2, hfr, hb2⟩
  obtain ⟨ad, n, c, rfl, hr2⟩ := hv2
  have hB := hb1.trans (hb2.mono hsz)
  obtain ⟨c0, c1, f0, f1, hlt⟩ := box2 hB
  have HR := Lib.hid (hr2.store2 c0 c1 (by intro n h; cases h) (by intro n h; cases h))
  have HBB := Lib.hid hB
  have HFR := Lib.hid hfr
  clear hB hb1 hb2 hr2 ho hfr
  go_wp2_with fail
  refine bodyPost_ret (v := .agg #[.bool (decide (sg neg (vl 4294967296 l) < 0)), .slice ad n c]) (by simp [results, Try.results68, go_sem, c0, c1]) rfl ⟨_, rfl, ⟨_, _, _, rfl, HR.out _ _⟩, (HFR.out.setCell _ _).setCell _ _, ?_⟩
  exact ((((Below.refl _ _).alloc (Nat.le_refl _) _).trans (HBB.out.mono (by simp))).setCell (by simp) _).setCell (by simp) _

end Go.Proofs.Ytfieecdedilonaa
