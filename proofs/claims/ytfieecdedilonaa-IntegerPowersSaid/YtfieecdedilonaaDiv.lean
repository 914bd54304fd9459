/-  Division by one limb.  -/
import Derived.Test.YtfieecdedilonaaIs
import Derived.Laws.BitsAllLaws
namespace Go.Proofs.Ytfieecdedilonaa
open Go.RowKit Digs

theorem or_join (r x : Nat) (hr : r < 4294967296) (hx : x < 4294967296) : bits BinOp.or IntKind.u64 ((r : Int) * 4294967296) (x : Int) = ((x + 4294967296 * r : Nat) : Int) := by
  have h1 : ((r : Int) * 4294967296) = ((r * 4294967296 : Nat) : Int) := by omega
  rw [h1, u64_or_nat _ _ (by omega) (by omega), nat_join 32 _ _ (by omega) (by omega)]
  omega

theorem drop_set (l : List Nat) (m x : Nat) : (l.set m x).drop (m + 1) = l.drop (m + 1) := by
  apply List.ext_getElem?
  intro j
  rw [List.getElem?_drop, List.getElem?_drop, List.getElem?_set_ne (by omega)]

def DivRel (la : List Nat) (d : Nat) (w : World) (rest i : Value) (wr : World) : Prop :=
  ∃ (z : Int) (k r : Nat) (p : List Nat), i = .int .i64 z ∧ z + 1 = k ∧ k ≤ la.length ∧ rest = .int .u64 r ∧ r < d ∧ Row wr w.heap.size w.heap.size la.length p ∧ (∀ x ∈ p, x < 4294967296) ∧
    vl 4294967296 (la.drop k) = d * vl 4294967296 (p.drop k) + r ∧ Below w.heap.size w wr

def DivPost (w : World) (q r : Nat) (e : Ending) (w' : World) : Prop := ∃ v, e = .returned (.tuple #[v, .int .u32 r]) ∧ Ow w' w.heap.size v (digs 4294967296 q) ∧ Below w.heap.size w w'

set_option maxHeartbeats 2000000 in
set_option maxRecDepth 100000 in
theorem divSmall_core (ada : Option Addr) (ca : Nat) (la : List Nat) (d : Nat) (w : World) (hlen : la.length ≤ 1000000) (hca : RdA .u32 w ada la) (hla : ∀ x ∈ la, x < 4294967296) (hd0 : 1 ≤ d) (hd : d < 4294967296) :
    Calls Try.prog 92 #[.slice ada la.length ca, .int .u32 d] w (DivPost w (vl 4294967296 la / d) (vl 4294967296 la % d)) := by
  have HLA := Lib.hid hla
  have HCA := Lib.hid hca
  clear hla hca
  obtain ⟨i0, hi, hz0, hz1, hz2⟩ := info_parts Try.infoU32
  go_enter Try.func92, Try.ntmps92
  go_wp2_with (at_make; refine wpList_make_full _ rfl _ _ 22 rfl w.heap.size 93 i0 (.int .u32 0) 1 Try.underlying22 hi hz0 hz1 _ _ _ _ la.length rfl rfl (by omega) (by omega) ?b2 ?b3 (Nat.le_refl _) ?_)
  case b2 => rw [hz2]; omega
  case b3 => unfold maxLen; omega
  intro w0 hown0 hgrow0
  have hrow0 : Row w0 w.heap.size w.heap.size la.length (List.replicate la.length 0) := by
    refine ⟨by simp, ?_⟩
    rw [uw_zeros] at hown0
    exact hown0
  have HB0 := Lib.hid ((Below.refl w.heap.size w).grown hgrow0 (Nat.le_refl _) (fun k h => by cases h))
  have HR0 := Lib.hid hrow0
  clear hown0 hgrow0 hrow0
  go_wp2
  go_loopw [7, 8] (fun rest i wr => DivRel la d w rest i wr) (fun _ i _ => (intOf i + 1).toNat)
  case atStart => exact ⟨_, la.length, 0, _, rfl, by omega, Nat.le_refl _, rfl, hd0, HR0.out, (by intro x hx; rw [List.eq_of_mem_replicate hx]; decide), by rw [List.drop_of_length_le (Nat.le_refl _), List.drop_of_length_le (by simp)]; simp [vl], HB0.out⟩
  case round =>
    obtain ⟨z, k, r, p, rfl, hzk, hk, rfl, hr, hrow, hpl, hv, hnx⟩ := hrel
    have HROW := Lib.hid hrow
    have HPL := Lib.hid hpl
    have HV := Lib.hid hv
    have HNX := Lib.hid hnx
    clear hrow hpl hv hnx
    by_cases h0 : 0 < k
    · obtain ⟨m, rfl⟩ : ∃ m : Nat, z = m := ⟨k - 1, by omega⟩
      have hm1 : m < la.length := by omega
      have HK : Hid (k = m + 1) := by show k = m + 1; omega
      clear hzk hk h0
      obtain ⟨ba, oa, rfl, hba, gx0⟩ := HCA.out m hm1
      have gx := (HNX.out.cell (p := ⟨ba, oa + m, none⟩) hba).trans gx0
      clear gx0
      obtain ⟨x, hx⟩ : ∃ x, x = la[m]?.getD 0 := ⟨_, rfl⟩
      rw [← hx] at gx
      have hxb : x < 4294967296 := by rw [hx, List.getElem?_eq_getElem hm1]; exact HLA.out _ (List.getElem_mem hm1)
      have HX := Lib.hid hx
      clear hx
      have gz := HROW.out.cell m hm1
      have gf := HROW.out.frozen m
      have hrb : r < 4294967296 := by omega
      have hor := or_join r x hrb hxb
      obtain ⟨t, ht⟩ : ∃ t, t = x + 4294967296 * r := ⟨_, rfl⟩
      rw [← ht] at hor
      have htb : t < 18446744073709551616 := by omega
      have hqb : t / d < 4294967296 := by
        rw [Nat.div_lt_iff_lt_mul (by omega)]
        have : 4294967296 * (r + 1) ≤ 4294967296 * d := Nat.mul_le_mul_left _ hr
        omega
      have HT := Lib.hid ht
      have HQB := Lib.hid hqb
      clear ht hqb
      go_wp2_with fail
      go_roundw
      case rel =>
        refine ⟨_, m, t % d, p.set m (t / d), rfl, by omega, by omega, ?_, Nat.mod_lt _ (by omega), HROW.out.store _ _ _ ?_, all_set HPL.out HQB.out, ?_, HNX.out.setCell (by simp) _⟩
        · refine congrArg (Value.int .u64) ?_
          rw [Int.natCast_emod]
        · have h5 := HQB.out
          simp only [IntKind.wrap_u64]
          generalize hq : t / d = q at h5 ⊢
          have h6 : (t : Int) / (d : Int) = (q : Int) := by rw [← Int.natCast_ediv, hq]
          rw [h6]
          omega
        · have h1 := HV.out
          rw [HK.out] at h1
          have hpm : m < p.length := by rw [HROW.out.1]; exact hm1
          have h2 := div_step (b := 4294967296) (d := d) x r _ _ h1
          rw [vl_drop_step _ _ _ hm1, vl_drop_step _ (p.set m (t / d)) _ (by rw [List.length_set]; exact hpm), drop_set, List.getElem?_set_self hpm, ← HX.out, h2, HT.out]
          rfl
      case measure => simp [intOf]
    · obtain rfl : z = -1 := by omega
      obtain rfl : k = 0 := by omega
      have h1 := HV.out
      rw [List.drop_zero, List.drop_zero] at h1
      have hq : vl 4294967296 p = vl 4294967296 la / d := by
        rw [h1, Nat.mul_add_div (by omega), Nat.div_eq_of_lt hr, Nat.add_zero]
      have hm : r = vl 4294967296 la % d := by
        rw [h1, Nat.mul_add_mod, Nat.mod_eq_of_lt hr]
      have HQ := Lib.hid hq
      have HM := Lib.hid hm
      have HT := Lib.hid (trim_ow HROW.out.ow HPL.out)
      clear h1 hq hm
      go_wp2_with (go_at_call 115; refine HT.out.mono ?_; rintro e w' ⟨⟨v2, rfl, ho2⟩, rfl⟩)
      go_ret2
      rw [HQ.out] at ho2
      refine ⟨_, ?_, ho2, HNX.out⟩
      rw [← HM.out]
      rfl

theorem divSmall_any (m d : Nat) (va : Value) (w : World) (hm : (digs 4294967296 m).length ≤ 1000000) (ha : Rd .u32 w va (digs 4294967296 m)) (hd0 : 1 ≤ d) (hd : d < 4294967296) :
    Calls Try.prog 92 #[va, .int .u32 d] w (DivPost w (m / d) (m % d)) := by
  obtain ⟨ada, ca, rfl, ra⟩ := ha.opt
  have := divSmall_core ada ca _ d w hm ra (digs_lt (by decide) m) hd0 hd
  rw [vl_digs (by decide)] at this
  exact this

end Go.Proofs.Ytfieecdedilonaa
