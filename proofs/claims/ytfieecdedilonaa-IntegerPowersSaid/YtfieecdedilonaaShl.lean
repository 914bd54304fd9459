/-  shiftLeft, of limbs.  -/
import Derived.Test.YtfieecdedilonaaLen
import Derived.Deep.CutRange
namespace Go.Proofs.Ytfieecdedilonaa
open Go.RowKit Digs

theorem or_low (c x p : Nat) (hp : p ≤ 31) (hc : c < 2 ^ p) (hx : x < 4294967296) :
    bits BinOp.or IntKind.u64 (c : Int) (IntKind.u64.wrap ((x : Int) * 2 ^ p)) = ((c + x * 2 ^ p : Nat) : Int) := by
  have h1 := two_pow_le_31 hp
  have h2 := shl_bound hx hc
  have h3 : 4294967296 * 2 ^ p ≤ 4294967296 * 2147483648 := Nat.mul_le_mul_left _ h1
  have e : ((x : Int) * 2 ^ p) = ((x * 2 ^ p : Nat) : Int) := by rw [Int.natCast_mul, Int.natCast_pow]; rfl
  have h4 : IntKind.u64.wrap ((x * 2 ^ p : Nat) : Int) = ((x * 2 ^ p : Nat) : Int) := by rw [IntKind.wrap_u64]; omega
  rw [e, h4, u64_or_nat _ _ (by omega) (by omega), Nat.or_comm, Nat.mul_comm x, ← Nat.two_pow_add_eq_or_of_lt hc, Nat.add_comm]

def ShlRel (la : List Nat) (n W p : Nat) (w : World) (v c i : Value) (wr : World) : Prop :=
  ∃ (k cy : Nat) (s : List Nat), k ≤ la.length ∧ i = .int .i64 k ∧ c = .int .u64 cy ∧ cy < 2 ^ p ∧ s.length = W + k ∧ (∀ x ∈ s, x < 4294967296) ∧ Ow wr w.heap.size v s ∧
    vl 4294967296 s + 4294967296 ^ (W + k) * cy = vl 4294967296 (la.take k) * 2 ^ n ∧ Below w.heap.size w wr

set_option maxHeartbeats 1000000 in
set_option maxRecDepth 100000 in
theorem shl_core (ada : Option Addr) (ca : Nat) (la : List Nat) (n W p : Nat) (w : World) (hn : n = 32 * W + p) (hp : p ≤ 31) (hW : W ≤ 1000000) (hlen : la.length ≤ 1000000) (hca : RdA .u32 w ada la) (hla : ∀ x ∈ la, x < 4294967296) :
    Calls Try.prog 95 #[.slice ada la.length ca, .int .i64 n] w (OwPost w (digs 4294967296 (vl 4294967296 la * 2 ^ n))) := by
  have HLA := Lib.hid hla
  have HCA := Lib.hid hca
  have HNN := Lib.hid hn
  obtain ⟨z, hz⟩ : ∃ z : Int, z = (n : Int) := ⟨_, rfl⟩
  have hz0 : (0 : Int) ≤ z := by omega
  have hzd : z / 32 = (W : Int) := by omega
  have hzm : z % 32 = (p : Int) := by omega
  rw [← hz]
  have hpm : min p 64 = p := by omega
  clear hla hca hz hn
  obtain ⟨i0, hi, hz0', hz1, hz2⟩ := info_parts Try.infoU32
  go_enter Try.func95, Try.ntmps95
  go_wp2_with (at_make; go_loud (refine wpList_make_part _ rfl _ _ 22 rfl w.heap.size 93 i0 (.int .u32 0) Try.underlying22 hi hz0' hz1 rfl _ _ _ _ W (W + la.length + 1) rfl rfl hzd (by omega) (by omega) ?b2 ?b3 (Nat.le_refl _) ?_))
  case b2 => rw [hz2]; omega
  case b3 => unfold maxLen; omega
  intro w0 hown0 hgrow0
  go_wp2
  go_loopw [7, 8, 24] (ShlRel la n W p w) (fun _ _ i _ => la.length - (intOf i).toNat)
  case atStart =>
    refine ⟨0, 0, List.replicate W 0, Nat.zero_le _, rfl, rfl, Nat.two_pow_pos _, by simp, (by intro x hx; rw [List.eq_of_mem_replicate hx]; decide), ?_, by rw [vl_replicate_zero]; simp [vl], (Below.refl _ _).grown hgrow0 (Nat.le_refl _) (fun k h => by cases h)⟩
    unfold Ow
    rw [List.length_replicate]
    have e : uw (List.replicate W 0) = List.replicate W (.int .u32 0) := by simp [uw]
    rw [e]
    exact hown0
  case round =>
    obtain ⟨k, cy, s, hk, rfl, rfl, hcy, hs, hsl, hown, hv, hnx⟩ := hrel
    have HS := Lib.hid hs
    have HSL := Lib.hid hsl
    have HV := Lib.hid hv
    have HO := Lib.hid hown
    have HNX := Lib.hid hnx
    have HCY := Lib.hid hcy
    clear hs hsl hv hown hnx hcy
    by_cases hkl : k < la.length
    · obtain ⟨ba, oa, rfl, hba, gx0⟩ := HCA.out k hkl
      have gx : wr.cell? ⟨ba, oa + k, none⟩ = some (.int .u32 ((la[k]?.getD 0 : Nat) : Int)) := (HNX.out.cell (p := ⟨ba, oa + k, none⟩) hba).trans gx0
      clear gx0
      obtain ⟨x, hx⟩ : ∃ x, x = la[k]?.getD 0 := ⟨_, rfl⟩
      rw [← hx] at gx
      have hxb : x < 4294967296 := by rw [hx, List.getElem?_eq_getElem hkl]; exact HLA.out _ (List.getElem_mem hkl)
      have HX := Lib.hid hx
      clear hx
      have hcy2 : cy < 2 ^ p := HCY.out
      have hor0 := or_low cy x p hp hcy2 hxb
      have hb2 := shl_bound hxb hcy2
      have hb3 := two_pow_le_31 hp
      obtain ⟨t, ht⟩ : ∃ t, t = cy + x * 2 ^ p := ⟨_, rfl⟩
      have htb : t < 9223372036854775808 := by rw [ht]; omega
      have htd : t / 4294967296 < 2 ^ p := by rw [Nat.div_lt_iff_lt_mul (by decide), Nat.mul_comm, ht]; omega
      rw [← ht] at hor0
      have HT := Lib.hid ht
      have HTD := Lib.hid htd
      clear ht htd hcy2 hb2 hb3
      go_wp2_with (at_builtin; refine wpList_append_own _ rfl (.tmp 34) (.tmp 37) 22 rfl w.heap.size 93 i0 (.int .u32 0) 1 4 Try.underlying22 hi hz0' hz1 hz2 rfl (by decide) _ _ _ rfl (HO.out.alloc _) ⟨wr.heap.size, 0, none⟩ 1 1 (uw [t % 4294967296]) rfl rfl ?c1 (uw_oneCell _) ?c2 ?c3 ?c4 ?_)
      case c1 => exact new_one _ _ _ _ (by omega)
      case c2 => have := HS.out; unfold maxLen; omega
      case c3 => have := HS.out; omega
      case c4 => have := HNX.out.size; simp; omega
      intro v' w1 hown1 hgrow _
      have HO1 := Lib.hid hown1
      have HG := Lib.hid hgrow
      clear hown1 hgrow hor0
      go_wp2
      go_roundw
      case rel =>
        refine ⟨k + 1, t / 4294967296, s ++ [t % 4294967296], by omega, by go_num, by go_num, HTD.out, by rw [List.length_append, HS.out]; rfl, all_snoc HSL.out (Nat.mod_lt _ (by decide)), Ow.snoc HO1.out, ?_, ?_⟩
        · have h9 := shl_step cy x p n _ (vl 4294967296 (la.take (k + 1))) HNN.out HS.out HV.out (by rw [vl_take_succ _ _ _ hkl, HX.out])
          rw [← HT.out] at h9
          exact h9
        · exact (HNX.out.alloc HNX.out.size _).grown HG.out (by have := HNX.out.size; simp; omega) (fun q hq => (HO.out.lt q hq).1)
      case measure => simp [intOf]; omega
    · obtain rfl : k = la.length := by omega
      have hcyb : cy < 4294967296 := by have := HCY.out; have := two_pow_le_31 hp; omega
      go_wp2_with (at_builtin; refine wpList_append_own _ rfl (.tmp 42) (.tmp 45) 22 rfl w.heap.size 93 i0 (.int .u32 0) 1 4 Try.underlying22 hi hz0' hz1 hz2 rfl (by decide) _ _ _ rfl (HO.out.alloc _) ⟨wr.heap.size, 0, none⟩ 1 1 (uw [cy]) rfl rfl ?d1 (uw_oneCell _) ?d2 ?d3 ?d4 ?_)
      case d1 => exact new_one _ _ _ _ (by omega)
      case d2 => have := HS.out; unfold maxLen; omega
      case d3 => have := HS.out; omega
      case d4 => have := HNX.out.size; simp; omega
      intro v' w1 hown1 hgrow _
      have HO1 := Lib.hid (Ow.snoc hown1)
      have hb1 := (HNX.out.alloc HNX.out.size _).grown hgrow (by have := HNX.out.size; simp; omega) (fun q hq => (HO.out.lt q hq).1)
      have HB1 := Lib.hid hb1
      have HT := Lib.hid (trim_ow HO1.out (all_snoc HSL.out hcyb))
      clear hown1 hgrow hb1
      go_wp2_with (go_at_call 115; refine HT.out.mono ?_; rintro e w' ⟨⟨v2, rfl, ho2⟩, rfl⟩)
      go_ret
      refine ⟨_, rfl, ?_, HB1.out⟩
      have e : vl 4294967296 (s ++ [cy]) = vl 4294967296 la * 2 ^ n := by
        rw [vl_snoc, HS.out, HV.out, List.take_of_length_le (Nat.le_refl _)]
      rw [e] at ho2
      exact ho2

/-- shiftLeft: times a power of two. -/
theorem shl_any (m n : Nat) (v : Value) (w : World) (hn : n ≤ 1000000) (hm : (digs 4294967296 m).length ≤ 1000000) (h : Rd .u32 w v (digs 4294967296 m)) :
    Calls Try.prog 95 #[v, .int .i64 n] w (OwPost w (digs 4294967296 (m * 2 ^ n))) := by
  obtain ⟨ad, ca, rfl, r⟩ := h.opt
  have := shl_core ad ca _ n (n / 32) (n % 32) w (by omega) (by omega) (by omega) hm r (digs_lt (by decide) m)
  rw [vl_digs (by decide)] at this
  exact this

end Go.Proofs.Ytfieecdedilonaa
