/-  shiftRight, of limbs.  -/
import Derived.Test.YtfieecdedilonaaShl
import Derived.Test.YtfieecdedilonaaBl
namespace Go.Proofs.Ytfieecdedilonaa
open Go.RowKit Digs

/-- A row of words of the call's own, at the head of block g: N of them, with room for cap. -/
def Rc (w : World) (base g cap N : Nat) (p : List Nat) : Prop := p.length = N ∧ w.ownsRow base 93 1 (.slice (some ⟨g, 0, none⟩) N cap) N (uw p)
theorem Rc.cell {w : World} {base g cap N : Nat} {p : List Nat} (h : Rc w base g cap N p) (j : Nat) (hj : j < N) : w.cell? ⟨g, j, none⟩ = some (.int .u32 ((p[j]?.getD 0 : Nat) : Int)) := by
  rw [h.2.cellAt j (by omega), uw_getElem? _ _ (by rw [h.1]; exact hj)]
theorem Rc.frozen {w : World} {base g cap N : Nat} {p : List Nat} (h : Rc w base g cap N p) (j : Nat) : w.frozen? ⟨g, j, none⟩ = false := h.2.frozenAt j
theorem Rc.store {w : World} {base g cap N : Nat} {p : List Nat} (h : Rc w base g cap N p) (j x : Nat) (z : Int) (hz : z = x) : Rc (w.setCell ⟨g, j, none⟩ (.int .u32 z)) base g cap N (p.set j x) := by
  subst hz
  exact ⟨by rw [List.length_set, h.1], by rw [uw_set]; exact (h.2.stored j _).1⟩
theorem Rc.grown {w : World} {base g cap N : Nat} {p : List Nat} (h : Rc w base g cap N p) (j : Nat) (u : Value) : w.grownBy (w.setCell ⟨g, j, none⟩ u) (some g) := (h.2.stored j u).2
theorem Rc.ow {w : World} {base g cap N : Nat} {p : List Nat} (h : Rc w base g cap N p) : Ow w base (.slice (some ⟨g, 0, none⟩) N cap) p := by
  unfold Ow; rw [h.1]; exact h.2
theorem Rc.lt {w : World} {base g cap N : Nat} {p : List Nat} (h : Rc w base g cap N p) : base ≤ g ∧ g < w.heap.size := h.2.lt g rfl
theorem Rc.cap_le {w : World} {base g cap N : Nat} {p : List Nat} (h : Rc w base g cap N p) : N ≤ cap ∧ cap ≤ maxLen := by
  obtain ⟨_, ⟨hv, _⟩ | ⟨g', cap', cur, hv, _, _, hc, hm, _⟩⟩ := h.2
  · cases hv
  · cases hv; exact ⟨hc, hm⟩
/-- A row that is not empty. -/
theorem Ow.rc {w : World} {base : Nat} {v : Value} {p : List Nat} (h : Ow w base v p) (h0 : p ≠ []) : ∃ g cap, v = .slice (some ⟨g, 0, none⟩) p.length cap ∧ Rc w base g cap p.length p := by
  have h' := h
  obtain ⟨_, ⟨rfl, hn⟩ | ⟨g, cap, cur, rfl, _⟩⟩ := h
  · exact absurd (List.eq_nil_of_length_eq_zero hn) h0
  · exact ⟨g, cap, rfl, rfl, h'⟩

def ShrRel (m W p N : Nat) (w : World) (g cap : Nat) (i : Value) (wr : World) : Prop :=
  ∃ (k : Nat) (q : List Nat), k ≤ N ∧ i = .int .i64 k ∧ Rc wr w.heap.size g cap N q ∧ (∀ x ∈ q, x < 4294967296) ∧ (∀ j, j < k → q[j]?.getD 0 = m / 2 ^ (32 * W + p) / 4294967296 ^ j % 4294967296) ∧ (∀ j, k ≤ j → q[j]?.getD 0 = m / 4294967296 ^ (W + j) % 4294967296) ∧ Below w.heap.size w wr

set_option maxHeartbeats 1000000 in
set_option maxRecDepth 100000 in
theorem shr_core (ba oa ca : Nat) (m W p : Nat) (w : World) (hp : p ≤ 31) (hW : W < (digs 4294967296 m).length) (hlen : (digs 4294967296 m).length ≤ 1000000) (hlc : (digs 4294967296 m).length ≤ ca) (hcm : ca ≤ maxLen) (hb : ba < w.heap.size)
    (hc : ∀ j, j < (digs 4294967296 m).length → w.cell? ⟨ba, oa + j, none⟩ = some (.int .u32 (((digs 4294967296 m)[j]?.getD 0 : Nat) : Int))) :
    Calls Try.prog 96 #[.slice (some ⟨ba, oa, none⟩) (digs 4294967296 m).length ca, .int .i64 ((32 * W + p : Nat) : Int)] w (OwPost w (digs 4294967296 (m / 2 ^ (32 * W + p)))) := by
  obtain ⟨N, hN⟩ : ∃ N, N = (digs 4294967296 m).length - W := ⟨_, rfl⟩
  have hdl : ((digs 4294967296 m).drop W).length = N := by rw [List.length_drop, hN]
  have HCL := Lib.hid (clone_any (.slice (some ⟨ba, oa + W, none⟩) N (ca - W)) ((digs 4294967296 m).drop W) w (by rw [hdl]; omega) (by
    refine .inr ⟨ba, oa + W, ca - W, by rw [hdl], hb, by rw [hdl]; omega, by omega, fun j hj => ?_⟩
    rw [hdl] at hj
    have h := hc (W + j) (by omega)
    rw [List.getElem?_drop, Nat.add_assoc]
    exact h))
  have HD := Lib.hid (show ∀ j, ((digs 4294967296 m).drop W)[j]?.getD 0 = m / 4294967296 ^ (W + j) % 4294967296 from fun j => by
    rw [List.getElem?_drop, dig_get _ (digs_lt (by decide) m), vl_digs (by decide)])
  have HDL := Lib.hid hdl
  have HMB := Lib.hid (show m < 4294967296 ^ (W + N) by
    have := digs_lt_pow (b := 4294967296) (by decide) m
    rw [show W + N = (digs 4294967296 m).length by omega]
    exact this)
  have hN0 : 0 < N := by omega
  have hLN : ((digs 4294967296 m).length : Int) = (W : Int) + (N : Int) := by omega
  obtain ⟨z, hz⟩ : ∃ z : Int, z = ((32 * W + p : Nat) : Int) := ⟨_, rfl⟩
  have hz0 : (0 : Int) ≤ z := by omega
  have hzd : z / 32 = (W : Int) := by omega
  have hzm : z % 32 = (p : Int) := by omega
  rw [← hz]
  generalize (digs 4294967296 m).length = L at *
  have hL : L = W + N := by omega
  subst hL
  clear hc hz hN hdl hLN
  go_enter Try.func96, Try.ntmps96
  go_wp2_with fail
  refine HCL.out.mono ?_
  rintro e w1 ⟨v1, rfl, ho, hb1⟩
  obtain ⟨g, cap, rfl, hrc⟩ := ho.rc (by intro h; have := HDL.out; rw [h] at this; simp at this; omega)
  rw [HDL.out] at hrc ⊢
  have HR0 := Lib.hid hrc
  have HB1 := Lib.hid hb1
  clear ho hrc hb1
  go_wp2
  go_loopw [24] (ShrRel m W p N w g cap) (fun i _ => N - (intOf i).toNat)
  case atStart =>
    refine ⟨0, _, Nat.zero_le _, rfl, HR0.out, (fun x hx => digs_lt (by decide) m x (List.mem_of_mem_drop hx)), (fun j hj => absurd hj (Nat.not_lt_zero _)), (fun j _ => HD.out j), HB1.out⟩
  case round =>
    obtain ⟨k, q, hk, rfl, hrow, hlt, hlo, hhi, hnx⟩ := hrel
    have HROW := Lib.hid hrow
    have HLT := Lib.hid hlt
    have HLO := Lib.hid hlo
    have HHI := Lib.hid hhi
    have HNX := Lib.hid hnx
    clear hrow hlt hlo hhi hnx
    by_cases hkl : k < N
    · have gx := HROW.out.cell k hkl
      have gf := HROW.out.frozen k
      obtain ⟨x, hx⟩ : ∃ x, x = q[k]?.getD 0 := ⟨_, rfl⟩
      rw [← hx] at gx
      have hxe := HHI.out k (Nat.le_refl _)
      rw [← hx] at hxe
      have hxb : x < 4294967296 := by rw [hxe]; exact Nat.mod_lt _ (by decide)
      by_cases hk1 : k + 1 < N
      · have gy := HROW.out.cell (k + 1) hk1
        obtain ⟨y, hy⟩ : ∃ y, y = q[k + 1]?.getD 0 := ⟨_, rfl⟩
        rw [← hy] at gy
        have hye := HHI.out (k + 1) (Nat.le_succ _)
        rw [← hy] at hye
        have hyb : y < 4294967296 := by rw [hye]; exact Nat.mod_lt _ (by decide)
        have hor := or_join y x hyb hxb
        have HXE := Lib.hid (And.intro hxe hye)
        clear hx hy hxe hye
        go_wp2
        go_roundw
        case rel =>
          refine ⟨k + 1, q.set k ((x + 4294967296 * y) / 2 ^ p % 4294967296), by omega, by go_num, HROW.out.store _ _ _ (by rw [Int.natCast_emod, Int.natCast_ediv, Int.natCast_add, Int.natCast_mul, Int.natCast_pow]; rfl), all_set HLT.out (Nat.mod_lt _ (by decide)), fun j hj => ?_, fun j hj => ?_, HNX.out.setCell (HROW.out.lt).1 _⟩
          · by_cases hjk : j = k
            · subst hjk
              rw [List.getElem?_set_self (by rw [HROW.out.1]; exact hkl), Option.getD_some, shr_of]
              obtain ⟨e1, e2⟩ := HXE.out
              rw [e1, e2, ← Nat.add_assoc, Nat.pow_succ, ← Nat.div_div_eq_div_mul]
              exact shr_digit _ p hp
            · rw [getD_set_ne _ _ _ _ (by omega)]
              exact HLO.out j (by omega)
          · rw [getD_set_ne _ _ _ _ (by omega)]
            exact HHI.out j (by omega)
        case measure => simp [intOf]; omega
      · have hor : bits BinOp.or IntKind.u64 0 (x : Int) = (x : Int) := by have := or_join 0 x (by decide) hxb; simpa using this
        have HXE := Lib.hid hxe
        have hNk : k + 1 = N := by omega
        clear hx hxe
        go_wp2
        go_roundw
        case rel =>
          refine ⟨k + 1, q.set k (x / 2 ^ p % 4294967296), by omega, by go_num, HROW.out.store _ _ _ (by rw [Int.natCast_emod, Int.natCast_ediv, Int.natCast_pow]; rfl), all_set HLT.out (Nat.mod_lt _ (by decide)), fun j hj => ?_, fun j hj => ?_, HNX.out.setCell (HROW.out.lt).1 _⟩
          · by_cases hjk : j = k
            · subst hjk
              rw [List.getElem?_set_self (by rw [HROW.out.1]; exact hkl), Option.getD_some, shr_of]
              have h0 : m / 4294967296 ^ (W + j) / 4294967296 = 0 := by
                rw [Nat.div_div_eq_div_mul, ← Nat.pow_succ]
                exact Nat.div_eq_of_lt (by have := HMB.out; rw [← hNk, ← Nat.add_assoc] at this; exact this)
              have h5 := shr_digit (m / 4294967296 ^ (W + j)) p hp
              rw [h0, Nat.zero_mod, Nat.mul_zero, Nat.add_zero] at h5
              rw [HXE.out]
              exact h5
            · rw [getD_set_ne _ _ _ _ (by omega)]
              exact HLO.out j (by omega)
          · rw [getD_set_ne _ _ _ _ (by omega)]
            exact HHI.out j (by omega)
        case measure => simp [intOf]; omega
    · obtain rfl : k = N := by omega
      have hvl : vl 4294967296 q = m / 2 ^ (32 * W + p) := by
        refine vl_of_digits q _ ?_ (fun j hj => HLO.out j (by rw [HROW.out.1] at hj; exact hj))
        rw [HROW.out.1]
        exact shr_lt m W p k HMB.out
      have HT := Lib.hid (trim_ow HROW.out.ow HLT.out)
      rw [hvl] at HT
      clear hvl
      go_wp2_with (go_at_call 115; refine HT.out.mono ?_; rintro e w' ⟨⟨v2, rfl, ho2⟩, rfl⟩)
      go_ret
      exact ⟨_, rfl, ho2, HNX.out⟩

set_option maxHeartbeats 400000 in
set_option maxRecDepth 100000 in
theorem shr_none (ad : Option Addr) (n c : Nat) (z : Int) (w : World) (hz0 : 0 ≤ z) (hz1 : z ≤ 9223372036854775807) (hn : (n : Int) ≤ z / 32) :
    Calls Try.prog 96 #[.slice ad n c, .int .i64 z] w fun e w' => e = .returned (.slice none 0 0) ∧ w = w' := by
  go_enter Try.func96, Try.ntmps96
  go_wp2
  go_ret
  exact ⟨rfl, rfl⟩

/-- shiftRight: without the lowest binary digits. -/
theorem shr_any (m n : Nat) (v : Value) (w : World) (hn64 : n ≤ 9223372036854775807) (hm : (digs 4294967296 m).length ≤ 1000000) (h : Rd .u32 w v (digs 4294967296 m)) :
    Calls Try.prog 96 #[v, .int .i64 n] w (OwPost w (digs 4294967296 (m / 2 ^ n))) := by
  have hn : n = 32 * (n / 32) + n % 32 := by omega
  by_cases hW : n / 32 < (digs 4294967296 m).length
  · rcases h with ⟨rfl, h0⟩ | ⟨b, off, cap, rfl, hb, hlc, hcm, hc⟩
    · rw [h0] at hW; simp at hW
    · have := shr_core b off cap m (n / 32) (n % 32) w (by omega) hW hm hlc hcm hb hc
      rw [← hn] at this
      exact this
  · have h0 : m / 2 ^ n = 0 := by
      apply Nat.div_eq_of_lt
      have h1 := digs_lt_pow (b := 4294967296) (by decide) m
      rw [pow32] at h1
      exact Nat.lt_of_lt_of_le h1 (Nat.pow_le_pow_right (by decide) (by omega))
    rw [h0, digs_zero]
    obtain ⟨ad, cap, rfl, _⟩ := h.opt
    exact (shr_none ad _ cap n w (by omega) (by omega) (by omega)).mono fun _ _ ⟨he, hw⟩ => ⟨_, he, by rw [← hw]; exact World.ownsRow_nil _ _ _ _, by rw [← hw]; exact Below.refl _ _⟩

end Go.Proofs.Ytfieecdedilonaa
