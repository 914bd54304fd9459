/-  multiply, of limbs.  -/
import Derived.Test.YtfieecdedilonaaSub
namespace Go.Proofs.Ytfieecdedilonaa
open Go.RowKit Digs

/-- A row of words of the call's own, at the head of block g: N of them. -/
def Row (w : World) (base g N : Nat) (p : List Nat) : Prop := p.length = N ∧ w.ownsRow base 93 1 (.slice (some ⟨g, 0, none⟩) N N) N (uw p)
theorem Row.cell {w : World} {base g N : Nat} {p : List Nat} (h : Row w base g N p) (j : Nat) (hj : j < N) : w.cell? ⟨g, j, none⟩ = some (.int .u32 ((p[j]?.getD 0 : Nat) : Int)) := by
  rw [h.2.cellAt j (by omega), uw_getElem? _ _ (by rw [h.1]; exact hj)]
theorem Row.frozen {w : World} {base g N : Nat} {p : List Nat} (h : Row w base g N p) (j : Nat) : w.frozen? ⟨g, j, none⟩ = false := h.2.frozenAt j
theorem uw_set (p : List Nat) (j x : Nat) : uw (p.set j x) = (uw p).set j (.int .u32 (x : Int)) := by unfold uw; rw [List.map_set]
theorem Row.store {w : World} {base g N : Nat} {p : List Nat} (h : Row w base g N p) (j x : Nat) (z : Int) (hz : z = x) : Row (w.setCell ⟨g, j, none⟩ (.int .u32 z)) base g N (p.set j x) := by
  subst hz
  exact ⟨by rw [List.length_set, h.1], by rw [uw_set]; exact (h.2.stored j _).1⟩
theorem Row.ow {w : World} {base g N : Nat} {p : List Nat} (h : Row w base g N p) : Ow w base (.slice (some ⟨g, 0, none⟩) N N) p := by
  unfold Ow; rw [h.1]; exact h.2
theorem Row.lt {w : World} {base g N : Nat} {p : List Nat} (h : Row w base g N p) : base ≤ g ∧ g < w.heap.size := h.2.lt g rfl
theorem uw_zeros (n : Nat) : (madeCells #[Value.int .u32 0] n).toList = uw (List.replicate n 0) := by
  rw [toList_madeCells_one]; simp [uw]
theorem all_set {b : Nat} {p : List Nat} {j x : Nat} (h : ∀ y ∈ p, y < b) (hx : x < b) : ∀ y ∈ p.set j x, y < b := by
  intro y hy
  rcases List.mem_or_eq_of_mem_set hy with h1 | h1
  · exact h y h1
  · rw [h1]; exact hx
theorem getD_set_ne (p : List Nat) (i j x : Nat) (h : i ≠ j) : (p.set i x)[j]?.getD 0 = p[j]?.getD 0 := by rw [List.getElem?_set_ne h]

/-- What the loops of a product hold. -/
def MulRel (la lb : List Nat) (w : World) (N : Nat) (i : Value) (wr : World) : Prop :=
  ∃ (k : Nat) (p : List Nat), k ≤ la.length ∧ i = .int .i64 k ∧ Row wr w.heap.size w.heap.size N p ∧ (∀ x ∈ p, x < 4294967296) ∧
    vl 4294967296 p = vl 4294967296 (la.take k) * vl 4294967296 lb ∧ (∀ j, k + lb.length ≤ j → p[j]?.getD 0 = 0) ∧ Below w.heap.size w wr
def MulRow (lb : List Nat) (w : World) (N k x V : Nat) (c i : Value) (wr : World) : Prop :=
  ∃ (q cy : Nat) (p : List Nat), q ≤ lb.length ∧ i = .int .i64 q ∧ c = .int .u64 cy ∧ cy < 4294967296 ∧ Row wr w.heap.size w.heap.size N p ∧ (∀ x ∈ p, x < 4294967296) ∧
    vl 4294967296 p + 4294967296 ^ (k + q) * cy = V + 4294967296 ^ k * (x * vl 4294967296 (lb.take q)) ∧ (∀ j, k + lb.length ≤ j → p[j]?.getD 0 = 0) ∧ Below w.heap.size w wr

set_option maxHeartbeats 2000000 in
set_option maxRecDepth 100000 in
theorem mul_core (ada adb : Option Addr) (ca cb : Nat) (la lb : List Nat) (w : World) (hlen : la.length ≤ 1000000) (hlenb : lb.length ≤ 1000000) (hca : RdA .u32 w ada la) (hcb : RdA .u32 w adb lb)
    (hla : ∀ x ∈ la, x < 4294967296) (hlb : ∀ x ∈ lb, x < 4294967296) :
    Calls Try.prog 88 #[.slice ada la.length ca, .slice adb lb.length cb] w (OwPost w (digs 4294967296 (vl 4294967296 la * vl 4294967296 lb))) := by
  have HLA := Lib.hid hla
  have HLB := Lib.hid hlb
  have HCA := Lib.hid hca
  have HCB := Lib.hid hcb
  clear hla hlb hca hcb
  obtain ⟨i0, hi, hz0, hz1, hz2⟩ := info_parts Try.infoU32
  go_enter Try.func88, Try.ntmps88
  go_wp2_with (at_make; refine wpList_make_full _ rfl _ _ 22 rfl w.heap.size 93 i0 (.int .u32 0) 1 Try.underlying22 hi hz0 hz1 _ _ _ _ (la.length + lb.length) rfl rfl (by omega) (by omega) ?b2 ?b3 (Nat.le_refl _) ?_)
  case b2 => rw [hz2]; omega
  case b3 => unfold maxLen; omega
  intro w0 hown0 hgrow0
  have hrow0 : Row w0 w.heap.size w.heap.size (la.length + lb.length) (List.replicate (la.length + lb.length) 0) := by
    refine ⟨by simp, ?_⟩
    rw [uw_zeros] at hown0
    exact hown0
  have HB0 := Lib.hid ((Below.refl w.heap.size w).grown hgrow0 (Nat.le_refl _) (fun k h => by cases h))
  have HR0 := Lib.hid hrow0
  clear hown0 hgrow0 hrow0
  go_wp2
  go_loopw [20] (MulRel la lb w (la.length + lb.length)) (fun i _ => la.length - (intOf i).toNat)
  case atStart => exact ⟨0, _, Nat.zero_le _, rfl, HR0.out, (by intro x hx; rw [List.eq_of_mem_replicate hx]; decide), by rw [vl_replicate_zero]; simp [vl], fun j _ => by rw [List.getElem?_replicate]; split <;> rfl, HB0.out⟩
  case round =>
    obtain ⟨k, p, hk, rfl, hrow, hpl, hv, hz, hnx⟩ := hrel
    have HROW := Lib.hid hrow
    have HPL := Lib.hid hpl
    have HV := Lib.hid hv
    have HZ := Lib.hid hz
    have HNX := Lib.hid hnx
    clear hrow hpl hv hz hnx
    by_cases hkl : k < la.length
    · obtain ⟨ba, oa, rfl, hba, gx0⟩ := HCA.out k hkl
      have gx : wr.cell? ⟨ba, oa + k, none⟩ = some (.int .u32 ((la[k]?.getD 0 : Nat) : Int)) := (HNX.out.cell (p := ⟨ba, oa + k, none⟩) hba).trans gx0
      clear gx0
      obtain ⟨x, hx⟩ : ∃ x, x = la[k]?.getD 0 := ⟨_, rfl⟩
      rw [← hx] at gx
      have hxb : x < 4294967296 := by rw [hx, List.getElem?_eq_getElem hkl]; exact HLA.out _ (List.getElem_mem hkl)
      have HX := Lib.hid hx
      clear hx
      by_cases hx0 : x = 0
      · have hxz : ((x : Int) == 0) = true := by rw [beq_iff_eq]; omega
        have HX0 := Lib.hid hx0
        clear hx0
        go_wp2
        go_roundw
        case rel =>
          refine ⟨k + 1, p, by omega, by go_num, HROW.out, HPL.out, ?_, fun j hj => HZ.out j (by omega), HNX.out⟩
          rw [vl_take_succ _ _ _ hkl, ← HX.out, HX0.out, Nat.mul_zero, Nat.add_zero]
          exact HV.out
        case measure => simp [intOf]; omega
      · have hxz : ((x : Int) == 0) = false := by rw [beq_eq_false_iff_ne]; omega
        have hp2 : k + lb.length < la.length + lb.length := by omega
        go_wp2
        obtain ⟨wo, hwo⟩ : ∃ wo : World, wo = wr := ⟨_, rfl⟩
        have HWO := Lib.hid hwo
        clear hwo
        go_loopw [8, 32] (MulRow lb w (la.length + lb.length) k x (vl 4294967296 p)) (fun _ i _ => lb.length - (intOf i).toNat)
        case atStart => exact ⟨0, 0, p, Nat.zero_le _, rfl, rfl, by omega, HROW.out, HPL.out, by simp [vl], HZ.out, HNX.out⟩
        case round =>
          obtain ⟨q, cy, p1, hq, rfl, rfl, hcy, hrow, hpl, hv, hz, hnx⟩ := hrel
          have HROW1 := Lib.hid hrow
          have HPL1 := Lib.hid hpl
          have HV1 := Lib.hid hv
          have HZ1 := Lib.hid hz
          have HNX1 := Lib.hid hnx
          clear hrow hpl hv hz hnx
          by_cases hql : q < lb.length
          · obtain ⟨bb, ob, rfl, hbb, gy0⟩ := HCB.out q hql
            have gy : wr.cell? ⟨bb, ob + q, none⟩ = some (.int .u32 ((lb[q]?.getD 0 : Nat) : Int)) := (HNX1.out.cell (p := ⟨bb, ob + q, none⟩) hbb).trans gy0
            clear gy0 gx
            obtain ⟨y, hy⟩ : ∃ y, y = lb[q]?.getD 0 := ⟨_, rfl⟩
            rw [← hy] at gy
            have hyb : y < 4294967296 := by rw [hy, List.getElem?_eq_getElem hql]; exact HLB.out _ (List.getElem_mem hql)
            have HY := Lib.hid hy
            clear hy
            have gz := HROW1.out.cell (k + q) (by omega)
            have gf := HROW1.out.frozen (k + q)
            obtain ⟨z, hz⟩ : ∃ z, z = p1[k + q]?.getD 0 := ⟨_, rfl⟩
            rw [← hz] at gz
            have hkq : k + q < p1.length := by rw [HROW1.out.1]; omega
            have hzb : z < 4294967296 := by rw [hz, List.getElem?_eq_getElem hkq]; exact HPL1.out _ (List.getElem_mem hkq)
            have HZZ := Lib.hid hz
            clear hz
            have hb1 := carry_lt (b := 4294967296) (by decide) hxb hyb hcy hzb
            have hxy0 : (0 : Int) ≤ (x : Int) * (y : Int) := Int.mul_nonneg (by omega) (by omega)
            have hb2 : (cy : Int) + (x : Int) * (y : Int) + (z : Int) < 18446744073709551616 := by
              have h3 : ((cy + x * y + z : Nat) : Int) < ((4294967296 * 4294967296 : Nat) : Int) := Int.ofNat_lt.2 hb1
              simpa using h3
            have HB1 := Lib.hid hb1
            clear hb1
            go_wp2
            go_roundw
            case rel =>
              refine ⟨q + 1, (cy + x * y + z) / 4294967296, p1.set (k + q) ((cy + x * y + z) % 4294967296), by omega, by go_num, ?_, ?_, HROW1.out.store _ _ _ ?_, all_set HPL1.out (Nat.mod_lt _ (by decide)), ?_, ?_, ?_⟩
              · refine congrArg (Value.int .u64) ?_
                rw [Int.natCast_ediv, Int.natCast_add, Int.natCast_add, Int.natCast_mul]
                congr 1
                omega
              · rw [Nat.div_lt_iff_lt_mul (by decide)]; exact HB1.out
              · rw [Int.natCast_emod, Int.natCast_add, Int.natCast_add, Int.natCast_mul]
                congr 1
                omega
              · have h5 := mul_step p1 k q cy x y _ _ hkq HV1.out
                rw [← HZZ.out] at h5
                rw [vl_take_succ _ _ _ hql, ← HY.out]
                exact h5
              · intro j hj
                rw [getD_set_ne _ _ _ _ (by omega)]
                exact HZ1.out j hj
              · exact HNX1.out.setCell (by simp) _
            case measure => simp [intOf]; omega
          · obtain rfl : q = lb.length := by omega
            have gz := HROW1.out.cell (k + lb.length) hp2
            have gf := HROW1.out.frozen (k + lb.length)
            go_wp2
            go_roundw
            case rel =>
              refine ⟨k + 1, p1.set (k + lb.length) cy, by omega, by go_num, HROW1.out.store _ _ _ (by omega), all_set HPL1.out hcy, ?_, ?_, ?_⟩
              · have h6 := HV1.out
                rw [List.take_of_length_le (Nat.le_refl _)] at h6
                rw [mul_row p1 (k + lb.length) cy _ _ (by rw [HROW1.out.1]; exact hp2) (HZ1.out _ (Nat.le_refl _)) h6, HV.out, vl_take_succ _ _ _ hkl, ← HX.out, Nat.add_mul, Nat.mul_assoc]
              · intro j hj
                rw [getD_set_ne _ _ _ _ (by omega)]
                exact HZ1.out j (by omega)
              · exact HNX1.out.setCell (by simp) _
            case measure => simp [intOf]; omega
    · obtain rfl : k = la.length := by omega
      have hlast := HV.out
      rw [List.take_of_length_le (Nat.le_refl _)] at hlast
      have HE := Lib.hid hlast
      have ho := HROW.out.ow
      have HT := Lib.hid (trim_ow ho HPL.out)
      clear hlast ho
      go_wp2_with (go_at_call 115; refine HT.out.mono ?_; rintro e w' ⟨⟨v2, rfl, ho2⟩, rfl⟩)
      go_ret
      refine ⟨_, rfl, ?_, HNX.out⟩
      rw [HE.out] at ho2
      exact ho2

/-- multiply: the product. -/
theorem mul_any (m n : Nat) (va vb : Value) (w : World) (hm : (digs 4294967296 m).length ≤ 1000000) (hn : (digs 4294967296 n).length ≤ 1000000) (ha : Rd .u32 w va (digs 4294967296 m)) (hb : Rd .u32 w vb (digs 4294967296 n)) :
    Calls Try.prog 88 #[va, vb] w (OwPost w (digs 4294967296 (m * n))) := by
  obtain ⟨ada, ca, rfl, ra⟩ := ha.opt
  obtain ⟨adb, cb, rfl, rb⟩ := hb.opt
  have := mul_core ada adb ca cb _ _ w hm hn ra rb (digs_lt (by decide) m) (digs_lt (by decide) n)
  rw [vl_digs (by decide), vl_digs (by decide)] at this
  exact this

end Go.Proofs.Ytfieecdedilonaa
