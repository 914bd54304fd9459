/-  The reference's Count.  -/
import Derived.Test.YtnbnbjgdplpemaaRB
import Derived.Test.YtnbnbjgdplpemaaPc
namespace Go.Proofs.Ytnbnbjgdplpemaa
open Go.RowKit Digs

theorem nn_def (z : Int) : (if z < 0 then (-1 - z).natAbs else z.natAbs) = nn z := rfl
theorem count_step (z : Int) (k : Nat) : onesTo (nn z) (k + 1) = onesTo (nn z) k + if (bitZ z k != decide (z < 0)) then 1 else 0 := by
  show onesTo (nn z) k + (if (nn z).testBit k then 1 else 0) = _
  rw [bitZ_nn]
  cases (nn z).testBit k <;> cases decide (z < 0) <;> rfl

theorem lenZ_rlen (z : Int) : lenZ z ≤ 16 * rlen z := by
  rw [lenZ_nn]
  refine bl_le_iff.2 ?_
  have h1 : nn z ≤ z.natAbs := by unfold nn; split <;> omega
  have h2 := digs_lt_pow (b := 65536) (by decide) z.natAbs
  rw [pow16] at h2
  exact Nat.lt_of_le_of_lt h1 h2

def RCRel (m L : Nat) (X : World) (s i : Value) (wr : World) : Prop :=
  ∃ k : Nat, k ≤ L ∧ i = .int .i64 k ∧ s = .int .i64 ((onesTo m k : Nat) : Int) ∧ Below X.heap.size X wr

set_option maxHeartbeats 2000000 in
set_option maxRecDepth 100000 in
theorem rCount_any (z : Int) (v : Value) (w : World) (hz : rlen z ≤ 50000) (h : RefV w v z) :
    Calls Try.prog 29 #[v] w fun e w' => e = .returned (.int .i64 ((countZ z : Nat) : Int)) ∧ Below w.heap.size w w' := by
  have hL : lenZ z ≤ 1000000 := Nat.le_trans (lenZ_rlen z) (by omega)
  have HL := fun W hw => Lib.hid (rLength_any z v W (by omega) (h.keep (w' := W) hw))
  have HB := fun W hw => Lib.hid (rBits_any z v (lenZ z) W (by omega) hL (h.keep (w' := W) hw))
  have HL := Lib.hid HL
  have HB := Lib.hid HB
  have HV := Lib.hid h
  obtain ⟨ad, m, c, rfl, hr⟩ := h
  have HS := Lib.hid (count_step z)
  unfold countZ
  rw [nn_def]
  have HGET := Lib.hid (bitsL_get z (lenZ z))
  have HLE := Lib.hid (bitsL_length z (lenZ z))
  generalize nn z = q at *
  generalize lenZ z = L at *
  generalize bitsL z L = l at *
  generalize decide (z < 0) = b at *
  clear hr hz
  go_enter Try.func29, Try.ntmps29
  go_wp2_with fail
  go_region_held3 (fun w' => w'.cell? ⟨w.heap.size, 0, none⟩ = some (.bool b) ∧ w'.cell? ⟨w.heap.size, 1, none⟩ = some (.slice ad m c))
    (first | exact ⟨hB.1, hB.2.1⟩ | exact ⟨hA.1, hA.2.1⟩ | go_keep)
    (go_loud (first
      | (go_at_call 27; (with_reducible refine (HL.out _ ?_).out.mono ?_); (exact ((Below.refl _ _).alloc (Nat.le_refl _) _).drew); rintro e w1 ⟨rfl, hb1'⟩; have hb1 := below_dr hb1'; have hA := box2 hb1; have hbw := box1b hb1)
      | (go_at_call 79; (with_reducible refine (HB.out _ hbw).out.mono ?_); rintro e w2 ⟨v2, rfl, ho2, hb2'⟩; have hb2 := hb1.trans (hb2'.mono hb1.size); have hB := box2 hb2; have hbw2 := box1b hb2)))
  have hrd := ho2.rd
  obtain ⟨ad2, cap2, rfl, hcm, hlc, hx⟩ := hrd
  have HX : Hid (∀ W, Below w2.heap.size w2 W → ∀ j, j < L → ∃ b off, ad2 = some ⟨b, off, none⟩ ∧ W.cell? ⟨b, off + j, none⟩ = some (.bool (bitZ z j))) := Lib.hid fun W hb j hj => by
    obtain ⟨b, o, e1, e2, e3⟩ := hx j (by rw [HLE.out]; exact hj)
    rw [HGET.out j hj] at e3
    exact ⟨b, o, e1, (hb.cell (p := ⟨b, o + j, none⟩) e2).trans e3⟩
  have HC0 := Lib.hid hB.1
  have HSZ := Lib.hid hB.2.2.2.2
  have HBW := Lib.hid hbw2
  have hll : l.length = L := HLE.out
  rw [hll] at *
  clear hA hB hb1 hb1' hbw hb2 hb2' hbw2 ho2 hx hcm hlc hll
  go_wp2_with fail
  go_loopw [4, 5] (RCRel q L w2) (fun _ i _ => L - (intOf i).toNat)
  case atStart => exact ⟨0, Nat.zero_le _, rfl, rfl, Below.refl _ _⟩
  case round =>
    obtain ⟨k, hk, rfl, rfl, hnx⟩ := hrel
    have HNX := Lib.hid hnx
    by_cases hkn : k < L
    · obtain ⟨bb, ob, rfl, gx⟩ := HX.out wr hnx k hkn
      have gc : wr.cell? ⟨w.heap.size, 0, none⟩ = some (.bool b) := (hnx.cell (p := ⟨w.heap.size, 0, none⟩) HSZ.out).trans HC0.out
      have hol := onesTo_le q k
      have HSK := Lib.hid (HS.out k)
      generalize bitZ z k = bz at *
      generalize onesTo q k = s at *
      clear hnx
      cases b <;> cases bz
      all_goals
        go_wp2_with fail
        go_quiet (fail)
        go_wp2
        go_roundw
        case rel => exact ⟨k + 1, hkn, by go_num, by rw [HSK.out]; first | rfl | go_num, below_drewN' HNX.out _⟩
        case measure => simp [intOf] <;> omega
    · obtain rfl : k = L := by omega
      go_wp2
      go_ret
      exact ⟨rfl, HBW.out.trans (hnx.mono HBW.out.size)⟩

end Go.Proofs.Ytnbnbjgdplpemaa
