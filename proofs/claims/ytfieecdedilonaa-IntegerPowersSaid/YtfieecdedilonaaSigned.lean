/-  signed: the integer with a two's complement.  -/
import Derived.Test.YtfieecdedilonaaOp
namespace Go.Proofs.Ytfieecdedilonaa
open Go.RowKit Digs

def signedZ (l : List Nat) : Int := if l[l.length - 1]?.getD 0 < 2147483648 then (vl 4294967296 l : Int) else -1 - (vl 4294967296 (inv32 l) : Int)
/-- Of the old blocks none but block g has turned. -/
def Only (g : Nat) (w w' : World) : Prop := ∀ k, k < w.heap.size → k ≠ g → w'.heap[k]? = w.heap[k]?
def SignedPost (base g : Nat) (w : World) (z : Int) (e : Ending) (w' : World) : Prop := ∃ v, e = .returned v ∧ IntV w' v z ∧ Below base w w' ∧ Only g w w'
theorem Only.of_below {g : Nat} {w w' : World} (h : Below w.heap.size w w') : Only g w w' := fun k hk _ => h.block k hk
theorem Only.store2 {g R : Nat} {w w' : World} {x y : Value} (h : Only g w w') (hR : w.heap.size ≤ R) : Only g w ((w'.setCell ⟨R, 0, none⟩ x).setCell ⟨R, 1, none⟩ y) := fun k hk hg => by
  rw [heap_setCell_other _ _ _ _ (by simp; omega), heap_setCell_other _ _ _ _ (by simp; omega)]
  exact h k hk hg

theorem Row.keep {w w' : World} {base g N : Nat} {p : List Nat} (h : Row w base g N p) (hb : Below w.heap.size w w') (hN : N ≤ maxLen) : Row w' base g N p :=
  Row.of_block (by rw [hb.block g h.lt.2]; exact h.block) h.lt.1 h.1 hN
theorem Row.rd {w : World} {base g N : Nat} {p : List Nat} (h : Row w base g N p) : Rd .u32 w (.slice (some ⟨g, 0, none⟩) N N) p := h.ow.rd

set_option maxHeartbeats 1000000 in
set_option maxRecDepth 100000 in
theorem signed_pos (base g N : Nat) (l : List Nat) (w : World) (hN : N ≤ 1000001) (h1 : 1 ≤ N) (hr : Row w base g N l) (hl : ∀ x ∈ l, x < 4294967296) (htop : l[N - 1]?.getD 0 < 2147483648) (hbase : base ≤ w.heap.size) :
    Calls Try.prog 124 #[.slice (some ⟨g, 0, none⟩) N N] w (SignedPost base g w (vl 4294967296 l)) := by
  have gx := hr.cell (N - 1) (by omega)
  obtain ⟨x, hx⟩ : ∃ x, x = l[N - 1]?.getD 0 := ⟨_, rfl⟩
  rw [← hx] at gx htop
  have hgl := hr.lt.2
  have HO := fun o => Lib.hid (own_any false _ l (w.alloc o) (hr.rd.keep ((Below.refl _ _).alloc (Nat.le_refl _) o)) hl)
  have HO := Lib.hid HO
  have HB := Lib.hid hbase
  have hsh : (x : Int) / 2147483648 = 0 := by omega
  clear hr hl hx hbase
  go_enter Try.func124, Try.ntmps124
  go_wp2_with fail
  refine (HO.out _).out.mono ?_
  rintro e w2 ⟨v2, rfl, ⟨ad, n, c, rfl, hr2⟩, hb2⟩
  obtain ⟨c0, c1, f0, f1, hlt⟩ := box2 hb2
  have HR := Lib.hid (hr2.store2 c0 c1 (by intro n h; cases h) (by intro n h; cases h))
  have HBB := Lib.hid hb2
  clear hb2 hr2
  go_wp2_with fail
  refine bodyPost_ret (v := .agg #[.bool (decide (sg false (vl 4294967296 l) < 0)), .slice ad n c]) (by simp [results, Try.results124, go_sem, c0, c1]) rfl ⟨_, rfl, ⟨_, _, _, rfl, HR.out _ _⟩, ?_, ?_⟩
  · have := HB.out
    exact ((((Below.refl _ _).alloc this _).trans (HBB.out.mono (by simp; omega))).setCell (by simp; omega) _).setCell (by simp; omega) _
  · exact (Only.of_below (((Below.refl _ _).alloc (Nat.le_refl _) _).trans (HBB.out.mono (by simp)))).store2 (Nat.le_refl _)

def SInvRel (l : List Nat) (w : World) (base g R N : Nat) (i : Value) (wr : World) : Prop :=
  ∃ (k : Nat) (p : List Nat), i = .int .i64 k ∧ k ≤ N ∧ Row wr base g N p ∧ (∀ j : Nat, p[j]?.getD 0 = if j < k then (inv32 l)[j]?.getD 0 else l[j]?.getD 0) ∧ Below base w wr ∧ wr.heap[R]? = some (.cells #[.bool false, .slice none 0 0] 28 (0, 0)) ∧ Only g w wr

theorem box_of {w w2 : World} {R : Nat} {a b : Value} {t : TypeId} (h : w.heap[R]? = some (.cells #[a, b] t (0, 0))) (hb : Below w.heap.size w w2) :
    w2.cell? ⟨R, 0, none⟩ = some a ∧ w2.cell? ⟨R, 1, none⟩ = some b ∧ w2.frozen? ⟨R, 0, none⟩ = false ∧ w2.frozen? ⟨R, 1, none⟩ = false ∧ R < w2.heap.size := by
  have hR := (Array.getElem?_eq_some_iff.1 h).1
  have h2 : w2.heap[R]? = some (.cells #[a, b] t (0, 0)) := by rw [hb.block R hR]; exact h
  exact ⟨by rw [cell_of_row w2 R 0 _ _ _ h2]; rfl, by rw [cell_of_row w2 R 1 _ _ _ h2]; rfl, frozen_of_row w2 R 0 _ _ h2, frozen_of_row w2 R 1 _ _ h2, (Array.getElem?_eq_some_iff.1 h2).1⟩

set_option maxHeartbeats 2000000 in
set_option maxRecDepth 100000 in
theorem signed_neg (base g N : Nat) (l : List Nat) (w : World) (hN : N ≤ 1000000) (h1 : 1 ≤ N) (hr : Row w base g N l) (hl : ∀ x ∈ l, x < 4294967296) (htop : ¬ l[N - 1]?.getD 0 < 2147483648) (hbase : base ≤ w.heap.size) :
    Calls Try.prog 124 #[.slice (some ⟨g, 0, none⟩) N N] w (SignedPost base g w (-1 - (vl 4294967296 (inv32 l) : Int))) := by
  have gx := hr.cell (N - 1) (by omega)
  obtain ⟨x, hx⟩ : ∃ x, x = l[N - 1]?.getD 0 := ⟨_, rfl⟩
  have hxb : x < 4294967296 := by
    rw [hx, List.getElem?_eq_getElem (by rw [hr.1]; omega)]
    exact hl _ (List.getElem_mem _)
  rw [← hx] at gx htop
  have hgl := hr.lt.2
  have hrow := fun o => hr.keep ((Below.refl _ w).alloc (Nat.le_refl _) o) (by unfold maxLen; omega)
  have HROW := Lib.hid hrow
  have hln := hr.1
  have HLN := Lib.hid hln
  have HL := Lib.hid hl
  have HB := Lib.hid hbase
  have HBG := Lib.hid hr.lt.1
  have hsh : ((x : Int) / 2147483648 == 0) = false := by rw [beq_eq_false_iff_ne]; omega
  clear hr hl hx hbase hrow hln
  go_enter Try.func124, Try.ntmps124
  go_wp2_with fail
  clear gx hsh
  go_loopw [16] (SInvRel l w base g w.heap.size N) (fun i _ => N - (intOf i).toNat)
  case atStart => exact ⟨0, l, rfl, Nat.zero_le _, HROW.out _, fun j => by rw [if_neg (Nat.not_lt_zero _)], (Below.refl _ _).alloc HB.out _, heap_alloc_new w _, Only.of_below ((Below.refl _ _).alloc (Nat.le_refl _) _)⟩
  case round =>
    obtain ⟨k, p, rfl, hk, hrow, hp, hnx, hbox, hon⟩ := hrel
    have HON := Lib.hid hon
    have HROW3 := Lib.hid hrow
    have HP := Lib.hid hp
    have HNX := Lib.hid hnx
    have HBOX := Lib.hid hbox
    clear hrow hp hnx hbox hon
    by_cases hkn : k < N
    · have gx := HROW3.out.cell k hkn
      have gf := HROW3.out.frozen k
      have hx : p[k]?.getD 0 = l[k]?.getD 0 := by rw [HP.out, if_neg (Nat.lt_irrefl _)]
      have hyb : l[k]?.getD 0 < 4294967296 := by
        rw [List.getElem?_eq_getElem (by rw [HLN.out]; exact hkn)]
        exact HL.out _ (List.getElem_mem _)
      rw [hx] at gx
      obtain ⟨y, hxx⟩ : ∃ y, y = l[k]?.getD 0 := ⟨_, rfl⟩
      rw [← hxx] at gx hyb
      have HX := Lib.hid hxx
      clear hx hxx
      go_wp2
      go_roundw
      case rel =>
        refine ⟨k + 1, p.set k (4294967295 - y), by go_num, by omega, HROW3.out.store _ _ _ (not_u32 y hyb), ?_, HNX.out.setCell (p := ⟨g, k, none⟩) HBG.out _, ?_, ?_⟩
        · intro j
          by_cases hj : j = k
          · subst hj
            rw [List.getElem?_set_self (by rw [HROW3.out.1]; exact hkn), if_pos (by omega), inv_get _ _ (by rw [HLN.out]; exact hkn), ← HX.out]
            rfl
          · rw [getD_set_ne _ _ _ _ (by omega), HP.out]
            by_cases h1 : j < k
            · rw [if_pos h1, if_pos (by omega)]
            · rw [if_neg h1, if_neg (by omega)]
        · rw [heap_setCell_other _ _ _ _ (by simp; omega)]
          exact HBOX.out
        · intro q hq hqg
          rw [heap_setCell_other _ _ _ _ hqg]
          exact HON.out q hq hqg
      case measure => simp [intOf]; omega
    · obtain rfl : k = N := by omega
      have e : p = inv32 l := by
        apply List.ext_getElem (by rw [inv32_length, HLN.out, HROW3.out.1])
        intro i h1 h2
        have := HP.out i
        rw [if_pos (by rw [HROW3.out.1] at h1; exact h1), List.getElem?_eq_getElem h1, List.getElem?_eq_getElem h2] at this
        exact this
      have hrd := HROW3.out.rd
      rw [e] at hrd
      have HO := Lib.hid (own_any false _ (inv32 l) wr hrd (inv32_lt l))
      have hlen : len (sg false (vl 4294967296 (inv32 l))) ≤ 1000000 := by
        unfold len
        rw [sg_natAbs]
        have := digs_length_le (b := 4294967296) (by decide) _ (inv32 l).length (vl_lt (inv32 l) (inv32_lt l))
        rw [inv32_length, HLN.out] at this
        omega
      have HC := fun v W h => Lib.hid (complement_any (sg false (vl 4294967296 (inv32 l))) v W hlen h)
      have HC := Lib.hid HC
      clear hrd e hlen
      go_wp2_with fail
      refine HO.out.mono ?_
      rintro e w2 ⟨v2, rfl, hv2, hb2⟩
      go_wp2_with fail
      refine (HC.out _ _ hv2).out.mono ?_
      rintro e w3 ⟨v3, rfl, ⟨ad, n, c, rfl, hr3⟩, hb3⟩
      have hb := hb2.trans (hb3.mono hb2.size)
      obtain ⟨c0, c1, f0, f1, hlt⟩ := box_of HBOX.out hb
      have HR := Lib.hid (hr3.store2 c0 c1 (by intro n h; cases h) (by intro n h; cases h))
      have HBL := Lib.hid hb
      have HBB := Lib.hid (HNX.out.trans (hb.mono (Nat.le_trans HB.out HNX.out.size)))
      clear hb2 hr3 hb3 hb hv2
      go_wp2_with fail
      refine bodyPost_ret (v := .agg #[.bool (decide (-1 - sg false (vl 4294967296 (inv32 l)) < 0)), .slice ad n c]) (by simp [results, Try.results124, go_sem, c0, c1]) rfl ⟨_, rfl, ⟨_, _, _, rfl, HR.out _ _⟩, ?_, ?_⟩
      · have := HB.out
        exact (HBB.out.setCell (by simp; omega) _).setCell (by simp; omega) _
      · refine Only.store2 (fun q hq hqg => ?_) (Nat.le_refl _)
        have h1 := HON.out q hq hqg
        rw [HBL.out.block q (by have := (Array.getElem?_eq_some_iff.1 HBOX.out).1; omega), h1]

theorem signed_any (base g N : Nat) (l : List Nat) (w : World) (hN : N ≤ 1000000) (h1 : 1 ≤ N) (hr : Row w base g N l) (hl : ∀ x ∈ l, x < 4294967296) (hbase : base ≤ w.heap.size) :
    Calls Try.prog 124 #[.slice (some ⟨g, 0, none⟩) N N] w (SignedPost base g w (signedZ l)) := by
  unfold signedZ
  rw [hr.1]
  split
  · exact signed_pos base g N l w (by omega) h1 hr hl (by assumption) hbase
  · exact signed_neg base g N l w hN h1 hr hl (by assumption) hbase

end Go.Proofs.Ytfieecdedilonaa
