/-  The law's Short.  -/
import Derived.Test.YtfieecdedilonaaCmpInt
namespace Go.Proofs.Ytfieecdedilonaa
open Go.RowKit Digs

/-- A row of the law's integers (two cells each), whose limbs' lengths are ns. -/
def NRow (w : World) (L : Nat) (ns : List Nat) : Prop := L < w.heap.size ∧ ∀ j : Nat, j < ns.length → ∃ (b : Bool) (ad : Option Addr) (c : Nat), w.cell? ⟨L, j * 2, none⟩ = some (.bool b) ∧ w.cell? ⟨L, j * 2 + 1, none⟩ = some (.slice ad (ns[j]?.getD 0) c) ∧ ns[j]?.getD 0 ≤ maxLen
theorem NRow.keep {w w' : World} {L : Nat} {ns : List Nat} (h : NRow w L ns) (hb : Below w.heap.size w w') : NRow w' L ns :=
  ⟨Nat.lt_of_lt_of_le h.1 hb.size, fun j hj => by
    obtain ⟨b, ad, c, h1, h2, h3⟩ := h.2 j hj
    exact ⟨b, ad, c, (hb.cell (p := ⟨L, j * 2, none⟩) h.1).trans h1, (hb.cell (p := ⟨L, j * 2 + 1, none⟩) h.1).trans h2, h3⟩⟩

set_option maxHeartbeats 400000 in
theorem short1_any (b : Bool) (ad : Option Addr) (n c k M : Nat) (w : World) (hM : w.cell? ⟨M, 0, none⟩ = some (.int .i64 k)) (hMl : M < w.heap.size) :
    Calls Try.prog 67 #[.agg #[.bool b, .slice ad n c], .pointer (some ⟨M, 0, none⟩)] w (BoolPost w (decide (k < n))) := by
  have hM' : ∀ o : Obj, (w.alloc o).cell? ⟨M, 0, none⟩ = some (.int .i64 k) := fun o => by rw [World.cell?_alloc_past _ _ _ hMl]; exact hM
  by_cases h : k < n
  · have e : decide (k < n) = true := by simpa using h
    rw [e]
    clear e
    go_enter Try.func67, Try.ntmps67
    go_wp2
    go_ret
    exact ⟨rfl, (Below.refl _ _).alloc (Nat.le_refl _) _⟩
  · have e : decide (k < n) = false := by simpa using h
    rw [e]
    clear e
    go_enter Try.func67, Try.ntmps67
    go_wp2
    go_ret
    exact ⟨rfl, (Below.refl _ _).alloc (Nat.le_refl _) _⟩

def IdxRel (ns : List Nat) (k : Nat) (w : World) (i : Value) (wr : World) : Prop :=
  ∃ j : Nat, i = .int .i64 j ∧ j ≤ ns.length ∧ (∀ q : Nat, q < j → ns[q]?.getD 0 ≤ k) ∧ Below w.heap.size w wr
def IdxPost (ns : List Nat) (k : Nat) (w : World) (e : Ending) (w' : World) : Prop :=
  Below w.heap.size w w' ∧ ((e = .returned (.int .i64 (-1)) ∧ ∀ q : Nat, q < ns.length → ns[q]?.getD 0 ≤ k) ∨ ∃ q : Nat, e = .returned (.int .i64 q) ∧ q < ns.length ∧ k < ns[q]?.getD 0)

set_option maxHeartbeats 1000000 in
set_option maxRecDepth 100000 in
theorem index_any (L M k c : Nat) (ns : List Nat) (w : World) (hl : ns.length ≤ 1000) (hr : NRow w L ns) (hM : w.cell? ⟨M, 0, none⟩ = some (.int .i64 k)) :
    Calls Try.prog 113 #[.slice (some ⟨L, 0, none⟩) ns.length c, .func (.func 67) #[] #[.pointer (some ⟨M, 0, none⟩)]] w (IdxPost ns k w) := by
  have hMl := World.block_lt_of_cell? w _ hM
  have HR := Lib.hid hr
  have HM := Lib.hid hM
  clear hr hM
  go_enter Try.func113, Try.ntmps113
  go_wp2
  go_loopw [8] (IdxRel ns k w) (fun i _ => ns.length - (intOf i).toNat)
  case atStart => exact ⟨0, rfl, Nat.zero_le _, fun q h => absurd h (Nat.not_lt_zero _), Below.refl _ _⟩
  case round =>
    obtain ⟨j, rfl, hj, hall, hnx⟩ := hrel
    have HALL := Lib.hid hall
    have HNX := Lib.hid hnx
    clear hall hnx
    by_cases hjl : j < ns.length
    · obtain ⟨b, ad, c', g1, g2, hmx⟩ := (HR.out.keep HNX.out).2 j hjl
      obtain ⟨n, hn⟩ : ∃ n, n = ns[j]?.getD 0 := ⟨_, rfl⟩
      rw [← hn] at g2 hmx
      have HN := Lib.hid hn
      have HS := Lib.hid (short1_any b ad n c' k M wr ((HNX.out.cell (p := ⟨M, 0, none⟩) hMl).trans HM.out) (Nat.lt_of_lt_of_le hMl HNX.out.size))
      clear hn hmx
      by_cases hkn : k < n
      · have e : decide (k < n) = true := by simpa using hkn
        rw [e] at HS
        clear e
        go_wp2_with fail
        refine HS.out.mono ?_
        rintro e w1 ⟨rfl, hb1⟩
        go_wp2
        go_ret
        exact ⟨HNX.out.trans (hb1.mono HNX.out.size), .inr ⟨j, rfl, hjl, by rw [← HN.out]; exact hkn⟩⟩
      · have e : decide (k < n) = false := by simpa using hkn
        rw [e] at HS
        clear e
        go_wp2_with fail
        refine HS.out.mono ?_
        rintro e w1 ⟨rfl, hb1⟩
        go_wp2
        go_roundw
        case rel =>
          refine ⟨j + 1, by go_num, by omega, fun q hq => ?_, HNX.out.trans (hb1.mono HNX.out.size)⟩
          by_cases hqj : q = j
          · rw [hqj, ← HN.out]; omega
          · exact HALL.out q (by omega)
        case measure => simp [intOf]; omega
    · go_wp2
      go_ret
      exact ⟨HNX.out, .inl ⟨rfl, fun q hq => HALL.out q (by omega)⟩⟩

def allLe (ns : List Nat) (k : Nat) : Bool := decide (∀ q : Nat, q < ns.length → ns[q]?.getD 0 ≤ k)

set_option maxHeartbeats 1000000 in
set_option maxRecDepth 100000 in
theorem contains_any (L M k c : Nat) (ns : List Nat) (w : World) (hl : ns.length ≤ 1000) (hr : NRow w L ns) (hM : w.cell? ⟨M, 0, none⟩ = some (.int .i64 k)) :
    Calls Try.prog 66 #[.slice (some ⟨L, 0, none⟩) ns.length c, .func (.func 67) #[] #[.pointer (some ⟨M, 0, none⟩)]] w (BoolPost w (!allLe ns k)) := by
  have HI := Lib.hid (index_any L M k c ns w hl hr hM)
  clear hr hM
  go_enter Try.func66, Try.ntmps66
  go_wp2_with fail
  refine HI.out.mono ?_
  rintro e w1 ⟨hb, ⟨rfl, hall⟩ | ⟨q, rfl, hq, hk⟩⟩
  · have e : allLe ns k = true := decide_eq_true hall
    have E := Lib.hid e
    clear hall e
    go_wp2
    go_ret
    exact ⟨by rw [E.out]; rfl, hb⟩
  · have e : allLe ns k = false := decide_eq_false (fun h => by have := h q hq; omega)
    have E := Lib.hid e
    clear hk e
    go_wp2
    go_ret
    exact ⟨by rw [E.out]; rfl, hb⟩

set_option maxHeartbeats 1000000 in
set_option maxRecDepth 100000 in
theorem Short_any (L k c : Nat) (ns : List Nat) (w : World) (hl : ns.length ≤ 1000) (hr : NRow w L ns) :
    Calls Try.prog 14 #[.int .i64 k, .slice (some ⟨L, 0, none⟩) ns.length c] w (BoolPost w (allLe ns k)) := by
  have hmf : ∀ (fn : Fn) (first cap : Array Value) (w : World), (Instr.makeFunc fn first cap).run Try.prog w = .ok (.func fn first cap) w := fun _ _ _ _ => rfl
  have HC := Lib.hid (contains_any L w.heap.size k c ns (w.alloc (.cells #[.int .i64 k] 3)) hl (hr.keep ((Below.refl _ _).alloc (Nat.le_refl _) _)) (by rw [World.cell?_alloc_at _ _ _ _ rfl]; rfl))
  clear hr
  generalize allLe ns k = b at *
  go_enter Try.func14, Try.ntmps14
  go_wp2_with fail
  refine HC.out.mono ?_
  rintro e w1 ⟨rfl, hb⟩
  cases b
  all_goals
    go_wp2
    go_ret
    exact ⟨rfl, ((Below.refl _ _).alloc (Nat.le_refl _) _).trans (hb.mono (by simp))⟩

end Go.Proofs.Ytfieecdedilonaa
