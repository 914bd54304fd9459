/- The heap's own functions: New, make, add, begin. -/
import Derived.Test.YtpkhmgbkalhilaaW
import Derived.Deep.QuietTactic
import Derived.BigQuiet
import Derived.BigRegion
import Derived.Deep.RegionHeld3
import Derived.Deep.AppendLies
import Derived.Laws.AppendOwn
namespace Go.Proofs.Ytpkhmgbkalhilaa
section
open Go.RowKit

/-- The header of an object with fields. -/
theorem hdr_or (k n : Nat) (hk : k < 64) (hn : n < 1000000) : bits BinOp.or IntKind.u64 ((n : Int) * 64) (k : Int) = ((n * 64 + k : Nat) : Int) := by
  have h := bits_or_u64_nat (n * 64) k (by omega) (by omega)
  rw [show ((n * 64 : Nat) : Int) = (n : Int) * 64 by omega] at h
  rw [h, show n * 64 ||| k = n * 64 + k from by
    have := Nat.two_pow_add_eq_or_of_lt (i := 6) (b := k) hk n
    rw [Nat.mul_comm n 64]; exact this.symm]

theorem pack_any (k n : Nat) (w : World) (hk : k < 32) (hn : n < 1000000) :
    Calls Try.prog 23 #[.agg #[.int .i64 k, .int .i64 n, .bool false]] w fun e w' => e = .returned (.int .u64 ((n * 64 + k : Nat) : Int)) ∧ Below w.heap.size w w' := by
  have e := hdr_or k n (by omega) hn
  go_enter Try.func23, Try.ntmps23
  go_wp2
  go_ret
  exact ⟨rfl, (Below.refl _ _).alloc (Nat.le_refl _) _⟩
theorem size_any (k n : Nat) (w : World) (hn : n < 1000000) :
    Calls Try.prog 24 #[.agg #[.int .i64 k, .int .i64 n, .bool false]] w fun e w' => e = .returned (.int .i64 ((n + 1 : Nat) : Int)) ∧ Below w.heap.size w w' := by
  go_enter Try.func24, Try.ntmps24
  go_wp2
  go_ret
  refine ⟨?_, (Below.refl _ _).alloc (Nat.le_refl _) _⟩
  show Ending.returned (.int .i64 (1 + (n : Int))) = _
  rw [show (1 + (n : Int)) = ((n + 1 : Nat) : Int) by omega]
theorem check_ok (k n : Nat) (w : World) (hk0 : 1 ≤ k) (hk : k ≤ 31) (hn : n ≤ 16384) :
    Calls Try.prog 28 #[.agg #[.int .i64 k, .int .i64 n, .bool false]] w fun e w' => e = .returned (.int .i64 0) ∧ Below w.heap.size w w' := by
  go_enter Try.func28, Try.ntmps28
  go_wp2
  go_ret
  exact ⟨rfl, (Below.refl _ _).alloc (Nat.le_refl _) _⟩
theorem reference_any (a : Nat) (w : World) (h : a < 1000000) :
    Calls Try.prog 26 #[.int .i64 a] w fun e w' => e = .returned (.int .u64 ((a * 8 + 3 : Nat) : Int)) ∧ w = w' := by
  have e : bits BinOp.or IntKind.u64 ((a : Int) * 8) 3 = ((a * 8 + 3 : Nat) : Int) := by
    have h := bits_or_u64_nat (a * 8) 3 (by omega) (by omega)
    rw [show ((a * 8 : Nat) : Int) = (a : Int) * 8 by omega, show ((3 : Nat) : Int) = 3 from rfl] at h
    rw [h, show a * 8 ||| 3 = a * 8 + 3 from by
      have := Nat.two_pow_add_eq_or_of_lt (i := 3) (b := 3) (by decide) a
      rw [Nat.mul_comm a 8]; exact this.symm]
  go_enter Try.func26, Try.ntmps26
  go_wp2
  go_ret
  exact ⟨rfl, rfl⟩

/-- A block of the heap's own variable, known whole. -/
def HB (w : World) (p : Nat) (cs : Array Value) : Prop := w.heap[p]? = some (.cells cs 53 (0, 0))
theorem HB.lt {w : World} {p : Nat} {cs : Array Value} (h : HB w p cs) : p < w.heap.size := (Array.getElem?_eq_some_iff.1 h).1
theorem HB.cell {w : World} {p : Nat} {cs : Array Value} (h : HB w p cs) (j : Nat) {v : Value} (hj : cs[j]? = some v) : w.cell? ⟨p, j, none⟩ = some v := by
  rw [cell_of_row w p j cs _ _ h, hj]
theorem HB.frozen {w : World} {p : Nat} {cs : Array Value} (h : HB w p cs) (j : Nat) : w.frozen? ⟨p, j, none⟩ = false := by
  unfold HB at h
  simp [World.frozen?, h]

theorem HB.set {w : World} {p : Nat} {cs : Array Value} (h : HB w p cs) (j : Nat) (v : Value) : HB (w.setCell ⟨p, j, none⟩ v) p (cs.setIfInBounds j v) := heap_setCell_same w p j cs _ v h
theorem HB.far {w : World} {p : Nat} {cs : Array Value} (h : HB w p cs) {g j : Nat} (v : Value) (hne : p ≠ g) : HB (w.setCell ⟨g, j, none⟩ v) p cs := by
  unfold HB; rw [heap_setCell_other _ _ _ _ hne]; exact h
theorem HB.keep {w w' : World} {p B : Nat} {cs : Array Value} (h : HB w p cs) (hb : Below B w w') (hp : p < B) : HB w' p cs := (hb.block p hp).trans h
theorem HB.alloc {w : World} {p : Nat} {cs : Array Value} (h : HB w p cs) (o : Obj) : HB (w.alloc o) p cs := h.keep ((Below.refl w.heap.size w).alloc (Nat.le_refl _) o) h.lt
theorem HB.grown {w w' : World} {p : Nat} {cs : Array Value} {row : Option Nat} (h : HB w p cs) (hg : w.grownBy w' row) (hne : row ≠ some p) : HB w' p cs :=
  (hg.block p h.lt fun e => hne e.symm).trans h
theorem HB.drewN {w : World} {p : Nat} {cs : Array Value} (h : HB w p cs) (n : Nat) : HB (w.drewN n) p cs := h
theorem HB.ne {w : World} {p : Nat} {cs : Array Value} (h : HB w p cs) {b e s n : Nat} {v : Value} {xs : List Value} (hr : w.ownsRow b e s v n xs) (he : e ≠ 53) : v.ownBlock ≠ some p := by
  rcases hr.2 with ⟨rfl, _⟩ | ⟨g, cap, cur, rfl, _, hg, _⟩
  · intro hh; cases hh
  · intro hh
    have : g = p := by simpa [Value.ownBlock] using hh
    subst this
    unfold HB at h
    rw [hg] at h
    have := Option.some.inj h
    injection this with _ h2 _
    exact he h2
theorem row_far {w : World} {b e s n : Nat} {v : Value} {xs : List Value} (h : w.ownsRow b e s v n xs) {g j : Nat} (u : Value) (hne : v.ownBlock ≠ some g) : (w.setCell ⟨g, j, none⟩ u).ownsRow b e s v n xs := by
  refine ⟨h.1, ?_⟩
  rcases h.2 with hn | ⟨g', cap, cur, rfl, hb, hgg, rest⟩
  · exact .inl hn
  · refine .inr ⟨g', cap, cur, rfl, hb, ?_, rest⟩
    rw [heap_setCell_other _ _ _ _ ?_]
    · exact hgg
    · rintro rfl
      exact hne rfl
theorem row_drewN {w : World} {b e s n : Nat} {v : Value} {xs : List Value} (h : w.ownsRow b e s v n xs) (m : Nat) : (w.drewN m).ownsRow b e s v n xs := h
theorem row_ne {w : World} {b1 e1 s1 n1 b2 e2 s2 n2 : Nat} {v1 v2 : Value} {xs1 xs2 : List Value} (h1 : w.ownsRow b1 e1 s1 v1 n1 xs1) (h2 : w.ownsRow b2 e2 s2 v2 n2 xs2) (he : e1 ≠ e2) : v1.ownBlock = none ∨ v1.ownBlock ≠ v2.ownBlock := by
  rcases h1.2 with ⟨rfl, _⟩ | ⟨g, cap, cur, rfl, _, hg, _⟩
  · exact .inl rfl
  · right
    rcases h2.2 with ⟨rfl, _⟩ | ⟨g', cap', cur', rfl, _, hg', _⟩
    · simp [Value.ownBlock]
    · intro hh
      have : g = g' := by simpa [Value.ownBlock] using hh
      subst this
      rw [hg] at hg'
      have := Option.some.inj hg'
      injection this with _ h2 _
      exact he h2

/-- Words as values. -/
def dw (l : List Nat) : List Value := l.map fun n : Nat => Value.int .u64 (n : Int)
theorem dw_length (l : List Nat) : (dw l).length = l.length := by simp [dw]
theorem dw_append (l m : List Nat) : dw (l ++ m) = dw l ++ dw m := by simp [dw]
theorem dw_oneCell (l : List Nat) : ∀ u ∈ dw l, u.oneCell' = true := by
  intro u hu
  simp only [dw, List.mem_map] at hu
  obtain ⟨n, _, rfl⟩ := hu
  rfl

/-- A heap's own variable: its limit and young ones, its words and its bits. -/
def HeapAt (w : World) (base p lim yng : Nat) (ws bs : List Nat) (old mv : Nat) (vr : Value) (nr : Nat) : Prop :=
  ∃ vw vb, HB w p #[.int .i64 lim, .int .i64 yng, vw, vb, .int .i64 old, .int .i64 mv, vr, .int .i64 nr] ∧ base ≤ p ∧
    w.ownsRow base 23 1 vw ws.length (dw ws) ∧ w.ownsRow base 22 1 vb bs.length (dw bs)

theorem isNone_no (base p lim yng : Nat) (ws bs : List Nat) (old mv : Nat) (vr : Value) (nr : Nat) (w : World) (h : HeapAt w base p lim yng ws bs old mv vr nr) (h0 : ws ≠ []) :
    Calls Try.prog 27 #[.pointer (some ⟨p, 0, none⟩)] w fun e w' => e = .returned (.bool false) ∧ w = w' := by
  obtain ⟨vw, vb, hb, hbp, hw, _⟩ := h
  have hl : 0 < ws.length := List.length_pos_iff.2 h0
  obtain ⟨g, cap, rfl, _, _⟩ := hw.form hl
  have c2 := hb.cell 2 rfl
  have hn : ((ws.length : Int) == 0) = false := by rw [beq_eq_false_iff_ne]; omega
  clear hb hw
  generalize ws.length = n at *
  go_enter Try.func27, Try.ntmps27
  go_wp2
  go_ret
  exact ⟨rfl, rfl⟩
theorem used_any (base p lim yng : Nat) (ws bs : List Nat) (old mv : Nat) (vr : Value) (nr : Nat) (w : World) (h : HeapAt w base p lim yng ws bs old mv vr nr) (h0 : ws ≠ []) :
    Calls Try.prog 20 #[.pointer (some ⟨p, 0, none⟩)] w fun e w' => e = .returned (.int .i64 ws.length) ∧ w = w' := by
  obtain ⟨vw, vb, hb, hbp, hw, _⟩ := h
  have hl : 0 < ws.length := List.length_pos_iff.2 h0
  obtain ⟨g, cap, rfl, _, _⟩ := hw.form hl
  have c2 := hb.cell 2 rfl
  clear hb hw
  generalize ws.length = n at *
  go_enter Try.func20, Try.ntmps20
  go_wp2
  go_ret
  exact ⟨rfl, rfl⟩

end
end Go.Proofs.Ytpkhmgbkalhilaa
