/-  Sign and Divide, of integers.  -/
import Derived.Test.YtfieecdedilonaaDivide
namespace Go.Proofs.Ytfieecdedilonaa
open Go.RowKit Digs

def sgnZ (z : Int) : Int := if z < 0 then -1 else if z = 0 then 0 else 1

set_option maxHeartbeats 1000000 in
set_option maxRecDepth 100000 in
theorem sign_any (z : Int) (v : Value) (w : World) (hl : len z ≤ 1000000) (h : IntV w v z) :
    Calls Try.prog 22 #[v] w fun e w' => e = .returned (.int .i64 (sgnZ z)) ∧ Below w.heap.size w w' := by
  obtain ⟨ad, n, c, rfl, hr⟩ := h
  obtain ⟨ad', c', hv⟩ := hr.shape'
  obtain ⟨k, hk⟩ : ∃ k, k = (digs 4294967296 z.natAbs).length := ⟨_, rfl⟩
  have hz : k = 0 ↔ z = 0 := by rw [hk, digs_length_zero (by decide)]; omega
  unfold len at hl
  rw [← hk] at hl
  cases hv
  rw [← hk] at *
  clear hr hk
  unfold sgnZ
  by_cases h1 : z < 0
  · have hd : decide (z < 0) = true := by simpa using h1
    rw [hd, if_pos h1]
    clear hd hz h1
    go_enter Try.func22, Try.ntmps22
    go_wp2
    go_ret
    exact ⟨rfl, (Below.refl _ _).alloc (Nat.le_refl _) _⟩
  · have hd : decide (z < 0) = false := by simpa using h1
    rw [hd, if_neg h1]
    clear hd h1
    by_cases h2 : k = 0
    · rw [if_pos (hz.1 h2)]
      subst h2
      clear hz
      go_enter Try.func22, Try.ntmps22
      go_wp2
      go_ret
      exact ⟨rfl, (Below.refl _ _).alloc (Nat.le_refl _) _⟩
    · rw [if_neg (fun e => h2 (hz.2 e))]
      have h3 : ((k : Int) == 0) = false := by rw [beq_eq_false_iff_ne]; omega
      clear hz
      go_enter Try.func22, Try.ntmps22
      go_wp2
      go_ret
      exact ⟨rfl, (Below.refl _ _).alloc (Nat.le_refl _) _⟩

/-- Four variables of two cells. -/
theorem box4 {w w2 : World} {a b c d e f g h : Value} {t : TypeId} (hb : Below ((((w.alloc (.cells #[a, b] t)).alloc (.cells #[c, d] t)).alloc (.cells #[e, f] t)).alloc (.cells #[g, h] t)).heap.size ((((w.alloc (.cells #[a, b] t)).alloc (.cells #[c, d] t)).alloc (.cells #[e, f] t)).alloc (.cells #[g, h] t)) w2) :
    (w2.cell? ⟨w.heap.size, 0, none⟩ = some a ∧ w2.cell? ⟨w.heap.size, 1, none⟩ = some b ∧ w2.cell? ⟨w.heap.size + 1, 0, none⟩ = some c ∧ w2.cell? ⟨w.heap.size + 1, 1, none⟩ = some d) ∧
    (w2.cell? ⟨w.heap.size + 2, 0, none⟩ = some e ∧ w2.cell? ⟨w.heap.size + 2, 1, none⟩ = some f ∧ w2.frozen? ⟨w.heap.size + 2, 0, none⟩ = false ∧ w2.frozen? ⟨w.heap.size + 2, 1, none⟩ = false) ∧
    (w2.cell? ⟨w.heap.size + 3, 0, none⟩ = some g ∧ w2.cell? ⟨w.heap.size + 3, 1, none⟩ = some h ∧ w2.frozen? ⟨w.heap.size + 3, 0, none⟩ = false ∧ w2.frozen? ⟨w.heap.size + 3, 1, none⟩ = false) ∧ w.heap.size + 3 < w2.heap.size := by
  have hs := hb.size
  simp only [World.size_alloc] at hs
  obtain ⟨h1, h2, h3, h4, h5, h6, _, h7, h8, _⟩ := box3 (t := t) (((Below.refl (((w.alloc (.cells #[a, b] t)).alloc (.cells #[c, d] t)).alloc (.cells #[e, f] t)).heap.size _).alloc (Nat.le_refl _) (.cells #[g, h] t)).trans (hb.mono (by simp)))
  refine ⟨⟨h1, h2, h3, h4⟩, ⟨h5, h6, h7, h8⟩, ⟨?_, ?_, ?_, ?_⟩, by omega⟩
  · rw [hb.cell (p := ⟨w.heap.size + 3, 0, none⟩) (by simp), World.cell?_alloc_at _ _ _ _ (by simp)]; rfl
  · rw [hb.cell (p := ⟨w.heap.size + 3, 1, none⟩) (by simp), World.cell?_alloc_at _ _ _ _ (by simp)]; rfl
  · rw [hb.frozen (p := ⟨w.heap.size + 3, 0, none⟩) (by simp), World.frozen?_alloc_at _ _ _ _ (by simp)]
  · rw [hb.frozen (p := ⟨w.heap.size + 3, 1, none⟩) (by simp), World.frozen?_alloc_at _ _ _ _ (by simp)]

theorem below4 (w : World) (a b c d : Obj) : Below w.heap.size w ((((w.alloc a).alloc b).alloc c).alloc d) := (below3 w a b c).alloc (by simp; omega) _

/-- What Divide hands back. -/
def DivideOK (w : World) (x y : Int) (e : Ending) (w' : World) : Prop :=
  ∃ vq vr, e = .returned (.tuple #[vq, vr, .int .i64 0]) ∧ IntV w' vq (x.tdiv y) ∧ IntV w' vr (x.tmod y) ∧ Below w.heap.size w w'

end Go.Proofs.Ytfieecdedilonaa
