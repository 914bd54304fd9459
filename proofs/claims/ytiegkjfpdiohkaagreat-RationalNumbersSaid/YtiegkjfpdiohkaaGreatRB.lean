/-  The reference's Bits.  -/
import Derived.Test.YtiegkjfpdiohkaaGreatBm
import Derived.Test.YtiegkjfpdiohkaaGreatRInt64
namespace Go.Proofs.YtiegkjfpdiohkaaGreat
open Go.RowKit Digs

theorem Tryz.infoBool : (Tryz.prog.info? 4).map (fun i => (i.zero, i.size, i.bytes)) = some (some (.bool false), 1, 1) := by kernel_rfl

/-- Bools as values. -/
def bv (l : List Bool) : List Value := l.map Value.bool
theorem bv_length (l : List Bool) : (bv l).length = l.length := by simp [bv]
theorem bv_append (l m : List Bool) : bv (l ++ m) = bv l ++ bv m := by simp [bv]
theorem bv_oneCell (l : List Bool) : ∀ u ∈ bv l, u.oneCell' = true := by
  intro u hu
  simp only [bv, List.mem_map] at hu
  obtain ⟨n, _, rfl⟩ := hu
  rfl
theorem bv_get (l : List Bool) (j : Nat) (h : j < l.length) : (bv l)[j]? = some (.bool (l[j]?.getD false)) := by
  simp [bv, List.getElem?_map, List.getElem?_eq_getElem h]
/-- A slice of bools of the call's own. -/
def Oo (w : World) (base : Nat) (v : Value) (l : List Bool) : Prop := w.ownsRow base 4 1 v l.length (bv l)
/-- A slice of bools that reads as l. -/
def RdB (w : World) (v : Value) (l : List Bool) : Prop :=
  ∃ ad cap, v = .slice ad l.length cap ∧ cap ≤ maxLen ∧ l.length ≤ cap ∧ ∀ j : Nat, j < l.length → ∃ b off, ad = some ⟨b, off, none⟩ ∧ b < w.heap.size ∧ w.cell? ⟨b, off + j, none⟩ = some (.bool (l[j]?.getD false))
theorem RdB.keep {w w' : World} {v : Value} {l : List Bool} (h : RdB w v l) (hb : Below w.heap.size w w') : RdB w' v l := by
  obtain ⟨ad, cap, rfl, hm, hc, h1⟩ := h
  refine ⟨ad, cap, rfl, hm, hc, fun j hj => ?_⟩
  obtain ⟨b, off, e, h2, h3⟩ := h1 j hj
  exact ⟨b, off, e, Nat.lt_of_lt_of_le h2 hb.size, (hb.cell (p := ⟨b, off + j, none⟩) h2).trans h3⟩
theorem Oo.rd {w : World} {base : Nat} {v : Value} {l : List Bool} (h : Oo w base v l) : RdB w v l := by
  obtain ⟨_, ⟨rfl, hn⟩ | ⟨g, cap, cur, rfl, _, hg, hc, hm, _, ht⟩⟩ := h
  · exact ⟨none, 0, by rw [hn], Nat.zero_le _, by omega, fun j hj => by omega⟩
  · refine ⟨_, cap, rfl, hm, hc, fun j hj => ⟨g, 0, rfl, (Array.getElem?_eq_some_iff.1 hg).1, ?_⟩⟩
    rw [Nat.zero_add, World.cell?]
    simp only [hg]
    have h1 := bv_get l j hj
    rw [← ht, List.getElem?_take, if_pos (by omega)] at h1
    simpa using h1
theorem Oo.keep {w w' : World} {base : Nat} {v : Value} {l : List Bool} (h : Oo w base v l) (hb : Below w.heap.size w w') : Oo w' base v l := by
  refine ⟨h.1, ?_⟩
  rcases h.2 with hn | ⟨g, cap, cur, rfl, hg, hgg, rest⟩
  · exact .inl hn
  · exact .inr ⟨g, cap, cur, rfl, hg, by rw [hb.block g (Array.getElem?_eq_some_iff.1 hgg).1]; exact hgg, rest⟩

theorem Oo.low {w : World} {base base' : Nat} {v : Value} {l : List Bool} (h : Oo w base v l) (hb : base' ≤ base) : Oo w base' v l := by
  obtain ⟨h1, h2⟩ := h
  refine ⟨h1, ?_⟩
  rcases h2 with hn | ⟨g, cap, cur, e, hg, rest⟩
  · exact .inl hn
  · exact .inr ⟨g, cap, cur, e, Nat.le_trans hb hg, rest⟩

/-- The bits of z, from 0 to n - 1. -/
def bitsL (z : Int) (n : Nat) : List Bool := (List.range n).map (bitZ z)
theorem bitsL_length (z : Int) (n : Nat) : (bitsL z n).length = n := by simp [bitsL]
theorem bitsL_succ (z : Int) (n : Nat) : bitsL z (n + 1) = bitsL z n ++ [bitZ z n] := by simp [bitsL, List.range_succ]
theorem bitsL_get (z : Int) (n j : Nat) (h : j < n) : (bitsL z n)[j]?.getD false = bitZ z j := by
  unfold bitsL
  rw [List.getElem?_map, List.getElem?_range h]
  rfl

def OoPost (w : World) (l : List Bool) (e : Ending) (w' : World) : Prop := ∃ v, e = .returned v ∧ Oo w' w.heap.size v l ∧ Below w.heap.size w w'

theorem zc2 {w : World} {a b c d : Value} {t u : TypeId} {w' : World} (h : Below ((w.alloc (.cells #[a, b] t)).alloc (.cells #[c, d] u)).heap.size ((w.alloc (.cells #[a, b] t)).alloc (.cells #[c, d] u)) w') :
    (w'.cell? ⟨w.heap.size, 0, none⟩ = some a ∧ w'.cell? ⟨w.heap.size, 1, none⟩ = some b) ∧ (w'.cell? ⟨w.heap.size + 1, 0, none⟩ = some c ∧ w'.cell? ⟨w.heap.size + 1, 1, none⟩ = some d ∧ w'.frozen? ⟨w.heap.size + 1, 0, none⟩ = false ∧ w'.frozen? ⟨w.heap.size + 1, 1, none⟩ = false) := by
  have k1 := box2r h
  have k0 := box2 (w := w) (((Below.refl (w.alloc (.cells #[a, b] t)).heap.size _).alloc (Nat.le_refl _) (.cells #[c, d] u)).trans (h.mono (by simp)))
  exact ⟨⟨k0.1, k0.2.1⟩, k1.1, k1.2.1, k1.2.2.1, k1.2.2.2.1⟩

def BitsRel (z : Int) (n : Nat) (X : World) (v i : Value) (wr : World) : Prop :=
  ∃ k : Nat, k ≤ n ∧ i = .int .i64 k ∧ Oo wr X.heap.size v (bitsL z k) ∧ Below X.heap.size X wr

end Go.Proofs.YtiegkjfpdiohkaaGreat
