/-  The same of slices of bytes.  -/
import Derived.Test.YtfieecdedilonaaBoole
namespace Go.Proofs.Ytfieecdedilonaa
open Go.RowKit Digs

theorem Try.infoU8 : (Try.prog.info? 5).map (fun i => (i.zero, i.size, i.bytes)) = some (some (.int .u8 0), 1, 1) := by kernel_rfl

/-- Words as values. -/
def bw (l : List Nat) : List Value := l.map fun n : Nat => Value.int .u8 (n : Int)
theorem bw_length (l : List Nat) : (bw l).length = l.length := by simp [bw]
theorem bw_append (l m : List Nat) : bw (l ++ m) = bw l ++ bw m := by simp [bw]
theorem bw_oneCell (l : List Nat) : ∀ u ∈ bw l, u.oneCell' = true := by
  intro u hu
  simp only [bw, List.mem_map] at hu
  obtain ⟨n, _, rfl⟩ := hu
  rfl
theorem bw_getElem? (l : List Nat) (j : Nat) (h : j < l.length) : (bw l)[j]? = some (.int .u8 ((l[j]?.getD 0 : Nat) : Int)) := by
  simp [bw, List.getElem?_map, List.getElem?_eq_getElem h]

/-- A slice of words of the call's own (blocks from base on), that reads as l. -/
def Ob (w : World) (base : Nat) (v : Value) (l : List Nat) : Prop := w.ownsRow base 5 1 v l.length (bw l)

theorem Ob.rd {w : World} {base : Nat} {v : Value} {l : List Nat} (h : Ob w base v l) : Rd .u8 w v l := by
  have h0 := h
  obtain ⟨_, ⟨rfl, hn⟩ | ⟨g, cap, cur, rfl, _, hg, hc, hm, _, ht⟩⟩ := h
  · exact .inl ⟨rfl, List.eq_nil_of_length_eq_zero hn⟩
  · refine .inr ⟨g, 0, cap, rfl, (Array.getElem?_eq_some_iff.1 hg).1, hc, hm, fun j hj => ?_⟩
    rw [Nat.zero_add, World.cell?]
    simp only [hg]
    have h1 := bw_getElem? l j hj
    rw [← ht, List.getElem?_take, if_pos (by omega)] at h1
    simpa using h1

theorem Ob.keep {w w' : World} {base : Nat} {v : Value} {l : List Nat} (h : Ob w base v l) (hb : Below w.heap.size w w') : Ob w' base v l := by
  refine ⟨h.1, ?_⟩
  rcases h.2 with hn | ⟨g, cap, cur, rfl, hg, hgg, rest⟩
  · exact .inl hn
  · exact .inr ⟨g, cap, cur, rfl, hg, by rw [hb.block g (Array.getElem?_eq_some_iff.1 hgg).1]; exact hgg, rest⟩

theorem new_byte (w : World) (t : TypeId) (n : Nat) (z : Int) (h : z = n) : ∀ (j : Nat) (u : Value), (bw [n])[j]? = some u → (w.alloc (.cells #[.int .u8 z] t)).cell? ((⟨w.heap.size, 0, none⟩ : Addr).add j) = some u := by
  subst h
  intro j u hu
  match j, hu with
  | 0, hu =>
    simp [bw] at hu
    subst hu
    rw [Addr.add_lit, World.cell?_alloc_at _ _ _ _ rfl]
    rfl
theorem Ob.snoc {w : World} {base : Nat} {v : Value} {s : List Nat} {x : Nat} (h : w.ownsRow base 5 1 v (s.length + 1) (bw s ++ bw [x])) : Ob w base v (s ++ [x]) := by
  unfold Ob
  rw [bw_append, List.length_append]
  exact h

theorem Ob.headN {w : World} {base g cap n : Nat} {l d : List Nat} (h : Ob w base (.slice (some ⟨g, 0, none⟩) l.length cap) l) (hn : n ≤ l.length) (hd : l.take n = d) : Ob w base (.slice (some ⟨g, 0, none⟩) n cap) d := by
  subst hd
  have hlen : (l.take n).length = n := by rw [List.length_take]; omega
  obtain ⟨_, ⟨hv, _⟩ | ⟨g', cap', cur, hv, hb, hg, hc, hm, hs, ht⟩⟩ := h
  · cases hv
  · cases hv
    refine ⟨by simp [bw_length], .inr ⟨g, cap, cur, by rw [hlen], hb, hg, by omega, hm, hs, ?_⟩⟩
    rw [hlen, Nat.mul_one]
    rw [Nat.mul_one] at ht
    have h1 : (cur.toList.take l.length).take n = (bw l).take n := by rw [ht]
    rw [List.take_take, Nat.min_eq_left hn] at h1
    rw [h1]
    simp [bw]


/-- A row of words of the call's own, at the head of block g: N of them. -/
def Rb (w : World) (base g N : Nat) (p : List Nat) : Prop := p.length = N ∧ w.ownsRow base 5 1 (.slice (some ⟨g, 0, none⟩) N N) N (bw p)
theorem Rb.cell {w : World} {base g N : Nat} {p : List Nat} (h : Rb w base g N p) (j : Nat) (hj : j < N) : w.cell? ⟨g, j, none⟩ = some (.int .u8 ((p[j]?.getD 0 : Nat) : Int)) := by
  rw [h.2.cellAt j (by omega), bw_getElem? _ _ (by rw [h.1]; exact hj)]
theorem Rb.frozen {w : World} {base g N : Nat} {p : List Nat} (h : Rb w base g N p) (j : Nat) : w.frozen? ⟨g, j, none⟩ = false := h.2.frozenAt j
theorem bw_set (p : List Nat) (j x : Nat) : bw (p.set j x) = (bw p).set j (.int .u8 (x : Int)) := by unfold bw; rw [List.map_set]
theorem Rb.store {w : World} {base g N : Nat} {p : List Nat} (h : Rb w base g N p) (j x : Nat) (z : Int) (hz : z = x) : Rb (w.setCell ⟨g, j, none⟩ (.int .u8 z)) base g N (p.set j x) := by
  subst hz
  exact ⟨by rw [List.length_set, h.1], by rw [bw_set]; exact (h.2.stored j _).1⟩
theorem Rb.ob {w : World} {base g N : Nat} {p : List Nat} (h : Rb w base g N p) : Ob w base (.slice (some ⟨g, 0, none⟩) N N) p := by
  unfold Ob; rw [h.1]; exact h.2
theorem Rb.lt {w : World} {base g N : Nat} {p : List Nat} (h : Rb w base g N p) : base ≤ g ∧ g < w.heap.size := h.2.lt g rfl
theorem bw_zeros (n : Nat) : (madeCells #[Value.int .u8 0] n).toList = bw (List.replicate n 0) := by
  rw [toList_madeCells_one]; simp [bw]

end Go.Proofs.Ytfieecdedilonaa
