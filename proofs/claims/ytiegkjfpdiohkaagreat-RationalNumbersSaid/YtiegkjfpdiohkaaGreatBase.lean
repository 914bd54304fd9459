/-  What a slice of words reads as; small facts on worlds.  -/
import Derived.Test.YtiegkjfpdiohkaaGreatMath
import Derived.Test.YtiegkjfpdiohkaaGreatRows
import Derived.WalkKit
import Derived.WalkSpells
import Derived.WalkLawsBesides
import Derived.Lib.Hide
import Derived.Deep.QuietTactic
import Derived.BigQuiet
import Derived.Outline
namespace Go.Proofs.YtiegkjfpdiohkaaGreat
open Go.RowKit Digs

/-- A slice value of words of kind k that reads as l. -/
def Rd (k : IntKind) (w : World) (v : Value) (l : List Nat) : Prop :=
  (v = .slice none 0 0 ∧ l = []) ∨ ∃ b off cap, v = .slice (some ⟨b, off, none⟩) l.length cap ∧ b < w.heap.size ∧ l.length ≤ cap ∧ cap ≤ maxLen ∧ ∀ j, j < l.length → w.cell? ⟨b, off + j, none⟩ = some (.int k ((l[j]?.getD 0 : Nat) : Int))

theorem Rd.keep {k : IntKind} {w w' : World} {v : Value} {l : List Nat} (h : Rd k w v l) (hb : Below w.heap.size w w') : Rd k w' v l := by
  rcases h with h | ⟨b, off, cap, rfl, h1, h2, h3, h4⟩
  · exact .inl h
  · exact .inr ⟨b, off, cap, rfl, Nat.lt_of_lt_of_le h1 hb.size, h2, h3, fun j hj => (hb.cell (p := ⟨b, off + j, none⟩) h1).trans (h4 j hj)⟩

theorem quiet_add {P : Program} {f : FuncId} {args : Array Value} {w : World} {a n : Nat} {v : Value}
    (h : Calls P f args (w.drewN (a + n)) fun e w' => e = .returned v ∧ ∃ m, w' = (w.drewN (a + n)).drewN m) :
    Calls P f args (w.drewN (a + n)) fun e w'' => e = .returned v ∧ ∃ m, w'' = w.drewN (a + m) :=
  h.mono fun _ _ ⟨he, m, hm⟩ => ⟨he, n + m, by rw [hm, World.drewN_drewN, Nat.add_assoc]⟩
theorem quiet_add_same {P : Program} {f : FuncId} {args : Array Value} {w : World} {a n : Nat} {v : Value}
    (h : Calls P f args (w.drewN (a + n)) fun e w' => e = .returned v ∧ w' = w.drewN (a + n)) :
    Calls P f args (w.drewN (a + n)) fun e w'' => e = .returned v ∧ ∃ m, w'' = w.drewN (a + m) :=
  h.mono fun _ _ ⟨he, hm⟩ => ⟨he, n, hm⟩
theorem below_drewN' {B : Nat} {a w : World} (h : Below B a w) (n : Nat) : Below B a (w.drewN n) := ⟨h.os, h.tape, h.output, h.size, h.block⟩

theorem drewN3 (w : World) (a b c : Nat) : ∃ n, ((w.drewN a).drewN b).drewN c = w.drewN n := ⟨a + (b + c), by rw [World.drewN_drewN, World.drewN_drewN]⟩

theorem ret_int {k : IntKind} {a b : Int} (h : a = b) : Ending.returned (.int k a) = .returned (.int k b) := by rw [h]
theorem ret_bool {a b : Bool} (h : a = b) : Ending.returned (.bool a) = .returned (.bool b) := by rw [h]

theorem Tryz.infoU32 : (Tryz.prog.info? 137).map (fun i => (i.zero, i.size, i.bytes)) = some (some (.int .u32 0), 1, 4) := by kernel_rfl

/-- Words as values. -/
def uw (l : List Nat) : List Value := l.map fun n : Nat => Value.int .u32 (n : Int)
theorem uw_length (l : List Nat) : (uw l).length = l.length := by simp [uw]
theorem uw_append (l m : List Nat) : uw (l ++ m) = uw l ++ uw m := by simp [uw]
theorem uw_oneCell (l : List Nat) : ∀ u ∈ uw l, u.oneCell' = true := by
  intro u hu
  simp only [uw, List.mem_map] at hu
  obtain ⟨n, _, rfl⟩ := hu
  rfl
theorem uw_getElem? (l : List Nat) (j : Nat) (h : j < l.length) : (uw l)[j]? = some (.int .u32 ((l[j]?.getD 0 : Nat) : Int)) := by
  simp [uw, List.getElem?_map, List.getElem?_eq_getElem h]

/-- A slice of words of the call's own (blocks from base on), that reads as l. -/
def Ow (w : World) (base : Nat) (v : Value) (l : List Nat) : Prop := w.ownsRow base 137 1 v l.length (uw l)

theorem Ow.rd {w : World} {base : Nat} {v : Value} {l : List Nat} (h : Ow w base v l) : Rd .u32 w v l := by
  have h0 := h
  obtain ⟨_, ⟨rfl, hn⟩ | ⟨g, cap, cur, rfl, _, hg, hc, hm, _, ht⟩⟩ := h
  · exact .inl ⟨rfl, List.eq_nil_of_length_eq_zero hn⟩
  · refine .inr ⟨g, 0, cap, rfl, (Array.getElem?_eq_some_iff.1 hg).1, hc, hm, fun j hj => ?_⟩
    rw [Nat.zero_add, World.cell?]
    simp only [hg]
    have h1 := uw_getElem? l j hj
    rw [← ht, List.getElem?_take, if_pos (by omega)] at h1
    simpa using h1

theorem Ow.keep {w w' : World} {base : Nat} {v : Value} {l : List Nat} (h : Ow w base v l) (hb : Below w.heap.size w w') : Ow w' base v l := by
  refine ⟨h.1, ?_⟩
  rcases h.2 with hn | ⟨g, cap, cur, rfl, hg, hgg, rest⟩
  · exact .inl hn
  · exact .inr ⟨g, cap, cur, rfl, hg, by rw [hb.block g (Array.getElem?_eq_some_iff.1 hgg).1]; exact hgg, rest⟩

theorem Rd.news {k : IntKind} {w : World} {b off : Nat} {l : List Nat} (h : ∀ j, j < l.length → w.cell? ⟨b, off + j, none⟩ = some (.int k ((l[j]?.getD 0 : Nat) : Int))) :
    ∀ (j : Nat) (u : Value), (l.map fun n : Nat => Value.int k (n : Int))[j]? = some u → w.cell? ((⟨b, off, none⟩ : Addr).add j) = some u := by
  intro j u hu
  rw [Addr.add_lit]
  by_cases hj : j < l.length
  · rw [h j hj]
    rw [List.getElem?_map, List.getElem?_eq_getElem hj] at hu
    rw [List.getElem?_eq_getElem hj]
    simpa using hu
  · rw [List.getElem?_map, List.getElem?_eq_none (by omega)] at hu
    cases hu

theorem Rd.take {k : IntKind} {w : World} {b off cap n : Nat} {l d : List Nat} (hlc : l.length ≤ cap) (hcm : cap ≤ maxLen) (hb : b < w.heap.size)
    (hc : ∀ j, j < l.length → w.cell? ⟨b, off + j, none⟩ = some (.int k ((l[j]?.getD 0 : Nat) : Int))) (hn : n ≤ l.length) (hd : l.take n = d) : Rd k w (.slice (some ⟨b, off, none⟩) n cap) d := by
  subst hd
  have hlen : (l.take n).length = n := by rw [List.length_take]; omega
  refine .inr ⟨b, off, cap, by rw [hlen], hb, by rw [hlen]; omega, hcm, fun j hj => ?_⟩
  rw [hlen] at hj
  rw [hc j (by omega), List.getElem?_take, if_pos hj]

theorem cells_alloc {k : IntKind} {w : World} {b off n : Nat} {f : Nat → Nat} (o : Obj) (hb : b < w.heap.size) (hc : ∀ j, j < n → w.cell? ⟨b, off + j, none⟩ = some (.int k ((f j : Nat) : Int))) :
    ∀ j, j < n → (w.alloc o).cell? ⟨b, off + j, none⟩ = some (.int k ((f j : Nat) : Int)) := fun j hj => by
  rw [World.cell?_alloc_past _ _ _ hb]; exact hc j hj

/-- A variable of two cells that the call has laid: what a later world holds there. -/
theorem box2 {w w2 : World} {a b : Value} {t : TypeId} (h : Below (w.alloc (.cells #[a, b] t)).heap.size (w.alloc (.cells #[a, b] t)) w2) :
    w2.cell? ⟨w.heap.size, 0, none⟩ = some a ∧ w2.cell? ⟨w.heap.size, 1, none⟩ = some b ∧ w2.frozen? ⟨w.heap.size, 0, none⟩ = false ∧ w2.frozen? ⟨w.heap.size, 1, none⟩ = false ∧ w.heap.size < w2.heap.size := by
  have hs := h.size
  simp only [World.size_alloc] at hs
  refine ⟨?_, ?_, ?_, ?_, by omega⟩
  · rw [h.cell (p := ⟨w.heap.size, 0, none⟩) (by simp), World.cell?_alloc_at _ _ _ _ rfl]; rfl
  · rw [h.cell (p := ⟨w.heap.size, 1, none⟩) (by simp), World.cell?_alloc_at _ _ _ _ rfl]; rfl
  · rw [h.frozen (p := ⟨w.heap.size, 0, none⟩) (by simp), World.frozen?_alloc_at _ _ _ _ rfl]
  · rw [h.frozen (p := ⟨w.heap.size, 1, none⟩) (by simp), World.frozen?_alloc_at _ _ _ _ rfl]

/-- A store over a cell that holds no word of kind k turns no reading. -/
theorem Rd.store {k : IntKind} {w : World} {v : Value} {l : List Nat} (h : Rd k w v l) {a : Addr} {u : Value} (hu : w.cell? a = some u) (hne : ∀ n, u ≠ .int k n) (x : Value) : Rd k (w.setCell a x) v l := by
  rcases h with h | ⟨b, off, cap, rfl, h1, h2, h3, h4⟩
  · exact .inl h
  · refine .inr ⟨b, off, cap, rfl, by simpa using h1, h2, h3, fun j hj => ?_⟩
    have h5 := h4 j hj
    rw [World.cell?_setCell_other _ _ _ _ ?_]
    · exact h5
    · rintro rfl
      rw [hu] at h5
      exact hne _ (Option.some.inj h5)

/-- Two stores into such a variable. -/
theorem Rd.store2 {k : IntKind} {w : World} {v : Value} {l : List Nat} (h : Rd k w v l) {R : Nat} {a b : Value} (h0 : w.cell? ⟨R, 0, none⟩ = some a) (h1 : w.cell? ⟨R, 1, none⟩ = some b)
    (n0 : ∀ n, a ≠ .int k n) (n1 : ∀ n, b ≠ .int k n) (x y : Value) : Rd k ((w.setCell ⟨R, 0, none⟩ x).setCell ⟨R, 1, none⟩ y) v l :=
  (h.store h0 n0 x).store (u := b) (by rw [World.cell?_setCell_other _ _ _ _ (by simp)]; exact h1) n1 y

theorem Rd.shape {k : IntKind} {w : World} {v : Value} {l : List Nat} (h : Rd k w v l) : ∃ ad n c, v = .slice ad n c := by
  rcases h with ⟨rfl, _⟩ | ⟨_, _, _, rfl, _⟩
  · exact ⟨_, _, _, rfl⟩
  · exact ⟨_, _, _, rfl⟩
theorem Rd.shape' {k : IntKind} {w : World} {v : Value} {l : List Nat} (h : Rd k w v l) : ∃ ad c, v = .slice ad l.length c := by
  rcases h with ⟨rfl, rfl⟩ | ⟨_, _, _, rfl, _⟩
  · exact ⟨_, _, rfl⟩
  · exact ⟨_, _, rfl⟩

theorem new_one (w : World) (t : TypeId) (n : Nat) (z : Int) (h : z = n) : ∀ (j : Nat) (u : Value), (uw [n])[j]? = some u → (w.alloc (.cells #[.int .u32 z] t)).cell? ((⟨w.heap.size, 0, none⟩ : Addr).add j) = some u := by
  subst h
  intro j u hu
  match j, hu with
  | 0, hu =>
    simp [uw] at hu
    subst hu
    rw [Addr.add_lit, World.cell?_alloc_at _ _ _ _ rfl]
    rfl
theorem all_snoc {b : Nat} {s : List Nat} {x : Nat} (h : ∀ y ∈ s, y < b) (hx : x < b) : ∀ y ∈ s ++ [x], y < b := by
  intro y hy
  rcases List.mem_append.1 hy with h1 | h1
  · exact h y h1
  · rw [List.mem_singleton.1 h1]; exact hx
theorem Ow.snoc {w : World} {base : Nat} {v : Value} {s : List Nat} {x : Nat} (h : w.ownsRow base 137 1 v (s.length + 1) (uw s ++ uw [x])) : Ow w base v (s ++ [x]) := by
  unfold Ow
  rw [uw_append, List.length_append]
  exact h
theorem vl_take_le (b : Nat) (l : List Nat) (k : Nat) (h : l.length ≤ k) : vl b (l.take (k + 1)) = vl b (l.take k) := by
  rw [List.take_of_length_le h, List.take_of_length_le (by omega)]

/-- The same of whatever address: nil too, of which nothing is read. -/
def RdA (k : IntKind) (w : World) (ad : Option Addr) (l : List Nat) : Prop :=
  ∀ j : Nat, j < l.length → ∃ b off, ad = some ⟨b, off, none⟩ ∧ b < w.heap.size ∧ w.cell? ⟨b, off + j, none⟩ = some (.int k ((l[j]?.getD 0 : Nat) : Int))
theorem Rd.opt {k : IntKind} {w : World} {v : Value} {l : List Nat} (h : Rd k w v l) : ∃ ad cap, v = .slice ad l.length cap ∧ RdA k w ad l := by
  rcases h with ⟨rfl, rfl⟩ | ⟨b, off, cap, rfl, h1, _, _, h4⟩
  · exact ⟨none, 0, rfl, fun j hj => absurd hj (Nat.not_lt_zero _)⟩
  · exact ⟨_, cap, rfl, fun j hj => ⟨b, off, rfl, h1, h4 j hj⟩⟩

end Go.Proofs.YtiegkjfpdiohkaaGreat
