/-  Words Op Signed Comb Boole  -/
import Derived.Test.YtiegkjfpdiohkaaGreatCompl
import Derived.Laws.CopyOwn
namespace Go.Proofs.YtiegkjfpdiohkaaGreat
section
open Go.RowKit Digs

def padN (n : Nat) (l : List Nat) : List Nat := l ++ List.replicate (n - l.length) 0
def inv32 (l : List Nat) : List Nat := l.map fun x => 4294967295 - x
/-- The limbs of the two's complement of z, n of them. -/
def wordsN (z : Int) (n : Nat) : List Nat := if z < 0 then inv32 (padN n (digs 4294967296 (-1 - z).natAbs)) else padN n (digs 4294967296 z.natAbs)

theorem padN_length (n : Nat) (l : List Nat) (h : l.length ≤ n) : (padN n l).length = n := by simp [padN]; omega
theorem padN_lt (n : Nat) (l : List Nat) (h : ∀ x ∈ l, x < 4294967296) : ∀ x ∈ padN n l, x < 4294967296 := by
  intro x hx
  rcases List.mem_append.1 hx with h1 | h1
  · exact h x h1
  · rw [List.eq_of_mem_replicate h1]; decide
theorem inv32_length (l : List Nat) : (inv32 l).length = l.length := by simp [inv32]
theorem inv32_lt (l : List Nat) : ∀ x ∈ inv32 l, x < 4294967296 := by
  intro x hx
  simp only [inv32, List.mem_map] at hx
  obtain ⟨y, _, rfl⟩ := hx
  omega

theorem Row.block {w : World} {base g N : Nat} {p : List Nat} (h : Row w base g N p) : w.heap[g]? = some (.cells (uw p).toArray 137 (0, 0)) := by
  obtain ⟨h0, _, ⟨hv, _⟩ | ⟨g', cap, cur, hv, hb, hg, hc, hm, hs, ht⟩⟩ := h
  · cases hv
  · cases hv
    rw [hg]
    have : cur = (uw p).toArray := by
      rw [← ht, Nat.mul_one, List.take_of_length_le (by simp; omega)]
    rw [this]
theorem Row.of_block {w : World} {base g N : Nat} {p : List Nat} (hg : w.heap[g]? = some (.cells (uw p).toArray 137 (0, 0))) (hb : base ≤ g) (hp : p.length = N) (hN : N ≤ maxLen) : Row w base g N p :=
  ⟨hp, by rw [uw_length, hp, Nat.mul_one], .inr ⟨g, N, _, rfl, hb, hg, Nat.le_refl _, hN, by simp [uw_length, hp], by simp [List.take_of_length_le, uw_length, hp]⟩⟩

theorem splice_pad (n : Nat) (l : List Nat) : splice (uw (List.replicate n 0)) 0 (uw l) = uw (padN n l) := by
  unfold splice padN
  rw [uw_append]
  simp [uw]

def WordsPost (w : World) (n : Nat) (l : List Nat) (e : Ending) (w' : World) : Prop :=
  ∃ g, e = .returned (.slice (some ⟨g, 0, none⟩) n n) ∧ Row w' w.heap.size g n l ∧ Below w.heap.size w w'

theorem RdA.keep {k : IntKind} {w w' : World} {ad : Option Addr} {l : List Nat} (h : RdA k w ad l) (hb : Below w.heap.size w w') : RdA k w' ad l := fun j hj => by
  obtain ⟨b, off, h1, h2, h3⟩ := h j hj
  exact ⟨b, off, h1, Nat.lt_of_lt_of_le h2 hb.size, (hb.cell (p := ⟨b, off + j, none⟩) h2).trans h3⟩
theorem RdA.news {w : World} {ad : Option Addr} {l : List Nat} (h : RdA .u32 w ad l) (h0 : 0 < (uw l).length) : ∃ a, ad = some a ∧ ∀ (j : Nat) v, (uw l)[j]? = some v → w.cell? (a.add j) = some v := by
  rw [uw_length] at h0
  obtain ⟨b, off, h1, _⟩ := h 0 h0
  refine ⟨_, h1, Rd.news fun j hj => ?_⟩
  obtain ⟨b', off', h1', _, h3'⟩ := h j hj
  rw [h1] at h1'
  cases h1'
  exact h3'

theorem compl_len {z : Int} (h : z < 0) : len (-1 - z) ≤ len z := digs_length_mono (by decide) (by omega)

theorem not_nat (x : Nat) (h : x < 4294967296) : 4294967295 ^^^ x = 4294967295 - x := by
  apply Nat.eq_of_testBit_eq
  intro i
  have h1 : (4294967295 : Nat) - x = 2 ^ 32 - (x + 1) := by omega
  have h2 : (4294967295 : Nat) = 2 ^ 32 - 1 := by decide
  rw [h1, Nat.testBit_two_pow_sub_succ (by omega), Nat.testBit_xor, h2, Nat.testBit_two_pow_sub_one]
  by_cases hi : i < 32
  · simp [hi]
  · have : x.testBit i = false := Nat.testBit_lt_two_pow (Nat.lt_of_lt_of_le h (Nat.pow_le_pow_right (n := 2) (by decide) (show 32 ≤ i by omega)))
    simp [hi, this]
theorem not_u32 (x : Nat) (h : x < 4294967296) : bits BinOp.xor IntKind.u32 (if IntKind.u32.signed = true then -1 else IntKind.u32.max) (x : Int) = ((4294967295 - x : Nat) : Int) := by
  show bits BinOp.xor IntKind.u32 ((4294967295 : Nat) : Int) (x : Int) = _
  rw [u32_xor_nat _ _ (by decide) h, not_nat x h]

theorem run_limbs (b : Bool) (ad : Option Addr) (n c : Nat) (w : World) : (Instr.field 31 (.agg #[.bool b, .slice ad n c]) 1).run Tryz.prog w = .ok (.slice ad n c) w := by kernel_rfl

/-- What the loop that turns the bits holds. -/
def InvRel (l : List Nat) (w : World) (g n : Nat) (i : Value) (wr : World) : Prop :=
  ∃ (k : Nat) (p : List Nat), i = .int .i64 k ∧ k ≤ n ∧ Row wr w.heap.size g n p ∧ (∀ j : Nat, p[j]?.getD 0 = if j < k then (inv32 l)[j]?.getD 0 else l[j]?.getD 0) ∧ Below w.heap.size w wr

theorem inv_get (l : List Nat) (j : Nat) (h : j < l.length) : (inv32 l)[j]?.getD 0 = 4294967295 - l[j]?.getD 0 := by
  rw [inv32, List.getElem?_map, List.getElem?_eq_getElem h]; rfl

end

section
open Go.RowKit Digs

def opT (t0 t1 t2 t3 a b : Nat) : Nat :=
  (((t0 &&& (4294967295 - a)) &&& (4294967295 - b)) ||| ((t1 &&& (4294967295 - a)) &&& b)) ||| ((t2 &&& a) &&& (4294967295 - b)) ||| ((t3 &&& a) &&& b)

theorem and_lt32 {a : Nat} (b : Nat) (h : a < 4294967296) : a &&& b < 4294967296 := Nat.lt_of_le_of_lt Nat.and_le_left h
theorem or_lt32 {a b : Nat} (h : a < 4294967296) (h2 : b < 4294967296) : a ||| b < 4294967296 := Nat.or_lt_two_pow (n := 32) h h2

theorem opT_lt {t0 t1 t2 t3 a b : Nat} (h0 : t0 < 4294967296) (h1 : t1 < 4294967296) (h2 : t2 < 4294967296) (h3 : t3 < 4294967296) : opT t0 t1 t2 t3 a b < 4294967296 :=
  or_lt32 (or_lt32 (or_lt32 (and_lt32 _ (and_lt32 _ h0)) (and_lt32 _ (and_lt32 _ h1))) (and_lt32 _ (and_lt32 _ h2))) (and_lt32 _ (and_lt32 _ h3))

/-- The limb of all ones, or none, that an operation has for a pair of bits. -/
def tb (op i : Nat) : Nat := if op / 2 ^ i % 2 = 1 then 4294967295 else 0

end

section
open Go.RowKit Digs

def signedZ (l : List Nat) : Int := if l[l.length - 1]?.getD 0 < 2147483648 then (vl 4294967296 l : Int) else -1 - (vl 4294967296 (inv32 l) : Int)
/-- Of the old blocks none but block g has turned. -/
def Only (g : Nat) (w w' : World) : Prop := ∀ k, k < w.heap.size → k ≠ g → w'.heap[k]? = w.heap[k]?
def SignedPost (base g : Nat) (w : World) (z : Int) (e : Ending) (w' : World) : Prop := ∃ v, e = .returned v ∧ IntV w' v z ∧ Below base w w' ∧ Only g w w'
theorem Only.of_below {g : Nat} {w w' : World} (h : Below w.heap.size w w') : Only g w w' := fun k hk _ => h.block k hk
theorem Only.store2 {g R : Nat} {w w' : World} {x y : Value} (h : Only g w w') (hR : w.heap.size ≤ R) : Only g w ((w'.setCell ⟨R, 0, none⟩ x).setCell ⟨R, 1, none⟩ y) := fun k hk hg => by
  rw [heap_setCell_other _ _ _ _ (by simp; omega), heap_setCell_other _ _ _ _ (by simp; omega)]
  exact h k hk hg

theorem Row.keep {w w' : World} {base g N : Nat} {p : List Nat} (h : Row w base g N p) (hb : Below w.heap.size w w') (hN : N ≤ maxLen) : Row w' base g N p :=
  Row.of_block (by rw [hb.block g h.lt.2]; exact h.block) h.lt.1 h.1 hN
theorem Row.rd {w : World} {base g N : Nat} {p : List Nat} (h : Row w base g N p) : Rd .u32 w (.slice (some ⟨g, 0, none⟩) N N) p := h.ow.rd

def SInvRel (l : List Nat) (w : World) (base g R N : Nat) (i : Value) (wr : World) : Prop :=
  ∃ (k : Nat) (p : List Nat), i = .int .i64 k ∧ k ≤ N ∧ Row wr base g N p ∧ (∀ j : Nat, p[j]?.getD 0 = if j < k then (inv32 l)[j]?.getD 0 else l[j]?.getD 0) ∧ Below base w wr ∧ wr.heap[R]? = some (.cells #[.bool false, .slice none 0 0] 31 (0, 0)) ∧ Only g w wr

theorem box_of {w w2 : World} {R : Nat} {a b : Value} {t : TypeId} (h : w.heap[R]? = some (.cells #[a, b] t (0, 0))) (hb : Below w.heap.size w w2) :
    w2.cell? ⟨R, 0, none⟩ = some a ∧ w2.cell? ⟨R, 1, none⟩ = some b ∧ w2.frozen? ⟨R, 0, none⟩ = false ∧ w2.frozen? ⟨R, 1, none⟩ = false ∧ R < w2.heap.size := by
  have hR := (Array.getElem?_eq_some_iff.1 h).1
  have h2 : w2.heap[R]? = some (.cells #[a, b] t (0, 0)) := by rw [hb.block R hR]; exact h
  exact ⟨by rw [cell_of_row w2 R 0 _ _ _ h2]; rfl, by rw [cell_of_row w2 R 1 _ _ _ h2]; rfl, frozen_of_row w2 R 0 _ _ h2, frozen_of_row w2 R 1 _ _ h2, (Array.getElem?_eq_some_iff.1 h2).1⟩

end

section
open Go.RowKit Digs

def tbl (op : Nat) : Array Value := #[.int .u32 (tb op 0 : Nat), .int .u32 (tb op 1 : Nat), .int .u32 (tb op 2 : Nat), .int .u32 (tb op 3 : Nat)]
def opN (op a b : Nat) : Nat := opT (tb op 0) (tb op 1) (tb op 2) (tb op 3) a b
theorem tb_lt (op i : Nat) : tb op i < 4294967296 := by unfold tb; split <;> decide
theorem opN_lt (op a b : Nat) : opN op a b < 4294967296 := opT_lt (tb_lt _ _) (tb_lt _ _) (tb_lt _ _) (tb_lt _ _)

theorem wordsN_length (z : Int) (n : Nat) (h : len z ≤ n) : (wordsN z n).length = n := by
  unfold wordsN
  split
  · rw [inv32_length, padN_length _ _ (Nat.le_trans (compl_len (by assumption)) h)]
  · exact padN_length _ _ h
theorem wordsN_lt (z : Int) (n : Nat) : ∀ x ∈ wordsN z n, x < 4294967296 := by
  unfold wordsN
  split
  · exact inv32_lt _
  · exact padN_lt _ _ (digs_lt (by decide) _)

/-- The limbs that an operation makes of two numbers'. -/
def combW (op : Nat) (x y : Int) (n : Nat) : List Nat := List.zipWith (opN op) (wordsN x n) (wordsN y n)
/-- The integer that an operation of bits makes. -/
def boolZ (op : Nat) (x y : Int) : Int := signedZ (combW op x y (max (len x) (len y) + 1))

def CombRel (op : Nat) (lx ly : List Nat) (w : World) (gx gy R N : Nat) (i : Value) (wr : World) : Prop :=
  ∃ (k : Nat) (p : List Nat), i = .int .i64 k ∧ k ≤ N ∧ Row wr w.heap.size gx N p ∧ (∀ j : Nat, p[j]?.getD 0 = if j < k then (List.zipWith (opN op) lx ly)[j]?.getD 0 else lx[j]?.getD 0) ∧
    Row wr w.heap.size gy N ly ∧ Below w.heap.size w wr ∧ wr.heap[R]? = some (.cells #[.bool false, .slice none 0 0] 31 (0, 0)) ∧ gx ≠ gy ∧ gx ≠ R ∧ w.heap.size ≤ R

end

section
open Go.RowKit Digs

/-- A result with no error. -/
def IntOK (w : World) (z : Int) (e : Ending) (w' : World) : Prop := ∃ v, e = .returned (.tuple #[v, .int .i64 0]) ∧ IntV w' v z ∧ Below w.heap.size w w'
/-- An error, and the zero value. -/
def IntErr (w : World) (c : Int) (e : Ending) (w' : World) : Prop := e = .returned (.tuple #[.agg #[.bool false, .slice none 0 0], .int .i64 c]) ∧ Below w.heap.size w w'

end

end Go.Proofs.YtiegkjfpdiohkaaGreat
