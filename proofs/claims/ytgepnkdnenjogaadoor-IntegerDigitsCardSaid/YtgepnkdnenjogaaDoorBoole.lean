/-  Words Op Signed Comb Boole  -/
import Derived.Test.YtgepnkdnenjogaaDoorCompl
import Derived.Laws.CopyOwn
namespace Go.Proofs.YtgepnkdnenjogaaDoor
section
open Go.RowKit Digs

def padN (n : Nat) (l : List Nat) : List Nat := l ++ List.replicate (n - l.length) 0
def inv32 (l : List Nat) : List Nat := l.map fun x => 4294967295 - x
/-- The limbs of the two's complement of z, n of them. -/
def wordsN (z : Int) (n : Nat) : List Nat := if z < 0 then inv32 (padN n (digs 4294967296 (-1 - z).natAbs)) else padN n (digs 4294967296 z.natAbs)

theorem padN_length (n : Nat) (l : List Nat) (h : l.length ≤ n) : (padN n l).length = n := by simp [padN]; omega
theorem padN_lt (n : Nat) (l : List Nat) (h : ∀ x ∈ l, x < 4294967296) : ∀ x ∈ padN n l, x < 4294967296 := by
  intro x hx
  rcases List.mem_append.1 hx with h1 | h1
  · exact h x h1
  · rw [List.eq_of_mem_replicate h1]; decide
theorem inv32_length (l : List Nat) : (inv32 l).length = l.length := by simp [inv32]
theorem inv32_lt (l : List Nat) : ∀ x ∈ inv32 l, x < 4294967296 := by
  intro x hx
  simp only [inv32, List.mem_map] at hx
  obtain ⟨y, _, rfl⟩ := hx
  omega

theorem Row.block {w : World} {base g N : Nat} {p : List Nat} (h : Row w base g N p) : w.heap[g]? = some (.cells (uw p).toArray 56 (0, 0)) := by
  obtain ⟨h0, _, ⟨hv, _⟩ | ⟨g', cap, cur, hv, hb, hg, hc, hm, hs, ht⟩⟩ := h
  · cases hv
  · cases hv
    rw [hg]
    have : cur = (uw p).toArray := by
      rw [← ht, Nat.mul_one, List.take_of_length_le (by simp; omega)]
    rw [this]
theorem Row.of_block {w : World} {base g N : Nat} {p : List Nat} (hg : w.heap[g]? = some (.cells (uw p).toArray 56 (0, 0))) (hb : base ≤ g) (hp : p.length = N) (hN : N ≤ maxLen) : Row w base g N p :=
  ⟨hp, by rw [uw_length, hp, Nat.mul_one], .inr ⟨g, N, _, rfl, hb, hg, Nat.le_refl _, hN, by simp [uw_length, hp], by simp [List.take_of_length_le, uw_length, hp]⟩⟩

theorem splice_pad (n : Nat) (l : List Nat) : splice (uw (List.replicate n 0)) 0 (uw l) = uw (padN n l) := by
  unfold splice padN
  rw [uw_append]
  simp [uw]

def WordsPost (w : World) (n : Nat) (l : List Nat) (e : Ending) (w' : World) : Prop :=
  ∃ g, e = .returned (.slice (some ⟨g, 0, none⟩) n n) ∧ Row w' w.heap.size g n l ∧ Below w.heap.size w w'

theorem RdA.keep {k : IntKind} {w w' : World} {ad : Option Addr} {l : List Nat} (h : RdA k w ad l) (hb : Below w.heap.size w w') : RdA k w' ad l := fun j hj => by
  obtain ⟨b, off, h1, h2, h3⟩ := h j hj
  exact ⟨b, off, h1, Nat.lt_of_lt_of_le h2 hb.size, (hb.cell (p := ⟨b, off + j, none⟩) h2).trans h3⟩
theorem RdA.news {w : World} {ad : Option Addr} {l : List Nat} (h : RdA .u32 w ad l) (h0 : 0 < (uw l).length) : ∃ a, ad = some a ∧ ∀ (j : Nat) v, (uw l)[j]? = some v → w.cell? (a.add j) = some v := by
  rw [uw_length] at h0
  obtain ⟨b, off, h1, _⟩ := h 0 h0
  refine ⟨_, h1, Rd.news fun j hj => ?_⟩
  obtain ⟨b', off', h1', _, h3'⟩ := h j hj
  rw [h1] at h1'
  cases h1'
  exact h3'

set_option maxHeartbeats 2000000 in
set_option maxRecDepth 100000 in
theorem words_pos (ad : Option Addr) (c n : Nat) (l : List Nat) (w : World) (hn : n ≤ 1000001) (hln : l.length ≤ n) (hr : RdA .u32 w ad l) :
    Calls Tryd.prog 62 #[.agg #[.bool false, .slice ad l.length c], .int .i64 n] w (WordsPost w n (padN n l)) := by
  have HR := Lib.hid hr
  clear hr
  obtain ⟨i0, hi, hz0, hz1, hz2⟩ := info_parts Tryd.infoU32
  go_enter Tryd.func62, Tryd.ntmps62
  go_wp2_with (at_make; refine wpList_make_full _ rfl _ _ 22 rfl w.heap.size 56 i0 (.int .u32 0) 1 Tryd.underlying22 hi hz0 hz1 _ _ _ _ n rfl rfl (by omega) (by omega) ?b2 ?b3 ?b4 ?_)
  case b2 => rw [hz2]; omega
  case b3 => unfold maxLen; omega
  case b4 => simp
  intro w0 hown0 hgrow0
  have hB0 := ((Below.refl w.heap.size w).alloc (Nat.le_refl _) _).grown hgrow0 (by simp) (fun k h => by cases h)
  have hBx := (Below.refl _ (w.alloc (.cells #[.bool false, .slice ad l.length c] 28))).grown hgrow0 (Nat.le_refl _) (fun k h => by cases h)
  obtain ⟨cA, cB⟩ := box1 hBx
  rw [uw_zeros] at hown0
  have hrow : Row w0 w.heap.size (w.heap.size + 1) n (List.replicate n 0) := ⟨by simp, hown0⟩
  have HB0 := Lib.hid hB0
  have HROW := Lib.hid hrow
  clear hown0 hgrow0 hB0 hrow hBx
  go_wp2_with (with_reducible refine wpList_copy_splice rfl (.tmp 31) (.tmp 33) 22 22 rfl 56 Tryd.underlying22 ?e1 _ _ _ _ _ _ rfl rfl (w.heap.size + 1) 0 _ 56 HROW.out.block (uw l) ?e2 ?e3 ?e4 (uw_oneCell _) w.heap.size w HB0.out (Nat.le_succ _) ?_)
  case e1 =>
    show (Tryd.prog.info? 56).map (·.size) = some 1
    rw [hi, Option.map_some, hz1]
  case e2 => rw [uw_length]; exact (Nat.min_eq_left hln).symm
  case e3 =>
    intro h0
    first | exact ⟨rfl, (HR.out.keep HB0.out).news h0⟩ | exact (HR.out.keep HB0.out).news h0
  case e4 => simp [uw_length]; omega
  intro w1 hg1 hb1
  have hrow1 := Row.of_block (base := w.heap.size) (N := n) (p := padN n l) (by have := hg1.out; rw [splice_pad] at this; exact this) (Nat.le_succ _) (padN_length n l hln) (by unfold maxLen; omega)
  have HROW1 := Lib.hid hrow1
  clear hg1 hrow1
  go_wp2
  go_ret
  exact ⟨_, rfl, HROW1.out, hb1⟩

theorem compl_len {z : Int} (h : z < 0) : len (-1 - z) ≤ len z := digs_length_mono (by decide) (by omega)

theorem not_nat (x : Nat) (h : x < 4294967296) : 4294967295 ^^^ x = 4294967295 - x := by
  apply Nat.eq_of_testBit_eq
  intro i
  have h1 : (4294967295 : Nat) - x = 2 ^ 32 - (x + 1) := by omega
  have h2 : (4294967295 : Nat) = 2 ^ 32 - 1 := by decide
  rw [h1, Nat.testBit_two_pow_sub_succ (by omega), Nat.testBit_xor, h2, Nat.testBit_two_pow_sub_one]
  by_cases hi : i < 32
  · simp [hi]
  · have : x.testBit i = false := Nat.testBit_lt_two_pow (Nat.lt_of_lt_of_le h (Nat.pow_le_pow_right (n := 2) (by decide) (show 32 ≤ i by omega)))
    simp [hi, this]
theorem not_u32 (x : Nat) (h : x < 4294967296) : bits BinOp.xor IntKind.u32 (if IntKind.u32.signed = true then -1 else IntKind.u32.max) (x : Int) = ((4294967295 - x : Nat) : Int) := by
  show bits BinOp.xor IntKind.u32 ((4294967295 : Nat) : Int) (x : Int) = _
  rw [u32_xor_nat _ _ (by decide) h, not_nat x h]

theorem run_limbs (b : Bool) (ad : Option Addr) (n c : Nat) (w : World) : (Instr.field 28 (.agg #[.bool b, .slice ad n c]) 1).run Tryd.prog w = .ok (.slice ad n c) w := by kernel_rfl

/-- What the loop that turns the bits holds. -/
def InvRel (l : List Nat) (w : World) (g n : Nat) (i : Value) (wr : World) : Prop :=
  ∃ (k : Nat) (p : List Nat), i = .int .i64 k ∧ k ≤ n ∧ Row wr w.heap.size g n p ∧ (∀ j : Nat, p[j]?.getD 0 = if j < k then (inv32 l)[j]?.getD 0 else l[j]?.getD 0) ∧ Below w.heap.size w wr

theorem inv_get (l : List Nat) (j : Nat) (h : j < l.length) : (inv32 l)[j]?.getD 0 = 4294967295 - l[j]?.getD 0 := by
  rw [inv32, List.getElem?_map, List.getElem?_eq_getElem h]; rfl

set_option maxHeartbeats 2000000 in
set_option maxRecDepth 100000 in
theorem words_neg (z : Int) (ad : Option Addr) (nx c n : Nat) (w : World) (hn : n ≤ 1000001) (hz : z < 0) (hln : len z ≤ n) (hlz : len z ≤ 1000000) (h : IntV w (.agg #[.bool true, .slice ad nx c]) z) :
    Calls Tryd.prog 62 #[.agg #[.bool true, .slice ad nx c], .int .i64 n] w (WordsPost w n (inv32 (padN n (digs 4294967296 (-1 - z).natAbs)))) := by
  have HC := fun W hw => Lib.hid (complement_any z _ W hlz (h.keep (w' := W) hw))
  have HC := Lib.hid HC
  obtain ⟨l, hl⟩ : ∃ l, l = digs 4294967296 (-1 - z).natAbs := ⟨_, rfl⟩
  have hll : l.length ≤ n := by rw [hl]; exact Nat.le_trans (compl_len hz) hln
  have hlt : ∀ x ∈ l, x < 4294967296 := by rw [hl]; exact digs_lt (by decide) _
  rw [← hl]
  have HL := Lib.hid hl
  have HLT := Lib.hid (padN_lt n l hlt)
  have hpl := padN_length n l hll
  have HPL := Lib.hid hpl
  clear hz hln hlz h hlt hl hpl
  obtain ⟨i0, hi, hz0, hz1, hz2⟩ := info_parts Tryd.infoU32
  go_enter Tryd.func62, Tryd.ntmps62
  go_wp2_with (at_make; refine wpList_make_full _ rfl _ _ 22 rfl w.heap.size 56 i0 (.int .u32 0) 1 Tryd.underlying22 hi hz0 hz1 _ _ _ _ n rfl rfl (by omega) (by omega) ?b2 ?b3 ?b4 ?_)
  case b2 => rw [hz2]; omega
  case b3 => unfold maxLen; omega
  case b4 => simp
  intro w0 hown0 hgrow0
  have hB0 := ((Below.refl w.heap.size w).alloc (Nat.le_refl _) _).grown hgrow0 (by simp) (fun k h => by cases h)
  have hBx := (Below.refl _ (w.alloc (.cells #[.bool true, .slice ad nx c] 28))).grown hgrow0 (Nat.le_refl _) (fun k h => by cases h)
  obtain ⟨cA, cB⟩ := box1 hBx
  rw [uw_zeros] at hown0
  have hrow : Row w0 w.heap.size (w.heap.size + 1) n (List.replicate n 0) := ⟨by simp, hown0⟩
  have HB0 := Lib.hid hB0
  have HROW := Lib.hid hrow
  clear hown0 hgrow0 hB0 hrow hBx
  go_wp2_with fail
  refine (HC.out _ HB0.out).out.mono ?_
  rintro e w1 ⟨v1, rfl, ⟨ad1, n1, c1, rfl, hr1⟩, hb1⟩
  have hrow1 : Row w1 w.heap.size (w.heap.size + 1) n (List.replicate n 0) := by
    have h1 := HROW.out
    have h2 := hb1.block (w.heap.size + 1) h1.lt.2
    exact Row.of_block (by rw [h2]; exact h1.block) (Nat.le_succ _) (by simp) (by unfold maxLen; omega)
  obtain ⟨ad1', c1', hv, ra1⟩ := hr1.opt
  cases hv
  rw [← HL.out] at ra1 ⊢
  have HB1 := Lib.hid (HB0.out.trans (hb1.mono HB0.out.size))
  have HROW1 := Lib.hid hrow1
  have HRA1 := Lib.hid ra1
  clear hr1 hrow1 hb1 ra1 cA cB
  have hfield := run_limbs
  go_wp2_with (with_reducible refine wpList_copy_splice rfl (.tmp 11) (.tmp 14) 22 22 rfl 56 Tryd.underlying22 ?e1 _ _ _ _ _ _ rfl rfl (w.heap.size + 1) 0 _ 56 HROW1.out.block (uw l) ?e2 ?e3 ?e4 (uw_oneCell _) w.heap.size w HB1.out (Nat.le_succ _) ?_)
  case e1 =>
    show (Tryd.prog.info? 56).map (·.size) = some 1
    rw [hi, Option.map_some, hz1]
  case e2 => rw [uw_length]; exact (Nat.min_eq_left hll).symm
  case e3 =>
    intro h0
    first | exact ⟨rfl, HRA1.out.news h0⟩ | exact HRA1.out.news h0
  case e4 => simp [uw_length]; omega
  intro w2 hg2 hb2
  have hrow2 := Row.of_block (base := w.heap.size) (N := n) (p := padN n l) (by have := hg2.out; rw [splice_pad] at this; exact this) (Nat.le_succ _) HPL.out (by unfold maxLen; omega)
  have HROW2 := Lib.hid hrow2
  have HB2 := Lib.hid hb2
  clear hg2 hrow2 hb2
  go_wp2
  go_loopw [18] (InvRel (padN n l) w (w.heap.size + 1) n) (fun i _ => n - (intOf i).toNat)
  case atStart => exact ⟨0, _, rfl, Nat.zero_le _, HROW2.out, fun j => by rw [if_neg (Nat.not_lt_zero _)], HB2.out⟩
  case round =>
    obtain ⟨k, p, rfl, hk, hrow, hp, hnx⟩ := hrel
    have HROW3 := Lib.hid hrow
    have HP := Lib.hid hp
    have HNX := Lib.hid hnx
    clear hrow hp hnx
    by_cases hkn : k < n
    · have gx := HROW3.out.cell k hkn
      have gf := HROW3.out.frozen k
      have hx : p[k]?.getD 0 = (padN n l)[k]?.getD 0 := by rw [HP.out, if_neg (Nat.lt_irrefl _)]
      have hxb : (padN n l)[k]?.getD 0 < 4294967296 := by
        rw [List.getElem?_eq_getElem (by rw [HPL.out]; exact hkn)]
        exact HLT.out _ (List.getElem_mem _)
      rw [hx] at gx
      obtain ⟨x, hxx⟩ : ∃ x, x = (padN n l)[k]?.getD 0 := ⟨_, rfl⟩
      rw [← hxx] at gx hxb
      have HX := Lib.hid hxx
      clear hx hxx
      go_wp2
      go_roundw
      case rel =>
        refine ⟨k + 1, p.set k (4294967295 - x), by go_num, by omega, HROW3.out.store _ _ _ ?_, ?_, HNX.out.setCell (by simp) _⟩
        · exact not_u32 x hxb
        · intro j
          by_cases hj : j = k
          · subst hj
            rw [List.getElem?_set_self (by rw [HROW3.out.1]; exact hkn), if_pos (by omega), inv_get _ _ (by rw [HPL.out]; exact hkn), ← HX.out]
            rfl
          · rw [getD_set_ne _ _ _ _ (by omega), HP.out]
            by_cases h1 : j < k
            · rw [if_pos h1, if_pos (by omega)]
            · rw [if_neg h1, if_neg (by omega)]
      case measure => simp [intOf]; omega
    · obtain rfl : k = n := by omega
      have e : p = inv32 (padN k l) := by
        apply List.ext_getElem (by rw [inv32_length, HPL.out, HROW3.out.1])
        intro i h1 h2
        have := HP.out i
        rw [if_pos (by rw [HROW3.out.1] at h1; exact h1), List.getElem?_eq_getElem h1, List.getElem?_eq_getElem h2] at this
        exact this
      have HE := Lib.hid e
      clear e
      go_wp2
      go_ret
      exact ⟨_, rfl, by rw [← HE.out]; exact HROW3.out, HNX.out⟩
end

section
open Go.RowKit Digs

def opT (t0 t1 t2 t3 a b : Nat) : Nat :=
  (((t0 &&& (4294967295 - a)) &&& (4294967295 - b)) ||| ((t1 &&& (4294967295 - a)) &&& b)) ||| ((t2 &&& a) &&& (4294967295 - b)) ||| ((t3 &&& a) &&& b)

theorem and_lt32 {a : Nat} (b : Nat) (h : a < 4294967296) : a &&& b < 4294967296 := Nat.lt_of_le_of_lt Nat.and_le_left h
theorem or_lt32 {a b : Nat} (h : a < 4294967296) (h2 : b < 4294967296) : a ||| b < 4294967296 := Nat.or_lt_two_pow (n := 32) h h2

theorem opT_lt {t0 t1 t2 t3 a b : Nat} (h0 : t0 < 4294967296) (h1 : t1 < 4294967296) (h2 : t2 < 4294967296) (h3 : t3 < 4294967296) : opT t0 t1 t2 t3 a b < 4294967296 :=
  or_lt32 (or_lt32 (or_lt32 (and_lt32 _ (and_lt32 _ h0)) (and_lt32 _ (and_lt32 _ h1))) (and_lt32 _ (and_lt32 _ h2))) (and_lt32 _ (and_lt32 _ h3))

set_option maxHeartbeats 1000000 in
set_option maxRecDepth 100000 in
theorem op_any (T : Nat) (t0 t1 t2 t3 a b : Nat) (w : World) (c0 : w.cell? ⟨T, 0, none⟩ = some (.int .u32 t0)) (c1 : w.cell? ⟨T, 1, none⟩ = some (.int .u32 t1)) (c2 : w.cell? ⟨T, 2, none⟩ = some (.int .u32 t2)) (c3 : w.cell? ⟨T, 3, none⟩ = some (.int .u32 t3))
    (h0 : t0 < 4294967296) (h1 : t1 < 4294967296) (h2 : t2 < 4294967296) (h3 : t3 < 4294967296) (ha : a < 4294967296) (hb : b < 4294967296) :
    Calls Tryd.prog 64 #[.int .u32 a, .int .u32 b, .pointer (some ⟨T, 0, none⟩)] w fun e w' => e = .returned (.int .u32 ((opT t0 t1 t2 t3 a b : Nat) : Int)) ∧ w' = w := by
  go_enter Tryd.func64, Tryd.ntmps64
  go_wp2
  go_ret
  refine ⟨?_, rfl⟩
  show Ending.returned (.int .u32 _) = _
  refine ret_int ?_
  unfold opT
  rw [u32_andNot_nat _ _ h0 ha, u32_andNot_nat _ _ (and_lt32 _ h0) hb, u32_andNot_nat _ _ h1 ha, u32_and_nat _ _ (and_lt32 _ h1) hb, u32_and_nat _ _ h2 ha, u32_andNot_nat _ _ (and_lt32 _ h2) hb, u32_and_nat _ _ h3 ha, u32_and_nat _ _ (and_lt32 _ h3) hb,
    u32_or_nat _ _ (and_lt32 _ (and_lt32 _ h0)) (and_lt32 _ (and_lt32 _ h1)), u32_or_nat _ _ (or_lt32 (and_lt32 _ (and_lt32 _ h0)) (and_lt32 _ (and_lt32 _ h1))) (and_lt32 _ (and_lt32 _ h2)),
    u32_or_nat _ _ (or_lt32 (or_lt32 (and_lt32 _ (and_lt32 _ h0)) (and_lt32 _ (and_lt32 _ h1))) (and_lt32 _ (and_lt32 _ h2))) (and_lt32 _ (and_lt32 _ h3))]

/-- The limb of all ones, or none, that an operation has for a pair of bits. -/
def tb (op i : Nat) : Nat := if op / 2 ^ i % 2 = 1 then 4294967295 else 0

def OperationPost (op : Nat) (w : World) (e : Ending) (w' : World) : Prop :=
  e = .returned (.func (.func 64) #[] #[.pointer (some ⟨w.heap.size, 0, none⟩)]) ∧ w' = w.alloc (.cells #[.int .u32 (tb op 0 : Nat), .int .u32 (tb op 1 : Nat), .int .u32 (tb op 2 : Nat), .int .u32 (tb op 3 : Nat)] 109)

set_option maxHeartbeats 1000000 in
set_option maxRecDepth 100000 in
theorem operation_0 (w : World) : Calls Tryd.prog 42 #[.int .i64 0] w (OperationPost 0 w) := by
  have hmf : ∀ (fn : Fn) (first cap : Array Value) (w : World), (Instr.makeFunc fn first cap).run Tryd.prog w = .ok (.func fn first cap) w := fun _ _ _ _ => rfl
  go_enter Tryd.func42, Tryd.ntmps42
  go_wp2
  refine wp_loop_rounds 5 ?_
  iterate 5 (rw [rounds_succ]; go_wp2)
  go_ret
  exact ⟨rfl, rfl⟩

set_option maxHeartbeats 1000000 in
set_option maxRecDepth 100000 in
theorem operation_1 (w : World) : Calls Tryd.prog 42 #[.int .i64 1] w (OperationPost 1 w) := by
  have hmf : ∀ (fn : Fn) (first cap : Array Value) (w : World), (Instr.makeFunc fn first cap).run Tryd.prog w = .ok (.func fn first cap) w := fun _ _ _ _ => rfl
  go_enter Tryd.func42, Tryd.ntmps42
  go_wp2
  refine wp_loop_rounds 5 ?_
  iterate 5 (rw [rounds_succ]; go_wp2)
  go_ret
  exact ⟨rfl, rfl⟩

set_option maxHeartbeats 1000000 in
set_option maxRecDepth 100000 in
theorem operation_2 (w : World) : Calls Tryd.prog 42 #[.int .i64 2] w (OperationPost 2 w) := by
  have hmf : ∀ (fn : Fn) (first cap : Array Value) (w : World), (Instr.makeFunc fn first cap).run Tryd.prog w = .ok (.func fn first cap) w := fun _ _ _ _ => rfl
  go_enter Tryd.func42, Tryd.ntmps42
  go_wp2
  refine wp_loop_rounds 5 ?_
  iterate 5 (rw [rounds_succ]; go_wp2)
  go_ret
  exact ⟨rfl, rfl⟩

set_option maxHeartbeats 1000000 in
set_option maxRecDepth 100000 in
theorem operation_3 (w : World) : Calls Tryd.prog 42 #[.int .i64 3] w (OperationPost 3 w) := by
  have hmf : ∀ (fn : Fn) (first cap : Array Value) (w : World), (Instr.makeFunc fn first cap).run Tryd.prog w = .ok (.func fn first cap) w := fun _ _ _ _ => rfl
  go_enter Tryd.func42, Tryd.ntmps42
  go_wp2
  refine wp_loop_rounds 5 ?_
  iterate 5 (rw [rounds_succ]; go_wp2)
  go_ret
  exact ⟨rfl, rfl⟩

set_option maxHeartbeats 1000000 in
set_option maxRecDepth 100000 in
theorem operation_4 (w : World) : Calls Tryd.prog 42 #[.int .i64 4] w (OperationPost 4 w) := by
  have hmf : ∀ (fn : Fn) (first cap : Array Value) (w : World), (Instr.makeFunc fn first cap).run Tryd.prog w = .ok (.func fn first cap) w := fun _ _ _ _ => rfl
  go_enter Tryd.func42, Tryd.ntmps42
  go_wp2
  refine wp_loop_rounds 5 ?_
  iterate 5 (rw [rounds_succ]; go_wp2)
  go_ret
  exact ⟨rfl, rfl⟩

set_option maxHeartbeats 1000000 in
set_option maxRecDepth 100000 in
theorem operation_5 (w : World) : Calls Tryd.prog 42 #[.int .i64 5] w (OperationPost 5 w) := by
  have hmf : ∀ (fn : Fn) (first cap : Array Value) (w : World), (Instr.makeFunc fn first cap).run Tryd.prog w = .ok (.func fn first cap) w := fun _ _ _ _ => rfl
  go_enter Tryd.func42, Tryd.ntmps42
  go_wp2
  refine wp_loop_rounds 5 ?_
  iterate 5 (rw [rounds_succ]; go_wp2)
  go_ret
  exact ⟨rfl, rfl⟩

set_option maxHeartbeats 1000000 in
set_option maxRecDepth 100000 in
theorem operation_6 (w : World) : Calls Tryd.prog 42 #[.int .i64 6] w (OperationPost 6 w) := by
  have hmf : ∀ (fn : Fn) (first cap : Array Value) (w : World), (Instr.makeFunc fn first cap).run Tryd.prog w = .ok (.func fn first cap) w := fun _ _ _ _ => rfl
  go_enter Tryd.func42, Tryd.ntmps42
  go_wp2
  refine wp_loop_rounds 5 ?_
  iterate 5 (rw [rounds_succ]; go_wp2)
  go_ret
  exact ⟨rfl, rfl⟩

set_option maxHeartbeats 1000000 in
set_option maxRecDepth 100000 in
theorem operation_7 (w : World) : Calls Tryd.prog 42 #[.int .i64 7] w (OperationPost 7 w) := by
  have hmf : ∀ (fn : Fn) (first cap : Array Value) (w : World), (Instr.makeFunc fn first cap).run Tryd.prog w = .ok (.func fn first cap) w := fun _ _ _ _ => rfl
  go_enter Tryd.func42, Tryd.ntmps42
  go_wp2
  refine wp_loop_rounds 5 ?_
  iterate 5 (rw [rounds_succ]; go_wp2)
  go_ret
  exact ⟨rfl, rfl⟩

set_option maxHeartbeats 1000000 in
set_option maxRecDepth 100000 in
theorem operation_8 (w : World) : Calls Tryd.prog 42 #[.int .i64 8] w (OperationPost 8 w) := by
  have hmf : ∀ (fn : Fn) (first cap : Array Value) (w : World), (Instr.makeFunc fn first cap).run Tryd.prog w = .ok (.func fn first cap) w := fun _ _ _ _ => rfl
  go_enter Tryd.func42, Tryd.ntmps42
  go_wp2
  refine wp_loop_rounds 5 ?_
  iterate 5 (rw [rounds_succ]; go_wp2)
  go_ret
  exact ⟨rfl, rfl⟩

set_option maxHeartbeats 1000000 in
set_option maxRecDepth 100000 in
theorem operation_9 (w : World) : Calls Tryd.prog 42 #[.int .i64 9] w (OperationPost 9 w) := by
  have hmf : ∀ (fn : Fn) (first cap : Array Value) (w : World), (Instr.makeFunc fn first cap).run Tryd.prog w = .ok (.func fn first cap) w := fun _ _ _ _ => rfl
  go_enter Tryd.func42, Tryd.ntmps42
  go_wp2
  refine wp_loop_rounds 5 ?_
  iterate 5 (rw [rounds_succ]; go_wp2)
  go_ret
  exact ⟨rfl, rfl⟩

set_option maxHeartbeats 1000000 in
set_option maxRecDepth 100000 in
theorem operation_10 (w : World) : Calls Tryd.prog 42 #[.int .i64 10] w (OperationPost 10 w) := by
  have hmf : ∀ (fn : Fn) (first cap : Array Value) (w : World), (Instr.makeFunc fn first cap).run Tryd.prog w = .ok (.func fn first cap) w := fun _ _ _ _ => rfl
  go_enter Tryd.func42, Tryd.ntmps42
  go_wp2
  refine wp_loop_rounds 5 ?_
  iterate 5 (rw [rounds_succ]; go_wp2)
  go_ret
  exact ⟨rfl, rfl⟩

set_option maxHeartbeats 1000000 in
set_option maxRecDepth 100000 in
theorem operation_11 (w : World) : Calls Tryd.prog 42 #[.int .i64 11] w (OperationPost 11 w) := by
  have hmf : ∀ (fn : Fn) (first cap : Array Value) (w : World), (Instr.makeFunc fn first cap).run Tryd.prog w = .ok (.func fn first cap) w := fun _ _ _ _ => rfl
  go_enter Tryd.func42, Tryd.ntmps42
  go_wp2
  refine wp_loop_rounds 5 ?_
  iterate 5 (rw [rounds_succ]; go_wp2)
  go_ret
  exact ⟨rfl, rfl⟩

set_option maxHeartbeats 1000000 in
set_option maxRecDepth 100000 in
theorem operation_12 (w : World) : Calls Tryd.prog 42 #[.int .i64 12] w (OperationPost 12 w) := by
  have hmf : ∀ (fn : Fn) (first cap : Array Value) (w : World), (Instr.makeFunc fn first cap).run Tryd.prog w = .ok (.func fn first cap) w := fun _ _ _ _ => rfl
  go_enter Tryd.func42, Tryd.ntmps42
  go_wp2
  refine wp_loop_rounds 5 ?_
  iterate 5 (rw [rounds_succ]; go_wp2)
  go_ret
  exact ⟨rfl, rfl⟩

set_option maxHeartbeats 1000000 in
set_option maxRecDepth 100000 in
theorem operation_13 (w : World) : Calls Tryd.prog 42 #[.int .i64 13] w (OperationPost 13 w) := by
  have hmf : ∀ (fn : Fn) (first cap : Array Value) (w : World), (Instr.makeFunc fn first cap).run Tryd.prog w = .ok (.func fn first cap) w := fun _ _ _ _ => rfl
  go_enter Tryd.func42, Tryd.ntmps42
  go_wp2
  refine wp_loop_rounds 5 ?_
  iterate 5 (rw [rounds_succ]; go_wp2)
  go_ret
  exact ⟨rfl, rfl⟩

set_option maxHeartbeats 1000000 in
set_option maxRecDepth 100000 in
theorem operation_14 (w : World) : Calls Tryd.prog 42 #[.int .i64 14] w (OperationPost 14 w) := by
  have hmf : ∀ (fn : Fn) (first cap : Array Value) (w : World), (Instr.makeFunc fn first cap).run Tryd.prog w = .ok (.func fn first cap) w := fun _ _ _ _ => rfl
  go_enter Tryd.func42, Tryd.ntmps42
  go_wp2
  refine wp_loop_rounds 5 ?_
  iterate 5 (rw [rounds_succ]; go_wp2)
  go_ret
  exact ⟨rfl, rfl⟩

set_option maxHeartbeats 1000000 in
set_option maxRecDepth 100000 in
theorem operation_15 (w : World) : Calls Tryd.prog 42 #[.int .i64 15] w (OperationPost 15 w) := by
  have hmf : ∀ (fn : Fn) (first cap : Array Value) (w : World), (Instr.makeFunc fn first cap).run Tryd.prog w = .ok (.func fn first cap) w := fun _ _ _ _ => rfl
  go_enter Tryd.func42, Tryd.ntmps42
  go_wp2
  refine wp_loop_rounds 5 ?_
  iterate 5 (rw [rounds_succ]; go_wp2)
  go_ret
  exact ⟨rfl, rfl⟩

theorem operation_any (op : Nat) (w : World) (hop : op ≤ 15) : Calls Tryd.prog 42 #[.int .i64 op] w (OperationPost op w) := by
  rcases (show op = 0 ∨ op = 1 ∨ op = 2 ∨ op = 3 ∨ op = 4 ∨ op = 5 ∨ op = 6 ∨ op = 7 ∨ op = 8 ∨ op = 9 ∨ op = 10 ∨ op = 11 ∨ op = 12 ∨ op = 13 ∨ op = 14 ∨ op = 15 by omega) with rfl | rfl | rfl | rfl | rfl | rfl | rfl | rfl | rfl | rfl | rfl | rfl | rfl | rfl | rfl | rfl
  · exact operation_0 w
  · exact operation_1 w
  · exact operation_2 w
  · exact operation_3 w
  · exact operation_4 w
  · exact operation_5 w
  · exact operation_6 w
  · exact operation_7 w
  · exact operation_8 w
  · exact operation_9 w
  · exact operation_10 w
  · exact operation_11 w
  · exact operation_12 w
  · exact operation_13 w
  · exact operation_14 w
  · exact operation_15 w
end

section
open Go.RowKit Digs

def signedZ (l : List Nat) : Int := if l[l.length - 1]?.getD 0 < 2147483648 then (vl 4294967296 l : Int) else -1 - (vl 4294967296 (inv32 l) : Int)
/-- Of the old blocks none but block g has turned. -/
def Only (g : Nat) (w w' : World) : Prop := ∀ k, k < w.heap.size → k ≠ g → w'.heap[k]? = w.heap[k]?
def SignedPost (base g : Nat) (w : World) (z : Int) (e : Ending) (w' : World) : Prop := ∃ v, e = .returned v ∧ IntV w' v z ∧ Below base w w' ∧ Only g w w'
theorem Only.of_below {g : Nat} {w w' : World} (h : Below w.heap.size w w') : Only g w w' := fun k hk _ => h.block k hk
theorem Only.store2 {g R : Nat} {w w' : World} {x y : Value} (h : Only g w w') (hR : w.heap.size ≤ R) : Only g w ((w'.setCell ⟨R, 0, none⟩ x).setCell ⟨R, 1, none⟩ y) := fun k hk hg => by
  rw [heap_setCell_other _ _ _ _ (by simp; omega), heap_setCell_other _ _ _ _ (by simp; omega)]
  exact h k hk hg

theorem Row.keep {w w' : World} {base g N : Nat} {p : List Nat} (h : Row w base g N p) (hb : Below w.heap.size w w') (hN : N ≤ maxLen) : Row w' base g N p :=
  Row.of_block (by rw [hb.block g h.lt.2]; exact h.block) h.lt.1 h.1 hN
theorem Row.rd {w : World} {base g N : Nat} {p : List Nat} (h : Row w base g N p) : Rd .u32 w (.slice (some ⟨g, 0, none⟩) N N) p := h.ow.rd

set_option maxHeartbeats 1000000 in
set_option maxRecDepth 100000 in
theorem signed_pos (base g N : Nat) (l : List Nat) (w : World) (hN : N ≤ 1000001) (h1 : 1 ≤ N) (hr : Row w base g N l) (hl : ∀ x ∈ l, x < 4294967296) (htop : l[N - 1]?.getD 0 < 2147483648) (hbase : base ≤ w.heap.size) :
    Calls Tryd.prog 63 #[.slice (some ⟨g, 0, none⟩) N N] w (SignedPost base g w (vl 4294967296 l)) := by
  have gx := hr.cell (N - 1) (by omega)
  obtain ⟨x, hx⟩ : ∃ x, x = l[N - 1]?.getD 0 := ⟨_, rfl⟩
  rw [← hx] at gx htop
  have hgl := hr.lt.2
  have HO := fun o => Lib.hid (own_any false _ l (w.alloc o) (hr.rd.keep ((Below.refl _ _).alloc (Nat.le_refl _) o)) hl)
  have HO := Lib.hid HO
  have HB := Lib.hid hbase
  have hsh : (x : Int) / 2147483648 = 0 := by omega
  clear hr hl hx hbase
  go_enter Tryd.func63, Tryd.ntmps63
  go_wp2_with fail
  refine (HO.out _).out.mono ?_
  rintro e w2 ⟨v2, rfl, ⟨ad, n, c, rfl, hr2⟩, hb2⟩
  obtain ⟨c0, c1, f0, f1, hlt⟩ := box2 hb2
  have HR := Lib.hid (hr2.store2 c0 c1 (by intro n h; cases h) (by intro n h; cases h))
  have HBB := Lib.hid hb2
  clear hb2 hr2
  go_wp2_with fail
  refine bodyPost_ret (v := .agg #[.bool (decide (sg false (vl 4294967296 l) < 0)), .slice ad n c]) (by simp [results, Tryd.results63, go_sem, c0, c1]) rfl ⟨_, rfl, ⟨_, _, _, rfl, HR.out _ _⟩, ?_, ?_⟩
  · have := HB.out
    exact ((((Below.refl _ _).alloc this _).trans (HBB.out.mono (by simp; omega))).setCell (by simp; omega) _).setCell (by simp; omega) _
  · exact (Only.of_below (((Below.refl _ _).alloc (Nat.le_refl _) _).trans (HBB.out.mono (by simp)))).store2 (Nat.le_refl _)

def SInvRel (l : List Nat) (w : World) (base g R N : Nat) (i : Value) (wr : World) : Prop :=
  ∃ (k : Nat) (p : List Nat), i = .int .i64 k ∧ k ≤ N ∧ Row wr base g N p ∧ (∀ j : Nat, p[j]?.getD 0 = if j < k then (inv32 l)[j]?.getD 0 else l[j]?.getD 0) ∧ Below base w wr ∧ wr.heap[R]? = some (.cells #[.bool false, .slice none 0 0] 28 (0, 0)) ∧ Only g w wr

theorem box_of {w w2 : World} {R : Nat} {a b : Value} {t : TypeId} (h : w.heap[R]? = some (.cells #[a, b] t (0, 0))) (hb : Below w.heap.size w w2) :
    w2.cell? ⟨R, 0, none⟩ = some a ∧ w2.cell? ⟨R, 1, none⟩ = some b ∧ w2.frozen? ⟨R, 0, none⟩ = false ∧ w2.frozen? ⟨R, 1, none⟩ = false ∧ R < w2.heap.size := by
  have hR := (Array.getElem?_eq_some_iff.1 h).1
  have h2 : w2.heap[R]? = some (.cells #[a, b] t (0, 0)) := by rw [hb.block R hR]; exact h
  exact ⟨by rw [cell_of_row w2 R 0 _ _ _ h2]; rfl, by rw [cell_of_row w2 R 1 _ _ _ h2]; rfl, frozen_of_row w2 R 0 _ _ h2, frozen_of_row w2 R 1 _ _ h2, (Array.getElem?_eq_some_iff.1 h2).1⟩

set_option maxHeartbeats 2000000 in
set_option maxRecDepth 100000 in
theorem signed_neg (base g N : Nat) (l : List Nat) (w : World) (hN : N ≤ 1000000) (h1 : 1 ≤ N) (hr : Row w base g N l) (hl : ∀ x ∈ l, x < 4294967296) (htop : ¬ l[N - 1]?.getD 0 < 2147483648) (hbase : base ≤ w.heap.size) :
    Calls Tryd.prog 63 #[.slice (some ⟨g, 0, none⟩) N N] w (SignedPost base g w (-1 - (vl 4294967296 (inv32 l) : Int))) := by
  have gx := hr.cell (N - 1) (by omega)
  obtain ⟨x, hx⟩ : ∃ x, x = l[N - 1]?.getD 0 := ⟨_, rfl⟩
  have hxb : x < 4294967296 := by
    rw [hx, List.getElem?_eq_getElem (by rw [hr.1]; omega)]
    exact hl _ (List.getElem_mem _)
  rw [← hx] at gx htop
  have hgl := hr.lt.2
  have hrow := fun o => hr.keep ((Below.refl _ w).alloc (Nat.le_refl _) o) (by unfold maxLen; omega)
  have HROW := Lib.hid hrow
  have hln := hr.1
  have HLN := Lib.hid hln
  have HL := Lib.hid hl
  have HB := Lib.hid hbase
  have HBG := Lib.hid hr.lt.1
  have hsh : ((x : Int) / 2147483648 == 0) = false := by rw [beq_eq_false_iff_ne]; omega
  clear hr hl hx hbase hrow hln
  go_enter Tryd.func63, Tryd.ntmps63
  go_wp2_with fail
  clear gx hsh
  go_loopw [16] (SInvRel l w base g w.heap.size N) (fun i _ => N - (intOf i).toNat)
  case atStart => exact ⟨0, l, rfl, Nat.zero_le _, HROW.out _, fun j => by rw [if_neg (Nat.not_lt_zero _)], (Below.refl _ _).alloc HB.out _, heap_alloc_new w _, Only.of_below ((Below.refl _ _).alloc (Nat.le_refl _) _)⟩
  case round =>
    obtain ⟨k, p, rfl, hk, hrow, hp, hnx, hbox, hon⟩ := hrel
    have HON := Lib.hid hon
    have HROW3 := Lib.hid hrow
    have HP := Lib.hid hp
    have HNX := Lib.hid hnx
    have HBOX := Lib.hid hbox
    clear hrow hp hnx hbox hon
    by_cases hkn : k < N
    · have gx := HROW3.out.cell k hkn
      have gf := HROW3.out.frozen k
      have hx : p[k]?.getD 0 = l[k]?.getD 0 := by rw [HP.out, if_neg (Nat.lt_irrefl _)]
      have hyb : l[k]?.getD 0 < 4294967296 := by
        rw [List.getElem?_eq_getElem (by rw [HLN.out]; exact hkn)]
        exact HL.out _ (List.getElem_mem _)
      rw [hx] at gx
      obtain ⟨y, hxx⟩ : ∃ y, y = l[k]?.getD 0 := ⟨_, rfl⟩
      rw [← hxx] at gx hyb
      have HX := Lib.hid hxx
      clear hx hxx
      go_wp2
      go_roundw
      case rel =>
        refine ⟨k + 1, p.set k (4294967295 - y), by go_num, by omega, HROW3.out.store _ _ _ (not_u32 y hyb), ?_, HNX.out.setCell (p := ⟨g, k, none⟩) HBG.out _, ?_, ?_⟩
        · intro j
          by_cases hj : j = k
          · subst hj
            rw [List.getElem?_set_self (by rw [HROW3.out.1]; exact hkn), if_pos (by omega), inv_get _ _ (by rw [HLN.out]; exact hkn), ← HX.out]
            rfl
          · rw [getD_set_ne _ _ _ _ (by omega), HP.out]
            by_cases h1 : j < k
            · rw [if_pos h1, if_pos (by omega)]
            · rw [if_neg h1, if_neg (by omega)]
        · rw [heap_setCell_other _ _ _ _ (by simp; omega)]
          exact HBOX.out
        · intro q hq hqg
          rw [heap_setCell_other _ _ _ _ hqg]
          exact HON.out q hq hqg
      case measure => simp [intOf]; omega
    · obtain rfl : k = N := by omega
      have e : p = inv32 l := by
        apply List.ext_getElem (by rw [inv32_length, HLN.out, HROW3.out.1])
        intro i h1 h2
        have := HP.out i
        rw [if_pos (by rw [HROW3.out.1] at h1; exact h1), List.getElem?_eq_getElem h1, List.getElem?_eq_getElem h2] at this
        exact this
      have hrd := HROW3.out.rd
      rw [e] at hrd
      have HO := Lib.hid (own_any false _ (inv32 l) wr hrd (inv32_lt l))
      have hlen : len (sg false (vl 4294967296 (inv32 l))) ≤ 1000000 := by
        unfold len
        rw [sg_natAbs]
        have := digs_length_le (b := 4294967296) (by decide) _ (inv32 l).length (vl_lt (inv32 l) (inv32_lt l))
        rw [inv32_length, HLN.out] at this
        omega
      have HC := fun v W h => Lib.hid (complement_any (sg false (vl 4294967296 (inv32 l))) v W hlen h)
      have HC := Lib.hid HC
      clear hrd e hlen
      go_wp2_with fail
      refine HO.out.mono ?_
      rintro e w2 ⟨v2, rfl, hv2, hb2⟩
      go_wp2_with fail
      refine (HC.out _ _ hv2).out.mono ?_
      rintro e w3 ⟨v3, rfl, ⟨ad, n, c, rfl, hr3⟩, hb3⟩
      have hb := hb2.trans (hb3.mono hb2.size)
      obtain ⟨c0, c1, f0, f1, hlt⟩ := box_of HBOX.out hb
      have HR := Lib.hid (hr3.store2 c0 c1 (by intro n h; cases h) (by intro n h; cases h))
      have HBL := Lib.hid hb
      have HBB := Lib.hid (HNX.out.trans (hb.mono (Nat.le_trans HB.out HNX.out.size)))
      clear hb2 hr3 hb3 hb hv2
      go_wp2_with fail
      refine bodyPost_ret (v := .agg #[.bool (decide (-1 - sg false (vl 4294967296 (inv32 l)) < 0)), .slice ad n c]) (by simp [results, Tryd.results63, go_sem, c0, c1]) rfl ⟨_, rfl, ⟨_, _, _, rfl, HR.out _ _⟩, ?_, ?_⟩
      · have := HB.out
        exact (HBB.out.setCell (by simp; omega) _).setCell (by simp; omega) _
      · refine Only.store2 (fun q hq hqg => ?_) (Nat.le_refl _)
        have h1 := HON.out q hq hqg
        rw [HBL.out.block q (by have := (Array.getElem?_eq_some_iff.1 HBOX.out).1; omega), h1]

theorem signed_any (base g N : Nat) (l : List Nat) (w : World) (hN : N ≤ 1000000) (h1 : 1 ≤ N) (hr : Row w base g N l) (hl : ∀ x ∈ l, x < 4294967296) (hbase : base ≤ w.heap.size) :
    Calls Tryd.prog 63 #[.slice (some ⟨g, 0, none⟩) N N] w (SignedPost base g w (signedZ l)) := by
  unfold signedZ
  rw [hr.1]
  split
  · exact signed_pos base g N l w (by omega) h1 hr hl (by assumption) hbase
  · exact signed_neg base g N l w hN h1 hr hl (by assumption) hbase
end

section
open Go.RowKit Digs

def tbl (op : Nat) : Array Value := #[.int .u32 (tb op 0 : Nat), .int .u32 (tb op 1 : Nat), .int .u32 (tb op 2 : Nat), .int .u32 (tb op 3 : Nat)]
def opN (op a b : Nat) : Nat := opT (tb op 0) (tb op 1) (tb op 2) (tb op 3) a b
theorem tb_lt (op i : Nat) : tb op i < 4294967296 := by unfold tb; split <;> decide
theorem opN_lt (op a b : Nat) : opN op a b < 4294967296 := opT_lt (tb_lt _ _) (tb_lt _ _) (tb_lt _ _) (tb_lt _ _)

theorem words_any (z : Int) (v : Value) (n : Nat) (w : World) (hn : n ≤ 1000001) (hln : len z ≤ n) (hlz : len z ≤ 1000000) (h : IntV w v z) :
    Calls Tryd.prog 62 #[v, .int .i64 n] w (WordsPost w n (wordsN z n)) := by
  have h' := h
  obtain ⟨ad, nx, c, rfl, hr⟩ := h
  unfold wordsN
  by_cases hz : z < 0
  · rw [if_pos hz]
    have hd : decide (z < 0) = true := by simpa using hz
    rw [hd] at h' ⊢
    exact words_neg z ad nx c n w hn hz hln hlz h'
  · rw [if_neg hz]
    have hd : decide (z < 0) = false := by simpa using hz
    rw [hd]
    obtain ⟨ad', c', hv, ra⟩ := hr.opt
    cases hv
    exact words_pos ad c n _ w hn hln ra

theorem wordsN_length (z : Int) (n : Nat) (h : len z ≤ n) : (wordsN z n).length = n := by
  unfold wordsN
  split
  · rw [inv32_length, padN_length _ _ (Nat.le_trans (compl_len (by assumption)) h)]
  · exact padN_length _ _ h
theorem wordsN_lt (z : Int) (n : Nat) : ∀ x ∈ wordsN z n, x < 4294967296 := by
  unfold wordsN
  split
  · exact inv32_lt _
  · exact padN_lt _ _ (digs_lt (by decide) _)

/-- The limbs that an operation makes of two numbers'. -/
def combW (op : Nat) (x y : Int) (n : Nat) : List Nat := List.zipWith (opN op) (wordsN x n) (wordsN y n)
/-- The integer that an operation of bits makes. -/
def boolZ (op : Nat) (x y : Int) : Int := signedZ (combW op x y (max (len x) (len y) + 1))

def CombRel (op : Nat) (lx ly : List Nat) (w : World) (gx gy R N : Nat) (i : Value) (wr : World) : Prop :=
  ∃ (k : Nat) (p : List Nat), i = .int .i64 k ∧ k ≤ N ∧ Row wr w.heap.size gx N p ∧ (∀ j : Nat, p[j]?.getD 0 = if j < k then (List.zipWith (opN op) lx ly)[j]?.getD 0 else lx[j]?.getD 0) ∧
    Row wr w.heap.size gy N ly ∧ Below w.heap.size w wr ∧ wr.heap[R]? = some (.cells #[.bool false, .slice none 0 0] 28 (0, 0)) ∧ gx ≠ gy ∧ gx ≠ R ∧ w.heap.size ≤ R

set_option maxHeartbeats 4000000 in
set_option maxRecDepth 100000 in
theorem combine_lt (op T : Nat) (x y : Int) (vx vy : Value) (w : World) (hx : len x ≤ 999999) (hy : len y ≤ 999999) (hcond : len x < len y) (ha : IntV w vx x) (hb : IntV w vy y) (hT : w.heap[T]? = some (.cells (tbl op) 109 (0, 0))) :
    Calls Tryd.prog 41 #[vx, .func (.func 64) #[] #[.pointer (some ⟨T, 0, none⟩)], vy] w (IntPost w (boolZ op x y)) := by
  have ha' := ha
  have hb' := hb
  obtain ⟨adx, nx, cx, rfl, hrx⟩ := ha
  obtain ⟨ady, ny, cy, rfl, hry⟩ := hb
  have hnx : nx = len x := by obtain ⟨_, _, hv⟩ := hrx.shape'; cases hv; rfl
  have hny : ny = len y := by obtain ⟨_, _, hv⟩ := hry.shape'; cases hv; rfl
  rw [← hnx, ← hny] at hcond
  rw [← hnx] at hx
  rw [← hny] at hy
  obtain ⟨N, hN⟩ : ∃ N, N = ny + 1 := ⟨_, rfl⟩
  have hNmax : max (len x) (len y) + 1 = N := by rw [← hnx, ← hny]; omega
  have hNi : ((N : Nat) : Int) = (ny : Int) + 1 := by omega
  have hNb : N ≤ 1000000 := by omega
  have hN1 : 1 ≤ N := by omega
  have hxN : len x ≤ N := by omega
  have hyN : len y ≤ N := by omega
  have HWX := fun W hw => Lib.hid (words_any x _ N W (by omega) hxN (by omega) (ha'.keep (w' := W) hw))
  have HWY := fun W hw => Lib.hid (words_any y _ N W (by omega) hyN (by omega) (hb'.keep (w' := W) hw))
  rw [hNi] at HWX HWY
  have HWX := Lib.hid HWX
  have HWY := Lib.hid HWY
  have HLX := Lib.hid (wordsN_length x N hxN)
  have HLY := Lib.hid (wordsN_length y N hyN)
  unfold boolZ combW
  rw [hNmax]
  have HTT := Lib.hid hT
  have hTlt := (Array.getElem?_eq_some_iff.1 hT).1
  have HNI := Lib.hid hNi
  clear hT ha' hb' hrx hry hnx hny hN hNmax hNi hxN hyN
  generalize decide (x < 0) = bx at *
  generalize decide (y < 0) = by' at *
  go_enter Tryd.func41, Tryd.ntmps41
  go_wp2_with fail
  go_region_held3 (fun w' => w'.cell? ⟨w.heap.size, 0, none⟩ = some (.bool bx) ∧ w'.cell? ⟨w.heap.size, 1, none⟩ = some (.slice adx nx cx) ∧ w'.cell? ⟨w.heap.size + 1, 0, none⟩ = some (.bool by') ∧ w'.cell? ⟨w.heap.size + 1, 1, none⟩ = some (.slice ady ny cy))
    (first | exact ⟨cA2, cB2, cC2, cD2⟩ | exact ⟨cA, cB, cC, cD⟩ | go_keep)
    (first
      | (go_at_call_of 62 (Value.agg #[.bool bx, .slice adx nx cx]); refine (HWX.out _ (below3 _ _ _ _).drew).out.mono ?_; rintro e w1 ⟨gx, rfl, hrx, hb1'⟩; have hb1 := (Below.refl _ _).drew.trans hb1'; obtain ⟨cA, cB, cC, cD, cE, cF, fC, fE, fF, hsz⟩ := box3 hb1; have hb0 := (below3 w _ _ _).trans (hb1.mono (by simp <;> omega)))
      | (go_at_call_of 62 (Value.agg #[.bool by', .slice ady ny cy]); refine (HWY.out _ hb0).out.mono ?_; rintro e w2 ⟨gy, rfl, hry, hb2⟩; obtain ⟨cA2, cB2, cC2, cD2, cE2, cF2, fC2, fE2, fF2, hsz2⟩ := box3 (hb1.trans (hb2.mono hb1.size))))
  have hB2 := hb0.trans (hb2.mono hb0.size)
  have hgx := hrx.lt
  have hgy := hry.lt
  have hX := hb1.trans (hb2.mono hb1.size)
  have hbox : w2.heap[w.heap.size + 2]? = some (.cells #[.bool false, .slice none 0 0] 28 (0, 0)) := by
    rw [hX.block (w.heap.size + 2) (by simp)]
    have := heap_alloc_new ((w.alloc (.cells #[.bool bx, .slice adx nx cx] 28)).alloc (.cells #[.bool by', .slice ady ny cy] 28)) (.cells #[.bool false, .slice none 0 0] 28)
    simp only [World.size_alloc] at this
    exact this
  have hsx : w.heap.size + 2 < gx := by have := hgx.1; simp at this; omega
  have hxy : gx < gy := by omega
  have hrowx : Row w2 w.heap.size gx N (wordsN x N) := Row.of_block (by rw [hb2.block gx hgx.2]; exact hrx.block) (by omega) HLX.out (by unfold maxLen; omega)
  have hrowy : Row w2 w.heap.size gy N (wordsN y N) := Row.of_block hry.block (by omega) HLY.out (by unfold maxLen; omega)
  have HBX := Lib.hid hbox
  have HRX := Lib.hid hrowx
  have HRY := Lib.hid hrowy
  have HB2 := Lib.hid hB2
  clear hB2 hgx hgy hX hbox hrowx hrowy hrx hry hb1 hb1' hb2 hb0 cA cB cC cD cE cF fC fE fF cA2 cB2 cC2 cD2 cE2 cF2 fC2 fE2 fF2 hsz hsz2
  go_wp2
  go_loopw [27] (CombRel op (wordsN x N) (wordsN y N) w gx gy (w.heap.size + 2) N) (fun i _ => N - (intOf i).toNat)
  case atStart => exact ⟨0, _, rfl, Nat.zero_le _, HRX.out, fun j => by rw [if_neg (Nat.not_lt_zero _)], HRY.out, HB2.out, HBX.out, by omega, by omega, by omega⟩
  case round =>
    obtain ⟨k, p, rfl, hk, hrow, hp, hrowy, hnx, hbox, _, _, _⟩ := hrel
    have HROW := Lib.hid hrow
    have HROWY := Lib.hid hrowy
    have HP := Lib.hid hp
    have HNX := Lib.hid hnx
    have HBOX := Lib.hid hbox
    clear hrow hp hnx hbox hrowy
    by_cases hkn : k < N
    · have gx1 := HROW.out.cell k hkn
      have gf1 := HROW.out.frozen k
      have gy1 := HROWY.out.cell k hkn
      have hx0 : p[k]?.getD 0 = (wordsN x N)[k]?.getD 0 := by rw [HP.out, if_neg (Nat.lt_irrefl _)]
      rw [hx0] at gx1
      have hab : (wordsN x N)[k]?.getD 0 < 4294967296 := by
        rw [List.getElem?_eq_getElem (by rw [HLX.out]; exact hkn)]
        exact wordsN_lt _ _ _ (List.getElem_mem _)
      have hbb : (wordsN y N)[k]?.getD 0 < 4294967296 := by
        rw [List.getElem?_eq_getElem (by rw [HLY.out]; exact hkn)]
        exact wordsN_lt _ _ _ (List.getElem_mem _)
      obtain ⟨a, haa⟩ : ∃ a, a = (wordsN x N)[k]?.getD 0 := ⟨_, rfl⟩
      obtain ⟨b, hbb'⟩ : ∃ b, b = (wordsN y N)[k]?.getD 0 := ⟨_, rfl⟩
      rw [← haa] at gx1 hab
      rw [← hbb'] at gy1 hbb
      have HA := Lib.hid haa
      have HBV := Lib.hid hbb'
      have hTb : wr.heap[T]? = some (.cells (tbl op) 109 (0, 0)) := by rw [HNX.out.block T hTlt]; exact HTT.out
      have HOP : ∀ d, Calls Tryd.prog 64 #[.int .u32 a, .int .u32 b, .pointer (some ⟨T, 0, none⟩)] (wr.drewN d) fun e w' => e = .returned (.int .u32 ((opN op a b : Nat) : Int)) ∧ w' = wr.drewN d := fun d =>
        op_any T _ _ _ _ a b (wr.drewN d) (cell_of_row wr T 0 _ _ _ hTb) (cell_of_row wr T 1 _ _ _ hTb) (cell_of_row wr T 2 _ _ _ hTb) (cell_of_row wr T 3 _ _ _ hTb) (tb_lt _ _) (tb_lt _ _) (tb_lt _ _) (tb_lt _ _) hab hbb
      have HOP := Lib.hid HOP
      clear hx0 haa hbb' hTb
      go_wp2_with fail
      go_region_with (go_at_call 64; refine (HOP.out 1).mono ?_; rintro e w' ⟨rfl, rfl⟩)
      all_goals
        go_wp2
        go_roundw
        case rel =>
          refine ⟨k + 1, p.set k (opN op a b), by go_num, by omega, HROW.out.store k (opN op a b) _ rfl, ?_, ?_, (HNX.out.setCell (p := ⟨gx, k, none⟩) (by show w.heap.size ≤ gx; omega) _).drew, ?_, by omega, by omega, by omega⟩
          · intro j
            by_cases hj : j = k
            · subst hj
              rw [List.getElem?_set_self (by rw [HROW.out.1]; exact hkn), if_pos (by omega), List.getElem?_zipWith, List.getElem?_eq_getElem (by rw [HLX.out]; exact hkn), List.getElem?_eq_getElem (by rw [HLY.out]; exact hkn)]
              have h1 := HA.out
              have h2 := HBV.out
              rw [List.getElem?_eq_getElem (by rw [HLX.out]; exact hkn)] at h1
              rw [List.getElem?_eq_getElem (by rw [HLY.out]; exact hkn)] at h2
              simp only [Option.getD_some] at h1 h2 ⊢
              rw [← h1, ← h2]
            · rw [getD_set_ne _ _ _ _ (by omega), HP.out]
              by_cases h1 : j < k
              · rw [if_pos h1, if_pos (by omega)]
              · rw [if_neg h1, if_neg (by omega)]
          · exact Row.of_block (w := (wr.setCell ⟨gx, k, none⟩ (.int .u32 ((opN op a b : Nat) : Int))).drew) (by show (wr.setCell _ _).heap[gy]? = _; rw [heap_setCell_other _ _ _ _ (by simp; omega)]; exact HROWY.out.block) (by omega) HLY.out (by unfold maxLen; omega)
          · show (wr.setCell _ _).heap[w.heap.size + 2]? = _
            rw [heap_setCell_other _ _ _ _ (by simp; omega)]
            exact HBOX.out
        case measure => simp [intOf]; omega
    · obtain rfl : k = N := by omega
      have e : p = List.zipWith (opN op) (wordsN x k) (wordsN y k) := by
        have hzl : (List.zipWith (opN op) (wordsN x k) (wordsN y k)).length = k := by rw [List.length_zipWith, HLX.out, HLY.out, Nat.min_self]
        apply List.ext_getElem (by rw [hzl, HROW.out.1])
        intro i h1 h2
        have := HP.out i
        rw [if_pos (by rw [HROW.out.1] at h1; exact h1), List.getElem?_eq_getElem h1, List.getElem?_eq_getElem h2] at this
        exact this
      have hlt : ∀ z ∈ List.zipWith (opN op) (wordsN x k) (wordsN y k), z < 4294967296 := by
        intro z hz
        obtain ⟨i, hi, rfl⟩ := List.getElem_of_mem hz
        rw [List.getElem_zipWith]
        exact opN_lt _ _ _
      have hrow := HROW.out
      rw [e] at hrow
      have HS := Lib.hid (signed_any w.heap.size gx k _ wr hNb hN1 hrow hlt HNX.out.size)
      clear e hlt hrow
      go_wp2_with fail
      refine HS.out.mono ?_
      rintro e w3 ⟨v3, rfl, ⟨ad, n, c, rfl, hr3⟩, hb3, ho3⟩
      have hRl := (Array.getElem?_eq_some_iff.1 HBOX.out).1
      have hbox3 : w3.heap[w.heap.size + 2]? = some (.cells #[.bool false, .slice none 0 0] 28 (0, 0)) := by rw [ho3 _ hRl (by omega)]; exact HBOX.out
      obtain ⟨c0, c1, f0, f1, hlt⟩ := box_of hbox3 (Below.refl _ _)
      have HR := Lib.hid (hr3.store2 c0 c1 (by intro n h; cases h) (by intro n h; cases h))
      have HBB := Lib.hid (HNX.out.trans hb3)
      clear hb3 hr3 hbox3 ho3
      go_wp2_with fail
      refine bodyPost_ret (v := .agg #[.bool (decide (signedZ (List.zipWith (opN op) (wordsN x k) (wordsN y k)) < 0)), .slice ad n c]) (by simp [results, Tryd.results41, go_sem, c0, c1]) rfl ⟨_, rfl, ⟨_, _, _, rfl, HR.out _ _⟩, ?_⟩
      exact (HBB.out.setCell (by simp; omega) _).setCell (by simp; omega) _

set_option maxHeartbeats 4000000 in
set_option maxRecDepth 100000 in
theorem combine_gt (op T : Nat) (x y : Int) (vx vy : Value) (w : World) (hx : len x ≤ 999999) (hy : len y ≤ 999999) (hcond : len y < len x) (ha : IntV w vx x) (hb : IntV w vy y) (hT : w.heap[T]? = some (.cells (tbl op) 109 (0, 0))) :
    Calls Tryd.prog 41 #[vx, .func (.func 64) #[] #[.pointer (some ⟨T, 0, none⟩)], vy] w (IntPost w (boolZ op x y)) := by
  have ha' := ha
  have hb' := hb
  obtain ⟨adx, nx, cx, rfl, hrx⟩ := ha
  obtain ⟨ady, ny, cy, rfl, hry⟩ := hb
  have hnx : nx = len x := by obtain ⟨_, _, hv⟩ := hrx.shape'; cases hv; rfl
  have hny : ny = len y := by obtain ⟨_, _, hv⟩ := hry.shape'; cases hv; rfl
  rw [← hnx, ← hny] at hcond
  rw [← hnx] at hx
  rw [← hny] at hy
  obtain ⟨N, hN⟩ : ∃ N, N = nx + 1 := ⟨_, rfl⟩
  have hNmax : max (len x) (len y) + 1 = N := by rw [← hnx, ← hny]; omega
  have hNi : ((N : Nat) : Int) = (nx : Int) + 1 := by omega
  have hNb : N ≤ 1000000 := by omega
  have hN1 : 1 ≤ N := by omega
  have hxN : len x ≤ N := by omega
  have hyN : len y ≤ N := by omega
  have HWX := fun W hw => Lib.hid (words_any x _ N W (by omega) hxN (by omega) (ha'.keep (w' := W) hw))
  have HWY := fun W hw => Lib.hid (words_any y _ N W (by omega) hyN (by omega) (hb'.keep (w' := W) hw))
  rw [hNi] at HWX HWY
  have HWX := Lib.hid HWX
  have HWY := Lib.hid HWY
  have HLX := Lib.hid (wordsN_length x N hxN)
  have HLY := Lib.hid (wordsN_length y N hyN)
  unfold boolZ combW
  rw [hNmax]
  have HTT := Lib.hid hT
  have hTlt := (Array.getElem?_eq_some_iff.1 hT).1
  have HNI := Lib.hid hNi
  clear hT ha' hb' hrx hry hnx hny hN hNmax hNi hxN hyN
  generalize decide (x < 0) = bx at *
  generalize decide (y < 0) = by' at *
  go_enter Tryd.func41, Tryd.ntmps41
  go_wp2_with fail
  go_region_held3 (fun w' => w'.cell? ⟨w.heap.size, 0, none⟩ = some (.bool bx) ∧ w'.cell? ⟨w.heap.size, 1, none⟩ = some (.slice adx nx cx) ∧ w'.cell? ⟨w.heap.size + 1, 0, none⟩ = some (.bool by') ∧ w'.cell? ⟨w.heap.size + 1, 1, none⟩ = some (.slice ady ny cy))
    (first | exact ⟨cA2, cB2, cC2, cD2⟩ | exact ⟨cA, cB, cC, cD⟩ | go_keep)
    (first
      | (go_at_call_of 62 (Value.agg #[.bool bx, .slice adx nx cx]); refine (HWX.out _ (below3 _ _ _ _).drew).out.mono ?_; rintro e w1 ⟨gx, rfl, hrx, hb1'⟩; have hb1 := (Below.refl _ _).drew.trans hb1'; obtain ⟨cA, cB, cC, cD, cE, cF, fC, fE, fF, hsz⟩ := box3 hb1; have hb0 := (below3 w _ _ _).trans (hb1.mono (by simp <;> omega)))
      | (go_at_call_of 62 (Value.agg #[.bool by', .slice ady ny cy]); refine (HWY.out _ hb0).out.mono ?_; rintro e w2 ⟨gy, rfl, hry, hb2⟩; obtain ⟨cA2, cB2, cC2, cD2, cE2, cF2, fC2, fE2, fF2, hsz2⟩ := box3 (hb1.trans (hb2.mono hb1.size))))
  have hB2 := hb0.trans (hb2.mono hb0.size)
  have hgx := hrx.lt
  have hgy := hry.lt
  have hX := hb1.trans (hb2.mono hb1.size)
  have hbox : w2.heap[w.heap.size + 2]? = some (.cells #[.bool false, .slice none 0 0] 28 (0, 0)) := by
    rw [hX.block (w.heap.size + 2) (by simp)]
    have := heap_alloc_new ((w.alloc (.cells #[.bool bx, .slice adx nx cx] 28)).alloc (.cells #[.bool by', .slice ady ny cy] 28)) (.cells #[.bool false, .slice none 0 0] 28)
    simp only [World.size_alloc] at this
    exact this
  have hsx : w.heap.size + 2 < gx := by have := hgx.1; simp at this; omega
  have hxy : gx < gy := by omega
  have hrowx : Row w2 w.heap.size gx N (wordsN x N) := Row.of_block (by rw [hb2.block gx hgx.2]; exact hrx.block) (by omega) HLX.out (by unfold maxLen; omega)
  have hrowy : Row w2 w.heap.size gy N (wordsN y N) := Row.of_block hry.block (by omega) HLY.out (by unfold maxLen; omega)
  have HBX := Lib.hid hbox
  have HRX := Lib.hid hrowx
  have HRY := Lib.hid hrowy
  have HB2 := Lib.hid hB2
  clear hB2 hgx hgy hX hbox hrowx hrowy hrx hry hb1 hb1' hb2 hb0 cA cB cC cD cE cF fC fE fF cA2 cB2 cC2 cD2 cE2 cF2 fC2 fE2 fF2 hsz hsz2
  go_wp2
  go_loopw [27] (CombRel op (wordsN x N) (wordsN y N) w gx gy (w.heap.size + 2) N) (fun i _ => N - (intOf i).toNat)
  case atStart => exact ⟨0, _, rfl, Nat.zero_le _, HRX.out, fun j => by rw [if_neg (Nat.not_lt_zero _)], HRY.out, HB2.out, HBX.out, by omega, by omega, by omega⟩
  case round =>
    obtain ⟨k, p, rfl, hk, hrow, hp, hrowy, hnx, hbox, _, _, _⟩ := hrel
    have HROW := Lib.hid hrow
    have HROWY := Lib.hid hrowy
    have HP := Lib.hid hp
    have HNX := Lib.hid hnx
    have HBOX := Lib.hid hbox
    clear hrow hp hnx hbox hrowy
    by_cases hkn : k < N
    · have gx1 := HROW.out.cell k hkn
      have gf1 := HROW.out.frozen k
      have gy1 := HROWY.out.cell k hkn
      have hx0 : p[k]?.getD 0 = (wordsN x N)[k]?.getD 0 := by rw [HP.out, if_neg (Nat.lt_irrefl _)]
      rw [hx0] at gx1
      have hab : (wordsN x N)[k]?.getD 0 < 4294967296 := by
        rw [List.getElem?_eq_getElem (by rw [HLX.out]; exact hkn)]
        exact wordsN_lt _ _ _ (List.getElem_mem _)
      have hbb : (wordsN y N)[k]?.getD 0 < 4294967296 := by
        rw [List.getElem?_eq_getElem (by rw [HLY.out]; exact hkn)]
        exact wordsN_lt _ _ _ (List.getElem_mem _)
      obtain ⟨a, haa⟩ : ∃ a, a = (wordsN x N)[k]?.getD 0 := ⟨_, rfl⟩
      obtain ⟨b, hbb'⟩ : ∃ b, b = (wordsN y N)[k]?.getD 0 := ⟨_, rfl⟩
      rw [← haa] at gx1 hab
      rw [← hbb'] at gy1 hbb
      have HA := Lib.hid haa
      have HBV := Lib.hid hbb'
      have hTb : wr.heap[T]? = some (.cells (tbl op) 109 (0, 0)) := by rw [HNX.out.block T hTlt]; exact HTT.out
      have HOP : ∀ d, Calls Tryd.prog 64 #[.int .u32 a, .int .u32 b, .pointer (some ⟨T, 0, none⟩)] (wr.drewN d) fun e w' => e = .returned (.int .u32 ((opN op a b : Nat) : Int)) ∧ w' = wr.drewN d := fun d =>
        op_any T _ _ _ _ a b (wr.drewN d) (cell_of_row wr T 0 _ _ _ hTb) (cell_of_row wr T 1 _ _ _ hTb) (cell_of_row wr T 2 _ _ _ hTb) (cell_of_row wr T 3 _ _ _ hTb) (tb_lt _ _) (tb_lt _ _) (tb_lt _ _) (tb_lt _ _) hab hbb
      have HOP := Lib.hid HOP
      clear hx0 haa hbb' hTb
      go_wp2_with fail
      go_region_with (go_at_call 64; refine (HOP.out 1).mono ?_; rintro e w' ⟨rfl, rfl⟩)
      all_goals
        go_wp2
        go_roundw
        case rel =>
          refine ⟨k + 1, p.set k (opN op a b), by go_num, by omega, HROW.out.store k (opN op a b) _ rfl, ?_, ?_, (HNX.out.setCell (p := ⟨gx, k, none⟩) (by show w.heap.size ≤ gx; omega) _).drew, ?_, by omega, by omega, by omega⟩
          · intro j
            by_cases hj : j = k
            · subst hj
              rw [List.getElem?_set_self (by rw [HROW.out.1]; exact hkn), if_pos (by omega), List.getElem?_zipWith, List.getElem?_eq_getElem (by rw [HLX.out]; exact hkn), List.getElem?_eq_getElem (by rw [HLY.out]; exact hkn)]
              have h1 := HA.out
              have h2 := HBV.out
              rw [List.getElem?_eq_getElem (by rw [HLX.out]; exact hkn)] at h1
              rw [List.getElem?_eq_getElem (by rw [HLY.out]; exact hkn)] at h2
              simp only [Option.getD_some] at h1 h2 ⊢
              rw [← h1, ← h2]
            · rw [getD_set_ne _ _ _ _ (by omega), HP.out]
              by_cases h1 : j < k
              · rw [if_pos h1, if_pos (by omega)]
              · rw [if_neg h1, if_neg (by omega)]
          · exact Row.of_block (w := (wr.setCell ⟨gx, k, none⟩ (.int .u32 ((opN op a b : Nat) : Int))).drew) (by show (wr.setCell _ _).heap[gy]? = _; rw [heap_setCell_other _ _ _ _ (by simp; omega)]; exact HROWY.out.block) (by omega) HLY.out (by unfold maxLen; omega)
          · show (wr.setCell _ _).heap[w.heap.size + 2]? = _
            rw [heap_setCell_other _ _ _ _ (by simp; omega)]
            exact HBOX.out
        case measure => simp [intOf]; omega
    · obtain rfl : k = N := by omega
      have e : p = List.zipWith (opN op) (wordsN x k) (wordsN y k) := by
        have hzl : (List.zipWith (opN op) (wordsN x k) (wordsN y k)).length = k := by rw [List.length_zipWith, HLX.out, HLY.out, Nat.min_self]
        apply List.ext_getElem (by rw [hzl, HROW.out.1])
        intro i h1 h2
        have := HP.out i
        rw [if_pos (by rw [HROW.out.1] at h1; exact h1), List.getElem?_eq_getElem h1, List.getElem?_eq_getElem h2] at this
        exact this
      have hlt : ∀ z ∈ List.zipWith (opN op) (wordsN x k) (wordsN y k), z < 4294967296 := by
        intro z hz
        obtain ⟨i, hi, rfl⟩ := List.getElem_of_mem hz
        rw [List.getElem_zipWith]
        exact opN_lt _ _ _
      have hrow := HROW.out
      rw [e] at hrow
      have HS := Lib.hid (signed_any w.heap.size gx k _ wr hNb hN1 hrow hlt HNX.out.size)
      clear e hlt hrow
      go_wp2_with fail
      refine HS.out.mono ?_
      rintro e w3 ⟨v3, rfl, ⟨ad, n, c, rfl, hr3⟩, hb3, ho3⟩
      have hRl := (Array.getElem?_eq_some_iff.1 HBOX.out).1
      have hbox3 : w3.heap[w.heap.size + 2]? = some (.cells #[.bool false, .slice none 0 0] 28 (0, 0)) := by rw [ho3 _ hRl (by omega)]; exact HBOX.out
      obtain ⟨c0, c1, f0, f1, hlt⟩ := box_of hbox3 (Below.refl _ _)
      have HR := Lib.hid (hr3.store2 c0 c1 (by intro n h; cases h) (by intro n h; cases h))
      have HBB := Lib.hid (HNX.out.trans hb3)
      clear hb3 hr3 hbox3 ho3
      go_wp2_with fail
      refine bodyPost_ret (v := .agg #[.bool (decide (signedZ (List.zipWith (opN op) (wordsN x k) (wordsN y k)) < 0)), .slice ad n c]) (by simp [results, Tryd.results41, go_sem, c0, c1]) rfl ⟨_, rfl, ⟨_, _, _, rfl, HR.out _ _⟩, ?_⟩
      exact (HBB.out.setCell (by simp; omega) _).setCell (by simp; omega) _

set_option maxHeartbeats 4000000 in
set_option maxRecDepth 100000 in
theorem combine_eq (op T : Nat) (x y : Int) (vx vy : Value) (w : World) (_hx : len x ≤ 999999) (hy : len y ≤ 999999) (hcond : len x = len y) (ha : IntV w vx x) (hb : IntV w vy y) (hT : w.heap[T]? = some (.cells (tbl op) 109 (0, 0))) :
    Calls Tryd.prog 41 #[vx, .func (.func 64) #[] #[.pointer (some ⟨T, 0, none⟩)], vy] w (IntPost w (boolZ op x y)) := by
  have ha' := ha
  have hb' := hb
  obtain ⟨adx, nx, cx, rfl, hrx⟩ := ha
  obtain ⟨ady, ny, cy, rfl, hry⟩ := hb
  have hnx : nx = len x := by obtain ⟨_, _, hv⟩ := hrx.shape'; cases hv; rfl
  have hny : ny = len y := by obtain ⟨_, _, hv⟩ := hry.shape'; cases hv; rfl
  obtain rfl : nx = ny := by rw [hnx, hny, hcond]
  clear hcond
  rw [← hnx] at _hx
  rw [← hny] at hy
  obtain ⟨N, hN⟩ : ∃ N, N = nx + 1 := ⟨_, rfl⟩
  have hNmax : max (len x) (len y) + 1 = N := by rw [← hnx, ← hny]; omega
  have hNi : ((N : Nat) : Int) = (nx : Int) + 1 := by omega
  have hNb : N ≤ 1000000 := by omega
  have hN1 : 1 ≤ N := by omega
  have hxN : len x ≤ N := by omega
  have hyN : len y ≤ N := by omega
  have HWX := fun W hw => Lib.hid (words_any x _ N W (by omega) hxN (by omega) (ha'.keep (w' := W) hw))
  have HWY := fun W hw => Lib.hid (words_any y _ N W (by omega) hyN (by omega) (hb'.keep (w' := W) hw))
  rw [hNi] at HWX HWY
  have HWX := Lib.hid HWX
  have HWY := Lib.hid HWY
  have HLX := Lib.hid (wordsN_length x N hxN)
  have HLY := Lib.hid (wordsN_length y N hyN)
  unfold boolZ combW
  rw [hNmax]
  have HTT := Lib.hid hT
  have hTlt := (Array.getElem?_eq_some_iff.1 hT).1
  have HNI := Lib.hid hNi
  clear hT ha' hb' hrx hry hnx hny hN hNmax hNi hxN hyN
  generalize decide (x < 0) = bx at *
  generalize decide (y < 0) = by' at *
  go_enter Tryd.func41, Tryd.ntmps41
  go_wp2_with fail
  go_region_held3 (fun w' => w'.cell? ⟨w.heap.size, 0, none⟩ = some (.bool bx) ∧ w'.cell? ⟨w.heap.size, 1, none⟩ = some (.slice adx nx cx) ∧ w'.cell? ⟨w.heap.size + 1, 0, none⟩ = some (.bool by') ∧ w'.cell? ⟨w.heap.size + 1, 1, none⟩ = some (.slice ady nx cy))
    (first | exact ⟨cA2, cB2, cC2, cD2⟩ | exact ⟨cA, cB, cC, cD⟩ | go_keep)
    (first
      | (go_at_call_of 62 (Value.agg #[.bool bx, .slice adx nx cx]); refine (HWX.out _ (below3 _ _ _ _).drew).out.mono ?_; rintro e w1 ⟨gx, rfl, hrx, hb1'⟩; have hb1 := (Below.refl _ _).drew.trans hb1'; obtain ⟨cA, cB, cC, cD, cE, cF, fC, fE, fF, hsz⟩ := box3 hb1; have hb0 := (below3 w _ _ _).trans (hb1.mono (by simp <;> omega)))
      | (go_at_call_of 62 (Value.agg #[.bool by', .slice ady nx cy]); refine (HWY.out _ hb0).out.mono ?_; rintro e w2 ⟨gy, rfl, hry, hb2⟩; obtain ⟨cA2, cB2, cC2, cD2, cE2, cF2, fC2, fE2, fF2, hsz2⟩ := box3 (hb1.trans (hb2.mono hb1.size))))
  have hB2 := hb0.trans (hb2.mono hb0.size)
  have hgx := hrx.lt
  have hgy := hry.lt
  have hX := hb1.trans (hb2.mono hb1.size)
  have hbox : w2.heap[w.heap.size + 2]? = some (.cells #[.bool false, .slice none 0 0] 28 (0, 0)) := by
    rw [hX.block (w.heap.size + 2) (by simp)]
    have := heap_alloc_new ((w.alloc (.cells #[.bool bx, .slice adx nx cx] 28)).alloc (.cells #[.bool by', .slice ady nx cy] 28)) (.cells #[.bool false, .slice none 0 0] 28)
    simp only [World.size_alloc] at this
    exact this
  have hsx : w.heap.size + 2 < gx := by have := hgx.1; simp at this; omega
  have hxy : gx < gy := by omega
  have hrowx : Row w2 w.heap.size gx N (wordsN x N) := Row.of_block (by rw [hb2.block gx hgx.2]; exact hrx.block) (by omega) HLX.out (by unfold maxLen; omega)
  have hrowy : Row w2 w.heap.size gy N (wordsN y N) := Row.of_block hry.block (by omega) HLY.out (by unfold maxLen; omega)
  have HBX := Lib.hid hbox
  have HRX := Lib.hid hrowx
  have HRY := Lib.hid hrowy
  have HB2 := Lib.hid hB2
  clear hB2 hgx hgy hX hbox hrowx hrowy hrx hry hb1 hb1' hb2 hb0 cA cB cC cD cE cF fC fE fF cA2 cB2 cC2 cD2 cE2 cF2 fC2 fE2 fF2 hsz hsz2
  go_wp2
  go_loopw [27] (CombRel op (wordsN x N) (wordsN y N) w gx gy (w.heap.size + 2) N) (fun i _ => N - (intOf i).toNat)
  case atStart => exact ⟨0, _, rfl, Nat.zero_le _, HRX.out, fun j => by rw [if_neg (Nat.not_lt_zero _)], HRY.out, HB2.out, HBX.out, by omega, by omega, by omega⟩
  case round =>
    obtain ⟨k, p, rfl, hk, hrow, hp, hrowy, hnx, hbox, _, _, _⟩ := hrel
    have HROW := Lib.hid hrow
    have HROWY := Lib.hid hrowy
    have HP := Lib.hid hp
    have HNX := Lib.hid hnx
    have HBOX := Lib.hid hbox
    clear hrow hp hnx hbox hrowy
    by_cases hkn : k < N
    · have gx1 := HROW.out.cell k hkn
      have gf1 := HROW.out.frozen k
      have gy1 := HROWY.out.cell k hkn
      have hx0 : p[k]?.getD 0 = (wordsN x N)[k]?.getD 0 := by rw [HP.out, if_neg (Nat.lt_irrefl _)]
      rw [hx0] at gx1
      have hab : (wordsN x N)[k]?.getD 0 < 4294967296 := by
        rw [List.getElem?_eq_getElem (by rw [HLX.out]; exact hkn)]
        exact wordsN_lt _ _ _ (List.getElem_mem _)
      have hbb : (wordsN y N)[k]?.getD 0 < 4294967296 := by
        rw [List.getElem?_eq_getElem (by rw [HLY.out]; exact hkn)]
        exact wordsN_lt _ _ _ (List.getElem_mem _)
      obtain ⟨a, haa⟩ : ∃ a, a = (wordsN x N)[k]?.getD 0 := ⟨_, rfl⟩
      obtain ⟨b, hbb'⟩ : ∃ b, b = (wordsN y N)[k]?.getD 0 := ⟨_, rfl⟩
      rw [← haa] at gx1 hab
      rw [← hbb'] at gy1 hbb
      have HA := Lib.hid haa
      have HBV := Lib.hid hbb'
      have hTb : wr.heap[T]? = some (.cells (tbl op) 109 (0, 0)) := by rw [HNX.out.block T hTlt]; exact HTT.out
      have HOP : ∀ d, Calls Tryd.prog 64 #[.int .u32 a, .int .u32 b, .pointer (some ⟨T, 0, none⟩)] (wr.drewN d) fun e w' => e = .returned (.int .u32 ((opN op a b : Nat) : Int)) ∧ w' = wr.drewN d := fun d =>
        op_any T _ _ _ _ a b (wr.drewN d) (cell_of_row wr T 0 _ _ _ hTb) (cell_of_row wr T 1 _ _ _ hTb) (cell_of_row wr T 2 _ _ _ hTb) (cell_of_row wr T 3 _ _ _ hTb) (tb_lt _ _) (tb_lt _ _) (tb_lt _ _) (tb_lt _ _) hab hbb
      have HOP := Lib.hid HOP
      clear hx0 haa hbb' hTb
      go_wp2_with fail
      go_region_with (go_at_call 64; refine (HOP.out 1).mono ?_; rintro e w' ⟨rfl, rfl⟩)
      all_goals
        go_wp2
        go_roundw
        case rel =>
          refine ⟨k + 1, p.set k (opN op a b), by go_num, by omega, HROW.out.store k (opN op a b) _ rfl, ?_, ?_, (HNX.out.setCell (p := ⟨gx, k, none⟩) (by show w.heap.size ≤ gx; omega) _).drew, ?_, by omega, by omega, by omega⟩
          · intro j
            by_cases hj : j = k
            · subst hj
              rw [List.getElem?_set_self (by rw [HROW.out.1]; exact hkn), if_pos (by omega), List.getElem?_zipWith, List.getElem?_eq_getElem (by rw [HLX.out]; exact hkn), List.getElem?_eq_getElem (by rw [HLY.out]; exact hkn)]
              have h1 := HA.out
              have h2 := HBV.out
              rw [List.getElem?_eq_getElem (by rw [HLX.out]; exact hkn)] at h1
              rw [List.getElem?_eq_getElem (by rw [HLY.out]; exact hkn)] at h2
              simp only [Option.getD_some] at h1 h2 ⊢
              rw [← h1, ← h2]
            · rw [getD_set_ne _ _ _ _ (by omega), HP.out]
              by_cases h1 : j < k
              · rw [if_pos h1, if_pos (by omega)]
              · rw [if_neg h1, if_neg (by omega)]
          · exact Row.of_block (w := (wr.setCell ⟨gx, k, none⟩ (.int .u32 ((opN op a b : Nat) : Int))).drew) (by show (wr.setCell _ _).heap[gy]? = _; rw [heap_setCell_other _ _ _ _ (by simp; omega)]; exact HROWY.out.block) (by omega) HLY.out (by unfold maxLen; omega)
          · show (wr.setCell _ _).heap[w.heap.size + 2]? = _
            rw [heap_setCell_other _ _ _ _ (by simp; omega)]
            exact HBOX.out
        case measure => simp [intOf]; omega
    · obtain rfl : k = N := by omega
      have e : p = List.zipWith (opN op) (wordsN x k) (wordsN y k) := by
        have hzl : (List.zipWith (opN op) (wordsN x k) (wordsN y k)).length = k := by rw [List.length_zipWith, HLX.out, HLY.out, Nat.min_self]
        apply List.ext_getElem (by rw [hzl, HROW.out.1])
        intro i h1 h2
        have := HP.out i
        rw [if_pos (by rw [HROW.out.1] at h1; exact h1), List.getElem?_eq_getElem h1, List.getElem?_eq_getElem h2] at this
        exact this
      have hlt : ∀ z ∈ List.zipWith (opN op) (wordsN x k) (wordsN y k), z < 4294967296 := by
        intro z hz
        obtain ⟨i, hi, rfl⟩ := List.getElem_of_mem hz
        rw [List.getElem_zipWith]
        exact opN_lt _ _ _
      have hrow := HROW.out
      rw [e] at hrow
      have HS := Lib.hid (signed_any w.heap.size gx k _ wr hNb hN1 hrow hlt HNX.out.size)
      clear e hlt hrow
      go_wp2_with fail
      refine HS.out.mono ?_
      rintro e w3 ⟨v3, rfl, ⟨ad, n, c, rfl, hr3⟩, hb3, ho3⟩
      have hRl := (Array.getElem?_eq_some_iff.1 HBOX.out).1
      have hbox3 : w3.heap[w.heap.size + 2]? = some (.cells #[.bool false, .slice none 0 0] 28 (0, 0)) := by rw [ho3 _ hRl (by omega)]; exact HBOX.out
      obtain ⟨c0, c1, f0, f1, hlt⟩ := box_of hbox3 (Below.refl _ _)
      have HR := Lib.hid (hr3.store2 c0 c1 (by intro n h; cases h) (by intro n h; cases h))
      have HBB := Lib.hid (HNX.out.trans hb3)
      clear hb3 hr3 hbox3 ho3
      go_wp2_with fail
      refine bodyPost_ret (v := .agg #[.bool (decide (signedZ (List.zipWith (opN op) (wordsN x k) (wordsN y k)) < 0)), .slice ad n c]) (by simp [results, Tryd.results41, go_sem, c0, c1]) rfl ⟨_, rfl, ⟨_, _, _, rfl, HR.out _ _⟩, ?_⟩
      exact (HBB.out.setCell (by simp; omega) _).setCell (by simp; omega) _

theorem combine_any (op T : Nat) (x y : Int) (vx vy : Value) (w : World) (hx : len x ≤ 999999) (hy : len y ≤ 999999) (ha : IntV w vx x) (hb : IntV w vy y) (hT : w.heap[T]? = some (.cells (tbl op) 109 (0, 0))) :
    Calls Tryd.prog 41 #[vx, .func (.func 64) #[] #[.pointer (some ⟨T, 0, none⟩)], vy] w (IntPost w (boolZ op x y)) := by
  rcases Nat.lt_trichotomy (len x) (len y) with h | h | h
  · exact combine_lt op T x y vx vy w hx hy h ha hb hT
  · exact combine_eq op T x y vx vy w hx hy h ha hb hT
  · exact combine_gt op T x y vx vy w hx hy h ha hb hT
end

section
open Go.RowKit Digs

/-- A result with no error. -/
def IntOK (w : World) (z : Int) (e : Ending) (w' : World) : Prop := ∃ v, e = .returned (.tuple #[v, .int .i64 0]) ∧ IntV w' v z ∧ Below w.heap.size w w'
/-- An error, and the zero value. -/
def IntErr (w : World) (c : Int) (e : Ending) (w' : World) : Prop := e = .returned (.tuple #[.agg #[.bool false, .slice none 0 0], .int .i64 c]) ∧ Below w.heap.size w w'

def OpPost (op : Nat) (w : World) (e : Ending) (w' : World) : Prop :=
  ∃ T, e = .returned (.func (.func 64) #[] #[.pointer (some ⟨T, 0, none⟩)]) ∧ w'.heap[T]? = some (.cells (tbl op) 109 (0, 0)) ∧ Below w.heap.size w w'
theorem operation_at (op : Nat) (w : World) (hop : op ≤ 15) : Calls Tryd.prog 42 #[.int .i64 op] w (OpPost op w) :=
  (operation_any op w hop).mono fun _ _ ⟨he, hw⟩ => ⟨_, he, by rw [hw]; exact heap_alloc_new w _, by rw [hw]; exact (Below.refl _ _).alloc (Nat.le_refl _) _⟩

set_option maxHeartbeats 2000000 in
set_option maxRecDepth 100000 in
theorem Boole_ok (op : Nat) (x y : Int) (vx vy : Value) (w : World) (hop : op ≤ 15) (hx : len x ≤ 999999) (hy : len y ≤ 999999) (ha : IntV w vx x) (hb : IntV w vy y) :
    Calls Tryd.prog 19 #[vx, .int .i64 op, vy] w (IntOK w (boolZ op x y)) := by
  have HOP := fun W => Lib.hid (operation_at op W hop)
  have HCB := fun W T hw hT => Lib.hid (combine_any op T x y vx vy W hx hy (ha.keep hw) (hb.keep hw) hT)
  have HOP := Lib.hid HOP
  have HCB := Lib.hid HCB
  obtain ⟨adx, nx, cx, rfl, _⟩ := ha
  obtain ⟨ady, ny, cy, rfl, _⟩ := hb
  clear hx hy
  generalize decide (x < 0) = bx at *
  generalize decide (y < 0) = by' at *
  have ho1 : ¬ (15 : Int) < (op : Int) := by omega
  go_enter Tryd.func19, Tryd.ntmps19
  go_wp2_with fail
  go_region_held3 (fun w' => w'.cell? ⟨w.heap.size, 0, none⟩ = some (.bool bx) ∧ w'.cell? ⟨w.heap.size, 1, none⟩ = some (.slice adx nx cx) ∧ w'.cell? ⟨w.heap.size + 1, 0, none⟩ = some (.bool by') ∧ w'.cell? ⟨w.heap.size + 1, 1, none⟩ = some (.slice ady ny cy))
    (first | exact ⟨cA, cB, cC, cD⟩ | exact ⟨cA2, cB2, cC2, cD2⟩ | exact ⟨(cell_store2 (by omega)).trans cA2, (cell_store2 (by omega)).trans cB2, (cell_store2 (by omega)).trans cC2, (cell_store2 (by omega)).trans cD2⟩ | go_keep)
    (first
      | (go_at_call 42; refine (HOP.out _).out.mono ?_; rintro e w1 ⟨T, rfl, hT, hb1⟩; have hbx := (Below.refl _ _).drew.trans hb1; obtain ⟨cA, cB, cC, cD, cE, cF, fC, fE, fF, hsz⟩ := box3 hbx; have hb0 := (below3 w _ _ _).trans (hbx.mono (by simp <;> omega)))
      | (go_at_call 41; refine (HCB.out _ _ hb0 hT).out.mono ?_; rintro e w2 ⟨v2, rfl, ⟨ad2, n2, c2, rfl, hr2⟩, hb2⟩; obtain ⟨cA2, cB2, cC2, cD2, cE2, cF2, fC2, fE2, fF2, hsz2⟩ := box3 (hbx.trans (hb2.mono hbx.size))))
  have HR := Lib.hid (hr2.store2 cE2 cF2 (by intro n h; cases h) (by intro n h; cases h))
  have HB := Lib.hid (hb0.trans (hb2.mono (by omega)))
  clear hr2 hb2 hb1 hbx hb0 hT
  go_wp2
  refine bodyPost_ret (v := .tuple #[.agg #[.bool (decide (boolZ op x y < 0)), .slice ad2 n2 c2], .int .i64 0]) (by simp [results, Tryd.results19, go_sem, cE2, cF2]) rfl ⟨_, rfl, ⟨_, _, _, rfl, HR.out _ _⟩, ?_⟩
  exact (HB.out.setCell (by simp; omega) _).setCell (by simp; omega) _
end

end Go.Proofs.YtgepnkdnenjogaaDoor
