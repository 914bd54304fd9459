/-  words, of integers: their two's complement.  -/
import Derived.Test.YtfieecdedilonaaCompl
import Derived.Laws.CopyOwn
namespace Go.Proofs.Ytfieecdedilonaa
open Go.RowKit Digs

def padN (n : Nat) (l : List Nat) : List Nat := l ++ List.replicate (n - l.length) 0
def inv32 (l : List Nat) : List Nat := l.map fun x => 4294967295 - x
/-- The limbs of the two's complement of z, n of them. -/
def wordsN (z : Int) (n : Nat) : List Nat := if z < 0 then inv32 (padN n (digs 4294967296 (-1 - z).natAbs)) else padN n (digs 4294967296 z.natAbs)

theorem padN_length (n : Nat) (l : List Nat) (h : l.length ≤ n) : (padN n l).length = n := by simp [padN]; omega
theorem padN_lt (n : Nat) (l : List Nat) (h : ∀ x ∈ l, x < 4294967296) : ∀ x ∈ padN n l, x < 4294967296 := by
  intro x hx
  rcases List.mem_append.1 hx with h1 | h1
  · exact h x h1
  · rw [List.eq_of_mem_replicate h1]; decide
theorem inv32_length (l : List Nat) : (inv32 l).length = l.length := by simp [inv32]
theorem inv32_lt (l : List Nat) : ∀ x ∈ inv32 l, x < 4294967296 := by
  intro x hx
  simp only [inv32, List.mem_map] at hx
  obtain ⟨y, _, rfl⟩ := hx
  omega

theorem Row.block {w : World} {base g N : Nat} {p : List Nat} (h : Row w base g N p) : w.heap[g]? = some (.cells (uw p).toArray 93 (0, 0)) := by
  obtain ⟨h0, _, ⟨hv, _⟩ | ⟨g', cap, cur, hv, hb, hg, hc, hm, hs, ht⟩⟩ := h
  · cases hv
  · cases hv
    rw [hg]
    have : cur = (uw p).toArray := by
      rw [← ht, Nat.mul_one, List.take_of_length_le (by simp; omega)]
    rw [this]
theorem Row.of_block {w : World} {base g N : Nat} {p : List Nat} (hg : w.heap[g]? = some (.cells (uw p).toArray 93 (0, 0))) (hb : base ≤ g) (hp : p.length = N) (hN : N ≤ maxLen) : Row w base g N p :=
  ⟨hp, by rw [uw_length, hp, Nat.mul_one], .inr ⟨g, N, _, rfl, hb, hg, Nat.le_refl _, hN, by simp [uw_length, hp], by simp [List.take_of_length_le, uw_length, hp]⟩⟩

theorem splice_pad (n : Nat) (l : List Nat) : splice (uw (List.replicate n 0)) 0 (uw l) = uw (padN n l) := by
  unfold splice padN
  rw [uw_append]
  simp [uw]

def WordsPost (w : World) (n : Nat) (l : List Nat) (e : Ending) (w' : World) : Prop :=
  ∃ g, e = .returned (.slice (some ⟨g, 0, none⟩) n n) ∧ Row w' w.heap.size g n l ∧ Below w.heap.size w w'

theorem RdA.keep {k : IntKind} {w w' : World} {ad : Option Addr} {l : List Nat} (h : RdA k w ad l) (hb : Below w.heap.size w w') : RdA k w' ad l := fun j hj => by
  obtain ⟨b, off, h1, h2, h3⟩ := h j hj
  exact ⟨b, off, h1, Nat.lt_of_lt_of_le h2 hb.size, (hb.cell (p := ⟨b, off + j, none⟩) h2).trans h3⟩
theorem RdA.news {w : World} {ad : Option Addr} {l : List Nat} (h : RdA .u32 w ad l) (h0 : 0 < (uw l).length) : ∃ a, ad = some a ∧ ∀ (j : Nat) v, (uw l)[j]? = some v → w.cell? (a.add j) = some v := by
  rw [uw_length] at h0
  obtain ⟨b, off, h1, _⟩ := h 0 h0
  refine ⟨_, h1, Rd.news fun j hj => ?_⟩
  obtain ⟨b', off', h1', _, h3'⟩ := h j hj
  rw [h1] at h1'
  cases h1'
  exact h3'

set_option maxHeartbeats 2000000 in
set_option maxRecDepth 100000 in
theorem words_pos (ad : Option Addr) (c n : Nat) (l : List Nat) (w : World) (hn : n ≤ 1000001) (hln : l.length ≤ n) (hr : RdA .u32 w ad l) :
    Calls Try.prog 123 #[.agg #[.bool false, .slice ad l.length c], .int .i64 n] w (WordsPost w n (padN n l)) := by
  have HR := Lib.hid hr
  clear hr
  obtain ⟨i0, hi, hz0, hz1, hz2⟩ := info_parts Try.infoU32
  go_enter Try.func123, Try.ntmps123
  go_wp2_with (at_make; refine wpList_make_full _ rfl _ _ 22 rfl w.heap.size 93 i0 (.int .u32 0) 1 Try.underlying22 hi hz0 hz1 _ _ _ _ n rfl rfl (by omega) (by omega) ?b2 ?b3 ?b4 ?_)
  case b2 => rw [hz2]; omega
  case b3 => unfold maxLen; omega
  case b4 => simp
  intro w0 hown0 hgrow0
  have hB0 := ((Below.refl w.heap.size w).alloc (Nat.le_refl _) _).grown hgrow0 (by simp) (fun k h => by cases h)
  have hBx := (Below.refl _ (w.alloc (.cells #[.bool false, .slice ad l.length c] 28))).grown hgrow0 (Nat.le_refl _) (fun k h => by cases h)
  obtain ⟨cA, cB⟩ := box1 hBx
  rw [uw_zeros] at hown0
  have hrow : Row w0 w.heap.size (w.heap.size + 1) n (List.replicate n 0) := ⟨by simp, hown0⟩
  have HB0 := Lib.hid hB0
  have HROW := Lib.hid hrow
  clear hown0 hgrow0 hB0 hrow hBx
  go_wp2_with (with_reducible refine wpList_copy_splice rfl (.tmp 31) (.tmp 33) 22 22 rfl 93 Try.underlying22 ?e1 _ _ _ _ _ _ rfl rfl (w.heap.size + 1) 0 _ 93 HROW.out.block (uw l) ?e2 ?e3 ?e4 (uw_oneCell _) w.heap.size w HB0.out (Nat.le_succ _) ?_)
  case e1 =>
    show (Try.prog.info? 93).map (·.size) = some 1
    rw [hi, Option.map_some, hz1]
  case e2 => rw [uw_length]; exact (Nat.min_eq_left hln).symm
  case e3 =>
    intro h0
    first | exact ⟨rfl, (HR.out.keep HB0.out).news h0⟩ | exact (HR.out.keep HB0.out).news h0
  case e4 => simp [uw_length]; omega
  intro w1 hg1 hb1
  have hrow1 := Row.of_block (base := w.heap.size) (N := n) (p := padN n l) (by have := hg1.out; rw [splice_pad] at this; exact this) (Nat.le_succ _) (padN_length n l hln) (by unfold maxLen; omega)
  have HROW1 := Lib.hid hrow1
  clear hg1 hrow1
  go_wp2
  go_ret
  exact ⟨_, rfl, HROW1.out, hb1⟩

theorem compl_len {z : Int} (h : z < 0) : len (-1 - z) ≤ len z := digs_length_mono (by decide) (by omega)

theorem not_nat (x : Nat) (h : x < 4294967296) : 4294967295 ^^^ x = 4294967295 - x := by
  apply Nat.eq_of_testBit_eq
  intro i
  have h1 : (4294967295 : Nat) - x = 2 ^ 32 - (x + 1) := by omega
  have h2 : (4294967295 : Nat) = 2 ^ 32 - 1 := by decide
  rw [h1, Nat.testBit_two_pow_sub_succ (by omega), Nat.testBit_xor, h2, Nat.testBit_two_pow_sub_one]
  by_cases hi : i < 32
  · simp [hi]
  · have : x.testBit i = false := Nat.testBit_lt_two_pow (Nat.lt_of_lt_of_le h (Nat.pow_le_pow_right (n := 2) (by decide) (show 32 ≤ i by omega)))
    simp [hi, this]
theorem not_u32 (x : Nat) (h : x < 4294967296) : bits BinOp.xor IntKind.u32 (if IntKind.u32.signed = true then -1 else IntKind.u32.max) (x : Int) = ((4294967295 - x : Nat) : Int) := by
  show bits BinOp.xor IntKind.u32 ((4294967295 : Nat) : Int) (x : Int) = _
  rw [u32_xor_nat _ _ (by decide) h, not_nat x h]

theorem run_limbs (b : Bool) (ad : Option Addr) (n c : Nat) (w : World) : (Instr.field 28 (.agg #[.bool b, .slice ad n c]) 1).run Try.prog w = .ok (.slice ad n c) w := by kernel_rfl

/-- What the loop that turns the bits holds. -/
def InvRel (l : List Nat) (w : World) (g n : Nat) (i : Value) (wr : World) : Prop :=
  ∃ (k : Nat) (p : List Nat), i = .int .i64 k ∧ k ≤ n ∧ Row wr w.heap.size g n p ∧ (∀ j : Nat, p[j]?.getD 0 = if j < k then (inv32 l)[j]?.getD 0 else l[j]?.getD 0) ∧ Below w.heap.size w wr

theorem inv_get (l : List Nat) (j : Nat) (h : j < l.length) : (inv32 l)[j]?.getD 0 = 4294967295 - l[j]?.getD 0 := by
  rw [inv32, List.getElem?_map, List.getElem?_eq_getElem h]; rfl

set_option maxHeartbeats 2000000 in
set_option maxRecDepth 100000 in
theorem words_neg (z : Int) (ad : Option Addr) (nx c n : Nat) (w : World) (hn : n ≤ 1000001) (hz : z < 0) (hln : len z ≤ n) (hlz : len z ≤ 1000000) (h : IntV w (.agg #[.bool true, .slice ad nx c]) z) :
    Calls Try.prog 123 #[.agg #[.bool true, .slice ad nx c], .int .i64 n] w (WordsPost w n (inv32 (padN n (digs 4294967296 (-1 - z).natAbs)))) := by
  have HC := fun W hw => Lib.hid (complement_any z _ W hlz (h.keep (w' := W) hw))
  have HC := Lib.hid HC
  obtain ⟨l, hl⟩ : ∃ l, l = digs 4294967296 (-1 - z).natAbs := ⟨_, rfl⟩
  have hll : l.length ≤ n := by rw [hl]; exact Nat.le_trans (compl_len hz) hln
  have hlt : ∀ x ∈ l, x < 4294967296 := by rw [hl]; exact digs_lt (by decide) _
  rw [← hl]
  have HL := Lib.hid hl
  have HLT := Lib.hid (padN_lt n l hlt)
  have hpl := padN_length n l hll
  have HPL := Lib.hid hpl
  clear hz hln hlz h hlt hl hpl
  obtain ⟨i0, hi, hz0, hz1, hz2⟩ := info_parts Try.infoU32
  go_enter Try.func123, Try.ntmps123
  go_wp2_with (at_make; refine wpList_make_full _ rfl _ _ 22 rfl w.heap.size 93 i0 (.int .u32 0) 1 Try.underlying22 hi hz0 hz1 _ _ _ _ n rfl rfl (by omega) (by omega) ?b2 ?b3 ?b4 ?_)
  case b2 => rw [hz2]; omega
  case b3 => unfold maxLen; omega
  case b4 => simp
  intro w0 hown0 hgrow0
  have hB0 := ((Below.refl w.heap.size w).alloc (Nat.le_refl _) _).grown hgrow0 (by simp) (fun k h => by cases h)
  have hBx := (Below.refl _ (w.alloc (.cells #[.bool true, .slice ad nx c] 28))).grown hgrow0 (Nat.le_refl _) (fun k h => by cases h)
  obtain ⟨cA, cB⟩ := box1 hBx
  rw [uw_zeros] at hown0
  have hrow : Row w0 w.heap.size (w.heap.size + 1) n (List.replicate n 0) := ⟨by simp, hown0⟩
  have HB0 := Lib.hid hB0
  have HROW := Lib.hid hrow
  clear hown0 hgrow0 hB0 hrow hBx
  go_wp2_with fail
  refine (HC.out _ HB0.out).out.mono ?_
  rintro e w1 ⟨v1, rfl, ⟨ad1, n1, c1, rfl, hr1⟩, hb1⟩
  have hrow1 : Row w1 w.heap.size (w.heap.size + 1) n (List.replicate n 0) := by
    have h1 := HROW.out
    have h2 := hb1.block (w.heap.size + 1) h1.lt.2
    exact Row.of_block (by rw [h2]; exact h1.block) (Nat.le_succ _) (by simp) (by unfold maxLen; omega)
  obtain ⟨ad1', c1', hv, ra1⟩ := hr1.opt
  cases hv
  rw [← HL.out] at ra1 ⊢
  have HB1 := Lib.hid (HB0.out.trans (hb1.mono HB0.out.size))
  have HROW1 := Lib.hid hrow1
  have HRA1 := Lib.hid ra1
  clear hr1 hrow1 hb1 ra1 cA cB
  have hfield := run_limbs
  go_wp2_with (with_reducible refine wpList_copy_splice rfl (.tmp 11) (.tmp 14) 22 22 rfl 93 Try.underlying22 ?e1 _ _ _ _ _ _ rfl rfl (w.heap.size + 1) 0 _ 93 HROW1.out.block (uw l) ?e2 ?e3 ?e4 (uw_oneCell _) w.heap.size w HB1.out (Nat.le_succ _) ?_)
  case e1 =>
    show (Try.prog.info? 93).map (·.size) = some 1
    rw [hi, Option.map_some, hz1]
  case e2 => rw [uw_length]; exact (Nat.min_eq_left hll).symm
  case e3 =>
    intro h0
    first | exact ⟨rfl, HRA1.out.news h0⟩ | exact HRA1.out.news h0
  case e4 => simp [uw_length]; omega
  intro w2 hg2 hb2
  have hrow2 := Row.of_block (base := w.heap.size) (N := n) (p := padN n l) (by have := hg2.out; rw [splice_pad] at this; exact this) (Nat.le_succ _) HPL.out (by unfold maxLen; omega)
  have HROW2 := Lib.hid hrow2
  have HB2 := Lib.hid hb2
  clear hg2 hrow2 hb2
  go_wp2
  go_loopw [18] (InvRel (padN n l) w (w.heap.size + 1) n) (fun i _ => n - (intOf i).toNat)
  case atStart => exact ⟨0, _, rfl, Nat.zero_le _, HROW2.out, fun j => by rw [if_neg (Nat.not_lt_zero _)], HB2.out⟩
  case round =>
    obtain ⟨k, p, rfl, hk, hrow, hp, hnx⟩ := hrel
    have HROW3 := Lib.hid hrow
    have HP := Lib.hid hp
    have HNX := Lib.hid hnx
    clear hrow hp hnx
    by_cases hkn : k < n
    · have gx := HROW3.out.cell k hkn
      have gf := HROW3.out.frozen k
      have hx : p[k]?.getD 0 = (padN n l)[k]?.getD 0 := by rw [HP.out, if_neg (Nat.lt_irrefl _)]
      have hxb : (padN n l)[k]?.getD 0 < 4294967296 := by
        rw [List.getElem?_eq_getElem (by rw [HPL.out]; exact hkn)]
        exact HLT.out _ (List.getElem_mem _)
      rw [hx] at gx
      obtain ⟨x, hxx⟩ : ∃ x, x = (padN n l)[k]?.getD 0 := ⟨_, rfl⟩
      rw [← hxx] at gx hxb
      have HX := Lib.hid hxx
      clear hx hxx
      go_wp2
      go_roundw
      case rel =>
        refine ⟨k + 1, p.set k (4294967295 - x), by go_num, by omega, HROW3.out.store _ _ _ ?_, ?_, HNX.out.setCell (by simp) _⟩
        · exact not_u32 x hxb
        · intro j
          by_cases hj : j = k
          · subst hj
            rw [List.getElem?_set_self (by rw [HROW3.out.1]; exact hkn), if_pos (by omega), inv_get _ _ (by rw [HPL.out]; exact hkn), ← HX.out]
            rfl
          · rw [getD_set_ne _ _ _ _ (by omega), HP.out]
            by_cases h1 : j < k
            · rw [if_pos h1, if_pos (by omega)]
            · rw [if_neg h1, if_neg (by omega)]
      case measure => simp [intOf]; omega
    · obtain rfl : k = n := by omega
      have e : p = inv32 (padN k l) := by
        apply List.ext_getElem (by rw [inv32_length, HPL.out, HROW3.out.1])
        intro i h1 h2
        have := HP.out i
        rw [if_pos (by rw [HROW3.out.1] at h1; exact h1), List.getElem?_eq_getElem h1, List.getElem?_eq_getElem h2] at this
        exact this
      have HE := Lib.hid e
      clear e
      go_wp2
      go_ret
      exact ⟨_, rfl, by rw [← HE.out]; exact HROW3.out, HNX.out⟩

end Go.Proofs.Ytfieecdedilonaa
