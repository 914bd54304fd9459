/- Words of layer 15: fixnums, characters, tags: the program's functions and the reference's. -/
import Derived.Test.YtpkhmgbkalhilaaRows
import Derived.WalkKit
import Derived.WalkSpells
import Derived.WalkLawsBesides
import Derived.Lib.Hide
import Derived.Outline
namespace Go.Proofs.Ytpkhmgbkalhilaa
section
open Go.RowKit

theorem and7 (n : Nat) (h : n < 18446744073709551616) : bits BinOp.and IntKind.u64 (n : Int) 7 = ((n % 8 : Nat) : Int) := by
  have := bits_and_u64_nat n 7 h (by decide)
  rw [show ((7 : Nat) : Int) = 7 from rfl] at this
  rw [this, show n &&& 7 = n % 8 from Nat.and_two_pow_sub_one_eq_mod n 3]
theorem or0 (n : Nat) (h : n < 18446744073709551616) : bits BinOp.or IntKind.u64 (n : Int) 0 = (n : Int) := by
  have := bits_or_u64_nat n 0 h (by decide)
  rw [show ((0 : Nat) : Int) = 0 from rfl] at this
  rw [this, Nat.or_zero]

/-- The codes of characters. -/
def okC (c : Int) : Bool := decide ((0 ≤ c ∧ c < 55296) ∨ (57343 < c ∧ c ≤ 1114111))
theorem okC_true {c : Int} (h : (0 ≤ c ∧ c < 55296) ∨ (57343 < c ∧ c ≤ 1114111)) : okC c = true := decide_eq_true h
theorem okC_false {c : Int} (h : ¬ ((0 ≤ c ∧ c < 55296) ∨ (57343 < c ∧ c ≤ 1114111))) : okC c = false := decide_eq_false h
theorem okC_bd {c : Int} (h : okC c = true) : 0 ≤ c ∧ c ≤ 1114111 := by have := of_decide_eq_true h; omega

theorem ret_b {a b : Bool} (h : a = b) : Ending.returned (.bool a) = .returned (.bool b) := by rw [h]

theorem validRune (c : Int) (w : World) (h1 : -2147483648 ≤ c) (h2 : c ≤ 2147483647) :
    Calls Try.prog 15 #[.int .i32 c] w fun e w' => e = .returned (.bool (okC c)) ∧ w = w' := by
  by_cases a : 0 ≤ c ∧ c < 55296
  · rw [okC_true (.inl a)]
    obtain ⟨a1, a2⟩ := a
    go_enter Try.func15, Try.ntmps15
    go_wp2
    go_ret
    exact ⟨rfl, rfl⟩
  · by_cases b : 57343 < c ∧ c ≤ 1114111
    · rw [okC_true (.inr b)]
      obtain ⟨b1, b2⟩ := b
      have a2 : 55296 ≤ c := by omega
      have a1 : 0 ≤ c := by omega
      clear a
      go_enter Try.func15, Try.ntmps15
      go_wp2
      go_ret
      exact ⟨rfl, rfl⟩
    · rw [okC_false (by omega)]
      by_cases d : c < 0
      · have : c ≤ 57343 := by omega
        clear a b
        go_enter Try.func15, Try.ntmps15
        go_wp2
        go_ret
        exact ⟨rfl, rfl⟩
      · have d1 : 0 ≤ c := by omega
        have d2 : 55296 ≤ c := by omega
        by_cases f : c ≤ 57343
        · clear a b d
          go_enter Try.func15, Try.ntmps15
          go_wp2
          go_ret
          exact ⟨rfl, rfl⟩
        · have f1 : 57343 < c := by omega
          have f2 : 1114111 < c := by omega
          clear a b d f
          go_enter Try.func15, Try.ntmps15
          go_wp2
          go_ret
          exact ⟨rfl, rfl⟩

theorem code_any (c : Int) (w : World) (h1 : -9223372036854775808 ≤ c) (h2 : c ≤ 9223372036854775807) :
    Calls Try.prog 16 #[.int .i64 c] w fun e w' => e = .returned (.bool (okC c)) ∧ w = w' := by
  by_cases d : c < 0
  · rw [okC_false (by omega)]
    go_enter Try.func16, Try.ntmps16
    go_wp2
    go_ret
    exact ⟨rfl, rfl⟩
  · have d1 : 0 ≤ c := by omega
    by_cases f : 1114111 < c
    · rw [okC_false (by omega)]
      clear d
      go_enter Try.func16, Try.ntmps16
      go_wp2
      go_ret
      exact ⟨rfl, rfl⟩
    · have f1 : c ≤ 1114111 := by omega
      by_cases g : c < 55296
      · rw [okC_true (.inl ⟨d1, g⟩)]
        clear d f
        go_enter Try.func16, Try.ntmps16
        go_wp2
        go_ret
        exact ⟨rfl, rfl⟩
      · have g1 : 55296 ≤ c := by omega
        by_cases b : 57343 < c
        · rw [okC_true (.inr ⟨b, f1⟩)]
          clear d f g
          go_enter Try.func16, Try.ntmps16
          go_wp2
          go_ret
          exact ⟨rfl, rfl⟩
        · rw [okC_false (by omega)]
          have b1 : c ≤ 57343 := by omega
          clear d f g b
          go_enter Try.func16, Try.ntmps16
          go_wp2
          go_ret
          exact ⟨ret_b (a := decide (c < 55296) || decide (57343 < c)) (by rw [decide_eq_false (by omega), decide_eq_false (by omega)]; rfl), rfl⟩

/-- What Fix returns: a word and a code. -/
def fixV (n : Int) : Nat := (IntKind.u64.wrap (IntKind.u64.wrap n * 8)).toNat
theorem fixV_eq (n : Int) : IntKind.u64.wrap (IntKind.u64.wrap n * 8) = (fixV n : Int) ∧ fixV n < 18446744073709551616 := by
  obtain ⟨h1, h2⟩ := wrap_within .u64 (IntKind.u64.wrap n * 8)
  rw [show IntKind.u64.min = 0 from rfl] at h1
  rw [show IntKind.u64.max = 18446744073709551615 from rfl] at h2
  unfold fixV
  omega
def fixIn (n : Int) : Prop := -1152921504606846976 ≤ n ∧ n < 1152921504606846976
open Classical in
noncomputable def fixRes (n : Int) : Nat × Int := if fixIn n then (fixV n, 0) else (0, 3)

theorem fix_any (n : Int) (w : World) (h1 : -9223372036854775808 ≤ n) (h2 : n ≤ 9223372036854775807) :
    Calls Try.prog 4 #[.int .i64 n] w fun e w' => e = .returned (.tuple #[.int .u64 (fixRes n).1, .int .i64 (fixRes n).2]) ∧ w = w' := by
  obtain ⟨e1, e2⟩ := fixV_eq n
  have e3 := or0 (fixV n) e2
  unfold fixRes
  by_cases h : n < -1152921504606846976
  · rw [if_neg (by unfold fixIn; omega)]
    go_enter Try.func4, Try.ntmps4
    go_wp2
    go_ret2
    exact ⟨rfl, rfl⟩
  · by_cases h' : 1152921504606846975 < n
    · rw [if_neg (by unfold fixIn; omega)]
      go_enter Try.func4, Try.ntmps4
      go_wp2
      go_ret2
      exact ⟨rfl, rfl⟩
    · rw [if_pos (by unfold fixIn; omega)]
      go_enter Try.func4, Try.ntmps4
      go_wp2
      go_ret2
      exact ⟨rfl, rfl⟩
theorem rfix_any (n : Int) (w : World) (h1 : -9223372036854775808 ≤ n) (h2 : n ≤ 9223372036854775807) :
    Calls Try.prog 5 #[.int .i64 n] w fun e w' => e = .returned (.tuple #[.int .u64 (fixRes n).1, .int .i64 (fixRes n).2]) ∧ w = w' := by
  obtain ⟨e1, e2⟩ := fixV_eq n
  unfold fixRes
  by_cases h : n < -1152921504606846976
  · rw [if_neg (by unfold fixIn; omega)]
    go_enter Try.func5, Try.ntmps5
    go_wp2
    go_ret2
    exact ⟨rfl, rfl⟩
  · by_cases h' : 1152921504606846976 ≤ n
    · rw [if_neg (by unfold fixIn; omega)]
      go_enter Try.func5, Try.ntmps5
      go_wp2
      go_ret2
      exact ⟨rfl, rfl⟩
    · rw [if_pos (by unfold fixIn; omega)]
      go_enter Try.func5, Try.ntmps5
      go_wp2
      go_ret2
      exact ⟨rfl, rfl⟩

/-- What Char returns. -/
def charV (c : Int) : Nat := (bits BinOp.or IntKind.u64 (c * 8) 1).toNat
theorem charV_eq (c : Int) : bits BinOp.or IntKind.u64 (c * 8) 1 = (charV c : Int) ∧ charV c < 18446744073709551616 := by
  have h1 := bits_lo_u64 .or (c * 8) 1
  have h2 := bits_hi_u64 .or (c * 8) 1
  unfold charV
  omega
def charRes (c : Int) : Nat × Int := if okC c then (charV c, 0) else (0, 3)
theorem charRes_lt (c : Int) : (charRes c).1 < 18446744073709551616 := by
  unfold charRes
  split
  · exact (charV_eq c).2
  · decide

theorem char_any (c : Int) (w : World) (h1 : -2147483648 ≤ c) (h2 : c ≤ 2147483647) :
    Calls Try.prog 6 #[.int .i32 c] w fun e w' => e = .returned (.tuple #[.int .u64 (charRes c).1, .int .i64 (charRes c).2]) ∧ w = w' := by
  obtain ⟨e1, _⟩ := charV_eq c
  have HV := validRune c w h1 h2
  unfold charRes
  cases h : okC c
  · rw [h] at HV
    rw [if_neg (by decide)]
    go_enter Try.func6, Try.ntmps6
    go_wp2_with (go_at_call 15; refine HV.mono ?_; rintro e w' ⟨rfl, rfl⟩)
    go_ret2
    exact ⟨rfl, rfl⟩
  · rw [h] at HV
    rw [if_pos rfl]
    obtain ⟨b1, b2⟩ := okC_bd h
    go_enter Try.func6, Try.ntmps6
    go_wp2_with (go_at_call 15; refine HV.mono ?_; rintro e w' ⟨rfl, rfl⟩)
    go_ret2
    exact ⟨rfl, rfl⟩
theorem rchar_any (c : Int) (w : World) (h1 : -2147483648 ≤ c) (h2 : c ≤ 2147483647) :
    Calls Try.prog 7 #[.int .i32 c] w fun e w' => e = .returned (.tuple #[.int .u64 (charRes c).1, .int .i64 (charRes c).2]) ∧ w = w' := by
  obtain ⟨e1, _⟩ := charV_eq c
  have HV := code_any c w (by omega) (by omega)
  unfold charRes
  cases h : okC c
  · rw [h] at HV
    rw [if_neg (by decide)]
    go_enter Try.func7, Try.ntmps7
    go_wp2_with (go_at_call 16; refine HV.mono ?_; rintro e w' ⟨rfl, rfl⟩)
    go_ret2
    exact ⟨rfl, rfl⟩
  · rw [h] at HV
    rw [if_pos rfl]
    obtain ⟨b1, b2⟩ := okC_bd h
    go_enter Try.func7, Try.ntmps7
    go_wp2_with (go_at_call 16; refine HV.mono ?_; rintro e w' ⟨rfl, rfl⟩)
    go_ret2
    exact ⟨rfl, rfl⟩

theorem tag_any (n : Nat) (w : World) (h : n < 18446744073709551616) :
    Calls Try.prog 17 #[.int .u64 n] w fun e w' => e = .returned (.int .i64 (n % 8 : Nat)) ∧ w = w' := by
  have e7 := and7 n h
  go_enter Try.func17, Try.ntmps17
  go_wp2
  go_ret
  exact ⟨rfl, rfl⟩

/-- What Fixnum returns, and Character. -/
def fixnumRes (n : Nat) : Int × Bool := if n % 8 = 0 then (wrap64 (n : Int) / 8, true) else (0, false)
def isCh (n : Nat) : Bool := decide (n % 8 = 1) && okC ((n / 8 : Nat) : Int)
def charNumRes (n : Nat) : Int × Bool := if isCh n then (((n / 8 : Nat) : Int), true) else (0, false)
def isRefB (n : Nat) : Bool := decide (n % 8 = 3)

theorem fixnum_any (n : Nat) (w : World) (h : n < 18446744073709551616) :
    Calls Try.prog 8 #[.int .u64 n] w fun e w' => e = .returned (.tuple #[.int .i64 (fixnumRes n).1, .bool (fixnumRes n).2]) ∧ w = w' := by
  have HT := tag_any n w h
  unfold fixnumRes
  obtain ⟨m, hm⟩ : ∃ m, m = n % 8 := ⟨_, rfl⟩
  rw [← hm] at HT ⊢
  clear hm
  by_cases h0 : m = 0
  · subst h0
    rw [if_pos rfl]
    go_enter Try.func8, Try.ntmps8
    go_wp2_with (go_at_call 17; refine HT.mono ?_; rintro e w' ⟨rfl, rfl⟩)
    go_ret2
    exact ⟨rfl, rfl⟩
  · rw [if_neg h0]
    have h1 : ((m : Int) != 0) = true := by rw [bne_iff_ne]; omega
    clear h0
    go_enter Try.func8, Try.ntmps8
    go_wp2_with (go_at_call 17; refine HT.mono ?_; rintro e w' ⟨rfl, rfl⟩)
    go_ret2
    exact ⟨rfl, rfl⟩
theorem rfixnum_any (n : Nat) (w : World) (h : n < 18446744073709551616) :
    Calls Try.prog 9 #[.int .u64 n] w fun e w' => e = .returned (.tuple #[.int .i64 (fixnumRes n).1, .bool (fixnumRes n).2]) ∧ w = w' := by
  have e7 := and7 n h
  unfold fixnumRes
  obtain ⟨m, hm⟩ : ∃ m, m = n % 8 := ⟨_, rfl⟩
  rw [← hm] at e7 ⊢
  clear hm
  by_cases h0 : m = 0
  · subst h0
    rw [if_pos rfl]
    go_enter Try.func9, Try.ntmps9
    go_wp2
    go_ret2
    exact ⟨rfl, rfl⟩
  · rw [if_neg h0]
    have h1 : ((m : Int) != 0) = true := by rw [bne_iff_ne]; omega
    clear h0
    go_enter Try.func9, Try.ntmps9
    go_wp2
    go_ret2
    exact ⟨rfl, rfl⟩

theorem isRef_any (n : Nat) (w : World) (h : n < 18446744073709551616) :
    Calls Try.prog 12 #[.int .u64 n] w fun e w' => e = .returned (.bool (isRefB n)) ∧ w = w' := by
  have HT := tag_any n w h
  have hb : isRefB n = (((n % 8 : Nat) : Int) == 3) := by
    unfold isRefB
    rw [Bool.eq_iff_iff, decide_eq_true_iff, beq_iff_eq]; omega
  rw [hb]
  obtain ⟨m, hm⟩ : ∃ m, m = n % 8 := ⟨_, rfl⟩
  rw [← hm] at HT ⊢
  clear hm hb
  go_enter Try.func12, Try.ntmps12
  go_wp2_with (go_at_call 17; refine HT.mono ?_; rintro e w' ⟨rfl, rfl⟩)
  go_ret
  exact ⟨rfl, rfl⟩
theorem risRef_any (n : Nat) (w : World) (h : n < 18446744073709551616) :
    Calls Try.prog 13 #[.int .u64 n] w fun e w' => e = .returned (.bool (isRefB n)) ∧ w = w' := by
  have e7 := and7 n h
  have hb : isRefB n = (((n % 8 : Nat) : Int) == 3) := by
    unfold isRefB
    rw [Bool.eq_iff_iff, decide_eq_true_iff, beq_iff_eq]; omega
  rw [hb]
  obtain ⟨m, hm⟩ : ∃ m, m = n % 8 := ⟨_, rfl⟩
  rw [← hm] at e7 ⊢
  clear hm hb
  go_enter Try.func13, Try.ntmps13
  go_wp2
  go_ret
  exact ⟨rfl, rfl⟩

set_option maxRecDepth 100000 in
theorem character_any (n : Nat) (w : World) (h : n < 18446744073709551616) :
    Calls Try.prog 10 #[.int .u64 n] w fun e w' => e = .returned (.tuple #[.int .i32 (charNumRes n).1, .bool (charNumRes n).2]) ∧ w = w' := by
  have HT := tag_any n w h
  obtain ⟨m, hm⟩ : ∃ m, m = n % 8 := ⟨_, rfl⟩
  rw [← hm] at HT
  obtain ⟨q, hq⟩ : ∃ q, q = n / 8 := ⟨_, rfl⟩
  have hq1 : (n : Int) / 8 = (q : Int) := by omega
  by_cases h1 : m = 1
  · subst h1
    by_cases h2 : q ≤ 1114111
    · have HV := validRune (q : Int) w (by omega) (by omega)
      cases hk : okC (q : Int)
      · rw [hk] at HV
        have e : charNumRes n = (0, false) := by unfold charNumRes isCh; rw [← hm, ← hq, hk]; rfl
        rw [e]
        clear e hk hm hq
        go_enter Try.func10, Try.ntmps10
        go_wp2_with (first | (go_at_call 17; refine HT.mono ?_; rintro e w' ⟨rfl, rfl⟩) | (go_at_call 15; refine HV.mono ?_; rintro e w' ⟨rfl, rfl⟩))
        go_ret2
        exact ⟨rfl, rfl⟩
      · rw [hk] at HV
        have e : charNumRes n = ((q : Int), true) := by unfold charNumRes isCh; rw [← hm, ← hq, hk]; rfl
        rw [e]
        clear e hk hm hq
        go_enter Try.func10, Try.ntmps10
        go_wp2_with (first | (go_at_call 17; refine HT.mono ?_; rintro e w' ⟨rfl, rfl⟩) | (go_at_call 15; refine HV.mono ?_; rintro e w' ⟨rfl, rfl⟩))
        go_ret2
        exact ⟨rfl, rfl⟩
    · have e : charNumRes n = (0, false) := by
        unfold charNumRes isCh; rw [← hq, okC_false (by omega), Bool.and_false]; rfl
      have h3 : 1114111 < (q : Int) := by omega
      rw [e]
      clear e hm hq h2
      go_enter Try.func10, Try.ntmps10
      go_wp2_with (go_at_call 17; refine HT.mono ?_; rintro e w' ⟨rfl, rfl⟩)
      go_ret2
      exact ⟨rfl, rfl⟩
  · have e : charNumRes n = (0, false) := by
      unfold charNumRes isCh; rw [← hm, decide_eq_false h1]; rfl
    have h2 : ((m : Int) != 1) = true := by rw [bne_iff_ne]; omega
    rw [e]
    clear e hm hq h1
    go_enter Try.func10, Try.ntmps10
    go_wp2_with (go_at_call 17; refine HT.mono ?_; rintro e w' ⟨rfl, rfl⟩)
    go_ret2
    exact ⟨rfl, rfl⟩
set_option maxRecDepth 100000 in
theorem rcharacter_any (n : Nat) (w : World) (h : n < 18446744073709551616) :
    Calls Try.prog 11 #[.int .u64 n] w fun e w' => e = .returned (.tuple #[.int .i32 (charNumRes n).1, .bool (charNumRes n).2]) ∧ w = w' := by
  have e7 := and7 n h
  obtain ⟨m, hm⟩ : ∃ m, m = n % 8 := ⟨_, rfl⟩
  rw [← hm] at e7
  obtain ⟨q, hq⟩ : ∃ q, q = n / 8 := ⟨_, rfl⟩
  have hq1 : (n : Int) / 8 = (q : Int) := by omega
  by_cases h1 : m = 1
  · subst h1
    by_cases h2 : q ≤ 1114111
    · have HV := code_any (q : Int) w (by omega) (by omega)
      cases hk : okC (q : Int)
      · rw [hk] at HV
        have e : charNumRes n = (0, false) := by unfold charNumRes isCh; rw [← hm, ← hq, hk]; rfl
        rw [e]
        clear e hk hm hq
        go_enter Try.func11, Try.ntmps11
        go_wp2_with (go_at_call 16; refine HV.mono ?_; rintro e w' ⟨rfl, rfl⟩)
        go_ret2
        exact ⟨rfl, rfl⟩
      · rw [hk] at HV
        have e : charNumRes n = ((q : Int), true) := by unfold charNumRes isCh; rw [← hm, ← hq, hk]; rfl
        rw [e]
        clear e hk hm hq
        go_enter Try.func11, Try.ntmps11
        go_wp2_with (go_at_call 16; refine HV.mono ?_; rintro e w' ⟨rfl, rfl⟩)
        go_ret2
        exact ⟨rfl, rfl⟩
    · have e : charNumRes n = (0, false) := by
        unfold charNumRes isCh; rw [← hq, okC_false (by omega), Bool.and_false]; rfl
      have h3 : 1114111 < (q : Int) := by omega
      rw [e]
      clear e hm hq h2
      go_enter Try.func11, Try.ntmps11
      go_wp2
      go_ret2
      exact ⟨rfl, rfl⟩
  · have e : charNumRes n = (0, false) := by
      unfold charNumRes isCh; rw [← hm, decide_eq_false h1]; rfl
    have h2 : ((m : Int) != 1) = true := by rw [bne_iff_ne]; omega
    rw [e]
    clear e hm hq h1
    go_enter Try.func11, Try.ntmps11
    go_wp2
    go_ret2
    exact ⟨rfl, rfl⟩

end
end Go.Proofs.Ytpkhmgbkalhilaa
