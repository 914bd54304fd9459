/- Gcd: foresee. -/
import Derived.Test.YtiegkjfpdiohkaaGreatGc2
namespace Go.Proofs.YtiegkjfpdiohkaaGreat
section
open Go.RowKit Digs Leh

theorem top_limbA {A n : Nat} (hn : (digs 4294967296 A).length = n) (h0 : 0 < n) : ∃ t, limbAt (digs 4294967296 A) ((n : Int) - 1) = t ∧ t ≠ 0 ∧ t < 4294967296 ∧ A / 4294967296 ^ (n - 1) = t ∧ A < 4294967296 ^ n := by
  have hA : A < 4294967296 ^ n := by rw [← hn]; exact digs_lt_pow (by decide) A
  have hA0 : A ≠ 0 := by rintro rfl; rw [digs_zero] at hn; simp at hn; omega
  obtain ⟨m, rfl⟩ : ∃ m, n = m + 1 := ⟨n - 1, by omega⟩
  have hq : A / 4294967296 ^ m < 4294967296 := by
    rw [Nat.div_lt_iff_lt_mul (Nat.pow_pos (by decide)), Nat.mul_comm, ← Nat.pow_succ]; exact hA
  have hq0 : A / 4294967296 ^ m ≠ 0 := by
    intro h
    rcases Nat.div_eq_zero_iff.1 h with h1 | h1
    · have := Nat.pow_pos (n := m) (show 0 < 4294967296 by decide); omega
    · have := digs_length_le (b := 4294967296) (by decide) A m h1
      omega
  refine ⟨A / 4294967296 ^ m, ?_, hq0, hq, rfl, hA⟩
  unfold limbAt
  rw [if_neg (by omega), show (((m + 1 : Nat) : Int) - 1).toNat = m by omega, digs_get (by decide), Nat.mod_eq_of_lt hq]

theorem topV_lt {A n up : Nat} (hn : 2 ≤ n) (hup : up < 32) (ht : A / 4294967296 ^ (n - 1) < 2 ^ (32 - up)) : topV A n up < 18446744073709551616 := by
  obtain ⟨m, rfl⟩ : ∃ m, n = m + 2 := ⟨n - 2, by omega⟩
  unfold topV
  rw [show m + 2 - 2 = m by omega, Nat.div_lt_iff_lt_mul (Nat.pow_pos (by decide))]
  rw [show m + 2 - 1 = m + 1 by omega, Nat.div_lt_iff_lt_mul (Nat.pow_pos (by decide))] at ht
  have p2 : (2 : Nat) ^ (32 - up) * 2 ^ up = 4294967296 := by rw [← Nat.pow_add, show 32 - up + up = 32 by omega]
  have h1 : A * 2 ^ up < 2 ^ (32 - up) * 4294967296 ^ (m + 1) * 2 ^ up := Nat.mul_lt_mul_of_pos_right ht (Nat.pow_pos (by decide))
  have h2 : 2 ^ (32 - up) * 4294967296 ^ (m + 1) * 2 ^ up = 2 ^ (32 - up) * 2 ^ up * (4294967296 * 4294967296 ^ m) := by rw [Nat.pow_succ]; grind
  rw [h2, p2, ← Nat.mul_assoc] at h1
  exact h1
theorem topV_mono {A B n up : Nat} (h : B ≤ A) : topV B n up ≤ topV A n up := Nat.div_le_div_right (Nat.mul_le_mul_right _ h)

theorem box5 {w w2 : World} {a b c d e : Value} {t : TypeId} (h : Below (w.alloc (.cells #[a, b, c, d, e] t)).heap.size (w.alloc (.cells #[a, b, c, d, e] t)) w2) :
    (w2.cell? ⟨w.heap.size, 0, none⟩ = some a ∧ w2.cell? ⟨w.heap.size, 1, none⟩ = some b ∧ w2.cell? ⟨w.heap.size, 2, none⟩ = some c ∧ w2.cell? ⟨w.heap.size, 3, none⟩ = some d ∧ w2.cell? ⟨w.heap.size, 4, none⟩ = some e) ∧
    (∀ j, w2.frozen? ⟨w.heap.size, j, none⟩ = false) ∧ Below w.heap.size w w2 := by
  refine ⟨⟨?_, ?_, ?_, ?_, ?_⟩, fun j => ?_, ((Below.refl _ _).alloc (Nat.le_refl _) _).trans (h.mono (by simp))⟩
  · rw [h.cell (p := ⟨w.heap.size, 0, none⟩) (by simp), World.cell?_alloc_at _ _ _ _ rfl]; rfl
  · rw [h.cell (p := ⟨w.heap.size, 1, none⟩) (by simp), World.cell?_alloc_at _ _ _ _ rfl]; rfl
  · rw [h.cell (p := ⟨w.heap.size, 2, none⟩) (by simp), World.cell?_alloc_at _ _ _ _ rfl]; rfl
  · rw [h.cell (p := ⟨w.heap.size, 3, none⟩) (by simp), World.cell?_alloc_at _ _ _ _ rfl]; rfl
  · rw [h.cell (p := ⟨w.heap.size, 4, none⟩) (by simp), World.cell?_alloc_at _ _ _ _ rfl]; rfl
  · rw [h.frozen (p := ⟨w.heap.size, j, none⟩) (by simp), World.frozen?_alloc_at _ _ _ _ rfl]

def ForPost (A B : Nat) (w : World) (e : Ending) (w' : World) : Prop :=
  ∃ (s u0 u1 v0 v1 : Nat) (odd : Bool), 0 < s ∧ e = .returned (.agg #[.int .u32 u0, .int .u32 u1, .int .u32 v0, .int .u32 v1, .bool odd]) ∧ (v0 ≠ 0 → Out (A * s) (B * s) u0 u1 v0 v1 odd) ∧ u0 < 4294967296 ∧ u1 < 4294967296 ∧ v0 < 4294967296 ∧ v1 < 4294967296 ∧ Below w.heap.size w w'

def ForRel (X Y A B : Nat) (W : World) (x y u0 u1 u2 v0 v1 v2 o : Value) (wr : World) : Prop :=
  ∃ (nx ny a0 a1 a2 b0 b1 b2 : Nat) (odd : Bool), x = .int .u64 nx ∧ y = .int .u64 ny ∧ u0 = .int .u64 a0 ∧ u1 = .int .u64 a1 ∧ u2 = .int .u64 a2 ∧ v0 = .int .u64 b0 ∧ v1 = .int .u64 b1 ∧ v2 = .int .u64 b2 ∧ o = .bool odd ∧
    Leh.Inv X Y A B nx ny a0 a1 a2 b0 b1 b2 odd ∧ nx ≤ X ∧ a2 < 18446744073709551616 ∧ b2 < 18446744073709551616 ∧ Below W.heap.size W wr

set_option maxHeartbeats 2000000 in
set_option maxRecDepth 100000 in
theorem foresee_any (A B n : Nat) (ada adb : Option Addr) (ca cb : Nat) (w : World) (hn : (digs 4294967296 A).length = n) (hn1 : 2 ≤ n) (hn2 : n ≤ 1000000) (hBA : B ≤ A) (ha : RdA .u32 w ada (digs 4294967296 A)) (hb : RdA .u32 w adb (digs 4294967296 B)) :
    Calls Tryz.prog 134 #[.slice ada (digs 4294967296 A).length ca, .slice adb (digs 4294967296 B).length cb] w (ForPost A B w) := by
  obtain ⟨t, ht1, ht0, ht2, ht3, hA⟩ := top_limbA hn (by omega)
  have hup : 32 - bl t < 32 := by have := bl_eq_zero (n := t); omega
  have hbt : bl t ≤ 32 := bl_le_iff.2 (by rw [show (2 : Nat) ^ 32 = 4294967296 from rfl]; exact ht2)
  have hsub : 32 - (32 - bl t) = bl t := by omega
  have htl := bl_lt t
  have hBt : limbAt (digs 4294967296 B) ((n : Int) - 1) ≤ t := by
    unfold limbAt
    rw [if_neg (by omega), show ((n : Int) - 1).toNat = n - 1 by omega, digs_get (by decide)]
    refine Nat.le_trans (Nat.mod_le _ _) ?_
    rw [← ht3]
    exact Nat.div_le_div_right hBA
  have HLZ := Lib.hid fun W => lz32_any t W ht2
  have hkeep : ∀ (ad : Option Addr) (l : List Nat) (W : World), RdA .u32 w ad l → Below w.heap.size w W → RdA .u32 W ad l := fun ad l W h hW j hj => by
    obtain ⟨b, off, e1, e2, e3⟩ := h j hj
    exact ⟨b, off, e1, by have := hW.size; omega, (hW.cell (p := ⟨b, off + j, none⟩) e2).trans e3⟩
  have HF1 := Lib.hid fun W hW => first_any (32 - bl t) n A ada ca W hup hn1 hn2 hA (by rw [ht1, hsub]; exact htl) (hkeep _ _ W ha hW)
  have HF2 := Lib.hid fun W hW => first_any (32 - bl t) n B adb cb W hup hn1 hn2 (Nat.lt_of_le_of_lt hBA hA) (by rw [hsub]; exact Nat.lt_of_le_of_lt hBt htl) (hkeep _ _ W hb hW)
  have hXb : topV A n (32 - bl t) < 18446744073709551616 := topV_lt hn1 hup (by rw [ht3, hsub]; exact htl)
  have hYX : topV B n (32 - bl t) ≤ topV A n (32 - bl t) := topV_mono hBA
  have hpos : 0 < 2 ^ (32 - bl t) := Nat.pow_pos (by decide)
  have hdA := Nat.div_add_mod (A * 2 ^ (32 - bl t)) (4294967296 ^ (n - 2))
  have hdB := Nat.div_add_mod (B * 2 ^ (32 - bl t)) (4294967296 ^ (n - 2))
  have hmA := Nat.mod_lt (A * 2 ^ (32 - bl t)) (show 0 < 4294967296 ^ (n - 2) from Nat.pow_pos (by decide))
  have hmB := Nat.mod_lt (B * 2 ^ (32 - bl t)) (show 0 < 4294967296 ^ (n - 2) from Nat.pow_pos (by decide))
  have HSTEP : Hid (∀ x y u0 u1 u2 v0 v1 v2 odd, Leh.Inv (topV A n (32 - bl t)) (topV B n (32 - bl t)) (A * 2 ^ (32 - bl t)) (B * 2 ^ (32 - bl t)) x y u0 u1 u2 v0 v1 v2 odd → v2 ≤ y → v1 + v2 + y ≤ x →
      Leh.Inv (topV A n (32 - bl t)) (topV B n (32 - bl t)) (A * 2 ^ (32 - bl t)) (B * 2 ^ (32 - bl t)) y (x % y) u1 u2 (u1 + x / y * u2) v1 v2 (v1 + x / y * v2) (!odd) ∧ v1 + x / y * v2 ≤ topV A n (32 - bl t) ∧ u1 + x / y * u2 ≤ topV A n (32 - bl t)) := Lib.hid fun x y u0 u1 u2 v0 v1 v2 odd h c1 c2 =>
    Leh.Inv.step h (T := 4294967296 ^ (n - 2)) (by rw [Nat.mul_comm (topV A n (32 - bl t))]; exact hdA.symm) hmA (by rw [Nat.mul_comm (topV B n (32 - bl t))]; exact hdB.symm) hmB hXb c1 c2
  have hlast : ∃ b off, ada = some ⟨b, off, none⟩ ∧ w.cell? ⟨b, off + (n - 1), none⟩ = some (.int .u32 (t : Nat)) := by
    obtain ⟨b, off, e1, _, e3⟩ := ha (n - 1) (by omega)
    refine ⟨b, off, e1, ?_⟩
    rw [e3, ← ht1]
    unfold limbAt
    rw [if_neg (by omega), show ((n : Int) - 1).toNat = n - 1 by omega]
  have hbw : ∀ j, j < n → ∃ b off, ada = some ⟨b, off, none⟩ ∧ b < w.heap.size := fun j hj => by
    obtain ⟨b, off, e1, e2, _⟩ := ha j (by omega)
    exact ⟨b, off, e1, e2⟩
  obtain ⟨bb, ob, hada, hcl⟩ := hlast
  obtain ⟨bb', ob', hada', hbw'⟩ := hbw 0 (by omega)
  rw [hada] at hada'
  obtain ⟨rfl, rfl⟩ : bb = bb' ∧ ob = ob' := by cases hada'; exact ⟨rfl, rfl⟩
  subst hada
  rw [hn] at HF1 ⊢
  generalize (digs 4294967296 B).length = nb at *
  generalize topV A n (32 - bl t) = X at *
  generalize topV B n (32 - bl t) = Y at *
  generalize (2 : Nat) ^ (32 - bl t) = s at *
  generalize 32 - bl t = up at *
  clear hn hA ht1 ht0 ht2 ht3 hbt hsub htl hBt hdA hdB hmA hmB ha hb hkeep hbw hada' hBA
  obtain ⟨k, rfl⟩ : ∃ k, n = k + 1 := ⟨n - 1, by omega⟩
  rw [show k + 1 - 1 = k by omega] at hcl
  go_enter Tryz.func134, Tryz.ntmps134
  go_wp2_with fail
  refine (HLZ.out _).mono ?_
  rintro e w' ⟨rfl, rfl⟩
  go_wp2_with fail
  refine (HF1.out _ ((Below.refl _ _).alloc (Nat.le_refl _) _)).mono ?_
  rintro e w1 ⟨rfl, hb1⟩
  have HB1 := Lib.hid (((Below.refl w.heap.size w).alloc (Nat.le_refl _) (.cells #[.int .u32 0, .int .u32 0, .int .u32 0, .int .u32 0, .bool false] 170)).trans (hb1.mono (by simp)))
  have HP1 := Lib.hid hb1
  clear hb1
  go_wp2_with fail
  refine (HF2.out _ HB1.out).mono ?_
  rintro e w2 ⟨rfl, hb2⟩
  have HB2 := Lib.hid (HP1.out.trans (hb2.mono HP1.out.size))
  clear hb2 HP1
  go_wp2
  go_loopw [6, 7, 8, 9, 10, 11, 12, 13, 14] (ForRel X Y (A * s) (B * s) (w.alloc (.cells #[.int .u32 0, .int .u32 0, .int .u32 0, .int .u32 0, .bool false] 170))) (fun _ y _ _ _ _ _ _ _ _ => (intOf y).toNat)
  case atStart => exact ⟨X, Y, 0, 1, 0, 0, 0, 1, true, rfl, rfl, rfl, rfl, rfl, rfl, rfl, rfl, rfl, Leh.Inv.start hYX, Nat.le_refl _, by decide, by decide, HB2.out⟩
  case round =>
    obtain ⟨x, y, a0, a1, a2, b0, b1, b2, odd, rfl, rfl, rfl, rfl, rfl, rfl, rfl, rfl, rfl, hinv, hxX, ha2, hb2, hbel⟩ := hrel
    have hbd := hinv.bd
    have hyx := hinv.le3
    have hb5 := hinv.le5
    have HI := Lib.hid hinv
    have HBEL := Lib.hid hbel
    have HBD := Lib.hid hbd
    obtain ⟨hd0, hd1, hd2, hd3⟩ := hbd
    clear hinv hbel
    by_cases c1 : b2 ≤ y
    · have hsm : b2 < 4294967296 := small_of (a := b2) (x := x) (by omega) (by have := HI.out.cont; omega) hXb
      have c1' : (b2 : Int) ≤ (y : Int) := by omega
      have hyx' : (y : Int) ≤ (x : Int) := by omega
      by_cases c2 : b1 + b2 + y ≤ x
      · have c2' : (b1 : Int) + (b2 : Int) ≤ (x : Int) - (y : Int) := by omega
        obtain ⟨hst, hV, hU⟩ := HSTEP.out _ _ _ _ _ _ _ _ _ HI.out c1 c2
        obtain ⟨q, hq⟩ : ∃ q, q = x / y := ⟨_, rfl⟩
        obtain ⟨r, hr⟩ : ∃ r, r = x % y := ⟨_, rfl⟩
        rw [← hq, ← hr] at hst
        rw [← hq] at hV hU
        have hqi : (x : Int) / (y : Int) = (q : Int) := by rw [hq, Int.natCast_ediv]
        have hri : (x : Int) % (y : Int) = (r : Int) := by rw [hr, Int.natCast_emod]
        have hqb : q < 18446744073709551616 := by rw [hq]; exact Nat.lt_of_le_of_lt (Nat.div_le_self _ _) (by omega)
        have hrb : r < y := by rw [hr]; exact Nat.mod_lt _ (by omega)
        obtain ⟨pu, hpu⟩ : ∃ p, p = q * a2 := ⟨_, rfl⟩
        obtain ⟨pv, hpv⟩ : ∃ p, p = q * b2 := ⟨_, rfl⟩
        have hpui : (q : Int) * (a2 : Int) = (pu : Int) := by rw [hpu, Int.natCast_mul]
        have hpvi : (q : Int) * (b2 : Int) = (pv : Int) := by rw [hpv, Int.natCast_mul]
        rw [← hpu] at hst hU
        rw [← hpv] at hst hV
        have HST := Lib.hid hst
        have hy0 : (0 : Int) < (y : Int) := by omega
        clear hst hq hr hpu hpv c1 c2
        go_wp2_with fail
        go_quiet (fail)
        go_wp2
        go_roundw
        case rel =>
          refine ⟨y, r, a1, a2, a1 + pu, b1, b2, b1 + pv, !odd, rfl, by rw [hri], rfl, rfl, rfl, rfl, rfl, rfl, rfl, HST.out, by omega, by omega, by omega, below_drewN' HBEL.out _⟩
        case measure => simp [intOf]; omega
      · have c2' : decide ((b1 : Int) + (b2 : Int) ≤ (x : Int) - (y : Int)) = false := decide_eq_false (by omega)
        have w0 : IntKind.u32.wrap (a0 : Int) = (a0 : Int) := by rw [IntKind.wrap_u32']; omega
        have w1 : IntKind.u32.wrap (a1 : Int) = (a1 : Int) := by rw [IntKind.wrap_u32']; omega
        have w2' : IntKind.u32.wrap (b0 : Int) = (b0 : Int) := by rw [IntKind.wrap_u32']; omega
        have w3 : IntKind.u32.wrap (b1 : Int) = (b1 : Int) := by rw [IntKind.wrap_u32']; omega
        obtain ⟨⟨g0, g1, g2, g3, g4⟩, hf, hbl⟩ := box5 HBEL.out
        have f0 := hf 0
        have f1 := hf 1
        have f2 := hf 2
        have f3 := hf 3
        have f4 := hf 4
        have HBL := Lib.hid hbl
        clear hf hbl
        go_wp2
        refine bodyPost_ret (v := .agg #[.int .u32 a0, .int .u32 a1, .int .u32 b0, .int .u32 b1, .bool odd]) (by simp [results, Tryz.results134, go_sem, g0, g1, g2, g3, g4]) rfl ⟨s, a0, a1, b0, b1, odd, hpos, rfl, HI.out.out, hd0, hd1, hd2, hd3, ?_⟩
        exact ((((HBL.out.setCell (Nat.le_refl _) _).setCell (Nat.le_refl _) _).setCell (Nat.le_refl _) _).setCell (Nat.le_refl _) _).setCell (Nat.le_refl _) _
    · have c1' : decide ((b2 : Int) ≤ (y : Int)) = false := decide_eq_false (by omega)
      have w0 : IntKind.u32.wrap (a0 : Int) = (a0 : Int) := by rw [IntKind.wrap_u32']; omega
      have w1 : IntKind.u32.wrap (a1 : Int) = (a1 : Int) := by rw [IntKind.wrap_u32']; omega
      have w2' : IntKind.u32.wrap (b0 : Int) = (b0 : Int) := by rw [IntKind.wrap_u32']; omega
      have w3 : IntKind.u32.wrap (b1 : Int) = (b1 : Int) := by rw [IntKind.wrap_u32']; omega
      obtain ⟨⟨g0, g1, g2, g3, g4⟩, hf, hbl⟩ := box5 HBEL.out
      have f0 := hf 0
      have f1 := hf 1
      have f2 := hf 2
      have f3 := hf 3
      have f4 := hf 4
      have HBL := Lib.hid hbl
      clear hf hbl
      go_wp2
      refine bodyPost_ret (v := .agg #[.int .u32 a0, .int .u32 a1, .int .u32 b0, .int .u32 b1, .bool odd]) (by simp [results, Tryz.results134, go_sem, g0, g1, g2, g3, g4]) rfl ⟨s, a0, a1, b0, b1, odd, hpos, rfl, HI.out.out, hd0, hd1, hd2, hd3, ?_⟩
      exact ((((HBL.out.setCell (Nat.le_refl _) _).setCell (Nat.le_refl _) _).setCell (Nat.le_refl _) _).setCell (Nat.le_refl _) _).setCell (Nat.le_refl _) _

end
end Go.Proofs.YtiegkjfpdiohkaaGreat
