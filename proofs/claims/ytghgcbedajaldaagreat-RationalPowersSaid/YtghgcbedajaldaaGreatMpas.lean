/-  Gc3 Gc4  -/
import Derived.Test.YtghgcbedajaldaaGreatMpar
/- Gcd: foresee. -/
namespace Go.Proofs.YtghgcbedajaldaaGreat
section
open Go.RowKit Digs Leh
theorem top_limbA {A n : Nat} (hn : (digs 4294967296 A).length = n) (h0 : 0 < n) : ∃ t, limbAt (digs 4294967296 A) ((n : Int) - 1) = t ∧ t ≠ 0 ∧ t < 4294967296 ∧ A / 4294967296 ^ (n - 1) = t ∧ A < 4294967296 ^ n := by
 have hA : A < 4294967296 ^ n := by rw [← hn]; exact digs_lt_pow (by decide) A
 have hA0 : A ≠ 0 := by rintro rfl; rw [digs_zero] at hn; simp at hn; omega
 obtain ⟨m, rfl⟩ : ∃ m, n = m + 1 := ⟨n - 1, by omega⟩
 have hq : A / 4294967296 ^ m < 4294967296 := by
  rw [Nat.div_lt_iff_lt_mul (Nat.pow_pos (by decide)), Nat.mul_comm, ← Nat.pow_succ]; exact hA
 have hq0 : A / 4294967296 ^ m ≠ 0 := by
  intro h
  rcases Nat.div_eq_zero_iff.1 h with h1 | h1
  ·have := Nat.pow_pos (n := m) (show 0 < 4294967296 by decide); omega
  ·have := digs_length_le (b := 4294967296) (by decide) A m h1
   omega
 refine ⟨A / 4294967296 ^ m, ?_, hq0, hq, rfl, hA⟩
 unfold limbAt
 rw [if_neg (by omega), show (((m + 1 : Nat) : Int) - 1).toNat = m by omega, digs_get (by decide), Nat.mod_eq_of_lt hq]
theorem topV_lt {A n up : Nat} (hn : 2 ≤ n) (hup : up < 32) (ht : A / 4294967296 ^ (n - 1) < 2 ^ (32 - up)) : topV A n up < 18446744073709551616 := by
 obtain ⟨m, rfl⟩ : ∃ m, n = m + 2 := ⟨n - 2, by omega⟩
 unfold topV
 rw [show m + 2 - 2 = m by omega, Nat.div_lt_iff_lt_mul (Nat.pow_pos (by decide))]
 rw [show m + 2 - 1 = m + 1 by omega, Nat.div_lt_iff_lt_mul (Nat.pow_pos (by decide))] at ht
 have p2 : (2 : Nat) ^ (32 - up) * 2 ^ up = 4294967296 := by rw [← Nat.pow_add, show 32 - up + up = 32 by omega]
 have h1 : A * 2 ^ up < 2 ^ (32 - up) * 4294967296 ^ (m + 1) * 2 ^ up := Nat.mul_lt_mul_of_pos_right ht (Nat.pow_pos (by decide))
 have h2 : 2 ^ (32 - up) * 4294967296 ^ (m + 1) * 2 ^ up = 2 ^ (32 - up) * 2 ^ up * (4294967296 * 4294967296 ^ m) := by rw [Nat.pow_succ]; grind
 rw [h2, p2, ← Nat.mul_assoc] at h1
 exact h1
theorem topV_mono {A B n up : Nat} (h : B ≤ A) : topV B n up ≤ topV A n up := Nat.div_le_div_right (Nat.mul_le_mul_right _ h)
theorem box5 {w w2 : World} {a b c d e : Value} {t : TypeId} (h : Below (w.alloc (.cells #[a, b, c, d, e] t)).heap.size (w.alloc (.cells #[a, b, c, d, e] t)) w2) :
  (w2.cell? ⟨w.heap.size, 0, none⟩ = some a ∧ w2.cell? ⟨w.heap.size, 1, none⟩ = some b ∧ w2.cell? ⟨w.heap.size, 2, none⟩ = some c ∧ w2.cell? ⟨w.heap.size, 3, none⟩ = some d ∧ w2.cell? ⟨w.heap.size, 4, none⟩ = some e) ∧
  (∀ j, w2.frozen? ⟨w.heap.size, j, none⟩ = false) ∧ Below w.heap.size w w2 := by
 refine ⟨⟨?_, ?_, ?_, ?_, ?_⟩, fun j => ?_, ((Below.refl _ _).alloc (Nat.le_refl _) _).trans (h.mono (by simp))⟩
 ·rw [h.cell (p := ⟨w.heap.size, 0, none⟩) (by simp), World.cell?_alloc_at _ _ _ _ rfl]; rfl
 ·rw [h.cell (p := ⟨w.heap.size, 1, none⟩) (by simp), World.cell?_alloc_at _ _ _ _ rfl]; rfl
 ·rw [h.cell (p := ⟨w.heap.size, 2, none⟩) (by simp), World.cell?_alloc_at _ _ _ _ rfl]; rfl
 ·rw [h.cell (p := ⟨w.heap.size, 3, none⟩) (by simp), World.cell?_alloc_at _ _ _ _ rfl]; rfl
 ·rw [h.cell (p := ⟨w.heap.size, 4, none⟩) (by simp), World.cell?_alloc_at _ _ _ _ rfl]; rfl
 ·rw [h.frozen (p := ⟨w.heap.size, j, none⟩) (by simp), World.frozen?_alloc_at _ _ _ _ rfl]
def ForPost (A B : Nat) (w : World) (e : Ending) (w' : World) : Prop :=
 ∃ (s u0 u1 v0 v1 : Nat) (odd : Bool), 0 < s ∧ e = .returned (.agg #[.int .u32 u0, .int .u32 u1, .int .u32 v0, .int .u32 v1, .bool odd]) ∧ (v0 ≠ 0 → Out (A * s) (B * s) u0 u1 v0 v1 odd) ∧ u0 < 4294967296 ∧ u1 < 4294967296 ∧ v0 < 4294967296 ∧ v1 < 4294967296 ∧ Below w.heap.size w w'
def ForRel (X Y A B : Nat) (W : World) (x y u0 u1 u2 v0 v1 v2 o : Value) (wr : World) : Prop :=
 ∃ (nx ny a0 a1 a2 b0 b1 b2 : Nat) (odd : Bool), x = .int .u64 nx ∧ y = .int .u64 ny ∧ u0 = .int .u64 a0 ∧ u1 = .int .u64 a1 ∧ u2 = .int .u64 a2 ∧ v0 = .int .u64 b0 ∧ v1 = .int .u64 b1 ∧ v2 = .int .u64 b2 ∧ o = .bool odd ∧
  Leh.Inv X Y A B nx ny a0 a1 a2 b0 b1 b2 odd ∧ nx ≤ X ∧ a2 < 18446744073709551616 ∧ b2 < 18446744073709551616 ∧ Below W.heap.size W wr
set_option maxHeartbeats 2000000 in
set_option maxRecDepth 100000 in
theorem foresee_any (A B n : Nat) (ada adb : Option Addr) (ca cb : Nat) (w : World) (hn : (digs 4294967296 A).length = n) (hn1 : 2 ≤ n) (hn2 : n ≤ 1000000) (hBA : B ≤ A) (ha : RdA .u32 w ada (digs 4294967296 A)) (hb : RdA .u32 w adb (digs 4294967296 B)) :
  Calls Tryz.prog 134 #[.slice ada (digs 4294967296 A).length ca, .slice adb (digs 4294967296 B).length cb] w (ForPost A B w) := by
 obtain ⟨t, ht1, ht0, ht2, ht3, hA⟩ := top_limbA hn (by omega)
 have hup : 32 - bl t < 32 := by have := bl_eq_zero (n := t); omega
 have hbt : bl t ≤ 32 := bl_le_iff.2 (by rw [show (2 : Nat) ^ 32 = 4294967296 from rfl]; exact ht2)
 have hsub : 32 - (32 - bl t) = bl t := by omega
 have htl := bl_lt t
 have hBt : limbAt (digs 4294967296 B) ((n : Int) - 1) ≤ t := by
  unfold limbAt
  rw [if_neg (by omega), show ((n : Int) - 1).toNat = n - 1 by omega, digs_get (by decide)]
  refine Nat.le_trans (Nat.mod_le _ _) ?_
  rw [← ht3]
  exact Nat.div_le_div_right hBA
 have HLZ := Lib.hid fun W => lz32_any t W ht2
 have hkeep : ∀ (ad : Option Addr) (l : List Nat) (W : World), RdA .u32 w ad l → Below w.heap.size w W → RdA .u32 W ad l := fun ad l W h hW j hj => by
  obtain ⟨b, off, e1, e2, e3⟩ := h j hj
  exact ⟨b, off, e1, by have := hW.size; omega, (hW.cell (p := ⟨b, off + j, none⟩) e2).trans e3⟩
 have HF1 := Lib.hid fun W hW => first_any (32 - bl t) n A ada ca W hup hn1 hn2 hA (by rw [ht1, hsub]; exact htl) (hkeep _ _ W ha hW)
 have HF2 := Lib.hid fun W hW => first_any (32 - bl t) n B adb cb W hup hn1 hn2 (Nat.lt_of_le_of_lt hBA hA) (by rw [hsub]; exact Nat.lt_of_le_of_lt hBt htl) (hkeep _ _ W hb hW)
 have hXb : topV A n (32 - bl t) < 18446744073709551616 := topV_lt hn1 hup (by rw [ht3, hsub]; exact htl)
 have hYX : topV B n (32 - bl t) ≤ topV A n (32 - bl t) := topV_mono hBA
 have hpos : 0 < 2 ^ (32 - bl t) := Nat.pow_pos (by decide)
 have hdA := Nat.div_add_mod (A * 2 ^ (32 - bl t)) (4294967296 ^ (n - 2))
 have hdB := Nat.div_add_mod (B * 2 ^ (32 - bl t)) (4294967296 ^ (n - 2))
 have hmA := Nat.mod_lt (A * 2 ^ (32 - bl t)) (show 0 < 4294967296 ^ (n - 2) from Nat.pow_pos (by decide))
 have hmB := Nat.mod_lt (B * 2 ^ (32 - bl t)) (show 0 < 4294967296 ^ (n - 2) from Nat.pow_pos (by decide))
 have HSTEP : Hid (∀ x y u0 u1 u2 v0 v1 v2 odd, Leh.Inv (topV A n (32 - bl t)) (topV B n (32 - bl t)) (A * 2 ^ (32 - bl t)) (B * 2 ^ (32 - bl t)) x y u0 u1 u2 v0 v1 v2 odd → v2 ≤ y → v1 + v2 + y ≤ x →
   Leh.Inv (topV A n (32 - bl t)) (topV B n (32 - bl t)) (A * 2 ^ (32 - bl t)) (B * 2 ^ (32 - bl t)) y (x % y) u1 u2 (u1 + x / y * u2) v1 v2 (v1 + x / y * v2) (!odd) ∧ v1 + x / y * v2 ≤ topV A n (32 - bl t) ∧ u1 + x / y * u2 ≤ topV A n (32 - bl t)) := Lib.hid fun x y u0 u1 u2 v0 v1 v2 odd h c1 c2 =>
  Leh.Inv.step h (T := 4294967296 ^ (n - 2)) (by rw [Nat.mul_comm (topV A n (32 - bl t))]; exact hdA.symm) hmA (by rw [Nat.mul_comm (topV B n (32 - bl t))]; exact hdB.symm) hmB hXb c1 c2
 have hlast : ∃ b off, ada = some ⟨b, off, none⟩ ∧ w.cell? ⟨b, off + (n - 1), none⟩ = some (.int .u32 (t : Nat)) := by
  obtain ⟨b, off, e1, _, e3⟩ := ha (n - 1) (by omega)
  refine ⟨b, off, e1, ?_⟩
  rw [e3, ← ht1]
  unfold limbAt
  rw [if_neg (by omega), show ((n : Int) - 1).toNat = n - 1 by omega]
 have hbw : ∀ j, j < n → ∃ b off, ada = some ⟨b, off, none⟩ ∧ b < w.heap.size := fun j hj => by
  obtain ⟨b, off, e1, e2, _⟩ := ha j (by omega)
  exact ⟨b, off, e1, e2⟩
 obtain ⟨bb, ob, hada, hcl⟩ := hlast
 obtain ⟨bb', ob', hada', hbw'⟩ := hbw 0 (by omega)
 rw [hada] at hada'
 obtain ⟨rfl, rfl⟩ : bb = bb' ∧ ob = ob' := by cases hada'; exact ⟨rfl, rfl⟩
 subst hada
 rw [hn] at HF1 ⊢
 generalize (digs 4294967296 B).length = nb at *
 generalize topV A n (32 - bl t) = X at *
 generalize topV B n (32 - bl t) = Y at *
 generalize (2 : Nat) ^ (32 - bl t) = s at *
 generalize 32 - bl t = up at *
 clear hn hA ht1 ht0 ht2 ht3 hbt hsub htl hBt hdA hdB hmA hmB ha hb hkeep hbw hada' hBA
 obtain ⟨k, rfl⟩ : ∃ k, n = k + 1 := ⟨n - 1, by omega⟩
 rw [show k + 1 - 1 = k by omega] at hcl
 go_enter Tryz.func134, Tryz.ntmps134
 go_wp2_with fail
 refine (HLZ.out _).mono ?_
 rintro e w' ⟨rfl, rfl⟩
 go_wp2_with fail
 refine (HF1.out _ ((Below.refl _ _).alloc (Nat.le_refl _) _)).mono ?_
 rintro e w1 ⟨rfl, hb1⟩
 have HB1 := Lib.hid (((Below.refl w.heap.size w).alloc (Nat.le_refl _) (.cells #[.int .u32 0, .int .u32 0, .int .u32 0, .int .u32 0, .bool false] 170)).trans (hb1.mono (by simp)))
 have HP1 := Lib.hid hb1
 clear hb1
 go_wp2_with fail
 refine (HF2.out _ HB1.out).mono ?_
 rintro e w2 ⟨rfl, hb2⟩
 have HB2 := Lib.hid (HP1.out.trans (hb2.mono HP1.out.size))
 clear hb2 HP1
 go_wp2
 go_loopw [6, 7, 8, 9, 10, 11, 12, 13, 14] (ForRel X Y (A * s) (B * s) (w.alloc (.cells #[.int .u32 0, .int .u32 0, .int .u32 0, .int .u32 0, .bool false] 170))) (fun _ y _ _ _ _ _ _ _ _ => (intOf y).toNat)
 case atStart => exact ⟨X, Y, 0, 1, 0, 0, 0, 1, true, rfl, rfl, rfl, rfl, rfl, rfl, rfl, rfl, rfl, Leh.Inv.start hYX, Nat.le_refl _, by decide, by decide, HB2.out⟩
 case round =>
  obtain ⟨x, y, a0, a1, a2, b0, b1, b2, odd, rfl, rfl, rfl, rfl, rfl, rfl, rfl, rfl, rfl, hinv, hxX, ha2, hb2, hbel⟩ := hrel
  have hbd := hinv.bd
  have hyx := hinv.le3
  have hb5 := hinv.le5
  have HI := Lib.hid hinv
  have HBEL := Lib.hid hbel
  have HBD := Lib.hid hbd
  obtain ⟨hd0, hd1, hd2, hd3⟩ := hbd
  clear hinv hbel
  by_cases c1 : b2 ≤ y
  ·have hsm : b2 < 4294967296 := small_of (a := b2) (x := x) (by omega) (by have := HI.out.cont; omega) hXb
   have c1' : (b2 : Int) ≤ (y : Int) := by omega
   have hyx' : (y : Int) ≤ (x : Int) := by omega
   by_cases c2 : b1 + b2 + y ≤ x
   ·have c2' : (b1 : Int) + (b2 : Int) ≤ (x : Int) - (y : Int) := by omega
    obtain ⟨hst, hV, hU⟩ := HSTEP.out _ _ _ _ _ _ _ _ _ HI.out c1 c2
    obtain ⟨q, hq⟩ : ∃ q, q = x / y := ⟨_, rfl⟩
    obtain ⟨r, hr⟩ : ∃ r, r = x % y := ⟨_, rfl⟩
    rw [← hq, ← hr] at hst
    rw [← hq] at hV hU
    have hqi : (x : Int) / (y : Int) = (q : Int) := by rw [hq, Int.natCast_ediv]
    have hri : (x : Int) % (y : Int) = (r : Int) := by rw [hr, Int.natCast_emod]
    have hqb : q < 18446744073709551616 := by rw [hq]; exact Nat.lt_of_le_of_lt (Nat.div_le_self _ _) (by omega)
    have hrb : r < y := by rw [hr]; exact Nat.mod_lt _ (by omega)
    obtain ⟨pu, hpu⟩ : ∃ p, p = q * a2 := ⟨_, rfl⟩
    obtain ⟨pv, hpv⟩ : ∃ p, p = q * b2 := ⟨_, rfl⟩
    have hpui : (q : Int) * (a2 : Int) = (pu : Int) := by rw [hpu, Int.natCast_mul]
    have hpvi : (q : Int) * (b2 : Int) = (pv : Int) := by rw [hpv, Int.natCast_mul]
    rw [← hpu] at hst hU
    rw [← hpv] at hst hV
    have HST := Lib.hid hst
    have hy0 : (0 : Int) < (y : Int) := by omega
    clear hst hq hr hpu hpv c1 c2
    go_wp2_with fail
    go_quiet (fail)
    go_wp2
    go_roundw
    case rel =>
     refine ⟨y, r, a1, a2, a1 + pu, b1, b2, b1 + pv, !odd, rfl, by rw [hri], rfl, rfl, rfl, rfl, rfl, rfl, rfl, HST.out, by omega, by omega, by omega, below_drewN' HBEL.out _⟩
    case measure => simp [intOf]; omega
   ·have c2' : decide ((b1 : Int) + (b2 : Int) ≤ (x : Int) - (y : Int)) = false := decide_eq_false (by omega)
    have w0 : IntKind.u32.wrap (a0 : Int) = (a0 : Int) := by rw [IntKind.wrap_u32']; omega
    have w1 : IntKind.u32.wrap (a1 : Int) = (a1 : Int) := by rw [IntKind.wrap_u32']; omega
    have w2' : IntKind.u32.wrap (b0 : Int) = (b0 : Int) := by rw [IntKind.wrap_u32']; omega
    have w3 : IntKind.u32.wrap (b1 : Int) = (b1 : Int) := by rw [IntKind.wrap_u32']; omega
    obtain ⟨⟨g0, g1, g2, g3, g4⟩, hf, hbl⟩ := box5 HBEL.out
    have f0 := hf 0
    have f1 := hf 1
    have f2 := hf 2
    have f3 := hf 3
    have f4 := hf 4
    have HBL := Lib.hid hbl
    clear hf hbl
    go_wp2
    refine bodyPost_ret (v := .agg #[.int .u32 a0, .int .u32 a1, .int .u32 b0, .int .u32 b1, .bool odd]) (by simp [results, Tryz.results134, go_sem, g0, g1, g2, g3, g4]) rfl ⟨s, a0, a1, b0, b1, odd, hpos, rfl, HI.out.out, hd0, hd1, hd2, hd3, ?_⟩
    exact ((((HBL.out.setCell (Nat.le_refl _) _).setCell (Nat.le_refl _) _).setCell (Nat.le_refl _) _).setCell (Nat.le_refl _) _).setCell (Nat.le_refl _) _
  ·have c1' : decide ((b2 : Int) ≤ (y : Int)) = false := decide_eq_false (by omega)
   have w0 : IntKind.u32.wrap (a0 : Int) = (a0 : Int) := by rw [IntKind.wrap_u32']; omega
   have w1 : IntKind.u32.wrap (a1 : Int) = (a1 : Int) := by rw [IntKind.wrap_u32']; omega
   have w2' : IntKind.u32.wrap (b0 : Int) = (b0 : Int) := by rw [IntKind.wrap_u32']; omega
   have w3 : IntKind.u32.wrap (b1 : Int) = (b1 : Int) := by rw [IntKind.wrap_u32']; omega
   obtain ⟨⟨g0, g1, g2, g3, g4⟩, hf, hbl⟩ := box5 HBEL.out
   have f0 := hf 0
   have f1 := hf 1
   have f2 := hf 2
   have f3 := hf 3
   have f4 := hf 4
   have HBL := Lib.hid hbl
   clear hf hbl
   go_wp2
   refine bodyPost_ret (v := .agg #[.int .u32 a0, .int .u32 a1, .int .u32 b0, .int .u32 b1, .bool odd]) (by simp [results, Tryz.results134, go_sem, g0, g1, g2, g3, g4]) rfl ⟨s, a0, a1, b0, b1, odd, hpos, rfl, HI.out.out, hd0, hd1, hd2, hd3, ?_⟩
   exact ((((HBL.out.setCell (Nat.le_refl _) _).setCell (Nat.le_refl _) _).setCell (Nat.le_refl _) _).setCell (Nat.le_refl _) _).setCell (Nat.le_refl _) _
end
end Go.Proofs.YtghgcbedajaldaaGreat
/- Gcd: mix. -/
namespace Go.Proofs.YtghgcbedajaldaaGreat
section
open Go.RowKit Digs
theorem vl_take_getD (b : Nat) (l : List Nat) (k : Nat) : vl b (l.take (k + 1)) = vl b (l.take k) + b ^ k * (l[k]?.getD 0) := by
 rcases Nat.lt_or_ge k l.length with h | h
 ·exact vl_take_succ b l k h
 ·rw [vl_take_le b l k h, List.getElem?_eq_none h, Option.getD_none, Nat.mul_zero, Nat.add_zero]
theorem mix_step (E u v Ak Bk L P M br a b P' M' br' p0 m0 x : Nat) (h : u * Ak + E * (M + br) = v * Bk + L + E * P) (hP : P + a * u = 4294967296 * P' + p0) (hM : M + b * v = 4294967296 * M' + m0) (hx : p0 + 4294967296 * br' = x + m0 + br) :
  u * (Ak + E * a) + E * 4294967296 * (M' + br') = v * (Bk + E * b) + (L + E * x) + E * 4294967296 * P' := by
 have e1 : E * (P + a * u) = E * (4294967296 * P' + p0) := by rw [hP]
 have e2 : E * (M + b * v) = E * (4294967296 * M' + m0) := by rw [hM]
 have e3 : E * (p0 + 4294967296 * br') = E * (x + m0 + br) := by rw [hx]
 grind
theorem vl_set_zero (b : Nat) (p : List Nat) (k x : Nat) (hk : k < p.length) : vl b ((p.set k x).take (k + 1)) = vl b (p.take k) + b ^ k * x := by
 rw [vl_take_succ b _ k (by rw [List.length_set]; exact hk), List.take_set, List.set_eq_of_length_le (by rw [List.length_take]; omega), List.getElem?_set_self hk, Option.getD_some]
def MixRel (la lb : List Nat) (u v N : Nat) (w : World) (pl mi bo i : Value) (wr : World) : Prop :=
 ∃ (k P M br : Nat) (p : List Nat), k ≤ N ∧ i = .int .i64 k ∧ pl = .int .u64 P ∧ mi = .int .u64 M ∧ bo = .int .u64 br ∧ br ≤ 1 ∧ P ≤ u ∧ M ≤ v ∧ Row wr w.heap.size w.heap.size N p ∧ (∀ x ∈ p, x < 4294967296) ∧
  u * vl 4294967296 (la.take k) + 4294967296 ^ k * (M + br) = v * vl 4294967296 (lb.take k) + vl 4294967296 (p.take k) + 4294967296 ^ k * P ∧ Below w.heap.size w wr
theorem mix_end (N A B u v L P M br : Nat) (h : u * A + 4294967296 ^ N * (M + br) = v * B + L + 4294967296 ^ N * P) (hge : v * B ≤ u * A) (hlt : u * A - v * B < 4294967296 ^ N) (hL : L < 4294967296 ^ N) : L = u * A - v * B := by
 obtain ⟨D, hD⟩ : ∃ D, D = u * A - v * B := ⟨_, rfl⟩
 rw [← hD] at hlt ⊢
 have h1 : D + 4294967296 ^ N * (M + br) = L + 4294967296 ^ N * P := by omega
 have h2 := congrArg (· % 4294967296 ^ N) h1
 simp only [Nat.add_mul_mod_self_left] at h2
 rw [Nat.mod_eq_of_lt hlt, Nat.mod_eq_of_lt hL] at h2
 exact h2.symm
theorem run_maxG (a b n : Nat) (hn : n = max a b) (w : World) (ts : Array TypeId) (t : TypeId) : (Builtin.max_ ts t #[.int .i64 (a : Int), .int .i64 (b : Int)]).run Tryz.prog w = .ok (.int .i64 (n : Int)) w := by
 have e : (if (b : Int) > (a : Int) then (b : Int) else (a : Int)) = (n : Int) := by split <;> omega
 have h : (Builtin.max_ ts t #[.int .i64 (a : Int), .int .i64 (b : Int)]).run Tryz.prog w = .ok (.int .i64 (if (b : Int) > (a : Int) then (b : Int) else (a : Int))) w := rfl
 rw [h, e]
theorem run_maxG' (a b n : Nat) (hn : n = max a b) : ∀ (w : World) (ts : Array TypeId) (t : TypeId), (Builtin.max_ ts t #[.int .i64 (a : Int), .int .i64 (b : Int)]).run Tryz.prog w = .ok (.int .i64 (n : Int)) w := run_maxG a b n hn
set_option maxHeartbeats 4000000 in
set_option maxRecDepth 100000 in
theorem mix_any (A B u v N : Nat) (ada adb : Option Addr) (ca cb : Nat) (w : World) (hu : u < 4294967296) (hv : v < 4294967296) (hN : N = max (digs 4294967296 A).length (digs 4294967296 B).length) (hN2 : N ≤ 1000000)
  (ha : RdA .u32 w ada (digs 4294967296 A)) (hb : RdA .u32 w adb (digs 4294967296 B)) (hge : v * B ≤ u * A) (hlt : u * A - v * B < 4294967296 ^ N) :
  Calls Tryz.prog 171 #[.slice ada (digs 4294967296 A).length ca, .int .u32 u, .slice adb (digs 4294967296 B).length cb, .int .u32 v] w (OwPost w (digs 4294967296 (u * A - v * B))) := by
 have HCA := Lib.hid ha
 have HCB := Lib.hid hb
 have HEND := Lib.hid fun L P M br h hL => mix_end N A B u v L P M br h hge hlt hL
 have HLA := Lib.hid (digs_lt (b := 4294967296) (by decide) A)
 have HLB := Lib.hid (digs_lt (b := 4294967296) (by decide) B)
 have HVA : Hid (vl 4294967296 ((digs 4294967296 A).take N) = A) := Lib.hid (by rw [List.take_of_length_le (by omega), vl_digs (by decide)])
 have HVB : Hid (vl 4294967296 ((digs 4294967296 B).take N) = B) := Lib.hid (by rw [List.take_of_length_le (by omega), vl_digs (by decide)])
 have HR : Hid (digs 4294967296 (u * A - v * B) = digs 4294967296 (u * A - v * B)) := Lib.hid rfl
 generalize hR : u * A - v * B = R at *
 generalize digs 4294967296 A = la at *
 generalize digs 4294967296 B = lb at *
 clear ha hb hge hlt HR hR
 obtain ⟨na, hna⟩ : ∃ n, n = la.length := ⟨_, rfl⟩
 obtain ⟨nb, hnb⟩ : ∃ n, n = lb.length := ⟨_, rfl⟩
 rw [← hna, ← hnb] at hN ⊢
 have HNA := Lib.hid hna
 have HNB := Lib.hid hnb
 have hmax := run_maxG' na nb N hN
 have hmx : max na nb = N := hN.symm
 clear hN
 clear hna hnb
 obtain ⟨i0, hi, hz0, hz1, hz2⟩ := info_parts Tryz.infoU32
 go_enter Tryz.func171, Tryz.ntmps171
 go_wp2_with (at_make; refine wpList_make_full _ rfl _ _ 22 rfl w.heap.size 137 i0 (.int .u32 0) 1 Tryz.underlying22 hi hz0 hz1 _ _ _ _ N rfl rfl (by omega) (by omega) ?b2 ?b3 (Nat.le_refl _) ?_)
 case b2 => rw [hz2]; omega
 case b3 => unfold maxLen; omega
 intro w0 hown0 hgrow0
 have hrow0 : Row w0 w.heap.size w.heap.size N (List.replicate N 0) := by
  refine ⟨by simp, ?_⟩
  rw [uw_zeros] at hown0
  exact hown0
 have HB0 := Lib.hid ((Below.refl w.heap.size w).grown hgrow0 (Nat.le_refl _) (fun k h => by cases h))
 have HR0 := Lib.hid hrow0
 clear hown0 hgrow0 hrow0 hmax hmx
 go_wp2
 go_loopw [10, 11, 12, 23] (MixRel la lb u v N w) (fun _ _ _ i _ => N - (intOf i).toNat)
 case atStart => exact ⟨0, 0, 0, 0, _, Nat.zero_le _, rfl, rfl, rfl, rfl, Nat.zero_le _, Nat.zero_le _, Nat.zero_le _, HR0.out, (by intro x hx; rw [List.eq_of_mem_replicate hx]; decide), by simp [vl], HB0.out⟩
 case round =>
  obtain ⟨k, P, M, br, p, hk, rfl, rfl, rfl, rfl, hbr, hPu, hMv, hrow, hpl, heq, hnx⟩ := hrel
  have HROW := Lib.hid hrow
  have HPL := Lib.hid hpl
  have HEQ := Lib.hid heq
  have HNX := Lib.hid hnx
  clear hrow hpl heq hnx
  by_cases hkl : k < N
  ·obtain ⟨a, ha⟩ : ∃ a, a = la[k]?.getD 0 := ⟨_, rfl⟩
   obtain ⟨b, hb⟩ : ∃ b, b = lb[k]?.getD 0 := ⟨_, rfl⟩
   have hab : a < 4294967296 := by
    rw [ha]
    rcases Nat.lt_or_ge k la.length with h | h
    ·rw [List.getElem?_eq_getElem h]; exact HLA.out _ (List.getElem_mem h)
    ·rw [List.getElem?_eq_none h]; decide
   have hbb : b < 4294967296 := by
    rw [hb]
    rcases Nat.lt_or_ge k lb.length with h | h
    ·rw [List.getElem?_eq_getElem h]; exact HLB.out _ (List.getElem_mem h)
    ·rw [List.getElem?_eq_none h]; decide
   have hau : a * u ≤ 4294967295 * u := Nat.mul_le_mul_right _ (by omega)
   have hbv : b * v ≤ 4294967295 * v := Nat.mul_le_mul_right _ (by omega)
   obtain ⟨pa, hpa⟩ : ∃ q, q = a * u := ⟨_, rfl⟩
   obtain ⟨pb, hpb⟩ : ∃ q, q = b * v := ⟨_, rfl⟩
   rw [← hpa] at hau
   rw [← hpb] at hbv
   obtain ⟨P1, hP1⟩ : ∃ q, q = P + pa := ⟨_, rfl⟩
   obtain ⟨M1, hM1⟩ : ∃ q, q = M + pb := ⟨_, rfl⟩
   have hP1b : P1 ≤ 4294967296 * u := by omega
   have hM1b : M1 ≤ 4294967296 * v := by omega
   obtain ⟨P2, hP2⟩ : ∃ q, q = P1 / 4294967296 := ⟨_, rfl⟩
   obtain ⟨M2, hM2⟩ : ∃ q, q = M1 / 4294967296 := ⟨_, rfl⟩
   obtain ⟨p0, hp0⟩ : ∃ q, q = P1 % 4294967296 := ⟨_, rfl⟩
   obtain ⟨m0, hm0⟩ : ∃ q, q = M1 % 4294967296 := ⟨_, rfl⟩
   obtain ⟨br2, x, part, hbr2, hx, hxe, hpart, hpx, hpb2⟩ : ∃ br2 x part : Nat, br2 ≤ 1 ∧ x < 4294967296 ∧ p0 + 4294967296 * br2 = x + m0 + br ∧ ((part : Int) = (p0 : Int) - (m0 : Int) - (br : Int) + 18446744073709551616 * (br2 : Int)) ∧ part % 4294967296 = x ∧ part / 9223372036854775808 = br2 := by
    by_cases h : m0 + br ≤ p0
    ·exact ⟨0, p0 - m0 - br, p0 - m0 - br, by omega, by omega, by omega, by omega, by omega, by omega⟩
    ·exact ⟨1, p0 + 4294967296 - m0 - br, p0 + 18446744073709551616 - m0 - br, by omega, by omega, by omega, by omega, by omega, by omega⟩
   have hstep := mix_step (4294967296 ^ k) u v _ _ _ P M br a b P2 M2 br2 p0 m0 x HEQ.out (by rw [← hpa]; omega) (by rw [← hpb]; omega) hxe
   have HSTEP := Lib.hid hstep
   have gz := HROW.out.cell k hkl
   have gf := HROW.out.frozen k
   generalize p[k]?.getD 0 = z0 at gz
   have e1 : (P : Int) + (pa : Int) = (P1 : Int) := by omega
   have e2 : (M : Int) + (pb : Int) = (M1 : Int) := by omega
   have e3 : (a : Int) * (u : Int) = (pa : Int) := by rw [hpa, Int.natCast_mul]
   have e4 : (b : Int) * (v : Int) = (pb : Int) := by rw [hpb, Int.natCast_mul]
   have e5 : IntKind.u32.wrap (P1 : Int) = (p0 : Int) := by rw [IntKind.wrap_u32']; omega
   have e6 : IntKind.u32.wrap (M1 : Int) = (m0 : Int) := by rw [IntKind.wrap_u32']; omega
   have e7 : (P1 : Int) / 4294967296 = (P2 : Int) := by omega
   have e8 : (M1 : Int) / 4294967296 = (M2 : Int) := by omega
   have e9 : IntKind.u64.wrap (IntKind.u64.wrap ((p0 : Int) - (m0 : Int)) - (br : Int)) = (part : Int) := by rw [IntKind.wrap_u64, IntKind.wrap_u64]; omega
   have e9' : IntKind.u64.wrap ((p0 : Int) - (m0 : Int) - (br : Int)) = (part : Int) := by rw [IntKind.wrap_u64]; omega
   have e10 : IntKind.u32.wrap (part : Int) = (x : Int) := by rw [IntKind.wrap_u32']; omega
   have e11 : (part : Int) / 9223372036854775808 = (br2 : Int) := by omega
   have e10' : (part : Int) % 4294967296 = (x : Int) := by omega
   have hp0b : p0 < 4294967296 := by omega
   have hm0b : m0 < 4294967296 := by omega
   have hP1c : P1 < 18446744073709551616 := by omega
   have hM1c : M1 < 18446744073709551616 := by omega
   have hP2c : P2 ≤ u := by omega
   have hM2c : M2 ≤ v := by omega
   have hpc : part < 18446744073709551616 := by omega
   have HX := Lib.hid hx
   have HPA := Lib.hid hpa
   have HPB := Lib.hid hpb
   clear hau hbv hP1b hM1b hP2 hM2 hp0 hm0 hxe hpart hpx hpb2 hstep hpa hpb hx
   have HA := Lib.hid ha
   have HB := Lib.hid hb
   clear ha hb
   by_cases hka : k < na
   ·obtain ⟨ba, oa, rfl, hba, gx0⟩ := HCA.out k (by rw [← HNA.out]; exact hka)
    have gx : wr.cell? ⟨ba, oa + k, none⟩ = some (.int .u32 (a : Int)) := (HNX.out.cell (p := ⟨ba, oa + k, none⟩) hba).trans (by rw [gx0, HA.out])
    clear gx0
    by_cases hkb : k < nb
    ·obtain ⟨bb, ob, rfl, hbbw, gy0⟩ := HCB.out k (by rw [← HNB.out]; exact hkb)
     have gy : wr.cell? ⟨bb, ob + k, none⟩ = some (.int .u32 (b : Int)) := (HNX.out.cell (p := ⟨bb, ob + k, none⟩) hbbw).trans (by rw [gy0, HB.out])
     clear gy0 hP1 hM1
     go_wp2
     go_roundw
     case rel =>
      refine ⟨k + 1, P2, M2, br2, p.set k x, by omega, by go_num, rfl, rfl, rfl, hbr2, hP2c, hM2c, HROW.out.store k x _ rfl, all_set HPL.out HX.out, ?_, HNX.out.setCell (Nat.le_refl _) _⟩
      rw [vl_take_getD, vl_take_getD, vl_set_zero _ _ _ _ (by rw [HROW.out.1]; exact hkl), Nat.pow_succ, ← HA.out, ← HB.out]
      exact HSTEP.out
     case measure => simp [intOf]; omega
    ·have hb0 : b = 0 := by rw [HB.out, List.getElem?_eq_none (by rw [← HNB.out]; omega)]; rfl
     have hpb0 : pb = 0 := by rw [HPB.out, hb0, Nat.zero_mul]
     have hMM : M1 = M := by omega
     clear e2 e4 hpb0 hb0 hM1
     subst hMM
     clear hP1
     go_wp2
     go_roundw
     case rel =>
      refine ⟨k + 1, P2, M2, br2, p.set k x, by omega, by go_num, rfl, rfl, rfl, hbr2, hP2c, hM2c, HROW.out.store k x _ rfl, all_set HPL.out HX.out, ?_, HNX.out.setCell (Nat.le_refl _) _⟩
      rw [vl_take_getD, vl_take_getD, vl_set_zero _ _ _ _ (by rw [HROW.out.1]; exact hkl), Nat.pow_succ, ← HA.out, ← HB.out]
      exact HSTEP.out
     case measure => simp [intOf]; omega
   ·have ha0 : a = 0 := by rw [HA.out, List.getElem?_eq_none (by rw [← HNA.out]; omega)]; rfl
    have hpa0 : pa = 0 := by rw [HPA.out, ha0, Nat.zero_mul]
    have hPP : P1 = P := by omega
    clear e1 e3 hpa0 ha0 hP1
    subst hPP
    by_cases hkb : k < nb
    ·obtain ⟨bb, ob, rfl, hbbw, gy0⟩ := HCB.out k (by rw [← HNB.out]; exact hkb)
     have gy : wr.cell? ⟨bb, ob + k, none⟩ = some (.int .u32 (b : Int)) := (HNX.out.cell (p := ⟨bb, ob + k, none⟩) hbbw).trans (by rw [gy0, HB.out])
     clear gy0 hM1
     go_wp2
     go_roundw
     case rel =>
      refine ⟨k + 1, P2, M2, br2, p.set k x, by omega, by go_num, rfl, rfl, rfl, hbr2, hP2c, hM2c, HROW.out.store k x _ rfl, all_set HPL.out HX.out, ?_, HNX.out.setCell (Nat.le_refl _) _⟩
      rw [vl_take_getD, vl_take_getD, vl_set_zero _ _ _ _ (by rw [HROW.out.1]; exact hkl), Nat.pow_succ, ← HA.out, ← HB.out]
      exact HSTEP.out
     case measure => simp [intOf]; omega
    ·have hb0 : b = 0 := by rw [HB.out, List.getElem?_eq_none (by rw [← HNB.out]; omega)]; rfl
     have hpb0 : pb = 0 := by rw [HPB.out, hb0, Nat.zero_mul]
     have hMM : M1 = M := by omega
     clear e2 e4 hpb0 hb0 hM1
     subst hMM
     go_wp2
     go_roundw
     case rel =>
      refine ⟨k + 1, P2, M2, br2, p.set k x, by omega, by go_num, rfl, rfl, rfl, hbr2, hP2c, hM2c, HROW.out.store k x _ rfl, all_set HPL.out HX.out, ?_, HNX.out.setCell (Nat.le_refl _) _⟩
      rw [vl_take_getD, vl_take_getD, vl_set_zero _ _ _ _ (by rw [HROW.out.1]; exact hkl), Nat.pow_succ, ← HA.out, ← HB.out]
      exact HSTEP.out
     case measure => simp [intOf]; omega
  ·obtain rfl : k = N := by omega
   have hval : vl 4294967296 p = R := by
    have h := HEQ.out
    rw [HVA.out, HVB.out, List.take_of_length_le (by rw [HROW.out.1]; exact Nat.le_refl _)] at h
    exact HEND.out _ _ _ _ h (by have := vl_lt p HPL.out; rw [HROW.out.1] at this; exact this)
   have HT := Lib.hid (trim_ow HROW.out.ow HPL.out)
   rw [hval] at HT
   clear hval
   go_wp2_with fail
   (with_reducible refine HT.out.mono ?_)
   rintro e w' ⟨⟨v2, rfl, ho2⟩, rfl⟩
   go_wp2
   go_ret
   exact ⟨_, rfl, ho2, HNX.out⟩
end
end Go.Proofs.YtghgcbedajaldaaGreat
