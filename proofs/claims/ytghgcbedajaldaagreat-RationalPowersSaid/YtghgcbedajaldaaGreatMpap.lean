/-  Dvd RDiv  -/
import Derived.Test.YtghgcbedajaldaaGreatMpao
/-  The reference's divided.  -/
namespace Go.Proofs.YtghgcbedajaldaaGreat
open Go.RowKit Digs
theorem dvd_step (A B i : Nat) (hB : 0 < B) :
  (A / 65536 ^ i / B) % 65536 = (A / 65536 ^ i % 65536 + 65536 * (A / 65536 ^ (i + 1) % B)) / B ∧ A / 65536 ^ i % B = (A / 65536 ^ i % 65536 + 65536 * (A / 65536 ^ (i + 1) % B)) % B ∧ (A / 65536 ^ i % 65536 + 65536 * (A / 65536 ^ (i + 1) % B)) < 65536 * B := by
 obtain ⟨X, hX⟩ : ∃ X, X = A / 65536 ^ i := ⟨_, rfl⟩
 have hY : A / 65536 ^ (i + 1) = X / 65536 := by rw [Nat.pow_succ, ← Nat.div_div_eq_div_mul, hX]
 rw [hY, ← hX]
 obtain ⟨Y, hYY⟩ : ∃ Y, Y = X / 65536 := ⟨_, rfl⟩
 rw [← hYY]
 have hr := Nat.mod_lt Y hB
 have hd := Nat.div_add_mod Y B
 obtain ⟨q, hq⟩ : ∃ q, q = Y / B := ⟨_, rfl⟩
 obtain ⟨r, hrr⟩ : ∃ r, r = Y % B := ⟨_, rfl⟩
 rw [← hq, ← hrr] at hd
 rw [← hrr] at hr ⊢
 obtain ⟨a, ha⟩ : ∃ a, a = X % 65536 := ⟨_, rfl⟩
 have hal : a < 65536 := by rw [ha]; exact Nat.mod_lt _ (by decide)
 have hXe : X = a + 65536 * r + B * (65536 * q) := by
  have h1 : X = 65536 * Y + a := by omega
  rw [h1, ← hd, Nat.mul_add, ← Nat.mul_assoc, ← Nat.mul_assoc, Nat.mul_comm 65536 B]
  omega
 rw [← ha]
 have hlt : a + 65536 * r < 65536 * B := by
  have h2 : 65536 * r + 65536 ≤ 65536 * B := by rw [← Nat.mul_succ]; exact Nat.mul_le_mul_left _ hr
  omega
 refine ⟨?_, ?_, hlt⟩
 ·rw [hXe, Nat.add_mul_div_left _ _ hB, Nat.add_mul_mod_self_left, Nat.mod_eq_of_lt]
  exact (Nat.div_lt_iff_lt_mul hB).2 hlt
 ·rw [hXe, Nat.add_mul_mod_self_left]
def rowQ (A B j n : Nat) : List Nat := (List.range n).map fun K => if j ≤ K then A / 65536 ^ K / B % 65536 else 0
theorem rowQ_lt (A B j n : Nat) : ∀ x ∈ rowQ A B j n, x < 65536 := by
 intro x hx
 simp only [rowQ, List.mem_map] at hx
 obtain ⟨K, _, rfl⟩ := hx
 split
 ·exact Nat.mod_lt _ (by decide)
 ·decide
theorem rowQ_set (A B j n x : Nat) (hx : x = A / 65536 ^ j / B % 65536) : (rowQ A B (j + 1) n).set j x = rowQ A B j n := by
 apply List.ext_getElem
 ·simp [rowQ]
 ·intro i h1 h2
  rw [List.getElem_set]
  by_cases h : j = i
  ·subst h
   rw [if_pos rfl, hx]
   simp [rowQ]
  ·rw [if_neg h]
   simp only [rowQ, List.getElem_map, List.getElem_range]
   by_cases h3 : j ≤ i
   ·rw [if_pos h3, if_pos (by omega)]
   ·rw [if_neg h3, if_neg (by omega)]
theorem rowQ_start (A B n : Nat) : rowQ A B n n = List.replicate n 0 := by
 apply List.ext_getElem
 ·simp [rowQ]
 ·intro i h1 h2
  have : i < n := by simpa [rowQ] using h1
  simp only [rowQ, List.getElem_map, List.getElem_range, List.getElem_replicate]
  rw [if_neg (by omega)]
theorem rowQ_val (A B n : Nat) (h : A < 65536 ^ n) : vl 65536 (rowQ A B 0 n) = A / B := by
 have e : rowQ A B 0 n = (List.range n).map fun K => A / B / 65536 ^ K % 65536 := by
  unfold rowQ
  refine List.map_congr_left fun K _ => ?_
  rw [if_pos (Nat.zero_le _), Nat.div_div_eq_div_mul, Nat.div_div_eq_div_mul, Nat.mul_comm]
 rw [e, vl_range, Nat.mod_eq_of_lt]
 exact Nat.lt_of_le_of_lt (Nat.div_le_self _ _) h
theorem Ri.keep {w w' : World} {base g N : Nat} {p : List Nat} (h : Ri w base g N p) (hb : Below w.heap.size w w') : Ri w' base g N p := by
 have h1 := h.1
 subst h1
 refine ⟨rfl, ?_⟩
 exact (show Oi w base (.slice (some ⟨g, 0, none⟩) p.length p.length) p from h.2).keep hb
theorem Oi.far {w : World} {base : Nat} {v : Value} {l : List Nat} (h : Oi w base v l) {g j : Nat} (u : Value) (hg : g < base) : Oi (w.setCell ⟨g, j, none⟩ u) base v l := by
 refine ⟨h.1, ?_⟩
 rcases h.2 with hn | ⟨g', cap, cur, e, hb, hgg, rest⟩
 ·exact .inl hn
 ·exact .inr ⟨g', cap, cur, e, hb, by rw [heap_setCell_other _ _ _ _ (by simp; omega)]; exact hgg, rest⟩
theorem Oi.low {w : World} {base base' : Nat} {v : Value} {l : List Nat} (h : Oi w base v l) (hb : base' ≤ base) : Oi w base' v l := by
 obtain ⟨h1, h2⟩ := h
 refine ⟨h1, ?_⟩
 rcases h2 with hn | ⟨g, cap, cur, e, hg, rest⟩
 ·exact .inl hn
 ·exact .inr ⟨g, cap, cur, e, Nat.le_trans hb hg, rest⟩
def DvdRel (A B n : Nat) (w : World) (v i : Value) (wr : World) : Prop :=
 ∃ (j : Nat) (q : Int), j ≤ n ∧ i = .int .i64 q ∧ q = (j : Int) - 1 ∧ Oi wr (w.heap.size + 1) v (digs 65536 (A / 65536 ^ j % B)) ∧ Ri wr w.heap.size w.heap.size n (rowQ A B j n) ∧ Below w.heap.size w wr
def HalfRel (B R : Nat) (W : World) (lo hi : Value) (wr : World) : Prop :=
 ∃ l h : Nat, lo = .int .i64 l ∧ hi = .int .i64 h ∧ l < h ∧ h ≤ 65536 ∧ B * l ≤ R ∧ R < B * h ∧ Below W.heap.size W wr
theorem own_one (w : World) (base a : Nat) (hb : base ≤ w.heap.size) : (w.alloc (.cells #[.int .i64 (a : Int)] 3)).ownsRow base 3 1 (.slice (some ⟨w.heap.size, 0, none⟩) 1 1) 1 (iw [a]) :=
 ⟨by simp [iw], .inr ⟨w.heap.size, 1, #[.int .i64 (a : Int)], rfl, hb, heap_alloc_new w _, Nat.le_refl _, by unfold maxLen; omega, rfl, by simp [iw]⟩⟩
theorem rd_i1 (w : World) (m g : Nat) (hg : g = w.heap.size) (h0 : m ≠ 0) (h : m < 65536) : Rd .i64 (w.alloc (.cells #[.int .i64 (m : Int)] 3)) (.slice (some ⟨g, 0, none⟩) 1 1) (digs 65536 m) := by
 subst hg
 have e : digs 65536 m = [m] := by rw [digs_pos (by decide) h0, Nat.mod_eq_of_lt h, Nat.div_eq_of_lt h, digs_zero]
 rw [e]
 exact (show Oi _ w.heap.size _ [m] from own_one w w.heap.size m (Nat.le_refl _)).rd
theorem half_end {B l R : Nat} (h1 : B * l ≤ R) (h2 : R < B * (l + 1)) : R / B = l ∧ R - B * l = R % B := by
 have hB : 0 < B := by
  rcases Nat.eq_zero_or_pos B with h | h
  ·rw [h] at h1 h2; omega
  ·exact h
 have e : R / B = l := Nat.div_eq_of_lt_le (by rw [Nat.mul_comm]; exact h1) (by rw [Nat.mul_comm]; exact h2)
 have h3 := Nat.div_add_mod R B
 rw [e] at h3
 exact ⟨e, by omega⟩
def DvdPost (w : World) (A B : Nat) (e : Ending) (w' : World) : Prop := ∃ vq vr, e = .returned (.tuple #[vq, vr]) ∧ Rd .i64 w' vq (digs 65536 (A / B)) ∧ Rd .i64 w' vr (digs 65536 (A % B)) ∧ Below w.heap.size w w'
set_option maxHeartbeats 4000000 in
set_option maxRecDepth 100000 in
theorem divided_core (ada : Option Addr) (ca : Nat) (A B n : Nat) (vb : Value) (w : World) (hB : 0 < B) (hn : (digs 65536 A).length = n) (hnb : n ≤ 50000) (hbl : (digs 65536 B).length ≤ 50000) (ra : RdA .i64 w ada (digs 65536 A)) (hb : Rd .i64 w vb (digs 65536 B)) :
  Calls Tryz.prog 123 #[.slice ada n ca, vb] w (DvdPost w A B) := by
 have hAn : A < 65536 ^ n := by rw [← hn]; exact digs_lt_pow (by decide) A
 have HX : Hid (∀ W, Below w.heap.size w W → ∀ j, j < n → ∃ b off, ada = some ⟨b, off, none⟩ ∧ W.cell? ⟨b, off + j, none⟩ = some (.int .i64 ((A / 65536 ^ j % 65536 : Nat) : Int))) := Lib.hid fun W hb j hj => by
  obtain ⟨b, o, e1, e2, e3⟩ := ra j (by rw [hn]; exact hj)
  rw [digs_get (by decide)] at e3
  exact ⟨b, o, e1, (hb.cell (p := ⟨b, o + j, none⟩) e2).trans e3⟩
 have HB := Lib.hid hb
 have HST := Lib.hid (rowQ_start A B n)
 have HVV := Lib.hid (rowQ_val A B n hAn)
 have HZ : Hid (A / 65536 ^ n % B = 0) := Lib.hid (by rw [Nat.div_eq_of_lt hAn, Nat.zero_mod])
 have HRL : Hid (∀ R, R < 65536 * B → (digs 65536 R).length ≤ 60000) := Lib.hid fun R hR => by
  have h1 := digs_lt_pow (b := 65536) (by decide) B
  refine Nat.le_trans (digs_length_le (by decide) R ((digs 65536 B).length + 1) ?_) (by omega)
  rw [Nat.pow_succ, Nat.mul_comm]
  exact Nat.lt_of_lt_of_le hR (Nat.mul_le_mul_left _ (Nat.le_of_lt h1))
 have HDS := Lib.hid fun i => dvd_step A B i hB
 clear ra hb hn hAn
 obtain ⟨i0, hi, hz0, hz1, hz2⟩ := info_parts Tryz.infoI64
 go_enter Tryz.func123, Tryz.ntmps123
 go_wp2_with (at_make; refine wpList_make_full _ rfl _ _ 32 rfl w.heap.size 3 i0 (.int .i64 0) 1 Tryz.underlying32 hi hz0 hz1 _ _ _ _ n rfl rfl (by omega) (by omega) ?b2 ?b3 (Nat.le_refl _) ?_)
 case b2 => rw [hz2]; omega
 case b3 => unfold maxLen; omega
 intro w0 hown0 hgrow0
 have hrow0 : Ri w0 w.heap.size w.heap.size n (List.replicate n 0) := by
  refine ⟨by simp, ?_⟩
  rw [iw_zeros] at hown0
  exact hown0
 rw [← HST.out] at hrow0
 have HB0 := Lib.hid ((Below.refl w.heap.size w).grown hgrow0 (Nat.le_refl _) (fun k h => by cases h))
 have HR0 := Lib.hid hrow0
 clear hown0 hgrow0 hrow0
 go_wp2
 go_loopw [7, 8] (DvdRel A B n w) (fun _ i _ => (intOf i + 1).toNat)
 case atStart => exact ⟨n, _, Nat.le_refl _, rfl, rfl, by rw [HZ.out, digs_zero]; exact World.ownsRow_nil _ _ _ _, HR0.out, HB0.out⟩
 case round =>
  obtain ⟨j, q, hj, rfl, hqj, hown, hrow, hnx⟩ := hrel
  by_cases hj0 : j = 0
  ·subst hj0
   obtain rfl : q = -1 := by omega
   have HT := Lib.hid (trimmed_oi hrow.oi (rowQ_lt A B 0 n))
   rw [HVV.out] at HT
   have HO := Lib.hid hown
   have HNX := Lib.hid hnx
   clear hown hrow hnx hqj hj
   go_wp2_with fail
   (with_reducible refine HT.out.mono ?_)
   rintro e w' ⟨⟨v2, rfl, ho2⟩, rfl⟩
   go_wp2
   have h0 := HO.out
   rw [Nat.pow_zero, Nat.div_one] at h0
   exact bodyPost_ret (v := .tuple #[v2, u7]) (by simp [results, Tryz.results123, go_sem]) rfl ⟨v2, u7, rfl, ho2.rd, h0.rd, HNX.out⟩
  ·obtain ⟨i, rfl⟩ : ∃ i, j = i + 1 := ⟨j - 1, by omega⟩
   obtain rfl : q = (i : Int) := by omega
   clear hqj hj0
   obtain ⟨bb, ob, rfl, gx⟩ := HX.out wr hnx i hj
   obtain ⟨a, ha⟩ : ∃ a, a = A / 65536 ^ i % 65536 := ⟨_, rfl⟩
   obtain ⟨r, hr⟩ : ∃ r, r = A / 65536 ^ (i + 1) % B := ⟨_, rfl⟩
   obtain ⟨hd1, hd2, hd3⟩ := HDS.out i
   have hal : a < 65536 := by rw [ha]; exact Nat.mod_lt _ (by decide)
   rw [← ha, ← hr] at hd1 hd2 hd3
   rw [← ha] at gx
   rw [← hr] at hown
   have hvl : vl 65536 (a :: digs 65536 r) = a + 65536 * r := by
    show a + 65536 * vl 65536 (digs 65536 r) = _
    rw [vl_digs (by decide)]
   obtain ⟨R, hR⟩ : ∃ R, R = a + 65536 * r := ⟨_, rfl⟩
   rw [← hR] at hvl hd1 hd2 hd3
   have hrlen : (digs 65536 r).length ≤ 60000 := HRL.out r (by rw [hr]; have := Nat.mod_lt (A / 65536 ^ (i + 1)) hB; omega)
   have HDI := Lib.hid (And.intro hd1 hd2)
   have hRlen := HRL.out R hd3
   have HO := Lib.hid hown
   have HROW := Lib.hid hrow
   have HNX := Lib.hid hnx
   have HVL := Lib.hid hvl
   clear hown hrow hnx hvl hd1 hd2 ha hr hR
   go_upto_region 6 with fail
   go_cut [7] from 22 to 29 (fun s7 wx => Oi wx (w.heap.size + 1) s7 (digs 65536 R) ∧ Below wr.heap.size wr wx)
   case first =>
    have hbase : w.heap.size + 1 ≤ wr.heap.size := by have h1 := HROW.out.lt; omega
    have HOWN := Lib.hid (own_one wr (w.heap.size + 1) a hbase)
    have HLT : Hid (∀ x ∈ a :: digs 65536 r, x < 65536) := Lib.hid (by
     intro x hx
     rcases List.mem_cons.1 hx with h | h
     ·rw [h]; exact hal
     ·exact digs_lt (by decide) _ x h)
    rcases HO.out.2 with ⟨rfl, hn0⟩ | ⟨g', cap', cur', rfl, hg', hgg', hc', hm', _, _⟩
    ·have hnil := List.eq_nil_of_length_eq_zero hn0
     have HT := Lib.hid (trimmed_oi (w := wr.alloc (.cells #[.int .i64 (a : Int)] 3)) (base := w.heap.size + 1) (v := .slice (some ⟨wr.heap.size, 0, none⟩) 1 1) (l := a :: digs 65536 r) (by rw [hnil]; exact HOWN.out) HLT.out)
     rw [HVL.out] at HT
     clear hn0
     go_wp2_with fail
     (with_reducible refine HT.out.mono ?_)
     rintro e w' ⟨⟨v2, rfl, ho2⟩, rfl⟩
     go_wp2
     go_meet
     exact ⟨ho2, (Below.refl _ _).alloc (Nat.le_refl _) _⟩
    ·have hcw : ∀ j : Nat, j < (digs 65536 r).length → (wr.alloc (.cells #[.int .i64 (a : Int)] 3)).cell? ⟨g', 0 + j, none⟩ = some (.int .i64 (((digs 65536 r)[j]?.getD 0 : Nat) : Int)) := by
      rcases (HO.out.keep ((Below.refl wr.heap.size wr).alloc (Nat.le_refl _) (.cells #[.int .i64 (a : Int)] 3))).rd with ⟨hv, _⟩ | ⟨b, off, cap, hv, _, _, _, h4⟩
      ·cases hv
      ·cases hv
       exact h4
     have HN := Lib.hid (Rd.news hcw)
     clear hcw hgg'
     go_wp2_with (at_builtin; refine wpList_append_own _ rfl (.tmp 26) (.tmp 27) 32 rfl (w.heap.size + 1) 3 i0 (.int .i64 0) 1 8 Tryz.underlying32 hi hz0 hz1 hz2 rfl (by decide) _ 1 (iw [a]) rfl HOWN.out ⟨g', 0, none⟩ (digs 65536 r).length cap' (iw (digs 65536 r)) rfl ?c1 HN.out (iw_oneCell _) ?c2 ?c3 ?c4 ?_)
     case c1 => simp [iw_length]
     case c2 => unfold maxLen; omega
     case c3 => omega
     case c4 => simp; omega
     intro v' w1 hown' hgrow _
     have hoi : Oi w1 (w.heap.size + 1) v' (a :: digs 65536 r) := by
      have h := hown'
      rw [← iw_append] at h
      show w1.ownsRow _ _ 1 v' (a :: digs 65536 r).length _
      rw [show (a :: digs 65536 r).length = 1 + (digs 65536 r).length by rw [List.length_cons, Nat.add_comm 1]]
      exact h
     have HT := Lib.hid (trimmed_oi hoi HLT.out)
     rw [HVL.out] at HT
     have HBG := Lib.hid (((Below.refl wr.heap.size wr).alloc (Nat.le_refl _) (.cells #[.int .i64 (a : Int)] 3)).grown hgrow (by simp) (fun k hk => by simp [Value.ownBlock] at hk; omega))
     clear hown' hgrow hoi
     go_wp2_with fail
     (with_reducible refine HT.out.mono ?_)
     rintro e w' ⟨⟨v2, rfl, ho2⟩, rfl⟩
     go_wp2
     go_meet
     exact ⟨ho2, HBG.out⟩
   case rest =>
    obtain ⟨hoi, hwc⟩ := hcut
    have HO1 := Lib.hid hoi
    have HROW1 := Lib.hid (HROW.out.keep hwc)
    have HNX1 := Lib.hid (HNX.out.trans (hwc.mono HNX.out.size))
    have HD3 := Lib.hid hd3
    have HTM := Lib.hid fun u v m W (hm0 : m ≠ 0) (hm : m < 65536) hu (hv : Rd .i64 W v (digs 65536 m)) => Lib.hid (times_any B m u v W (by omega) (by rw [digs_pos (by decide) hm0, Nat.mod_eq_of_lt hm, Nat.div_eq_of_lt hm, digs_zero]; simp) hu hv)
    clear hoi hwc hd3
    go_wp2_with fail
    go_loopw [9, 10] (HalfRel B R wc) (fun lo hi _ => (intOf hi - intOf lo).toNat)
    case atStart => exact ⟨0, 65536, rfl, rfl, by decide, Nat.le_refl _, Nat.zero_le _, by rw [Nat.mul_comm]; exact HD3.out, Below.refl _ _⟩
    case round =>
     obtain ⟨l, h, rfl, rfl, hlh, hh, h1, h2, hnx⟩ := hrel
     have HNX2 := Lib.hid hnx
     have HBB := Lib.hid (HB.out.keep (HNX1.out.trans (hnx.mono HNX1.out.size)))
     have HO2 := Lib.hid (HO1.out.keep hnx)
     have H1 := Lib.hid h1
     have H2 := Lib.hid h2
     clear hnx h1 h2
     by_cases hlt : l + 1 < h
     ·obtain ⟨m, hm⟩ : ∃ m, m = (l + h) / 2 := ⟨_, rfl⟩
      have hmi : ((l : Int) + (h : Int)) / 2 = (m : Int) := by omega
      have hm1 : l < m := by omega
      have hm2 : m < h := by omega
      clear hm
      have HRM := Lib.hid (rd_i1 wr m wr.heap.size rfl (by omega) (by omega))
      have HBA := Lib.hid (HBB.out.keep ((Below.refl _ _).alloc (Nat.le_refl _) (.cells #[.int .i64 (m : Int)] 3)))
      go_wp2_with fail
      (with_reducible refine (HTM.out _ _ m _ (by omega) (by omega) HBA.out HRM.out).out.mono ?_)
      rintro e w2 ⟨v2, rfl, ho2, hb2⟩
      have hbw2 := ((Below.refl wr.heap.size wr).alloc (Nat.le_refl _) (.cells #[.int .i64 (m : Int)] 3)).trans (hb2.mono (by simp))
      have HCP := Lib.hid (rcompare_any (B * m) R v2 _ w2 (Nat.le_trans (HRL.out (B * m) (by rw [Nat.mul_comm]; exact Nat.mul_lt_mul_of_pos_right (by omega) hB)) (by decide)) ho2.rd (HO2.out.keep hbw2).rd)
      have HBW2 := Lib.hid hbw2
      clear ho2 hb2 hbw2
      go_wp2_with fail
      (with_reducible refine HCP.out.mono ?_)
      rintro e w3 ⟨rfl, d, rfl⟩
      by_cases hc : B * m ≤ R
      ·have hcc : cmpN (B * m) R ≤ 0 := by unfold cmpN; split <;> (try split) <;> omega
       generalize cmpN (B * m) R = cv at *
       go_wp2
       go_roundw
       case rel => exact ⟨m, h, rfl, rfl, hm2, hh, hc, H2.out, below_drewN' (HNX2.out.trans (HBW2.out.mono HNX2.out.size)) _⟩
       case measure => simp [intOf] <;> omega
      ·have hcc : ¬ cmpN (B * m) R ≤ 0 := by unfold cmpN; split <;> (try split) <;> omega
       generalize cmpN (B * m) R = cv at *
       go_wp2
       go_roundw
       case rel => exact ⟨l, m, rfl, rfl, hm1, by omega, H1.out, by omega, below_drewN' (HNX2.out.trans (HBW2.out.mono HNX2.out.size)) _⟩
       case measure => simp [intOf] <;> omega
     ·obtain rfl : h = l + 1 := by omega
      obtain ⟨hq1, hq2⟩ := half_end H1.out H2.out
      have hx1 : l = A / 65536 ^ i / B % 65536 := by rw [HDI.out.1, hq1]
      have hx2 : A / 65536 ^ i % B = R - B * l := by rw [HDI.out.2, hq2]
      have HROW2 := Lib.hid (HROW1.out.keep HNX2.out)
      have HNX3 := Lib.hid (HNX1.out.trans (HNX2.out.mono HNX1.out.size))
      have HSET := Lib.hid (rowQ_set A B i n l hx1)
      have HX2 := Lib.hid hx2
      have HLE := H1.out
      have hin : i < n := by omega
      have gz := HROW2.out.cell i hin
      have gf := HROW2.out.frozen i
      have HBLT := Lib.hid (show B * l < 65536 * B by rw [Nat.mul_comm]; exact Nat.mul_lt_mul_of_pos_right (by omega) hB)
      clear hq1 hq2 hx1 hx2
      generalize (rowQ A B (i + 1) n)[i]?.getD 0 = z0 at *
      by_cases hl0 : l = 0
      ·subst hl0
       go_wp2
       go_roundw
       case rel =>
        refine ⟨i, (i : Int) - 1, by omega, by go_num, rfl, ?_, ?_, HNX3.out.setCell (Nat.le_refl _) _⟩
        ·have h9 := HX2.out
         rw [Nat.mul_zero, Nat.sub_zero] at h9
         rw [h9]
         exact HO2.out.far _ (Nat.lt_succ_self _)
        ·rw [← HSET.out]
         exact HROW2.out.store _ _ _ (by first | rfl | omega)
       case measure => simp [intOf] <;> omega
      ·have hl1 : (0 : Int) < (l : Int) := by omega
       have HWS := Lib.hid (HNX3.out.setCell (p := ⟨w.heap.size, i, none⟩) (Nat.le_refl _) (.int .i64 (l : Int)))
       have HRM := Lib.hid (rd_i1 (wr.setCell ⟨w.heap.size, i, none⟩ (.int .i64 (l : Int))) l wr.heap.size (by simp) hl0 (by omega))
       have HBA := Lib.hid (HB.out.keep (HWS.out.alloc HWS.out.size (.cells #[.int .i64 (l : Int)] 3)))
       have HO3 := Lib.hid (HO2.out.far (j := i) (.int .i64 (l : Int)) (Nat.lt_succ_self w.heap.size))
       have HROW3 := Lib.hid (HROW2.out.store i l (l : Int) rfl)
       rw [HSET.out] at HROW3
       go_wp2_with fail
       (with_reducible refine (HTM.out _ _ l _ hl0 (by omega) HBA.out HRM.out).out.mono ?_)
       rintro e w2 ⟨v2, rfl, ho2, hb2⟩
       have hbw2 := ((Below.refl (wr.setCell ⟨w.heap.size, i, none⟩ (.int .i64 (l : Int))).heap.size _).alloc (Nat.le_refl _) (.cells #[.int .i64 (l : Int)] 3)).trans (hb2.mono (by simp))
       have HMI := Lib.hid (minus_any R (B * l) _ v2 w2 (Nat.le_trans hRlen (by decide)) HLE (HO3.out.keep hbw2).rd ho2.rd)
       have HBW2 := Lib.hid hbw2
       have HRW2 := Lib.hid (HROW3.out.keep hbw2)
       clear ho2 hb2 hbw2
       go_wp2_with fail
       (with_reducible refine HMI.out.mono ?_)
       rintro e w3 ⟨v3, rfl, ho3, hb3⟩
       have hall := HWS.out.trans ((HBW2.out.trans (hb3.mono HBW2.out.size)).mono HWS.out.size)
       have hsz2 : w.heap.size + 1 ≤ w2.heap.size := by have h8 := HRW2.out.lt; omega
       go_wp2
       go_roundw
       case rel =>
        exact ⟨i, (i : Int) - 1, by omega, by go_num, rfl, by rw [HX2.out]; exact ho3.low hsz2, HRW2.out.keep hb3, hall⟩
       case measure => simp [intOf] <;> omega
end Go.Proofs.YtghgcbedajaldaaGreat
/-  The reference's Divide and Floor.  -/
namespace Go.Proofs.YtghgcbedajaldaaGreat
open Go.RowKit Digs
theorem divided_any (A B : Nat) (va vb : Value) (w : World) (hB : 0 < B) (hn : (digs 65536 A).length ≤ 50000) (hbl : (digs 65536 B).length ≤ 50000) (ha : Rd .i64 w va (digs 65536 A)) (hb : Rd .i64 w vb (digs 65536 B)) :
  Calls Tryz.prog 123 #[va, vb] w (DvdPost w A B) := by
 obtain ⟨ada, ca, rfl, ra⟩ := ha.opt
 exact divided_core ada ca A B _ vb w hB rfl hn hbl ra hb
set_option maxHeartbeats 2000000 in
set_option maxRecDepth 100000 in
theorem rdivide_core (bx by' : Bool) (adx ady : Option Addr) (nx cx ny cy : Nat) (q r : Nat) (y : Int) (hyv : y ≠ 0) (hys : rlen y ≤ 1000000) (w : World)
  (hy : RefV w (.agg #[.bool by', .slice ady ny cy]) y)
  (hd : ∀ W, Below w.heap.size w W → Calls Tryz.prog 123 #[.slice adx nx cx, .slice ady ny cy] W (fun e w' => ∃ vq vr, e = .returned (.tuple #[vq, vr]) ∧ Rd .i64 w' vq (digs 65536 q) ∧ Rd .i64 w' vr (digs 65536 r) ∧ Below W.heap.size W w')) :
  Calls Tryz.prog 81 #[.agg #[.bool bx, .slice adx nx cx], .agg #[.bool by', .slice ady ny cy]] w fun e w' =>
   ∃ vq vr, e = .returned (.tuple #[vq, vr, .int .i64 0]) ∧ RefV w' vq (sg (bx != by') q) ∧ RefV w' vr (sg bx r) ∧ Below w.heap.size w w' := by
 have HD := Lib.hid hd
 have HS := fun W hw => Lib.hid (rSign_any y _ W hys (hy.keep (w' := W) hw))
 have HS := Lib.hid HS
 have hsg : (sgnZ y == 0) = false := by unfold sgnZ; split <;> (try split) <;> first | rfl | (exfalso; omega)
 have HO := fun (neg : Bool) (v : Value) (k : Nat) (W : World) (h : Rd .i64 W v (digs 65536 k)) => rmade_any neg v _ W h (digs_lt (by decide) k)
 have HO' : ∀ (neg : Bool) (v : Value) (k : Nat) (W : World) (h : Rd .i64 W v (digs 65536 k)), Calls Tryz.prog 122 #[.bool neg, v] W (RefPost W (sg neg k)) := by
  intro neg v k W h
  have := HO neg v k W h
  rw [vl_digs (by decide)] at this
  exact this
 have HOW := Lib.hid HO'
 clear hd hy HO HO' hyv hys
 generalize hsv : sgnZ y = sy at *
 clear hsv
 go_enter Tryz.func81, Tryz.ntmps81
 go_wp2_with fail
 refine (HS.out _ (below4 _ _ _ _ _)).out.mono ?_
 rintro e w0 ⟨rfl, hb0⟩
 obtain ⟨⟨cA0, cB0, cC0, cD0⟩, _, _, hsz0⟩ := box4 hb0
 have HB0 := Lib.hid hb0
 clear hb0
 go_wp2_with fail
 refine (HD.out _ ((below4 _ _ _ _ _).trans (HB0.out.mono (by simp <;> omega)))).mono ?_
 rintro e w1 ⟨vq, vr, rfl, hq, hr, hb1⟩
 have HB1 := Lib.hid (HB0.out.trans (hb1.mono HB0.out.size))
 obtain ⟨⟨cA, cB, cC, cD⟩, ⟨cE, cF, fE, fF⟩, ⟨cG, cH, fG, fH⟩, hsz⟩ := box4 HB1.out
 have HQ := Lib.hid hq
 have HR := Lib.hid hr
 clear hq hr hb1 cA0 cB0 cC0 cD0
 obtain ⟨adq, nq, cq, rfl⟩ := HQ.out.shape
 obtain ⟨adr, nr, cr, rfl⟩ := HR.out.shape
 have h1w : w.heap.size < w1.heap.size := by omega
 have h2w : w.heap.size + 1 < w1.heap.size := by omega
 have h3w : w.heap.size + 2 < w1.heap.size := by omega
 go_wp2_with fail
 go_region_held3 (fun w' => w'.cell? ⟨w.heap.size, 0, none⟩ = some (.bool bx) ∧ w'.cell? ⟨w.heap.size + 1, 0, none⟩ = some (.bool by'))
  (first | exact ⟨cA3, cC3⟩ | exact ⟨cA2, cC2⟩ | exact ⟨(cell_store2 (by omega)).trans cA3, (cell_store2 (by omega)).trans cC3⟩ | exact ⟨(cell_store2 (by omega)).trans ((cell_store2 (by omega)).trans cA3), (cell_store2 (by omega)).trans ((cell_store2 (by omega)).trans cC3)⟩ | go_keep)
  (first
   | (go_at_call_of 122 (Value.slice adq nq cq); refine (HOW.out (bx != by') (.slice adq nq cq) q _ ?_).mono ?_; (exact HQ.out); rintro e w2 ⟨v2, rfl, ⟨ad2, n2, c2, rfl, hr2⟩, hb2'⟩; have hb2 := (Below.refl w1.heap.size w1).drew.trans hb2'; have cA2 := (hb2.cell (p := ⟨w.heap.size, 0, none⟩) h1w).trans cA; have cC2 := (hb2.cell (p := ⟨w.heap.size + 1, 0, none⟩) h2w).trans cC; have hle2 := hb2.size)
   | (go_at_call_of 122 (Value.slice adr nr cr); refine (HOW.out bx (.slice adr nr cr) r _ ?_).mono ?_; (exact HR.out.keep hb2); rintro e w3 ⟨v3, rfl, ⟨ad3, n3, c3, rfl, hr3⟩, hb3⟩; have cA3 := (hb3.cell (p := ⟨w.heap.size, 0, none⟩) (Nat.lt_of_lt_of_le h1w hle2)).trans cA2; have cC3 := (hb3.cell (p := ⟨w.heap.size + 1, 0, none⟩) (Nat.lt_of_lt_of_le h2w hle2)).trans cC2; obtain ⟨_, ⟨cE3, cF3, fE3, fF3⟩, ⟨cG3, cH3, fG3, fH3⟩, _⟩ := box4 (HB1.out.trans ((hb2.mono HB1.out.size).trans (hb3.mono (Nat.le_trans HB1.out.size hle2))))))
 have n0 : ∀ b : Bool, ∀ k n, Value.bool b ≠ .int k n := by intro b k n h; cases h
 have n1 : ∀ (ad : Option Addr) (n c : Nat), ∀ k m, Value.slice ad n c ≠ .int k m := by intro ad n c k m h; cases h
 have HQ2 := fun x y x' y' => Lib.hid (((hr2.keep hb3).store2 cE3 cF3 (n0 _ _) (n1 _ _ _ _) x y).store2 (R := w.heap.size + 3) ((cell_store2 (by omega)).trans cG3) ((cell_store2 (by omega)).trans cH3) (n0 _ _) (n1 _ _ _ _) x' y')
 have HR2 := fun x y x' y' => Lib.hid ((hr3.store2 cE3 cF3 (n0 _ _) (n1 _ _ _ _) x y).store2 (R := w.heap.size + 3) ((cell_store2 (by omega)).trans cG3) ((cell_store2 (by omega)).trans cH3) (n0 _ _) (n1 _ _ _ _) x' y')
 have HQ2 := Lib.hid HQ2
 have HR2 := Lib.hid HR2
 have HBB := Lib.hid ((below4 w _ _ _ _).trans ((HB1.out.mono (by simp <;> omega)).trans ((hb2.mono (Nat.le_of_lt h1w)).trans (hb3.mono (Nat.le_trans (Nat.le_of_lt h1w) hle2)))))
 clear hr2 hr3 hb2 hb3 hb2' n0 n1
 go_wp2
 refine bodyPost_ret (v := .tuple #[.agg #[.bool (decide (sg (bx != by') q < 0)), .slice ad2 n2 c2], .agg #[.bool (decide (sg bx r < 0)), .slice ad3 n3 c3], .int .i64 0]) (by simp [results, Tryz.results81, go_sem, cE3, cF3, cG3, cH3]) rfl ⟨_, _, rfl, ⟨_, _, _, rfl, (HQ2.out _ _ _ _).out⟩, ⟨_, _, _, rfl, (HR2.out _ _ _ _).out⟩, ?_⟩
 exact (((HBB.out.setCell (by simp; omega) _).setCell (by simp; omega) _).setCell (by simp; omega) _).setCell (by simp; omega) _
def RDivOK (w : World) (x y : Int) (e : Ending) (w' : World) : Prop :=
 ∃ vq vr, e = .returned (.tuple #[vq, vr, .int .i64 0]) ∧ RefV w' vq (x.tdiv y) ∧ RefV w' vr (x.tmod y) ∧ Below w.heap.size w w'
theorem sg_of (x : Int) : sg (decide (x < 0)) x.natAbs = x := by
 unfold sg
 by_cases h : x < 0
 ·rw [decide_eq_true h, if_pos rfl]; omega
 ·rw [decide_eq_false h, if_neg (by decide)]; omega
theorem rDivide_any (x y : Int) (vx vy : Value) (w : World) (hx : rlen x ≤ 50000) (hy : rlen y ≤ 50000) (hy0 : y ≠ 0) (ha : RefV w vx x) (hb : RefV w vy y) :
  Calls Tryz.prog 81 #[vx, vy] w (RDivOK w x y) := by
 have hb' := hb
 obtain ⟨adx, nx, cx, rfl, ra⟩ := ha
 obtain ⟨ady, ny, cy, rfl, rb⟩ := hb
 have h := rdivide_core (decide (x < 0)) (decide (y < 0)) adx ady nx cx ny cy (x.natAbs / y.natAbs) (x.natAbs % y.natAbs) y hy0 (by omega) w hb' (fun W hW => divided_any x.natAbs y.natAbs _ _ W (by omega) hx hy (ra.keep hW) (rb.keep hW))
 rw [sg_div, sg_mod (decide (x < 0)) (decide (y < 0)), sg_of, sg_of] at h
 exact h
end Go.Proofs.YtghgcbedajaldaaGreat
