/-  Compl Boole  -/
import Derived.Laws.BitsAllLaws
import Derived.Test.YtghgcbedajaldaaGreatMpad
import Derived.Laws.CopyOwn
/-  Div Divide Sign DivInt Compl  -/
namespace Go.Proofs.YtghgcbedajaldaaGreat
section
open Go.RowKit Digs
theorem or_join (r x : Nat) (hr : r < 4294967296) (hx : x < 4294967296) : bits BinOp.or IntKind.u64 ((r : Int) * 4294967296) (x : Int) = ((x + 4294967296 * r : Nat) : Int) := by
 have h1 : ((r : Int) * 4294967296) = ((r * 4294967296 : Nat) : Int) := by omega
 rw [h1, u64_or_nat _ _ (by omega) (by omega), nat_join 32 _ _ (by omega) (by omega)]
 omega
theorem drop_set (l : List Nat) (m x : Nat) : (l.set m x).drop (m + 1) = l.drop (m + 1) := by
 apply List.ext_getElem?
 intro j
 rw [List.getElem?_drop, List.getElem?_drop, List.getElem?_set_ne (by omega)]
def DivRel (la : List Nat) (d : Nat) (w : World) (rest i : Value) (wr : World) : Prop :=
 ∃ (z : Int) (k r : Nat) (p : List Nat), i = .int .i64 z ∧ z + 1 = k ∧ k ≤ la.length ∧ rest = .int .u64 r ∧ r < d ∧ Row wr w.heap.size w.heap.size la.length p ∧ (∀ x ∈ p, x < 4294967296) ∧
  vl 4294967296 (la.drop k) = d * vl 4294967296 (p.drop k) + r ∧ Below w.heap.size w wr
def DivPost (w : World) (q r : Nat) (e : Ending) (w' : World) : Prop := ∃ v, e = .returned (.tuple #[v, .int .u32 r]) ∧ Ow w' w.heap.size v (digs 4294967296 q) ∧ Below w.heap.size w w'
set_option maxHeartbeats 2000000 in
set_option maxRecDepth 100000 in
theorem divSmall_core (ada : Option Addr) (ca : Nat) (la : List Nat) (d : Nat) (w : World) (hlen : la.length ≤ 1000000) (hca : RdA .u32 w ada la) (hla : ∀ x ∈ la, x < 4294967296) (hd0 : 1 ≤ d) (hd : d < 4294967296) :
  Calls Tryz.prog 137 #[.slice ada la.length ca, .int .u32 d] w (DivPost w (vl 4294967296 la / d) (vl 4294967296 la % d)) := by
 have HLA := Lib.hid hla
 have HCA := Lib.hid hca
 clear hla hca
 obtain ⟨i0, hi, hz0, hz1, hz2⟩ := info_parts Tryz.infoU32
 go_enter Tryz.func137, Tryz.ntmps137
 go_wp2_with (at_make; refine wpList_make_full _ rfl _ _ 22 rfl w.heap.size 137 i0 (.int .u32 0) 1 Tryz.underlying22 hi hz0 hz1 _ _ _ _ la.length rfl rfl (by omega) (by omega) ?b2 ?b3 (Nat.le_refl _) ?_)
 case b2 => rw [hz2]; omega
 case b3 => unfold maxLen; omega
 intro w0 hown0 hgrow0
 have hrow0 : Row w0 w.heap.size w.heap.size la.length (List.replicate la.length 0) := by
  refine ⟨by simp, ?_⟩
  rw [uw_zeros] at hown0
  exact hown0
 have HB0 := Lib.hid ((Below.refl w.heap.size w).grown hgrow0 (Nat.le_refl _) (fun k h => by cases h))
 have HR0 := Lib.hid hrow0
 clear hown0 hgrow0 hrow0
 go_wp2
 go_loopw [7, 8] (fun rest i wr => DivRel la d w rest i wr) (fun _ i _ => (intOf i + 1).toNat)
 case atStart => exact ⟨_, la.length, 0, _, rfl, by omega, Nat.le_refl _, rfl, hd0, HR0.out, (by intro x hx; rw [List.eq_of_mem_replicate hx]; decide), by rw [List.drop_of_length_le (Nat.le_refl _), List.drop_of_length_le (by simp)]; simp [vl], HB0.out⟩
 case round =>
  obtain ⟨z, k, r, p, rfl, hzk, hk, rfl, hr, hrow, hpl, hv, hnx⟩ := hrel
  have HROW := Lib.hid hrow
  have HPL := Lib.hid hpl
  have HV := Lib.hid hv
  have HNX := Lib.hid hnx
  clear hrow hpl hv hnx
  by_cases h0 : 0 < k
  ·obtain ⟨m, rfl⟩ : ∃ m : Nat, z = m := ⟨k - 1, by omega⟩
   have hm1 : m < la.length := by omega
   have HK : Hid (k = m + 1) := by show k = m + 1; omega
   clear hzk hk h0
   obtain ⟨ba, oa, rfl, hba, gx0⟩ := HCA.out m hm1
   have gx := (HNX.out.cell (p := ⟨ba, oa + m, none⟩) hba).trans gx0
   clear gx0
   obtain ⟨x, hx⟩ : ∃ x, x = la[m]?.getD 0 := ⟨_, rfl⟩
   rw [← hx] at gx
   have hxb : x < 4294967296 := by rw [hx, List.getElem?_eq_getElem hm1]; exact HLA.out _ (List.getElem_mem hm1)
   have HX := Lib.hid hx
   clear hx
   have gz := HROW.out.cell m hm1
   have gf := HROW.out.frozen m
   have hrb : r < 4294967296 := by omega
   have hor := or_join r x hrb hxb
   obtain ⟨t, ht⟩ : ∃ t, t = x + 4294967296 * r := ⟨_, rfl⟩
   rw [← ht] at hor
   have htb : t < 18446744073709551616 := by omega
   have hqb : t / d < 4294967296 := by
    rw [Nat.div_lt_iff_lt_mul (by omega)]
    have : 4294967296 * (r + 1) ≤ 4294967296 * d := Nat.mul_le_mul_left _ hr
    omega
   have HT := Lib.hid ht
   have HQB := Lib.hid hqb
   clear ht hqb
   go_wp2_with fail
   go_roundw
   case rel =>
    refine ⟨_, m, t % d, p.set m (t / d), rfl, by omega, by omega, ?_, Nat.mod_lt _ (by omega), HROW.out.store _ _ _ ?_, all_set HPL.out HQB.out, ?_, HNX.out.setCell (by simp) _⟩
    ·refine congrArg (Value.int .u64) ?_
     rw [Int.natCast_emod]
    ·have h5 := HQB.out
     simp only [IntKind.wrap_u64]
     generalize hq : t / d = q at h5 ⊢
     have h6 : (t : Int) / (d : Int) = (q : Int) := by rw [← Int.natCast_ediv, hq]
     rw [h6]
     omega
    ·have h1 := HV.out
     rw [HK.out] at h1
     have hpm : m < p.length := by rw [HROW.out.1]; exact hm1
     have h2 := div_step (b := 4294967296) (d := d) x r _ _ h1
     rw [vl_drop_step _ _ _ hm1, vl_drop_step _ (p.set m (t / d)) _ (by rw [List.length_set]; exact hpm), drop_set, List.getElem?_set_self hpm, ← HX.out, h2, HT.out]
     rfl
   case measure => simp [intOf]
  ·obtain rfl : z = -1 := by omega
   obtain rfl : k = 0 := by omega
   have h1 := HV.out
   rw [List.drop_zero, List.drop_zero] at h1
   have hq : vl 4294967296 p = vl 4294967296 la / d := by
    rw [h1, Nat.mul_add_div (by omega), Nat.div_eq_of_lt hr, Nat.add_zero]
   have hm : r = vl 4294967296 la % d := by
    rw [h1, Nat.mul_add_mod, Nat.mod_eq_of_lt hr]
   have HQ := Lib.hid hq
   have HM := Lib.hid hm
   have HT := Lib.hid (trim_ow HROW.out.ow HPL.out)
   clear h1 hq hm
   go_wp2_with (go_at_call 163; refine HT.out.mono ?_; rintro e w' ⟨⟨v2, rfl, ho2⟩, rfl⟩)
   go_ret2
   rw [HQ.out] at ho2
   refine ⟨_, ?_, ho2, HNX.out⟩
   rw [← HM.out]
   rfl
theorem divSmall_any (m d : Nat) (va : Value) (w : World) (hm : (digs 4294967296 m).length ≤ 1000000) (ha : Rd .u32 w va (digs 4294967296 m)) (hd0 : 1 ≤ d) (hd : d < 4294967296) :
  Calls Tryz.prog 137 #[va, .int .u32 d] w (DivPost w (m / d) (m % d)) := by
 obtain ⟨ada, ca, rfl, ra⟩ := ha.opt
 have := divSmall_core ada ca _ d w hm ra (digs_lt (by decide) m) hd0 hd
 rw [vl_digs (by decide)] at this
 exact this
end
section
open Go.RowKit Digs
def QRPost (w : World) (q r : Nat) (e : Ending) (w' : World) : Prop :=
 ∃ vq vr, e = .returned (.tuple #[vq, vr]) ∧ Rd .u32 w' vq (digs 4294967296 q) ∧ Rd .u32 w' vr (digs 4294967296 r) ∧ Below w.heap.size w w'
set_option maxHeartbeats 1000000 in
set_option maxRecDepth 100000 in
theorem divide_less (m n : Nat) (va vb : Value) (w : World) (hm : (digs 4294967296 m).length ≤ 1000000) (hmn : m < n) (ha : Rd .u32 w va (digs 4294967296 m)) (hb : Rd .u32 w vb (digs 4294967296 n)) :
  Calls Tryz.prog 135 #[va, vb] w (QRPost w (m / n) (m % n)) := by
 have HC := Lib.hid (compare_any m n va vb w ha hb)
 have HCL := fun d => Lib.hid (clone_any va _ (w.drewN d) (by omega) (ha.keep (below_drewN' (Below.refl _ _) d)))
 have HCL := Lib.hid HCL
 clear hm ha hb
 have hc : cmpN m n = -1 := by unfold cmpN; rw [if_pos hmn]
 rw [hc] at HC
 rw [Nat.div_eq_of_lt hmn, Nat.mod_eq_of_lt hmn]
 clear hc
 go_enter Tryz.func135, Tryz.ntmps135
 go_wp2_with fail
 refine HC.out.mono ?_
 rintro e w0 ⟨rfl, d, rfl⟩
 go_wp2_with fail
 refine (HCL.out d).out.mono ?_
 rintro e w1 ⟨v1, rfl, ho1, hb1⟩
 go_wp2
 go_ret2
 exact ⟨_, _, rfl, .inl ⟨rfl, by rw [digs_zero]⟩, ho1.rd, (below_drewN' (Below.refl _ _) d).trans hb1⟩
theorem Ow.one (w : World) (base g : Nat) (z : Int) (n : Nat) (hg : g = w.heap.size) (hb : base ≤ w.heap.size) (hz : z = n) : Ow (w.alloc (.cells #[.int .u32 z] 137)) base (.slice (some ⟨g, 0, none⟩) 1 1) [n] := by
 subst hg hz
 exact World.ownsRow_lit w #[.int .u32 (n : Int)] 1 hb (by unfold maxLen; omega) rfl
theorem one_limb {n : Nat} (h : (digs 4294967296 n).length = 1) : n < 4294967296 ∧ 1 ≤ n ∧ (digs 4294967296 n)[0]?.getD 0 = n := by
 have h0 : n ≠ 0 := by rintro rfl; rw [digs_zero] at h; cases h
 have h1 := digs_lt_pow (b := 4294967296) (by decide) n
 rw [h, Nat.pow_one] at h1
 refine ⟨h1, by omega, ?_⟩
 rw [digs_pos (by decide) h0]
 simp [Nat.mod_eq_of_lt h1]
set_option maxHeartbeats 1000000 in
set_option maxRecDepth 100000 in
theorem divide_one (m n : Nat) (va vb : Value) (w : World) (hm : (digs 4294967296 m).length ≤ 1000000) (h1 : (digs 4294967296 n).length = 1) (hmn : n ≤ m) (ha : Rd .u32 w va (digs 4294967296 m)) (hb : Rd .u32 w vb (digs 4294967296 n)) :
  Calls Tryz.prog 135 #[va, vb] w (QRPost w (m / n) (m % n)) := by
 have HC := Lib.hid (compare_any m n va vb w ha hb)
 obtain ⟨hn, hn1, hd⟩ := one_limb h1
 have HDS := fun d => Lib.hid (divSmall_any m n va (w.drewN d) hm (ha.keep (below_drewN' (Below.refl _ _) d)) hn1 hn)
 have HDS := Lib.hid HDS
 obtain ⟨adb, cb, rfl, rb⟩ := hb.opt
 obtain ⟨bb, ob, rfl, hbb, gx⟩ := rb 0 (by rw [h1]; decide)
 rw [hd] at gx
 rw [h1] at HC ⊢
 have gx' : w.cell? ⟨bb, ob, none⟩ = some (.int .u32 (n : Int)) := gx
 have hc : (cmpN m n < 0) = False := by
  rw [eq_iff_iff, iff_false]
  unfold cmpN
  rw [if_neg (by omega)]
  split <;> omega
 have hc2 : decide (cmpN m n < 0) = false := by simp [hc]
 have HMR : Hid (m % n < 4294967296) := Nat.lt_trans (Nat.mod_lt _ (by omega)) hn
 clear hm h1 hd ha hb rb gx hc hmn
 generalize hcv : cmpN m n = c at *
 have HCV := Lib.hid hcv
 have hc3 : ¬ c < 0 := by simpa using hc2
 clear hcv hc2
 go_enter Tryz.func135, Tryz.ntmps135
 go_wp2_with fail
 refine HC.out.mono ?_
 rintro e w0 ⟨rfl, d, rfl⟩
 go_wp2_with fail
 refine (HDS.out d).out.mono ?_
 rintro e w1 ⟨v1, rfl, ho1, hb1⟩
 go_wp2_with fail
 refine (trim_ow (Ow.one w1 w.heap.size _ _ (m % n) rfl (Nat.le_trans (by simp) hb1.size) (by omega)) (by have := HMR.out; intro x hx; rw [List.mem_singleton.1 hx]; exact this)).mono ?_
 rintro e w2 ⟨⟨v2, rfl, ho2⟩, rfl⟩
 have HO2 := Lib.hid ho2.rd
 clear ho2
 go_wp2
 go_ret2
 have h8 := HO2.out
 rw [show vl 4294967296 [m % n] = m % n by simp [vl]] at h8
 exact ⟨_, _, rfl, ho1.rd.keep ((Below.refl _ _).alloc (Nat.le_refl _) _), h8, ((below_drewN' (Below.refl _ _) d).trans hb1).alloc (Nat.le_trans (by simp) hb1.size) _⟩
end
section
open Go.RowKit Digs
def sgnZ (z : Int) : Int := if z < 0 then -1 else if z = 0 then 0 else 1
set_option maxHeartbeats 1000000 in
set_option maxRecDepth 100000 in
theorem sign_any (z : Int) (v : Value) (w : World) (hl : len z ≤ 1000000) (h : IntV w v z) :
  Calls Tryz.prog 64 #[v] w fun e w' => e = .returned (.int .i64 (sgnZ z)) ∧ Below w.heap.size w w' := by
 obtain ⟨ad, n, c, rfl, hr⟩ := h
 obtain ⟨ad', c', hv⟩ := hr.shape'
 obtain ⟨k, hk⟩ : ∃ k, k = (digs 4294967296 z.natAbs).length := ⟨_, rfl⟩
 have hz : k = 0 ↔ z = 0 := by rw [hk, digs_length_zero (by decide)]; omega
 unfold len at hl
 rw [← hk] at hl
 cases hv
 rw [← hk] at *
 clear hr hk
 unfold sgnZ
 by_cases h1 : z < 0
 ·have hd : decide (z < 0) = true := by simpa using h1
  rw [hd, if_pos h1]
  clear hd hz h1
  go_enter Tryz.func64, Tryz.ntmps64
  go_wp2
  go_ret
  exact ⟨rfl, (Below.refl _ _).alloc (Nat.le_refl _) _⟩
 ·have hd : decide (z < 0) = false := by simpa using h1
  rw [hd, if_neg h1]
  clear hd h1
  by_cases h2 : k = 0
  ·rw [if_pos (hz.1 h2)]
   subst h2
   clear hz
   go_enter Tryz.func64, Tryz.ntmps64
   go_wp2
   go_ret
   exact ⟨rfl, (Below.refl _ _).alloc (Nat.le_refl _) _⟩
  ·rw [if_neg (fun e => h2 (hz.2 e))]
   have h3 : ((k : Int) == 0) = false := by rw [beq_eq_false_iff_ne]; omega
   clear hz
   go_enter Tryz.func64, Tryz.ntmps64
   go_wp2
   go_ret
   exact ⟨rfl, (Below.refl _ _).alloc (Nat.le_refl _) _⟩
theorem box4 {w w2 : World} {a b c d e f g h : Value} {t : TypeId} (hb : Below ((((w.alloc (.cells #[a, b] t)).alloc (.cells #[c, d] t)).alloc (.cells #[e, f] t)).alloc (.cells #[g, h] t)).heap.size ((((w.alloc (.cells #[a, b] t)).alloc (.cells #[c, d] t)).alloc (.cells #[e, f] t)).alloc (.cells #[g, h] t)) w2) :
  (w2.cell? ⟨w.heap.size, 0, none⟩ = some a ∧ w2.cell? ⟨w.heap.size, 1, none⟩ = some b ∧ w2.cell? ⟨w.heap.size + 1, 0, none⟩ = some c ∧ w2.cell? ⟨w.heap.size + 1, 1, none⟩ = some d) ∧
  (w2.cell? ⟨w.heap.size + 2, 0, none⟩ = some e ∧ w2.cell? ⟨w.heap.size + 2, 1, none⟩ = some f ∧ w2.frozen? ⟨w.heap.size + 2, 0, none⟩ = false ∧ w2.frozen? ⟨w.heap.size + 2, 1, none⟩ = false) ∧
  (w2.cell? ⟨w.heap.size + 3, 0, none⟩ = some g ∧ w2.cell? ⟨w.heap.size + 3, 1, none⟩ = some h ∧ w2.frozen? ⟨w.heap.size + 3, 0, none⟩ = false ∧ w2.frozen? ⟨w.heap.size + 3, 1, none⟩ = false) ∧ w.heap.size + 3 < w2.heap.size := by
 have hs := hb.size
 simp only [World.size_alloc] at hs
 obtain ⟨h1, h2, h3, h4, h5, h6, _, h7, h8, _⟩ := box3 (t := t) (((Below.refl (((w.alloc (.cells #[a, b] t)).alloc (.cells #[c, d] t)).alloc (.cells #[e, f] t)).heap.size _).alloc (Nat.le_refl _) (.cells #[g, h] t)).trans (hb.mono (by simp)))
 refine ⟨⟨h1, h2, h3, h4⟩, ⟨h5, h6, h7, h8⟩, ⟨?_, ?_, ?_, ?_⟩, by omega⟩
 ·rw [hb.cell (p := ⟨w.heap.size + 3, 0, none⟩) (by simp), World.cell?_alloc_at _ _ _ _ (by simp)]; rfl
 ·rw [hb.cell (p := ⟨w.heap.size + 3, 1, none⟩) (by simp), World.cell?_alloc_at _ _ _ _ (by simp)]; rfl
 ·rw [hb.frozen (p := ⟨w.heap.size + 3, 0, none⟩) (by simp), World.frozen?_alloc_at _ _ _ _ (by simp)]
 ·rw [hb.frozen (p := ⟨w.heap.size + 3, 1, none⟩) (by simp), World.frozen?_alloc_at _ _ _ _ (by simp)]
theorem below4 (w : World) (a b c d : Obj) : Below w.heap.size w ((((w.alloc a).alloc b).alloc c).alloc d) := (below3 w a b c).alloc (by simp; omega) _
def DivideOK (w : World) (x y : Int) (e : Ending) (w' : World) : Prop :=
 ∃ vq vr, e = .returned (.tuple #[vq, vr, .int .i64 0]) ∧ IntV w' vq (x.tdiv y) ∧ IntV w' vr (x.tmod y) ∧ Below w.heap.size w w'
end
section
open Go.RowKit Digs
theorem sg_div (bx by' : Bool) (m n : Nat) : sg (bx != by') (m / n) = (sg bx m).tdiv (sg by' n) := by
 cases bx <;> cases by' <;> simp [sg, Int.neg_tdiv, Int.tdiv_neg]
theorem sg_mod (bx by' : Bool) (m n : Nat) : sg bx (m % n) = (sg bx m).tmod (sg by' n) := by
 cases bx <;> cases by' <;> simp [sg, Int.neg_tmod, Int.tmod_neg] <;> rfl
set_option maxHeartbeats 2000000 in
set_option maxRecDepth 100000 in
theorem divide_core (bx by' : Bool) (adx ady : Option Addr) (nx cx ny cy : Nat) (q r : Nat) (y : Int) (hyv : y ≠ 0) (hys : len y ≤ 1000000) (w : World)
  (hy : IntV w (.agg #[.bool by', .slice ady ny cy]) y)
  (hd : ∀ W, Below w.heap.size w W → Calls Tryz.prog 135 #[.slice adx nx cx, .slice ady ny cy] W (QRPost W q r)) :
  Calls Tryz.prog 139 #[.agg #[.bool bx, .slice adx nx cx], .agg #[.bool by', .slice ady ny cy]] w fun e w' =>
   ∃ vq vr, e = .returned (.tuple #[vq, vr, .int .i64 0]) ∧ IntV w' vq (sg (bx != by') q) ∧ IntV w' vr (sg bx r) ∧ Below w.heap.size w w' := by
 have HD := Lib.hid hd
 have HS := fun W hw => Lib.hid (sign_any y _ W hys (hy.keep (w' := W) hw))
 have HS := Lib.hid HS
 have hsg : (sgnZ y == 0) = false := by unfold sgnZ; split <;> (try split) <;> first | rfl | (exfalso; omega)
 have HO := fun (neg : Bool) (v : Value) (k : Nat) (W : World) (h : Rd .u32 W v (digs 4294967296 k)) => own_any neg v _ W h (digs_lt (by decide) k)
 have HO' : ∀ (neg : Bool) (v : Value) (k : Nat) (W : World) (h : Rd .u32 W v (digs 4294967296 k)), Calls Tryz.prog 118 #[.bool neg, v] W (IntPost W (sg neg k)) := by
  intro neg v k W h
  have := HO neg v k W h
  rw [vl_digs (by decide)] at this
  exact this
 have HOW := Lib.hid HO'
 clear hd hy HO HO' hyv hys
 generalize hsv : sgnZ y = sy at *
 clear hsv
 go_enter Tryz.func139, Tryz.ntmps139
 go_wp2_with fail
 refine (HS.out _ (below4 _ _ _ _ _)).out.mono ?_
 rintro e w0 ⟨rfl, hb0⟩
 obtain ⟨⟨cA0, cB0, cC0, cD0⟩, _, _, hsz0⟩ := box4 hb0
 have HB0 := Lib.hid hb0
 clear hb0
 go_wp2_with fail
 refine (HD.out _ ((below4 _ _ _ _ _).trans (HB0.out.mono (by simp <;> omega)))).mono ?_
 rintro e w1 ⟨vq, vr, rfl, hq, hr, hb1⟩
 have HB1 := Lib.hid (HB0.out.trans (hb1.mono HB0.out.size))
 obtain ⟨⟨cA, cB, cC, cD⟩, ⟨cE, cF, fE, fF⟩, ⟨cG, cH, fG, fH⟩, hsz⟩ := box4 HB1.out
 have HQ := Lib.hid hq
 have HR := Lib.hid hr
 clear hq hr hb1 cA0 cB0 cC0 cD0
 obtain ⟨adq, nq, cq, rfl⟩ := HQ.out.shape
 obtain ⟨adr, nr, cr, rfl⟩ := HR.out.shape
 have h1w : w.heap.size < w1.heap.size := by omega
 have h2w : w.heap.size + 1 < w1.heap.size := by omega
 have h3w : w.heap.size + 2 < w1.heap.size := by omega
 go_wp2_with fail
 go_region_held3 (fun w' => w'.cell? ⟨w.heap.size, 0, none⟩ = some (.bool bx) ∧ w'.cell? ⟨w.heap.size + 1, 0, none⟩ = some (.bool by'))
  (first | exact ⟨cA3, cC3⟩ | exact ⟨cA2, cC2⟩ | exact ⟨(cell_store2 (by omega)).trans cA3, (cell_store2 (by omega)).trans cC3⟩ | exact ⟨(cell_store2 (by omega)).trans ((cell_store2 (by omega)).trans cA3), (cell_store2 (by omega)).trans ((cell_store2 (by omega)).trans cC3)⟩ | go_keep)
  (first
   | (go_at_call_of 118 (Value.slice adq nq cq); refine (HOW.out (bx != by') (.slice adq nq cq) q _ ?_).mono ?_; (exact HQ.out); rintro e w2 ⟨v2, rfl, ⟨ad2, n2, c2, rfl, hr2⟩, hb2'⟩; have hb2 := (Below.refl w1.heap.size w1).drew.trans hb2'; have cA2 := (hb2.cell (p := ⟨w.heap.size, 0, none⟩) h1w).trans cA; have cC2 := (hb2.cell (p := ⟨w.heap.size + 1, 0, none⟩) h2w).trans cC; have hle2 := hb2.size)
   | (go_at_call_of 118 (Value.slice adr nr cr); refine (HOW.out bx (.slice adr nr cr) r _ ?_).mono ?_; (exact HR.out.keep hb2); rintro e w3 ⟨v3, rfl, ⟨ad3, n3, c3, rfl, hr3⟩, hb3⟩; have cA3 := (hb3.cell (p := ⟨w.heap.size, 0, none⟩) (Nat.lt_of_lt_of_le h1w hle2)).trans cA2; have cC3 := (hb3.cell (p := ⟨w.heap.size + 1, 0, none⟩) (Nat.lt_of_lt_of_le h2w hle2)).trans cC2; obtain ⟨_, ⟨cE3, cF3, fE3, fF3⟩, ⟨cG3, cH3, fG3, fH3⟩, _⟩ := box4 (HB1.out.trans ((hb2.mono HB1.out.size).trans (hb3.mono (Nat.le_trans HB1.out.size hle2))))))
 have n0 : ∀ b : Bool, ∀ n, Value.bool b ≠ .int .u32 n := by intro b n h; cases h
 have n1 : ∀ (ad : Option Addr) (n c : Nat), ∀ k, Value.slice ad n c ≠ .int .u32 k := by intro ad n c k h; cases h
 have HQ2 := fun x y x' y' => Lib.hid (((hr2.keep hb3).store2 cE3 cF3 (n0 _) (n1 _ _ _) x y).store2 (R := w.heap.size + 3) ((cell_store2 (by omega)).trans cG3) ((cell_store2 (by omega)).trans cH3) (n0 _) (n1 _ _ _) x' y')
 have HR2 := fun x y x' y' => Lib.hid ((hr3.store2 cE3 cF3 (n0 _) (n1 _ _ _) x y).store2 (R := w.heap.size + 3) ((cell_store2 (by omega)).trans cG3) ((cell_store2 (by omega)).trans cH3) (n0 _) (n1 _ _ _) x' y')
 have HQ2 := Lib.hid HQ2
 have HR2 := Lib.hid HR2
 have HBB := Lib.hid ((below4 w _ _ _ _).trans ((HB1.out.mono (by simp <;> omega)).trans ((hb2.mono (Nat.le_of_lt h1w)).trans (hb3.mono (Nat.le_trans (Nat.le_of_lt h1w) hle2)))))
 clear hr2 hr3 hb2 hb3 hb2' n0 n1
 go_wp2
 refine bodyPost_ret (v := .tuple #[.agg #[.bool (decide (sg (bx != by') q < 0)), .slice ad2 n2 c2], .agg #[.bool (decide (sg bx r < 0)), .slice ad3 n3 c3], .int .i64 0]) (by simp [results, Tryz.results139, go_sem, cE3, cF3, cG3, cH3]) rfl ⟨_, _, rfl, ⟨_, _, _, rfl, (HQ2.out _ _ _ _).out⟩, ⟨_, _, _, rfl, (HR2.out _ _ _ _).out⟩, ?_⟩
 exact (((HBB.out.setCell (by simp; omega) _).setCell (by simp; omega) _).setCell (by simp; omega) _).setCell (by simp; omega) _
end
section
open Go.RowKit Digs
set_option maxHeartbeats 2000000 in
set_option maxRecDepth 100000 in
theorem Sub_any (x y : Int) (vx vy : Value) (w : World) (hx : len x ≤ 1000000) (hy : len y ≤ 1000000) (ha : IntV w vx x) (hb : IntV w vy y) :
  Calls Tryz.prog 142 #[vx, vy] w (IntPost w (x - y)) := by
 obtain ⟨adx, nx, cx, rfl, ra⟩ := ha
 obtain ⟨ady, ny, cy, rfl, rb⟩ := hb
 have HADD := fun W hw => Lib.hid (Add_raw (decide (x < 0)) (!decide (y < 0)) adx ady nx cx ny cy x.natAbs y.natAbs W hx hy (ra.keep (w' := W) hw) (rb.keep hw))
 have e : sg (decide (x < 0)) x.natAbs + sg (!decide (y < 0)) y.natAbs = x - y := by
  rw [sg_self]
  have h2 := sg_self y
  revert h2
  cases decide (y < 0) <;> simp [sg] <;> omega
 rw [e] at HADD
 have HADD := Lib.hid HADD
 clear hx hy ra rb e
 generalize decide (x < 0) = bx at *
 generalize decide (y < 0) = by' at *
 go_enter Tryz.func142, Tryz.ntmps142
 go_wp2_with fail
 refine (HADD.out _ ?_).out.mono ?_
 ·exact below3 _ _ _ _
 rintro e w2 ⟨v2, rfl, ⟨ad2, n2, c2, rfl, hr2⟩, hb2⟩
 obtain ⟨cA, cB, cC, cD, cE, cF, fC, fE, fF, hsz⟩ := box3 hb2
 have HR := Lib.hid (hr2.store2 cE cF (by intro n h; cases h) (by intro n h; cases h))
 have HB := Lib.hid ((below3 w _ _ _).trans (hb2.mono (by simp <;> omega)))
 clear hr2 hb2
 go_wp2_with fail
 refine bodyPost_ret (v := .agg #[.bool (decide (x - y < 0)), .slice ad2 n2 c2]) (by simp [results, Tryz.results142, go_sem, cE, cF]) rfl ⟨_, rfl, ⟨_, _, _, rfl, HR.out _ _⟩, ?_⟩
 exact (HB.out.setCell (by simp; omega) _).setCell (by simp; omega) _
theorem box2r {w w2 : World} {a b c d : Value} {t u : TypeId} (h : Below ((w.alloc (.cells #[a, b] t)).alloc (.cells #[c, d] u)).heap.size ((w.alloc (.cells #[a, b] t)).alloc (.cells #[c, d] u)) w2) :
  w2.cell? ⟨w.heap.size + 1, 0, none⟩ = some c ∧ w2.cell? ⟨w.heap.size + 1, 1, none⟩ = some d ∧ w2.frozen? ⟨w.heap.size + 1, 0, none⟩ = false ∧ w2.frozen? ⟨w.heap.size + 1, 1, none⟩ = false ∧ w.heap.size + 1 < w2.heap.size := by
 have h2 := box2 (w := w.alloc (.cells #[a, b] t)) h
 simp only [World.size_alloc] at h2
 exact h2
theorem len_neg1 : len (-1) = 1 := by
 unfold len
 rw [show Int.natAbs (-1) = 1 from rfl, digs_pos (by decide) (by decide), digs_zero]
 rfl
set_option maxHeartbeats 2000000 in
set_option maxRecDepth 100000 in
theorem complement_any (z : Int) (v : Value) (w : World) (hz : len z ≤ 1000000) (h : IntV w v z) :
  Calls Tryz.prog 165 #[v] w (IntPost w (-1 - z)) := by
 have h' := h
 obtain ⟨ad, n, c, rfl, hr⟩ := h
 have HN := fun W => Lib.hid (new_any (-1) W (by decide) (by decide))
 have HS := fun v1 W h1 hw => Lib.hid (Sub_any (-1) z v1 _ W (by rw [len_neg1]; decide) hz h1 (h'.keep (w' := W) hw))
 have HN := Lib.hid HN
 have HS := Lib.hid HS
 clear hz h' hr
 generalize decide (z < 0) = b at *
 go_enter Tryz.func165, Tryz.ntmps165
 go_wp2_with fail
 go_region_held3 (fun w' => w'.cell? ⟨w.heap.size, 0, none⟩ = some (.bool b) ∧ w'.cell? ⟨w.heap.size, 1, none⟩ = some (.slice ad n c))
  (first | exact ⟨cA, cB⟩ | exact ⟨cA2, cB2⟩ | exact ⟨(cell_store2 (by omega)).trans cA2, (cell_store2 (by omega)).trans cB2⟩ | go_keep)
  (first
   | (go_at_call 65; refine (HN.out _).out.mono ?_; rintro e w1 ⟨v1, rfl, hi1, hb1'⟩; have hb1 := (Below.refl _ _).drew.trans hb1'; obtain ⟨cA, cB, cC, cD⟩ := box2two hb1; have hs1 := hb1.size; have h1w : w.heap.size < w1.heap.size := (by simp at hs1; omega); have hb0 := (below2 w _ _).trans (hb1.mono (by simp <;> omega)))
   | (go_at_call 142; refine (HS.out _ _ hi1 hb0).out.mono ?_; rintro e w2 ⟨v2, rfl, ⟨ad2, n2, c2, rfl, hr2⟩, hb2⟩; have cA2 := (hb2.cell (p := ⟨w.heap.size, 0, none⟩) h1w).trans cA; have cB2 := (hb2.cell (p := ⟨w.heap.size, 1, none⟩) h1w).trans cB; obtain ⟨cE, cF, fE, fF, hsz⟩ := box2r (hb1.trans (hb2.mono hs1))))
 have HR := Lib.hid (hr2.store2 cE cF (by intro n h; cases h) (by intro n h; cases h))
 have HB := Lib.hid (hb0.trans (hb2.mono (Nat.le_of_lt h1w)))
 clear hr2 hb2 hb1 hb1' hb0 hi1
 go_wp2
 refine bodyPost_ret (v := .agg #[.bool (decide (-1 - z < 0)), .slice ad2 n2 c2]) (by simp [results, Tryz.results165, go_sem, cE, cF]) rfl ⟨_, rfl, ⟨_, _, _, rfl, HR.out _ _⟩, ?_⟩
 exact (HB.out.setCell (by simp) _).setCell (by simp) _
end
end Go.Proofs.YtghgcbedajaldaaGreat
/-  Words Op Signed Comb Boole  -/
namespace Go.Proofs.YtghgcbedajaldaaGreat
section
open Go.RowKit Digs
theorem Row.block {w : World} {base g N : Nat} {p : List Nat} (h : Row w base g N p) : w.heap[g]? = some (.cells (uw p).toArray 137 (0, 0)) := by
 obtain ⟨h0, _, ⟨hv, _⟩ | ⟨g', cap, cur, hv, hb, hg, hc, hm, hs, ht⟩⟩ := h
 ·cases hv
 ·cases hv
  rw [hg]
  have : cur = (uw p).toArray := by
   rw [← ht, Nat.mul_one, List.take_of_length_le (by simp; omega)]
  rw [this]
theorem Row.of_block {w : World} {base g N : Nat} {p : List Nat} (hg : w.heap[g]? = some (.cells (uw p).toArray 137 (0, 0))) (hb : base ≤ g) (hp : p.length = N) (hN : N ≤ maxLen) : Row w base g N p :=
 ⟨hp, by rw [uw_length, hp, Nat.mul_one], .inr ⟨g, N, _, rfl, hb, hg, Nat.le_refl _, hN, by simp [uw_length, hp], by simp [List.take_of_length_le, uw_length, hp]⟩⟩
theorem RdA.keep {k : IntKind} {w w' : World} {ad : Option Addr} {l : List Nat} (h : RdA k w ad l) (hb : Below w.heap.size w w') : RdA k w' ad l := fun j hj => by
 obtain ⟨b, off, h1, h2, h3⟩ := h j hj
 exact ⟨b, off, h1, Nat.lt_of_lt_of_le h2 hb.size, (hb.cell (p := ⟨b, off + j, none⟩) h2).trans h3⟩
theorem RdA.news {w : World} {ad : Option Addr} {l : List Nat} (h : RdA .u32 w ad l) (h0 : 0 < (uw l).length) : ∃ a, ad = some a ∧ ∀ (j : Nat) v, (uw l)[j]? = some v → w.cell? (a.add j) = some v := by
 rw [uw_length] at h0
 obtain ⟨b, off, h1, _⟩ := h 0 h0
 refine ⟨_, h1, Rd.news fun j hj => ?_⟩
 obtain ⟨b', off', h1', _, h3'⟩ := h j hj
 rw [h1] at h1'
 cases h1'
 exact h3'
theorem compl_len {z : Int} (h : z < 0) : len (-1 - z) ≤ len z := digs_length_mono (by decide) (by omega)
theorem run_limbs (b : Bool) (ad : Option Addr) (n c : Nat) (w : World) : (Instr.field 31 (.agg #[.bool b, .slice ad n c]) 1).run Tryz.prog w = .ok (.slice ad n c) w := by kernel_rfl
end
section
open Go.RowKit Digs
end
section
open Go.RowKit Digs
def Only (g : Nat) (w w' : World) : Prop := ∀ k, k < w.heap.size → k ≠ g → w'.heap[k]? = w.heap[k]?
theorem Only.store2 {g R : Nat} {w w' : World} {x y : Value} (h : Only g w w') (hR : w.heap.size ≤ R) : Only g w ((w'.setCell ⟨R, 0, none⟩ x).setCell ⟨R, 1, none⟩ y) := fun k hk hg => by
 rw [heap_setCell_other _ _ _ _ (by simp; omega), heap_setCell_other _ _ _ _ (by simp; omega)]
 exact h k hk hg
theorem Row.keep {w w' : World} {base g N : Nat} {p : List Nat} (h : Row w base g N p) (hb : Below w.heap.size w w') (hN : N ≤ maxLen) : Row w' base g N p :=
 Row.of_block (by rw [hb.block g h.lt.2]; exact h.block) h.lt.1 h.1 hN
theorem Row.rd {w : World} {base g N : Nat} {p : List Nat} (h : Row w base g N p) : Rd .u32 w (.slice (some ⟨g, 0, none⟩) N N) p := h.ow.rd
end
section
open Go.RowKit Digs
end
section
open Go.RowKit Digs
def IntOK (w : World) (z : Int) (e : Ending) (w' : World) : Prop := ∃ v, e = .returned (.tuple #[v, .int .i64 0]) ∧ IntV w' v z ∧ Below w.heap.size w w'
def IntErr (w : World) (c : Int) (e : Ending) (w' : World) : Prop := e = .returned (.tuple #[.agg #[.bool false, .slice none 0 0], .int .i64 c]) ∧ Below w.heap.size w w'
end
end Go.Proofs.YtghgcbedajaldaaGreat
