/-  Shr  -/
import Derived.Lib.BitFns
import Derived.Lib.Walk
import Derived.Laws.BitsAllLaws
import Derived.IntWalk
import Derived.OwnWalk
import Derived.Deep.CutRange
import Derived.Test.YtghgcbedajaldaaGreatMpae
import Derived.Test.YtghgcbedajaldaaGreatMpah
/-  Len Shl Shr  -/
namespace Go.Proofs.YtghgcbedajaldaaGreat
section
open Go.RowKit Digs
theorem bitLen_bl (x : Nat) (h : x < 2 ^ 64) : Lib.bitLen x = bl x := by
 induction x using Nat.strongRecOn with
 | ind x ih =>
  by_cases h0 : x = 0
  ·subst h0; decide
  ·rw [Lib.bitLen_half x h0 h, bl_half x h0, ih (x / 2) (by omega) (by omega)]
theorem top_limb (m : Nat) (h0 : m ≠ 0) : ∃ k t, (digs 4294967296 m).length = k + 1 ∧ (digs 4294967296 m)[k]?.getD 0 = t ∧ t ≠ 0 ∧ t < 4294967296 ∧ bl m = 32 * k + bl t := by
 have hl : (digs 4294967296 m).length ≠ 0 := by rw [Ne, digs_length_zero (by decide)]; exact h0
 obtain ⟨k, hk⟩ : ∃ k, (digs 4294967296 m).length = k + 1 := ⟨(digs 4294967296 m).length - 1, by omega⟩
 obtain ⟨t, ht, ht0⟩ := digs_getLast (b := 4294967296) (by decide) m h0
 rw [List.getLast?_eq_getElem?, hk, Nat.add_sub_cancel] at ht
 have hlt := digs_lt (b := 4294967296) (by decide) m
 refine ⟨k, t, hk, by rw [ht]; rfl, ht0, hlt t (List.mem_of_getElem? ht), ?_⟩
 have h1 := vl_take_succ 4294967296 (digs 4294967296 m) k (by omega)
 rw [List.take_of_length_le (by omega), vl_digs (by decide), ht] at h1
 simp only [Option.getD_some] at h1
 have h2 := vl_lt ((digs 4294967296 m).take k) (fun x hx => hlt x (List.mem_of_mem_take hx))
 rw [List.length_take, Nat.min_eq_left (by omega)] at h2
 have h3 := bl_top k _ t h2 ht0
 rw [← h1] at h3
 exact h3
theorem wrap_sum (k : Int) (b c : Nat) (hb : b ≤ 8) (h0 : 0 ≤ k) (hk : k ≤ 24) (h : (c : Int) = k + b) : wrap64 (k + wrap64 (b : Int)) = c := by unfold wrap64; omega
theorem wrap_one (b : Nat) (hb : b ≤ 8) : wrap64 (wrap64 (b : Int)) = b := by unfold wrap64; omega
theorem sum3 (b : Nat) : ((16 + (8 + b) : Nat) : Int) = 24 + b := by omega
theorem len8_elem (i : Int) (h0 : 0 ≤ i) (h : i.toNat < Lib.len8tab.size) : ((Lib.len8tab[i.toNat]'h).toNat : Int) = (Lib.bitLen i.toNat : Int) := by
 have h1 : i.toNat < 256 := by rw [Lib.len8tab_size] at h; exact h
 rw [← Lib.len8_of i h0 (by omega)]
 unfold Lib.len8
 rw [getElem?_pos Lib.len8tab i.toNat h]
 rfl
set_option maxHeartbeats 400000 in
set_option maxRecDepth 100000 in
theorem len32_any (x : Nat) (w : World) (h : x < 4294967296) : Calls Tryz.prog 179 #[.int .u32 x] w fun e w' => e = .returned (.int .i64 ((bl x : Nat) : Int)) ∧ w = w' := by
 rw [← bitLen_bl x (by omega)]
 have h0 : (0 : Int) ≤ (x : Int) := by omega
 have h1 : (x : Int) ≤ 4294967295 := by omega
 obtain ⟨z, hz⟩ : ∃ z : Int, z = (x : Int) := ⟨_, rfl⟩
 have hx : x = z.toNat := by omega
 rw [← hz] at h0 h1 ⊢
 rw [hx]
 clear hz hx h
 have hs := Lib.len8tab_size
 go_enter Tryz.func179, Tryz.ntmps179
 go_wp2
 all_goals (go_ret; refine ⟨congrArg Ending.returned (congrArg (Value.int IntKind.i64) ?_), rfl⟩; rw [len8_elem _ (by omega)])
 ·have e : (z / 65536 / 256).toNat = z.toNat / 65536 / 256 := by omega
  have s := Lib.bitLen_shift16 z.toNat (by omega) (by omega)
  have s2 := Lib.bitLen_shift8 (z.toNat / 65536) (by omega) (by omega)
  exact wrap_sum 24 _ _ (Lib.bitLen_le8' (z / 65536 / 256) (by omega) (by omega)) (by decide) (by decide) (by rw [e, s, s2]; exact sum3 _)
 ·have e : (z / 65536).toNat = z.toNat / 65536 := by omega
  have s := Lib.bitLen_shift16 z.toNat (by omega) (by omega)
  exact wrap_sum 16 _ _ (Lib.bitLen_le8' (z / 65536) (by omega) (by omega)) (by decide) (by decide) (by rw [e, s]; exact Int.natCast_add _ _)
 ·have e : (z / 256).toNat = z.toNat / 256 := by omega
  have s := Lib.bitLen_shift8 z.toNat (by omega) (by omega)
  exact wrap_sum 8 _ _ (Lib.bitLen_le8' (z / 256) (by omega) (by omega)) (by decide) (by decide) (by rw [e, s]; exact Int.natCast_add _ _)
 ·exact wrap_one _ (Lib.bitLen_le8' z (by omega) (by omega))
set_option maxHeartbeats 400000 in
set_option maxRecDepth 100000 in
theorem bitLength_any (m : Nat) (v : Value) (w : World) (hm : (digs 4294967296 m).length ≤ 1000000) (h : Rd .u32 w v (digs 4294967296 m)) :
  Calls Tryz.prog 164 #[v] w fun e w' => e = .returned (.int .i64 ((bl m : Nat) : Int)) ∧ w = w' := by
 obtain ⟨ad, cap, rfl, hr⟩ := h.opt
 by_cases h0 : m = 0
 ·subst h0
  rw [digs_zero]
  clear hr
  go_enter Tryz.func164, Tryz.ntmps164
  go_wp2
  go_ret
  exact ⟨rfl, rfl⟩
 ·obtain ⟨k, t, hk, ht, ht0, htl, hb⟩ := top_limb m h0
  obtain ⟨b, off, rfl, hbl, gx⟩ := hr k (by omega)
  rw [ht] at gx
  rw [hk] at hm ⊢
  rw [hb]
  have hbt : bl t ≤ 32 := bl_le_iff.2 (by omega)
  have H := fun W => Lib.hid (len32_any t W htl)
  have H := Lib.hid H
  clear hk ht hb hr h0 h
  go_enter Tryz.func164, Tryz.ntmps164
  go_wp2_with (go_at_call 179; refine (H.out _).out.mono ?_; rintro e w' ⟨rfl, rfl⟩)
  go_ret
  exact ⟨ret_int (by omega), rfl⟩
theorem wpList_make_part {P : Program} (w : World) {ops : Array Oper} {rest : List Oper} {o : Oper} {a : Act} {Q : Exit → Act → World → Prop}
  (hg : o.guard = none) (l c : Operand) (t : TypeId) (hop : o.op = Op.makeSlice t l c)
  (base : Nat) (e : TypeId) (i : TypeInfo) (z : Value) (h1 : P.underlying t = some (.slice e)) (h2 : P.info? e = some i) (h3 : i.zero = some z) (h4 : i.size = 1) (hz1 : z.cells = #[z])
  (kl kc : IntKind) (L C : Int) (m n : Nat) (hl : a.eval l = .int kl L) (hc : a.eval c = .int kc C) (hL : L = (m : Int)) (hC : C = (n : Int)) (hmn : m ≤ n) (b2 : i.bytes * n ≤ 281474976710656) (b3 : n ≤ maxLen) (b4 : base ≤ w.heap.size)
  (hK : ∀ w', w'.ownsRow base e 1 (.slice (some ⟨w.heap.size, 0, none⟩) m n) m (List.replicate m z) → w.grownBy w' none → wpList P ops Q rest (a.put o.dst (.slice (some ⟨w.heap.size, 0, none⟩) m n)) w') :
  wpList P ops Q (o :: rest) a w := by
 refine wpList_plain hg fun K hK' => ?_
 have h63' : (n : Int) ≤ 9223372036854775807 := by
  have h := b3
  simp [maxLen] at h
  omega
 have hb' : (i.bytes : Int) * (n : Int) ≤ 281474976710656 := by
  have h : ((i.bytes * n : Nat) : Int) ≤ 281474976710656 := by omega
  rwa [Int.natCast_mul] at h
 have hrun := run_make (P := P) w t e i z h1 h2 h3 kl kc m n (by omega) (by omega) hb' h63'
 simp only [Int.toNat_natCast, h4, Nat.mul_one, hz1] at hrun
 subst hL
 subst hC
 unfold Oper.wp
 simp [execOp, hop, hl, hc, hrun, Result.andThen]
 refine hK' _ _ (hK _ ⟨by simp, .inr ⟨w.heap.size, n, madeCells #[z] n, rfl, b4, heap_alloc_new w _, hmn, b3, by simp [madeCells], ?_⟩⟩ (World.grownBy_alloc w _ none))
 rw [toList_madeCells_one, Nat.mul_one, List.take_replicate, Nat.min_eq_left hmn]
end
section
open Go.RowKit Digs
theorem or_low (c x p : Nat) (hp : p ≤ 31) (hc : c < 2 ^ p) (hx : x < 4294967296) :
  bits BinOp.or IntKind.u64 (c : Int) (IntKind.u64.wrap ((x : Int) * 2 ^ p)) = ((c + x * 2 ^ p : Nat) : Int) := by
 have h1 := two_pow_le_31 hp
 have h2 := shl_bound hx hc
 have h3 : 4294967296 * 2 ^ p ≤ 4294967296 * 2147483648 := Nat.mul_le_mul_left _ h1
 have e : ((x : Int) * 2 ^ p) = ((x * 2 ^ p : Nat) : Int) := by rw [Int.natCast_mul, Int.natCast_pow]; rfl
 have h4 : IntKind.u64.wrap ((x * 2 ^ p : Nat) : Int) = ((x * 2 ^ p : Nat) : Int) := by rw [IntKind.wrap_u64]; omega
 rw [e, h4, u64_or_nat _ _ (by omega) (by omega), Nat.or_comm, Nat.mul_comm x, ← Nat.two_pow_add_eq_or_of_lt hc, Nat.add_comm]
def ShlRel (la : List Nat) (n W p : Nat) (w : World) (v c i : Value) (wr : World) : Prop :=
 ∃ (k cy : Nat) (s : List Nat), k ≤ la.length ∧ i = .int .i64 k ∧ c = .int .u64 cy ∧ cy < 2 ^ p ∧ s.length = W + k ∧ (∀ x ∈ s, x < 4294967296) ∧ Ow wr w.heap.size v s ∧
  vl 4294967296 s + 4294967296 ^ (W + k) * cy = vl 4294967296 (la.take k) * 2 ^ n ∧ Below w.heap.size w wr
set_option maxHeartbeats 1000000 in
set_option maxRecDepth 100000 in
theorem shl_core (ada : Option Addr) (ca : Nat) (la : List Nat) (n W p : Nat) (w : World) (hn : n = 32 * W + p) (hp : p ≤ 31) (hW : W ≤ 1000000) (hlen : la.length ≤ 1000000) (hca : RdA .u32 w ada la) (hla : ∀ x ∈ la, x < 4294967296) :
  Calls Tryz.prog 166 #[.slice ada la.length ca, .int .i64 n] w (OwPost w (digs 4294967296 (vl 4294967296 la * 2 ^ n))) := by
 have HLA := Lib.hid hla
 have HCA := Lib.hid hca
 have HNN := Lib.hid hn
 obtain ⟨z, hz⟩ : ∃ z : Int, z = (n : Int) := ⟨_, rfl⟩
 have hz0 : (0 : Int) ≤ z := by omega
 have hzd : z / 32 = (W : Int) := by omega
 have hzm : z % 32 = (p : Int) := by omega
 rw [← hz]
 have hpm : min p 64 = p := by omega
 clear hla hca hz hn
 obtain ⟨i0, hi, hz0', hz1, hz2⟩ := info_parts Tryz.infoU32
 go_enter Tryz.func166, Tryz.ntmps166
 go_wp2_with (at_make; go_loud (refine wpList_make_part _ rfl _ _ 22 rfl w.heap.size 137 i0 (.int .u32 0) Tryz.underlying22 hi hz0' hz1 rfl _ _ _ _ W (W + la.length + 1) rfl rfl hzd (by omega) (by omega) ?b2 ?b3 (Nat.le_refl _) ?_))
 case b2 => rw [hz2]; omega
 case b3 => unfold maxLen; omega
 intro w0 hown0 hgrow0
 go_wp2
 go_loopw [7, 8, 24] (ShlRel la n W p w) (fun _ _ i _ => la.length - (intOf i).toNat)
 case atStart =>
  refine ⟨0, 0, List.replicate W 0, Nat.zero_le _, rfl, rfl, Nat.two_pow_pos _, by simp, (by intro x hx; rw [List.eq_of_mem_replicate hx]; decide), ?_, by rw [vl_replicate_zero]; simp [vl], (Below.refl _ _).grown hgrow0 (Nat.le_refl _) (fun k h => by cases h)⟩
  unfold Ow
  rw [List.length_replicate]
  have e : uw (List.replicate W 0) = List.replicate W (.int .u32 0) := by simp [uw]
  rw [e]
  exact hown0
 case round =>
  obtain ⟨k, cy, s, hk, rfl, rfl, hcy, hs, hsl, hown, hv, hnx⟩ := hrel
  have HS := Lib.hid hs
  have HSL := Lib.hid hsl
  have HV := Lib.hid hv
  have HO := Lib.hid hown
  have HNX := Lib.hid hnx
  have HCY := Lib.hid hcy
  clear hs hsl hv hown hnx hcy
  by_cases hkl : k < la.length
  ·obtain ⟨ba, oa, rfl, hba, gx0⟩ := HCA.out k hkl
   have gx : wr.cell? ⟨ba, oa + k, none⟩ = some (.int .u32 ((la[k]?.getD 0 : Nat) : Int)) := (HNX.out.cell (p := ⟨ba, oa + k, none⟩) hba).trans gx0
   clear gx0
   obtain ⟨x, hx⟩ : ∃ x, x = la[k]?.getD 0 := ⟨_, rfl⟩
   rw [← hx] at gx
   have hxb : x < 4294967296 := by rw [hx, List.getElem?_eq_getElem hkl]; exact HLA.out _ (List.getElem_mem hkl)
   have HX := Lib.hid hx
   clear hx
   have hcy2 : cy < 2 ^ p := HCY.out
   have hor0 := or_low cy x p hp hcy2 hxb
   have hb2 := shl_bound hxb hcy2
   have hb3 := two_pow_le_31 hp
   obtain ⟨t, ht⟩ : ∃ t, t = cy + x * 2 ^ p := ⟨_, rfl⟩
   have htb : t < 9223372036854775808 := by rw [ht]; omega
   have htd : t / 4294967296 < 2 ^ p := by rw [Nat.div_lt_iff_lt_mul (by decide), Nat.mul_comm, ht]; omega
   rw [← ht] at hor0
   have HT := Lib.hid ht
   have HTD := Lib.hid htd
   clear ht htd hcy2 hb2 hb3
   go_wp2_with (at_builtin; refine wpList_append_own _ rfl (.tmp 34) (.tmp 37) 22 rfl w.heap.size 137 i0 (.int .u32 0) 1 4 Tryz.underlying22 hi hz0' hz1 hz2 rfl (by decide) _ _ _ rfl (HO.out.alloc _) ⟨wr.heap.size, 0, none⟩ 1 1 (uw [t % 4294967296]) rfl rfl ?c1 (uw_oneCell _) ?c2 ?c3 ?c4 ?_)
   case c1 => exact new_one _ _ _ _ (by omega)
   case c2 => have := HS.out; unfold maxLen; omega
   case c3 => have := HS.out; omega
   case c4 => have := HNX.out.size; simp; omega
   intro v' w1 hown1 hgrow _
   have HO1 := Lib.hid hown1
   have HG := Lib.hid hgrow
   clear hown1 hgrow hor0
   go_wp2
   go_roundw
   case rel =>
    refine ⟨k + 1, t / 4294967296, s ++ [t % 4294967296], by omega, by go_num, by go_num, HTD.out, by rw [List.length_append, HS.out]; rfl, all_snoc HSL.out (Nat.mod_lt _ (by decide)), Ow.snoc HO1.out, ?_, ?_⟩
    ·have h9 := shl_step cy x p n _ (vl 4294967296 (la.take (k + 1))) HNN.out HS.out HV.out (by rw [vl_take_succ _ _ _ hkl, HX.out])
     rw [← HT.out] at h9
     exact h9
    ·exact (HNX.out.alloc HNX.out.size _).grown HG.out (by have := HNX.out.size; simp; omega) (fun q hq => (HO.out.lt q hq).1)
   case measure => simp [intOf]; omega
  ·obtain rfl : k = la.length := by omega
   have hcyb : cy < 4294967296 := by have := HCY.out; have := two_pow_le_31 hp; omega
   go_wp2_with (at_builtin; refine wpList_append_own _ rfl (.tmp 42) (.tmp 45) 22 rfl w.heap.size 137 i0 (.int .u32 0) 1 4 Tryz.underlying22 hi hz0' hz1 hz2 rfl (by decide) _ _ _ rfl (HO.out.alloc _) ⟨wr.heap.size, 0, none⟩ 1 1 (uw [cy]) rfl rfl ?d1 (uw_oneCell _) ?d2 ?d3 ?d4 ?_)
   case d1 => exact new_one _ _ _ _ (by omega)
   case d2 => have := HS.out; unfold maxLen; omega
   case d3 => have := HS.out; omega
   case d4 => have := HNX.out.size; simp; omega
   intro v' w1 hown1 hgrow _
   have HO1 := Lib.hid (Ow.snoc hown1)
   have hb1 := (HNX.out.alloc HNX.out.size _).grown hgrow (by have := HNX.out.size; simp; omega) (fun q hq => (HO.out.lt q hq).1)
   have HB1 := Lib.hid hb1
   have HT := Lib.hid (trim_ow HO1.out (all_snoc HSL.out hcyb))
   clear hown1 hgrow hb1
   go_wp2_with (go_at_call 163; refine HT.out.mono ?_; rintro e w' ⟨⟨v2, rfl, ho2⟩, rfl⟩)
   go_ret
   refine ⟨_, rfl, ?_, HB1.out⟩
   have e : vl 4294967296 (s ++ [cy]) = vl 4294967296 la * 2 ^ n := by
    rw [vl_snoc, HS.out, HV.out, List.take_of_length_le (Nat.le_refl _)]
   rw [e] at ho2
   exact ho2
theorem shl_any (m n : Nat) (v : Value) (w : World) (hn : n ≤ 1000000) (hm : (digs 4294967296 m).length ≤ 1000000) (h : Rd .u32 w v (digs 4294967296 m)) :
  Calls Tryz.prog 166 #[v, .int .i64 n] w (OwPost w (digs 4294967296 (m * 2 ^ n))) := by
 obtain ⟨ad, ca, rfl, r⟩ := h.opt
 have := shl_core ad ca _ n (n / 32) (n % 32) w (by omega) (by omega) (by omega) hm r (digs_lt (by decide) m)
 rw [vl_digs (by decide)] at this
 exact this
end
section
open Go.RowKit Digs
def Rc (w : World) (base g cap N : Nat) (p : List Nat) : Prop := p.length = N ∧ w.ownsRow base 137 1 (.slice (some ⟨g, 0, none⟩) N cap) N (uw p)
theorem Rc.cell {w : World} {base g cap N : Nat} {p : List Nat} (h : Rc w base g cap N p) (j : Nat) (hj : j < N) : w.cell? ⟨g, j, none⟩ = some (.int .u32 ((p[j]?.getD 0 : Nat) : Int)) := by
 rw [h.2.cellAt j (by omega), uw_getElem? _ _ (by rw [h.1]; exact hj)]
theorem Rc.frozen {w : World} {base g cap N : Nat} {p : List Nat} (h : Rc w base g cap N p) (j : Nat) : w.frozen? ⟨g, j, none⟩ = false := h.2.frozenAt j
theorem Rc.store {w : World} {base g cap N : Nat} {p : List Nat} (h : Rc w base g cap N p) (j x : Nat) (z : Int) (hz : z = x) : Rc (w.setCell ⟨g, j, none⟩ (.int .u32 z)) base g cap N (p.set j x) := by
 subst hz
 exact ⟨by rw [List.length_set, h.1], by rw [uw_set]; exact (h.2.stored j _).1⟩
theorem Rc.grown {w : World} {base g cap N : Nat} {p : List Nat} (h : Rc w base g cap N p) (j : Nat) (u : Value) : w.grownBy (w.setCell ⟨g, j, none⟩ u) (some g) := (h.2.stored j u).2
theorem Rc.ow {w : World} {base g cap N : Nat} {p : List Nat} (h : Rc w base g cap N p) : Ow w base (.slice (some ⟨g, 0, none⟩) N cap) p := by
 unfold Ow; rw [h.1]; exact h.2
theorem Rc.lt {w : World} {base g cap N : Nat} {p : List Nat} (h : Rc w base g cap N p) : base ≤ g ∧ g < w.heap.size := h.2.lt g rfl
theorem Rc.cap_le {w : World} {base g cap N : Nat} {p : List Nat} (h : Rc w base g cap N p) : N ≤ cap ∧ cap ≤ maxLen := by
 obtain ⟨_, ⟨hv, _⟩ | ⟨g', cap', cur, hv, _, _, hc, hm, _⟩⟩ := h.2
 ·cases hv
 ·cases hv; exact ⟨hc, hm⟩
theorem Ow.rc {w : World} {base : Nat} {v : Value} {p : List Nat} (h : Ow w base v p) (h0 : p ≠ []) : ∃ g cap, v = .slice (some ⟨g, 0, none⟩) p.length cap ∧ Rc w base g cap p.length p := by
 have h' := h
 obtain ⟨_, ⟨rfl, hn⟩ | ⟨g, cap, cur, rfl, _⟩⟩ := h
 ·exact absurd (List.eq_nil_of_length_eq_zero hn) h0
 ·exact ⟨g, cap, rfl, rfl, h'⟩
def ShrRel (m W p N : Nat) (w : World) (g cap : Nat) (i : Value) (wr : World) : Prop :=
 ∃ (k : Nat) (q : List Nat), k ≤ N ∧ i = .int .i64 k ∧ Rc wr w.heap.size g cap N q ∧ (∀ x ∈ q, x < 4294967296) ∧ (∀ j, j < k → q[j]?.getD 0 = m / 2 ^ (32 * W + p) / 4294967296 ^ j % 4294967296) ∧ (∀ j, k ≤ j → q[j]?.getD 0 = m / 4294967296 ^ (W + j) % 4294967296) ∧ Below w.heap.size w wr
set_option maxHeartbeats 1000000 in
set_option maxRecDepth 100000 in
theorem shr_core (ba oa ca : Nat) (m W p : Nat) (w : World) (hp : p ≤ 31) (hW : W < (digs 4294967296 m).length) (hlen : (digs 4294967296 m).length ≤ 1000000) (hlc : (digs 4294967296 m).length ≤ ca) (hcm : ca ≤ maxLen) (hb : ba < w.heap.size)
  (hc : ∀ j, j < (digs 4294967296 m).length → w.cell? ⟨ba, oa + j, none⟩ = some (.int .u32 (((digs 4294967296 m)[j]?.getD 0 : Nat) : Int))) :
  Calls Tryz.prog 167 #[.slice (some ⟨ba, oa, none⟩) (digs 4294967296 m).length ca, .int .i64 ((32 * W + p : Nat) : Int)] w (OwPost w (digs 4294967296 (m / 2 ^ (32 * W + p)))) := by
 obtain ⟨N, hN⟩ : ∃ N, N = (digs 4294967296 m).length - W := ⟨_, rfl⟩
 have hdl : ((digs 4294967296 m).drop W).length = N := by rw [List.length_drop, hN]
 have HCL := Lib.hid (clone_any (.slice (some ⟨ba, oa + W, none⟩) N (ca - W)) ((digs 4294967296 m).drop W) w (by rw [hdl]; omega) (by
  refine .inr ⟨ba, oa + W, ca - W, by rw [hdl], hb, by rw [hdl]; omega, by omega, fun j hj => ?_⟩
  rw [hdl] at hj
  have h := hc (W + j) (by omega)
  rw [List.getElem?_drop, Nat.add_assoc]
  exact h))
 have HD := Lib.hid (show ∀ j, ((digs 4294967296 m).drop W)[j]?.getD 0 = m / 4294967296 ^ (W + j) % 4294967296 from fun j => by
  rw [List.getElem?_drop, dig_get _ (digs_lt (by decide) m), vl_digs (by decide)])
 have HDL := Lib.hid hdl
 have HMB := Lib.hid (show m < 4294967296 ^ (W + N) by
  have := digs_lt_pow (b := 4294967296) (by decide) m
  rw [show W + N = (digs 4294967296 m).length by omega]
  exact this)
 have hN0 : 0 < N := by omega
 have hLN : ((digs 4294967296 m).length : Int) = (W : Int) + (N : Int) := by omega
 obtain ⟨z, hz⟩ : ∃ z : Int, z = ((32 * W + p : Nat) : Int) := ⟨_, rfl⟩
 have hz0 : (0 : Int) ≤ z := by omega
 have hzd : z / 32 = (W : Int) := by omega
 have hzm : z % 32 = (p : Int) := by omega
 rw [← hz]
 generalize (digs 4294967296 m).length = L at *
 have hL : L = W + N := by omega
 subst hL
 clear hc hz hN hdl hLN
 go_enter Tryz.func167, Tryz.ntmps167
 go_wp2_with fail
 refine HCL.out.mono ?_
 rintro e w1 ⟨v1, rfl, ho, hb1⟩
 obtain ⟨g, cap, rfl, hrc⟩ := ho.rc (by intro h; have := HDL.out; rw [h] at this; simp at this; omega)
 rw [HDL.out] at hrc ⊢
 have HR0 := Lib.hid hrc
 have HB1 := Lib.hid hb1
 clear ho hrc hb1
 go_wp2
 go_loopw [24] (ShrRel m W p N w g cap) (fun i _ => N - (intOf i).toNat)
 case atStart =>
  refine ⟨0, _, Nat.zero_le _, rfl, HR0.out, (fun x hx => digs_lt (by decide) m x (List.mem_of_mem_drop hx)), (fun j hj => absurd hj (Nat.not_lt_zero _)), (fun j _ => HD.out j), HB1.out⟩
 case round =>
  obtain ⟨k, q, hk, rfl, hrow, hlt, hlo, hhi, hnx⟩ := hrel
  have HROW := Lib.hid hrow
  have HLT := Lib.hid hlt
  have HLO := Lib.hid hlo
  have HHI := Lib.hid hhi
  have HNX := Lib.hid hnx
  clear hrow hlt hlo hhi hnx
  by_cases hkl : k < N
  ·have gx := HROW.out.cell k hkl
   have gf := HROW.out.frozen k
   obtain ⟨x, hx⟩ : ∃ x, x = q[k]?.getD 0 := ⟨_, rfl⟩
   rw [← hx] at gx
   have hxe := HHI.out k (Nat.le_refl _)
   rw [← hx] at hxe
   have hxb : x < 4294967296 := by rw [hxe]; exact Nat.mod_lt _ (by decide)
   by_cases hk1 : k + 1 < N
   ·have gy := HROW.out.cell (k + 1) hk1
    obtain ⟨y, hy⟩ : ∃ y, y = q[k + 1]?.getD 0 := ⟨_, rfl⟩
    rw [← hy] at gy
    have hye := HHI.out (k + 1) (Nat.le_succ _)
    rw [← hy] at hye
    have hyb : y < 4294967296 := by rw [hye]; exact Nat.mod_lt _ (by decide)
    have hor := or_join y x hyb hxb
    have HXE := Lib.hid (And.intro hxe hye)
    clear hx hy hxe hye
    go_wp2
    go_roundw
    case rel =>
     refine ⟨k + 1, q.set k ((x + 4294967296 * y) / 2 ^ p % 4294967296), by omega, by go_num, HROW.out.store _ _ _ (by rw [Int.natCast_emod, Int.natCast_ediv, Int.natCast_add, Int.natCast_mul, Int.natCast_pow]; rfl), all_set HLT.out (Nat.mod_lt _ (by decide)), fun j hj => ?_, fun j hj => ?_, HNX.out.setCell (HROW.out.lt).1 _⟩
     ·by_cases hjk : j = k
      ·subst hjk
       rw [List.getElem?_set_self (by rw [HROW.out.1]; exact hkl), Option.getD_some, shr_of]
       obtain ⟨e1, e2⟩ := HXE.out
       rw [e1, e2, ← Nat.add_assoc, Nat.pow_succ, ← Nat.div_div_eq_div_mul]
       exact shr_digit _ p hp
      ·rw [getD_set_ne _ _ _ _ (by omega)]
       exact HLO.out j (by omega)
     ·rw [getD_set_ne _ _ _ _ (by omega)]
      exact HHI.out j (by omega)
    case measure => simp [intOf]; omega
   ·have hor : bits BinOp.or IntKind.u64 0 (x : Int) = (x : Int) := by have := or_join 0 x (by decide) hxb; simpa using this
    have HXE := Lib.hid hxe
    have hNk : k + 1 = N := by omega
    clear hx hxe
    go_wp2
    go_roundw
    case rel =>
     refine ⟨k + 1, q.set k (x / 2 ^ p % 4294967296), by omega, by go_num, HROW.out.store _ _ _ (by rw [Int.natCast_emod, Int.natCast_ediv, Int.natCast_pow]; rfl), all_set HLT.out (Nat.mod_lt _ (by decide)), fun j hj => ?_, fun j hj => ?_, HNX.out.setCell (HROW.out.lt).1 _⟩
     ·by_cases hjk : j = k
      ·subst hjk
       rw [List.getElem?_set_self (by rw [HROW.out.1]; exact hkl), Option.getD_some, shr_of]
       have h0 : m / 4294967296 ^ (W + j) / 4294967296 = 0 := by
        rw [Nat.div_div_eq_div_mul, ← Nat.pow_succ]
        exact Nat.div_eq_of_lt (by have := HMB.out; rw [← hNk, ← Nat.add_assoc] at this; exact this)
       have h5 := shr_digit (m / 4294967296 ^ (W + j)) p hp
       rw [h0, Nat.zero_mod, Nat.mul_zero, Nat.add_zero] at h5
       rw [HXE.out]
       exact h5
      ·rw [getD_set_ne _ _ _ _ (by omega)]
       exact HLO.out j (by omega)
     ·rw [getD_set_ne _ _ _ _ (by omega)]
      exact HHI.out j (by omega)
    case measure => simp [intOf]; omega
  ·obtain rfl : k = N := by omega
   have hvl : vl 4294967296 q = m / 2 ^ (32 * W + p) := by
    refine vl_of_digits q _ ?_ (fun j hj => HLO.out j (by rw [HROW.out.1] at hj; exact hj))
    rw [HROW.out.1]
    exact shr_lt m W p k HMB.out
   have HT := Lib.hid (trim_ow HROW.out.ow HLT.out)
   rw [hvl] at HT
   clear hvl
   go_wp2_with (go_at_call 163; refine HT.out.mono ?_; rintro e w' ⟨⟨v2, rfl, ho2⟩, rfl⟩)
   go_ret
   exact ⟨_, rfl, ho2, HNX.out⟩
set_option maxHeartbeats 400000 in
set_option maxRecDepth 100000 in
theorem shr_none (ad : Option Addr) (n c : Nat) (z : Int) (w : World) (hz0 : 0 ≤ z) (hz1 : z ≤ 9223372036854775807) (hn : (n : Int) ≤ z / 32) :
  Calls Tryz.prog 167 #[.slice ad n c, .int .i64 z] w fun e w' => e = .returned (.slice none 0 0) ∧ w = w' := by
 go_enter Tryz.func167, Tryz.ntmps167
 go_wp2
 go_ret
 exact ⟨rfl, rfl⟩
theorem shr_any (m n : Nat) (v : Value) (w : World) (hn64 : n ≤ 9223372036854775807) (hm : (digs 4294967296 m).length ≤ 1000000) (h : Rd .u32 w v (digs 4294967296 m)) :
  Calls Tryz.prog 167 #[v, .int .i64 n] w (OwPost w (digs 4294967296 (m / 2 ^ n))) := by
 have hn : n = 32 * (n / 32) + n % 32 := by omega
 by_cases hW : n / 32 < (digs 4294967296 m).length
 ·rcases h with ⟨rfl, h0⟩ | ⟨b, off, cap, rfl, hb, hlc, hcm, hc⟩
  ·rw [h0] at hW; simp at hW
  ·have := shr_core b off cap m (n / 32) (n % 32) w (by omega) hW hm hlc hcm hb hc
   rw [← hn] at this
   exact this
 ·have h0 : m / 2 ^ n = 0 := by
   apply Nat.div_eq_of_lt
   have h1 := digs_lt_pow (b := 4294967296) (by decide) m
   rw [pow32] at h1
   exact Nat.lt_of_lt_of_le h1 (Nat.pow_le_pow_right (by decide) (by omega))
  rw [h0, digs_zero]
  obtain ⟨ad, cap, rfl, _⟩ := h.opt
  exact (shr_none ad _ cap n w (by omega) (by omega) (by omega)).mono fun _ _ ⟨he, hw⟩ => ⟨_, he, by rw [← hw]; exact World.ownsRow_nil _ _ _ _, by rw [← hw]; exact Below.refl _ _⟩
end
end Go.Proofs.YtghgcbedajaldaaGreat
