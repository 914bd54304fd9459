/-  RMk Bm Roots  -/
import Derived.Deep.AppendLies
import Derived.Deep.RegionHeld3
import Derived.Deep.CutRange
import Derived.Test.YtghgcbedajaldaaGreatMkao
import Derived.Test.YtghgcbedajaldaaGreatMkae
import Derived.Test.YtghgcbedajaldaaGreatMkam
import Derived.Test.YtghgcbedajaldaaGreatMkak
/-  RMake ROf RTwo  -/
namespace Go.Proofs.YtghgcbedajaldaaGreat
section
open Go.RowKit Digs
theorem split16 (b : Nat) (l : List Nat) (s : List Nat) (k x A : Nat) (hs : s.length = 2 * k) (h : vl 65536 s = A) (hb : b = 4294967296) (hA : A = vl b (l.take k)) (hk : k < l.length) (hx : x = l[k]?.getD 0) :
  vl 65536 (s ++ [x % 65536, x / 65536]) = vl b (l.take (k + 1)) := by
 rw [vl_append, hs, h, vl_take_succ _ _ _ hk, ← hA, ← hx, hb, pow_two_base]
 simp only [vl]
 congr 2
 omega
def MakeRel (la : List Nat) (B : Nat) (W : World) (v i : Value) (wr : World) : Prop :=
 ∃ (k : Nat) (s : List Nat), k ≤ la.length ∧ i = .int .i64 k ∧ s.length = 2 * k ∧ (∀ x ∈ s, x < 65536) ∧ Oi wr B v s ∧ vl 65536 s = vl 4294967296 (la.take k) ∧ Below W.heap.size W wr
set_option maxHeartbeats 2000000 in
set_option maxRecDepth 100000 in
theorem rmake_core (neg : Bool) (ada : Option Addr) (ca : Nat) (la : List Nat) (w : World) (hlen : la.length ≤ 100000) (hca : RdA .u32 w ada la) (hla : ∀ x ∈ la, x < 4294967296) :
    Calls Tryz.prog 75 #[.bool neg, .slice ada la.length ca] w (RefPost w (sg neg (vl 4294967296 la))) := by
  have HLA := Lib.hid hla
  have HCA := Lib.hid hca
  clear hla hca
  obtain ⟨i0, hi, hz0, hz1, hz2⟩ := info_parts Tryz.infoI64
  go_enter Tryz.func75, Tryz.ntmps75
  go_wp2
  have HB0 := Lib.hid ((Below.refl w.heap.size w).alloc (Nat.le_refl _) (.cells #[.bool false, .slice none 0 0] 34))
  go_loopw [5, 6] (MakeRel la (w.heap.size + 1) (w.alloc (.cells #[.bool false, .slice none 0 0] 34))) (fun _ i _ => la.length - (intOf i).toNat)
  case atStart => exact ⟨0, [], Nat.zero_le _, rfl, rfl, (by simp), World.ownsRow_nil _ _ _ _, rfl, Below.refl _ _⟩
  case round =>
    obtain ⟨k, s, hk, rfl, hs, hsl, hown, hv, hnx⟩ := hrel
    have HS := Lib.hid hs
    have HSL := Lib.hid hsl
    have HV := Lib.hid hv
    have HO := Lib.hid hown
    have HNX := Lib.hid hnx
    clear hs hsl hv hown hnx
    by_cases hkl : k < la.length
    · obtain ⟨ba, oa, rfl, hba, gx0⟩ := HCA.out k hkl
      have gx : wr.cell? ⟨ba, oa + k, none⟩ = some (.int .u32 ((la[k]?.getD 0 : Nat) : Int)) := (HNX.out.cell (p := ⟨ba, oa + k, none⟩) (by show ba < _; simp; omega)).trans ((HB0.out.cell (p := ⟨ba, oa + k, none⟩) hba).trans gx0)
      clear gx0
      obtain ⟨x, hx⟩ : ∃ x, x = la[k]?.getD 0 := ⟨_, rfl⟩
      rw [← hx] at gx
      have hxb : x < 4294967296 := by rw [hx, List.getElem?_eq_getElem hkl]; exact HLA.out _ (List.getElem_mem hkl)
      have HX := Lib.hid hx
      clear hx
      have hsz := HNX.out.size
      rw [World.size_alloc] at hsz
      have hne : some ba ≠ u5.ownBlock := fun h => by have := (HO.out.lt ba h.symm).1; omega
      have hnews : ([.int .i64 (IntKind.i64.wrap ((x : Int).tmod 65536)), .int .i64 (IntKind.i64.wrap (IntKind.u32.wrap ((x : Int) / 65536)))] : List Value) = iw [x % 65536, x / 65536] := by
        have e1 : (x : Int).tmod 65536 = ((x % 65536 : Nat) : Int) := rfl
        have e2 : IntKind.i64.wrap (((x % 65536 : Nat) : Int)) = ((x % 65536 : Nat) : Int) := by rw [IntKind.wrap_i64]; omega
        have e3 : IntKind.u32.wrap ((x : Int) / 65536) = ((x / 65536 : Nat) : Int) := by rw [IntKind.wrap_u32']; omega
        have e4 : IntKind.i64.wrap (((x / 65536 : Nat) : Int)) = ((x / 65536 : Nat) : Int) := by rw [IntKind.wrap_i64]; omega
        rw [e1, e2, e3, e4]
        rfl
      have HNW := Lib.hid hnews
      clear hnews
      go_upto_region 5 with fail
      go_region_held3 (fun w' => w'.cell? ⟨ba, oa + k, none⟩ = some (.int .u32 (x : Int)))
        (first
          | go_keep
          | ((rw [hgrow.cell_far _ (by simp; omega) hne]); assumption))
        ((refine step_append_lies _ (by rfl) _ _ _ (by rfl) (w.heap.size + 1) 3 i0 (.int .i64 0) 1 8 Tryz.underlying32 hi hz0 hz1 hz2 rfl (by decide) u5 s.length (iw s) (by rfl) ((HO.out.alloc _).drew)
            ⟨wr.heap.size, 0, none⟩ 2 2 [.int .i64 (IntKind.i64.wrap ((x : Int).tmod 65536)), .int .i64 (IntKind.i64.wrap (IntKind.u32.wrap ((x : Int) / 65536)))] (by rfl) (by rfl) (World.news_of_block (cs := #[.int .i64 (IntKind.i64.wrap ((x : Int).tmod 65536)), .int .i64 (IntKind.i64.wrap (IntKind.u32.wrap ((x : Int) / 65536)))]) (t := 3) (fr := (0, 0)) (heap_alloc_new wr _)) (by simp [Value.oneCell'])
            (by omega) (by have := HS.out; unfold maxLen; omega) (by have := HS.out; omega) (by simp; omega) (wr.heap.size + 1) (by simp) ?_; intro gg cap w1 hown1 hgrow hat hlt))
      have HO1 := Lib.hid hown1
      have HG1 := Lib.hid hgrow
      clear hown1 hgrow hat hne
      go_wp2
      go_roundw
      case rel =>
        have ho : Oi w1 (w.heap.size + 1) (.slice (some ⟨gg, 0, none⟩) (s.length + 2) cap) (s ++ [x % 65536, x / 65536]) := by
          have h9 := HO1.out
          rw [HNW.out, ← iw_append] at h9
          unfold Oi
          rw [List.length_append]
          exact h9
        refine ⟨k + 1, s ++ [x % 65536, x / 65536], by omega, by go_num, by rw [List.length_append, HS.out]; simp; omega, ?_, ho, split16 _ _ _ _ _ _ HS.out HV.out rfl rfl hkl HX.out, ?_⟩
        · intro y hy
          rcases List.mem_append.1 hy with h | h
          · exact HSL.out y h
          · simp at h
            omega
        · exact ((HNX.out.alloc HNX.out.size _).drew).grown HG1.out (by have := HNX.out.size; simp at this ⊢; omega) (fun q hq => by have := (HO.out.lt q hq).1; simp; omega)
      case measure => simp [intOf]; omega
    · obtain rfl : k = la.length := by omega
      have hvs := HV.out
      rw [List.take_of_length_le (Nat.le_refl _)] at hvs
      have HM := Lib.hid (rmade_any neg u5 s wr HO.out.rd HSL.out)
      rw [hvs] at HM
      clear hvs
      go_wp2_with fail
      (with_reducible refine HM.out.mono ?_)
      rintro e w1 ⟨v1, rfl, ⟨ad1, n1, c1, rfl, hr1⟩, hb1⟩
      have hbx := HNX.out.trans (hb1.mono HNX.out.size)
      obtain ⟨cE, cF, fE, fF, hsz⟩ := box2 hbx
      have HR := Lib.hid (hr1.store2 cE cF (by intro n h; cases h) (by intro n h; cases h))
      have HB := Lib.hid (HB0.out.trans (hbx.mono HB0.out.size))
      clear hr1 hb1 hbx
      go_wp2_with fail
      refine bodyPost_ret (v := .agg #[.bool (decide (sg neg (vl 4294967296 la) < 0)), .slice ad1 n1 c1]) (by simp [results, Tryz.results75, go_sem, cE, cF]) rfl ⟨_, rfl, ⟨_, _, _, rfl, HR.out _ _⟩, ?_⟩
      exact (HB.out.setCell (Nat.le_refl _) _).setCell (Nat.le_refl _) _
end
section
open Go.RowKit Digs
theorem rmake_any (neg : Bool) (ad : Option Addr) (c : Nat) (l : List Nat) (w : World) (hl : l.length ≤ 100000) (h : NArg w ad c l) :
  Calls Tryz.prog 75 #[.bool neg, .slice ad l.length c] w (RefPost w (sg neg (vl 4294967296 l))) := by
 refine rmake_core neg ad c l w hl ?_ h.lt
 rcases h.rd with h1 | ⟨rfl, _⟩
 ·obtain ⟨ad', cap', e, h2⟩ := h1.opt
  cases e
  exact h2
 ·intro j hj
  cases hj
def OfPost (w : World) (z : Int) (e : Ending) (w' : World) : Prop :=
 ∃ vx vu, e = .returned (.tuple #[vx, vu]) ∧ IntV w' vx z ∧ RefV w' vu z ∧ Below w.heap.size w w'
theorem box3t {w w2 : World} {a b c d e f : Value} {t u v : TypeId} (h : Below (((w.alloc (.cells #[a, b] t)).alloc (.cells #[c, d] u)).alloc (.cells #[e, f] v)).heap.size (((w.alloc (.cells #[a, b] t)).alloc (.cells #[c, d] u)).alloc (.cells #[e, f] v)) w2) :
  (w2.cell? ⟨w.heap.size, 0, none⟩ = some a ∧ w2.cell? ⟨w.heap.size, 1, none⟩ = some b) ∧
  (w2.cell? ⟨w.heap.size + 1, 0, none⟩ = some c ∧ w2.cell? ⟨w.heap.size + 1, 1, none⟩ = some d ∧ w2.frozen? ⟨w.heap.size + 1, 0, none⟩ = false ∧ w2.frozen? ⟨w.heap.size + 1, 1, none⟩ = false) ∧
  (w2.cell? ⟨w.heap.size + 2, 0, none⟩ = some e ∧ w2.cell? ⟨w.heap.size + 2, 1, none⟩ = some f ∧ w2.frozen? ⟨w.heap.size + 2, 0, none⟩ = false ∧ w2.frozen? ⟨w.heap.size + 2, 1, none⟩ = false) ∧ w.heap.size + 2 < w2.heap.size := by
 have hs := h.size
 simp only [World.size_alloc] at hs
 have k2 := box2r (w := w.alloc (.cells #[a, b] t)) h
 have k1 := box2r (w := w) (((Below.refl ((w.alloc (.cells #[a, b] t)).alloc (.cells #[c, d] u)).heap.size _).alloc (Nat.le_refl _) (.cells #[e, f] v)).trans (h.mono (by simp)))
 have k0 := box2 (w := w) ((((Below.refl (w.alloc (.cells #[a, b] t)).heap.size _).alloc (Nat.le_refl _) (.cells #[c, d] u)).alloc (by simp) (.cells #[e, f] v)).trans (h.mono (by simp)))
 simp only [World.size_alloc] at k2
 exact ⟨⟨k0.1, k0.2.1⟩, ⟨k1.1, k1.2.1, k1.2.2.1, k1.2.2.2.1⟩, ⟨k2.1, k2.2.1, k2.2.2.1, k2.2.2.2.1⟩, by omega⟩
set_option maxHeartbeats 2000000 in
set_option maxRecDepth 100000 in
theorem of_any (b : Bool) (ad : Option Addr) (c : Nat) (l : List Nat) (w : World) (hl : l.length ≤ 100000) (h : NArg w ad c l) :
  Calls Tryz.prog 15 #[.agg #[.bool b, .slice ad l.length c]] w (OfPost w (nz (b, l))) := by
 have HI : Hid (∀ W, Below w.heap.size w W → Calls Tryz.prog 74 #[.bool b, .slice ad l.length c] W (IntPost W (nz (b, l)))) := Lib.hid fun W hw => (make_anyO b (.slice ad l.length c) l W (by omega) (h.keep hw).rd h.lt).mono (by
  rintro e w' ⟨v, h1, h2, _, h3⟩
  exact ⟨v, h1, h2, h3⟩)
 have HR : Hid (∀ W, Below w.heap.size w W → Calls Tryz.prog 75 #[.bool b, .slice ad l.length c] W (RefPost W (nz (b, l)))) := Lib.hid fun W hw => rmake_any b ad c l W hl (h.keep hw)
 clear h hl
 generalize nz (b, l) = z at *
 generalize l.length = n at *
 go_enter Tryz.func15, Tryz.ntmps15
 go_wp2_with fail
 go_region_held3 (fun w' => w'.cell? ⟨w.heap.size, 0, none⟩ = some (.bool b) ∧ w'.cell? ⟨w.heap.size, 1, none⟩ = some (.slice ad n c))
  (first | exact ⟨cA3, cB3⟩ | exact ⟨cA2, cB2⟩ | exact ⟨(cell_store2 (by omega)).trans cA3, (cell_store2 (by omega)).trans cB3⟩ | exact ⟨(cell_store2 (by omega)).trans ((cell_store2 (by omega)).trans cA3), (cell_store2 (by omega)).trans ((cell_store2 (by omega)).trans cB3)⟩ | go_keep)
  (first
   | (go_at_call 74; (with_reducible refine (HI.out _ ?_).mono ?_); (exact (below3 _ _ _ _).drew); rintro e w2 ⟨v2, rfl, ⟨ad2, n2, c2, rfl, hr2⟩, hb2'⟩; have hb2 := (Below.refl _ _).drew.trans hb2'; obtain ⟨⟨cA2, cB2⟩, _, _, hsz2⟩ := box3t hb2; have hw2 := (below3 w _ _ _).trans (hb2.mono (by simp <;> omega)))
   | (go_at_call 75; (with_reducible refine (HR.out _ hw2).mono ?_); rintro e w3 ⟨v3, rfl, ⟨ad3, n3, c3, rfl, hr3⟩, hb3⟩; obtain ⟨⟨cA3, cB3⟩, ⟨cE3, cF3, fE3, fF3⟩, ⟨cG3, cH3, fG3, fH3⟩, hsz3⟩ := box3t (hb2.trans (hb3.mono hb2.size))))
 have n0 : ∀ b : Bool, ∀ k n, Value.bool b ≠ .int k n := by intro b k n h; cases h
 have n1 : ∀ (ad : Option Addr) (n c : Nat), ∀ k m, Value.slice ad n c ≠ .int k m := by intro ad n c k m h; cases h
 have HQ2 := fun x y x' y' => Lib.hid (((hr2.keep hb3).store2 cE3 cF3 (n0 _ _) (n1 _ _ _ _) x y).store2 (R := w.heap.size + 2) ((cell_store2 (by omega)).trans cG3) ((cell_store2 (by omega)).trans cH3) (n0 _ _) (n1 _ _ _ _) x' y')
 have HR2 := fun x y x' y' => Lib.hid ((hr3.store2 cE3 cF3 (n0 _ _) (n1 _ _ _ _) x y).store2 (R := w.heap.size + 2) ((cell_store2 (by omega)).trans cG3) ((cell_store2 (by omega)).trans cH3) (n0 _ _) (n1 _ _ _ _) x' y')
 have HQ2 := Lib.hid HQ2
 have HR2 := Lib.hid HR2
 have HBB := Lib.hid (hw2.trans (hb3.mono hw2.size))
 clear hr2 hr3 hb2 hb3 hb2' n0 n1
 go_wp2
 refine bodyPost_ret (v := .tuple #[.agg #[.bool (decide (z < 0)), .slice ad2 n2 c2], .agg #[.bool (decide (z < 0)), .slice ad3 n3 c3]]) (by simp [results, Tryz.results15, go_sem, cE3, cF3, cG3, cH3]) rfl ⟨_, _, rfl, ⟨_, _, _, rfl, (HQ2.out _ _ _ _).out⟩, ⟨_, _, _, rfl, (HR2.out _ _ _ _).out⟩, ?_⟩
 exact (((HBB.out.setCell (by simp <;> omega) _).setCell (by simp <;> omega) _).setCell (by simp <;> omega) _).setCell (by simp <;> omega) _
end
section
open Go.RowKit Digs
theorem vl_two (K r : Nat) : vl 65536 ((List.replicate (K + 1) 0).set K (2 ^ r)) = 2 ^ (16 * K + r) := by
 rw [mul_row (List.replicate (K + 1) 0) K (2 ^ r) (65536 ^ K * 2 ^ r) 0 (by simp) (by simp) (by rw [vl_replicate_zero, Nat.zero_add, Nat.add_zero]), pow16, Nat.pow_add, Nat.add_zero]
theorem two_at (K x : Nat) : ((List.replicate (K + 1) 0).set K x)[K]?.getD 0 = x := by
 rw [List.getElem?_set_self (by simp)]; rfl
theorem two_set (K x y : Nat) : (((List.replicate (K + 1) 0).set K x).set K y) = (List.replicate (K + 1) 0).set K y := by
 rw [List.set_set]
theorem two_small {k r : Nat} (hk : k < r) (hr : r < 16) : 2 ^ k ≤ 32768 := Nat.le_trans (Nat.pow_le_pow_right (by decide) (show k ≤ 15 by omega)) (by decide)
theorem two_lt {K r : Nat} (hr : r < 16) : ∀ x ∈ (List.replicate (K + 1) 0).set K (2 ^ r), x < 65536 :=
 all_set (fun y hy => by rw [List.eq_of_mem_replicate hy]; decide) (Nat.lt_of_le_of_lt (Nat.pow_le_pow_right (by decide) (show r ≤ 15 by omega)) (by decide))
def TwoRel (K r : Nat) (w : World) (i : Value) (wr : World) : Prop :=
 ∃ k : Nat, k ≤ r ∧ i = .int .i64 k ∧ Ri wr (w.heap.size + 1) (w.heap.size + 1) (K + 1) ((List.replicate (K + 1) 0).set K (2 ^ k)) ∧ Below (w.heap.size + 1) (w.alloc (.cells #[.bool false, .slice none 0 0] 34)) wr
set_option maxHeartbeats 2000000 in
set_option maxRecDepth 100000 in
theorem two_core (K r : Nat) (w : World) (hK : K ≤ 100000) (hr : r < 16) :
  Calls Tryz.prog 133 #[.int .i64 ((16 * K + r : Nat) : Int)] w (RefPost w ((2 ^ (16 * K + r) : Nat) : Int)) := by
 obtain ⟨i0, hi, hz0, hz1, hz2⟩ := info_parts Tryz.infoI64
 obtain ⟨n, hn⟩ : ∃ n, n = 16 * K + r := ⟨_, rfl⟩
 have hq : (n : Int) / 16 = (K : Int) := by omega
 have hm : (n : Int) % 16 = (r : Int) := by omega
 have hnb : n ≤ 2000000 := by omega
 have HV := Lib.hid (vl_two K r)
 rw [← hn] at HV ⊢
 have HNN := Lib.hid hn
 clear hn
 go_enter Tryz.func133, Tryz.ntmps133
 have HB0 := Lib.hid ((Below.refl w.heap.size w).alloc (Nat.le_refl _) (.cells #[.bool false, .slice none 0 0] 34))
 go_wp2_with (at_make; refine wpList_make_full _ rfl _ _ 32 rfl (w.heap.size + 1) 3 i0 (.int .i64 0) 1 Tryz.underlying32 hi hz0 hz1 _ _ _ _ (K + 1) rfl rfl (by omega) (by omega) ?b2 ?b3 (by simp) ?_)
 case b2 => rw [hz2]; omega
 case b3 => unfold maxLen; omega
 intro w0 hown0 hgrow0
 have hrow0 : Ri w0 (w.heap.size + 1) (w.heap.size + 1) (K + 1) (List.replicate (K + 1) 0) := by
  refine ⟨by simp, ?_⟩
  rw [iw_zeros] at hown0
  simpa using hown0
 have hb0 : Below (w.heap.size + 1) (w.alloc (.cells #[.bool false, .slice none 0 0] 34)) w0 := (Below.refl (w.heap.size + 1) _).grown hgrow0 (by simp) (fun k h => by cases h)
 have gz := hrow0.cell K (by omega)
 have gf := hrow0.frozen K
 have HB1 := Lib.hid hb0
 have HR0 := Lib.hid hrow0
 clear hown0 hgrow0 hrow0 hb0
 go_wp2
 go_loopw [4] (TwoRel K r w) (fun i _ => r - (intOf i).toNat)
 case atStart =>
  refine ⟨0, Nat.zero_le _, rfl, HR0.out.store _ _ _ rfl, HB1.out.setCell (by simp) _⟩
 case round =>
  obtain ⟨k, hk, rfl, hrow, hnx⟩ := hrel
  have gz := hrow.cell K (by omega)
  have gf := hrow.frozen K
  rw [two_at] at gz
  have HROW := Lib.hid hrow
  have HNX := Lib.hid hnx
  clear hrow hnx
  by_cases hkr : k < r
  ·have hps := two_small hkr hr
   have HP := Lib.hid (Nat.pow_succ 2 k)
   generalize hP : (2 : Nat) ^ k = P at *
   clear hP
   go_wp2
   go_roundw
   case rel =>
    refine ⟨k + 1, hkr, by go_num, ?_, HNX.out.setCell (by simp) _⟩
    rw [HP.out, ← two_set K P (P * 2)]
    exact HROW.out.store _ _ _ (by first | rfl | omega)
   case measure => simp [intOf]; omega
  ·obtain rfl : k = r := by omega
   have HM := Lib.hid (rmade_any false _ _ wr HROW.out.oi.rd (two_lt hr))
   rw [HV.out] at HM
   clear gz gf
   go_wp2_with fail
   (with_reducible refine HM.out.mono ?_)
   rintro e w1 ⟨v1, rfl, ⟨ad1, n1, c1, rfl, hr1⟩, hb1⟩
   have hbx : Below (w.alloc (.cells #[.bool false, .slice none 0 0] 34)).heap.size (w.alloc (.cells #[.bool false, .slice none 0 0] 34)) w1 := by
    rw [World.size_alloc]
    exact HNX.out.trans (hb1.mono (by have := HNX.out.size; simp at this; omega))
   obtain ⟨cE, cF, fE, fF, hsz⟩ := box2 hbx
   have HR := Lib.hid (hr1.store2 cE cF (by intro n h; cases h) (by intro n h; cases h))
   have HB := Lib.hid (HB0.out.trans (hbx.mono HB0.out.size))
   clear hr1 hb1 hbx
   go_wp2_with fail
   refine bodyPost_ret (v := .agg #[.bool (decide (sg false (2 ^ n) < 0)), .slice ad1 n1 c1]) (by simp [results, Tryz.results133, go_sem, cE, cF]) rfl ⟨_, rfl, ⟨_, _, _, rfl, HR.out _ _⟩, ?_⟩
   exact (HB.out.setCell (Nat.le_refl _) _).setCell (Nat.le_refl _) _
theorem two_any (n : Nat) (w : World) (hn : n ≤ 1000000) :
  Calls Tryz.prog 133 #[.int .i64 (n : Int)] w (RefPost w ((2 ^ n : Nat) : Int)) := by
 have h := two_core (n / 16) (n % 16) w (by omega) (Nat.mod_lt _ (by decide))
 rw [Nat.div_add_mod] at h
 exact h
end
end Go.Proofs.YtghgcbedajaldaaGreat
/-  Bits Bit Int64 Bm  -/
namespace Go.Proofs.YtghgcbedajaldaaGreat
section
open Go.RowKit Digs
theorem digs_get {b : Nat} (hb : 2 ≤ b) (m j : Nat) : (digs b m)[j]?.getD 0 = m / b ^ j % b := by
 induction j generalizing m with
 | zero =>
  by_cases h : m = 0
  ·subst h; rw [digs_zero]; simp
  ·rw [digs_pos hb h]; simp
 | succ j ih =>
  by_cases h : m = 0
  ·subst h; rw [digs_zero]; simp
  ·rw [digs_pos hb h, List.getElem?_cons_succ, ih, Nat.div_div_eq_div_mul, Nat.pow_succ, Nat.mul_comm]
end
section
open Go.RowKit Digs
end
section
open Go.RowKit Digs
end
section
open Go.RowKit Digs
def nn (z : Int) : Nat := if z < 0 then (-1 - z).natAbs else z.natAbs
end
end Go.Proofs.YtghgcbedajaldaaGreat
/-  IntegerRoots' walk.  -/
namespace Go.Proofs.YtghgcbedajaldaaGreat
open Go.RowKit Digs
theorem below_dt {W w' : World} (h : Below W.drew.heap.size W.drew w') : Below W.heap.size W w' := (Below.refl W.heap.size W).drew.trans h
theorem zbox2 {W w' : World} {a b : Value} {t : TypeId} (h : Below (W.alloc (.cells #[a, b] t)).heap.size (W.alloc (.cells #[a, b] t)) w') :
  w'.cell? ⟨W.heap.size, 0, none⟩ = some a ∧ w'.cell? ⟨W.heap.size, 1, none⟩ = some b ∧ w'.frozen? ⟨W.heap.size, 0, none⟩ = false ∧ w'.frozen? ⟨W.heap.size, 1, none⟩ = false := by
 obtain ⟨h1, h2, h3, h4, _⟩ := box2 h
 exact ⟨h1, h2, h3, h4⟩
theorem zbox1 {W w' : World} {a b : Value} {t : TypeId} (h : Below (W.alloc (.cells #[a, b] t)).drew.heap.size (W.alloc (.cells #[a, b] t)).drew w') :
  w'.cell? ⟨W.heap.size, 0, none⟩ = some a ∧ w'.cell? ⟨W.heap.size, 1, none⟩ = some b ∧ w'.frozen? ⟨W.heap.size, 0, none⟩ = false ∧ w'.frozen? ⟨W.heap.size, 1, none⟩ = false := zbox2 (below_dt h)
theorem zbox3 {W w' w'' : World} {a b : Value} {t : TypeId} (h : Below (W.alloc (.cells #[a, b] t)).drew.heap.size (W.alloc (.cells #[a, b] t)).drew w') (h2 : Below w'.heap.size w' w'') :
  w''.cell? ⟨W.heap.size, 0, none⟩ = some a ∧ w''.cell? ⟨W.heap.size, 1, none⟩ = some b ∧ w''.frozen? ⟨W.heap.size, 0, none⟩ = false ∧ w''.frozen? ⟨W.heap.size, 1, none⟩ = false := zbox2 ((below_dt h).trans (h2.mono (below_dt h).size))
end Go.Proofs.YtghgcbedajaldaaGreat
