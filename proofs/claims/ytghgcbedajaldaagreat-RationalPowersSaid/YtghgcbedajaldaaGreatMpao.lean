/-  RMk Bm RPow RB ROf  -/
import Derived.Deep.AppendLies
import Derived.Deep.RegionHeld3
import Derived.Deep.CutRange
import Derived.Test.YtghgcbedajaldaaGreatMpan
import Derived.Test.YtghgcbedajaldaaGreatMpae
import Derived.Test.YtghgcbedajaldaaGreatMpak
import Derived.Test.YtghgcbedajaldaaGreatMpam
/-  RMake ROf RTwo  -/
namespace Go.Proofs.YtghgcbedajaldaaGreat
section
open Go.RowKit Digs
theorem split16 (b : Nat) (l : List Nat) (s : List Nat) (k x A : Nat) (hs : s.length = 2 * k) (h : vl 65536 s = A) (hb : b = 4294967296) (hA : A = vl b (l.take k)) (hk : k < l.length) (hx : x = l[k]?.getD 0) :
  vl 65536 (s ++ [x % 65536, x / 65536]) = vl b (l.take (k + 1)) := by
 rw [vl_append, hs, h, vl_take_succ _ _ _ hk, ← hA, ← hx, hb, pow_two_base]
 simp only [vl]
 congr 2
 omega
def MakeRel (la : List Nat) (B : Nat) (W : World) (v i : Value) (wr : World) : Prop :=
 ∃ (k : Nat) (s : List Nat), k ≤ la.length ∧ i = .int .i64 k ∧ s.length = 2 * k ∧ (∀ x ∈ s, x < 65536) ∧ Oi wr B v s ∧ vl 65536 s = vl 4294967296 (la.take k) ∧ Below W.heap.size W wr
set_option maxHeartbeats 2000000 in
set_option maxRecDepth 100000 in
theorem rmake_core (neg : Bool) (ada : Option Addr) (ca : Nat) (la : List Nat) (w : World) (hlen : la.length ≤ 100000) (hca : RdA .u32 w ada la) (hla : ∀ x ∈ la, x < 4294967296) :
    Calls Tryz.prog 75 #[.bool neg, .slice ada la.length ca] w (RefPost w (sg neg (vl 4294967296 la))) := by
  have HLA := Lib.hid hla
  have HCA := Lib.hid hca
  clear hla hca
  obtain ⟨i0, hi, hz0, hz1, hz2⟩ := info_parts Tryz.infoI64
  go_enter Tryz.func75, Tryz.ntmps75
  go_wp2
  have HB0 := Lib.hid ((Below.refl w.heap.size w).alloc (Nat.le_refl _) (.cells #[.bool false, .slice none 0 0] 34))
  go_loopw [5, 6] (MakeRel la (w.heap.size + 1) (w.alloc (.cells #[.bool false, .slice none 0 0] 34))) (fun _ i _ => la.length - (intOf i).toNat)
  case atStart => exact ⟨0, [], Nat.zero_le _, rfl, rfl, (by simp), World.ownsRow_nil _ _ _ _, rfl, Below.refl _ _⟩
  case round =>
    obtain ⟨k, s, hk, rfl, hs, hsl, hown, hv, hnx⟩ := hrel
    have HS := Lib.hid hs
    have HSL := Lib.hid hsl
    have HV := Lib.hid hv
    have HO := Lib.hid hown
    have HNX := Lib.hid hnx
    clear hs hsl hv hown hnx
    by_cases hkl : k < la.length
    · obtain ⟨ba, oa, rfl, hba, gx0⟩ := HCA.out k hkl
      have gx : wr.cell? ⟨ba, oa + k, none⟩ = some (.int .u32 ((la[k]?.getD 0 : Nat) : Int)) := (HNX.out.cell (p := ⟨ba, oa + k, none⟩) (by show ba < _; simp; omega)).trans ((HB0.out.cell (p := ⟨ba, oa + k, none⟩) hba).trans gx0)
      clear gx0
      obtain ⟨x, hx⟩ : ∃ x, x = la[k]?.getD 0 := ⟨_, rfl⟩
      rw [← hx] at gx
      have hxb : x < 4294967296 := by rw [hx, List.getElem?_eq_getElem hkl]; exact HLA.out _ (List.getElem_mem hkl)
      have HX := Lib.hid hx
      clear hx
      have hsz := HNX.out.size
      rw [World.size_alloc] at hsz
      have hne : some ba ≠ u5.ownBlock := fun h => by have := (HO.out.lt ba h.symm).1; omega
      have hnews : ([.int .i64 (IntKind.i64.wrap ((x : Int).tmod 65536)), .int .i64 (IntKind.i64.wrap (IntKind.u32.wrap ((x : Int) / 65536)))] : List Value) = iw [x % 65536, x / 65536] := by
        have e1 : (x : Int).tmod 65536 = ((x % 65536 : Nat) : Int) := rfl
        have e2 : IntKind.i64.wrap (((x % 65536 : Nat) : Int)) = ((x % 65536 : Nat) : Int) := by rw [IntKind.wrap_i64]; omega
        have e3 : IntKind.u32.wrap ((x : Int) / 65536) = ((x / 65536 : Nat) : Int) := by rw [IntKind.wrap_u32']; omega
        have e4 : IntKind.i64.wrap (((x / 65536 : Nat) : Int)) = ((x / 65536 : Nat) : Int) := by rw [IntKind.wrap_i64]; omega
        rw [e1, e2, e3, e4]
        rfl
      have HNW := Lib.hid hnews
      clear hnews
      go_upto_region 5 with fail
      go_region_held3 (fun w' => w'.cell? ⟨ba, oa + k, none⟩ = some (.int .u32 (x : Int)))
        (first
          | go_keep
          | ((rw [hgrow.cell_far _ (by simp; omega) hne]); assumption))
        ((refine step_append_lies _ (by rfl) _ _ _ (by rfl) (w.heap.size + 1) 3 i0 (.int .i64 0) 1 8 Tryz.underlying32 hi hz0 hz1 hz2 rfl (by decide) u5 s.length (iw s) (by rfl) ((HO.out.alloc _).drew)
            ⟨wr.heap.size, 0, none⟩ 2 2 [.int .i64 (IntKind.i64.wrap ((x : Int).tmod 65536)), .int .i64 (IntKind.i64.wrap (IntKind.u32.wrap ((x : Int) / 65536)))] (by rfl) (by rfl) (World.news_of_block (cs := #[.int .i64 (IntKind.i64.wrap ((x : Int).tmod 65536)), .int .i64 (IntKind.i64.wrap (IntKind.u32.wrap ((x : Int) / 65536)))]) (t := 3) (fr := (0, 0)) (heap_alloc_new wr _)) (by simp [Value.oneCell'])
            (by omega) (by have := HS.out; unfold maxLen; omega) (by have := HS.out; omega) (by simp; omega) (wr.heap.size + 1) (by simp) ?_; intro gg cap w1 hown1 hgrow hat hlt))
      have HO1 := Lib.hid hown1
      have HG1 := Lib.hid hgrow
      clear hown1 hgrow hat hne
      go_wp2
      go_roundw
      case rel =>
        have ho : Oi w1 (w.heap.size + 1) (.slice (some ⟨gg, 0, none⟩) (s.length + 2) cap) (s ++ [x % 65536, x / 65536]) := by
          have h9 := HO1.out
          rw [HNW.out, ← iw_append] at h9
          unfold Oi
          rw [List.length_append]
          exact h9
        refine ⟨k + 1, s ++ [x % 65536, x / 65536], by omega, by go_num, by rw [List.length_append, HS.out]; simp; omega, ?_, ho, split16 _ _ _ _ _ _ HS.out HV.out rfl rfl hkl HX.out, ?_⟩
        · intro y hy
          rcases List.mem_append.1 hy with h | h
          · exact HSL.out y h
          · simp at h
            omega
        · exact ((HNX.out.alloc HNX.out.size _).drew).grown HG1.out (by have := HNX.out.size; simp at this ⊢; omega) (fun q hq => by have := (HO.out.lt q hq).1; simp; omega)
      case measure => simp [intOf]; omega
    · obtain rfl : k = la.length := by omega
      have hvs := HV.out
      rw [List.take_of_length_le (Nat.le_refl _)] at hvs
      have HM := Lib.hid (rmade_any neg u5 s wr HO.out.rd HSL.out)
      rw [hvs] at HM
      clear hvs
      go_wp2_with fail
      (with_reducible refine HM.out.mono ?_)
      rintro e w1 ⟨v1, rfl, ⟨ad1, n1, c1, rfl, hr1⟩, hb1⟩
      have hbx := HNX.out.trans (hb1.mono HNX.out.size)
      obtain ⟨cE, cF, fE, fF, hsz⟩ := box2 hbx
      have HR := Lib.hid (hr1.store2 cE cF (by intro n h; cases h) (by intro n h; cases h))
      have HB := Lib.hid (HB0.out.trans (hbx.mono HB0.out.size))
      clear hr1 hb1 hbx
      go_wp2_with fail
      refine bodyPost_ret (v := .agg #[.bool (decide (sg neg (vl 4294967296 la) < 0)), .slice ad1 n1 c1]) (by simp [results, Tryz.results75, go_sem, cE, cF]) rfl ⟨_, rfl, ⟨_, _, _, rfl, HR.out _ _⟩, ?_⟩
      exact (HB.out.setCell (Nat.le_refl _) _).setCell (Nat.le_refl _) _
end
section
open Go.RowKit Digs
theorem rmake_any (neg : Bool) (ad : Option Addr) (c : Nat) (l : List Nat) (w : World) (hl : l.length ≤ 100000) (h : NArg w ad c l) :
  Calls Tryz.prog 75 #[.bool neg, .slice ad l.length c] w (RefPost w (sg neg (vl 4294967296 l))) := by
 refine rmake_core neg ad c l w hl ?_ h.lt
 rcases h.rd with h1 | ⟨rfl, _⟩
 ·obtain ⟨ad', cap', e, h2⟩ := h1.opt
  cases e
  exact h2
 ·intro j hj
  cases hj
def OfPost (w : World) (z : Int) (e : Ending) (w' : World) : Prop :=
 ∃ vx vu, e = .returned (.tuple #[vx, vu]) ∧ IntV w' vx z ∧ RefV w' vu z ∧ Below w.heap.size w w'
theorem box3t {w w2 : World} {a b c d e f : Value} {t u v : TypeId} (h : Below (((w.alloc (.cells #[a, b] t)).alloc (.cells #[c, d] u)).alloc (.cells #[e, f] v)).heap.size (((w.alloc (.cells #[a, b] t)).alloc (.cells #[c, d] u)).alloc (.cells #[e, f] v)) w2) :
  (w2.cell? ⟨w.heap.size, 0, none⟩ = some a ∧ w2.cell? ⟨w.heap.size, 1, none⟩ = some b) ∧
  (w2.cell? ⟨w.heap.size + 1, 0, none⟩ = some c ∧ w2.cell? ⟨w.heap.size + 1, 1, none⟩ = some d ∧ w2.frozen? ⟨w.heap.size + 1, 0, none⟩ = false ∧ w2.frozen? ⟨w.heap.size + 1, 1, none⟩ = false) ∧
  (w2.cell? ⟨w.heap.size + 2, 0, none⟩ = some e ∧ w2.cell? ⟨w.heap.size + 2, 1, none⟩ = some f ∧ w2.frozen? ⟨w.heap.size + 2, 0, none⟩ = false ∧ w2.frozen? ⟨w.heap.size + 2, 1, none⟩ = false) ∧ w.heap.size + 2 < w2.heap.size := by
 have hs := h.size
 simp only [World.size_alloc] at hs
 have k2 := box2r (w := w.alloc (.cells #[a, b] t)) h
 have k1 := box2r (w := w) (((Below.refl ((w.alloc (.cells #[a, b] t)).alloc (.cells #[c, d] u)).heap.size _).alloc (Nat.le_refl _) (.cells #[e, f] v)).trans (h.mono (by simp)))
 have k0 := box2 (w := w) ((((Below.refl (w.alloc (.cells #[a, b] t)).heap.size _).alloc (Nat.le_refl _) (.cells #[c, d] u)).alloc (by simp) (.cells #[e, f] v)).trans (h.mono (by simp)))
 simp only [World.size_alloc] at k2
 exact ⟨⟨k0.1, k0.2.1⟩, ⟨k1.1, k1.2.1, k1.2.2.1, k1.2.2.2.1⟩, ⟨k2.1, k2.2.1, k2.2.2.1, k2.2.2.2.1⟩, by omega⟩
set_option maxHeartbeats 2000000 in
set_option maxRecDepth 100000 in
theorem of_any (b : Bool) (ad : Option Addr) (c : Nat) (l : List Nat) (w : World) (hl : l.length ≤ 100000) (h : NArg w ad c l) :
  Calls Tryz.prog 15 #[.agg #[.bool b, .slice ad l.length c]] w (OfPost w (nz (b, l))) := by
 have HI : Hid (∀ W, Below w.heap.size w W → Calls Tryz.prog 74 #[.bool b, .slice ad l.length c] W (IntPost W (nz (b, l)))) := Lib.hid fun W hw => (make_anyO b (.slice ad l.length c) l W (by omega) (h.keep hw).rd h.lt).mono (by
  rintro e w' ⟨v, h1, h2, _, h3⟩
  exact ⟨v, h1, h2, h3⟩)
 have HR : Hid (∀ W, Below w.heap.size w W → Calls Tryz.prog 75 #[.bool b, .slice ad l.length c] W (RefPost W (nz (b, l)))) := Lib.hid fun W hw => rmake_any b ad c l W hl (h.keep hw)
 clear h hl
 generalize nz (b, l) = z at *
 generalize l.length = n at *
 go_enter Tryz.func15, Tryz.ntmps15
 go_wp2_with fail
 go_region_held3 (fun w' => w'.cell? ⟨w.heap.size, 0, none⟩ = some (.bool b) ∧ w'.cell? ⟨w.heap.size, 1, none⟩ = some (.slice ad n c))
  (first | exact ⟨cA3, cB3⟩ | exact ⟨cA2, cB2⟩ | exact ⟨(cell_store2 (by omega)).trans cA3, (cell_store2 (by omega)).trans cB3⟩ | exact ⟨(cell_store2 (by omega)).trans ((cell_store2 (by omega)).trans cA3), (cell_store2 (by omega)).trans ((cell_store2 (by omega)).trans cB3)⟩ | go_keep)
  (first
   | (go_at_call 74; (with_reducible refine (HI.out _ ?_).mono ?_); (exact (below3 _ _ _ _).drew); rintro e w2 ⟨v2, rfl, ⟨ad2, n2, c2, rfl, hr2⟩, hb2'⟩; have hb2 := (Below.refl _ _).drew.trans hb2'; obtain ⟨⟨cA2, cB2⟩, _, _, hsz2⟩ := box3t hb2; have hw2 := (below3 w _ _ _).trans (hb2.mono (by simp <;> omega)))
   | (go_at_call 75; (with_reducible refine (HR.out _ hw2).mono ?_); rintro e w3 ⟨v3, rfl, ⟨ad3, n3, c3, rfl, hr3⟩, hb3⟩; obtain ⟨⟨cA3, cB3⟩, ⟨cE3, cF3, fE3, fF3⟩, ⟨cG3, cH3, fG3, fH3⟩, hsz3⟩ := box3t (hb2.trans (hb3.mono hb2.size))))
 have n0 : ∀ b : Bool, ∀ k n, Value.bool b ≠ .int k n := by intro b k n h; cases h
 have n1 : ∀ (ad : Option Addr) (n c : Nat), ∀ k m, Value.slice ad n c ≠ .int k m := by intro ad n c k m h; cases h
 have HQ2 := fun x y x' y' => Lib.hid (((hr2.keep hb3).store2 cE3 cF3 (n0 _ _) (n1 _ _ _ _) x y).store2 (R := w.heap.size + 2) ((cell_store2 (by omega)).trans cG3) ((cell_store2 (by omega)).trans cH3) (n0 _ _) (n1 _ _ _ _) x' y')
 have HR2 := fun x y x' y' => Lib.hid ((hr3.store2 cE3 cF3 (n0 _ _) (n1 _ _ _ _) x y).store2 (R := w.heap.size + 2) ((cell_store2 (by omega)).trans cG3) ((cell_store2 (by omega)).trans cH3) (n0 _ _) (n1 _ _ _ _) x' y')
 have HQ2 := Lib.hid HQ2
 have HR2 := Lib.hid HR2
 have HBB := Lib.hid (hw2.trans (hb3.mono hw2.size))
 clear hr2 hr3 hb2 hb3 hb2' n0 n1
 go_wp2
 refine bodyPost_ret (v := .tuple #[.agg #[.bool (decide (z < 0)), .slice ad2 n2 c2], .agg #[.bool (decide (z < 0)), .slice ad3 n3 c3]]) (by simp [results, Tryz.results15, go_sem, cE3, cF3, cG3, cH3]) rfl ⟨_, _, rfl, ⟨_, _, _, rfl, (HQ2.out _ _ _ _).out⟩, ⟨_, _, _, rfl, (HR2.out _ _ _ _).out⟩, ?_⟩
 exact (((HBB.out.setCell (by simp <;> omega) _).setCell (by simp <;> omega) _).setCell (by simp <;> omega) _).setCell (by simp <;> omega) _
end
section
open Go.RowKit Digs
end
end Go.Proofs.YtghgcbedajaldaaGreat
/-  Bits Bit Int64 Bm  -/
namespace Go.Proofs.YtghgcbedajaldaaGreat
section
open Go.RowKit Digs
theorem digs_get {b : Nat} (hb : 2 ≤ b) (m j : Nat) : (digs b m)[j]?.getD 0 = m / b ^ j % b := by
 induction j generalizing m with
 | zero =>
  by_cases h : m = 0
  ·subst h; rw [digs_zero]; simp
  ·rw [digs_pos hb h]; simp
 | succ j ih =>
  by_cases h : m = 0
  ·subst h; rw [digs_zero]; simp
  ·rw [digs_pos hb h, List.getElem?_cons_succ, ih, Nat.div_div_eq_div_mul, Nat.pow_succ, Nat.mul_comm]
end
section
open Go.RowKit Digs
end
section
open Go.RowKit Digs
end
section
open Go.RowKit Digs
def nn (z : Int) : Nat := if z < 0 then (-1 - z).natAbs else z.natAbs
end
end Go.Proofs.YtghgcbedajaldaaGreat
/-  RPower RPower2 RRoot  -/
namespace Go.Proofs.YtghgcbedajaldaaGreat
section
open Go.RowKit Digs
theorem rlen_bd {k : Nat} {z : Int} (h : Bd k z) {M : Nat} (hM : 2 * k ≤ M) : rlen z ≤ M := by
 unfold Bd at h
 rw [pow_two_base] at h
 exact Nat.le_trans (digs_length_le (by decide) _ _ h) hM
theorem Bd.pow' {k : Nat} {x : Int} (h : Bd k x) (n : Nat) : Bd (k * n + 1) (x ^ n) := by
 induction n with
 | zero => unfold Bd; rw [Int.pow_zero, Nat.mul_zero]; decide
 | succ n ih => rw [Int.pow_succ, Nat.mul_succ, Nat.add_right_comm]; exact Bd.mul ih h
theorem RefV.zero0 (w : World) : RefV w (.agg #[.bool false, .slice none 0 0]) 0 := ⟨none, 0, 0, rfl, .inl ⟨rfl, by rw [show Int.natAbs 0 = 0 from rfl, digs_zero]⟩⟩
structure RX (p : Nat) (u v : Value) (z : Int) (w : World) : Prop where
 c0 : w.cell? ⟨p, 0, none⟩ = some u
 c1 : w.cell? ⟨p, 1, none⟩ = some v
 f0 : w.frozen? ⟨p, 0, none⟩ = false
 f1 : w.frozen? ⟨p, 1, none⟩ = false
 rv : RefV w (.agg #[u, v]) z
theorem RX.lt {p : Nat} {u v : Value} {z : Int} {w : World} (h : RX p u v z w) : p < w.heap.size := World.block_lt_of_cell? w _ h.c0
theorem RX.keep {p : Nat} {u v : Value} {z : Int} {w w' : World} (h : RX p u v z w) (hb : Below w.heap.size w w') : RX p u v z w' :=
 ⟨(hb.cell (p := ⟨p, 0, none⟩) h.lt).trans h.c0, (hb.cell (p := ⟨p, 1, none⟩) h.lt).trans h.c1, (hb.frozen (p := ⟨p, 0, none⟩) h.lt).trans h.f0, (hb.frozen (p := ⟨p, 1, none⟩) h.lt).trans h.f1, h.rv.keep hb⟩
theorem RX.made {u v : Value} {z : Int} {w : World} {t : TypeId} (h : RefV w (.agg #[u, v]) z) : RX w.heap.size u v z (w.alloc (.cells #[u, v] t)) :=
 ⟨by rw [World.cell?_alloc_at _ _ _ _ rfl]; rfl, by rw [World.cell?_alloc_at _ _ _ _ rfl]; rfl, World.frozen?_alloc_at _ _ _ _ rfl, World.frozen?_alloc_at _ _ _ _ rfl, h.keep ((Below.refl _ _).alloc (Nat.le_refl _) _)⟩
theorem RX.cells {p : Nat} {u v : Value} {z : Int} {w : World} (h : RX p u v z w) : w.cell? ⟨p, 0, none⟩ = some u ∧ w.cell? ⟨p, 1, none⟩ = some v := ⟨h.c0, h.c1⟩
theorem RefV.store {R : Nat} {vz : Value} {z : Int} {w : World} (h : RefV w vz z) {a : Bool} {ad : Option Addr} {n c : Nat} (h0 : w.cell? ⟨R, 0, none⟩ = some (.bool a)) (h1 : w.cell? ⟨R, 1, none⟩ = some (.slice ad n c)) (y1 y2 : Value) :
  RefV ((w.setCell ⟨R, 0, none⟩ y1).setCell ⟨R, 1, none⟩ y2) vz z := by
 obtain ⟨ad', n', c', e, hr⟩ := h
 exact ⟨ad', n', c', e, hr.store2 h0 h1 (by intro n h; cases h) (by intro n h; cases h) _ _⟩
theorem RX.other {X R : Nat} {u v : Value} {z : Int} {w : World} (h : RX X u v z w) {a : Bool} {ad : Option Addr} {n c : Nat} (h0 : w.cell? ⟨R, 0, none⟩ = some (.bool a)) (h1 : w.cell? ⟨R, 1, none⟩ = some (.slice ad n c)) (hne : X ≠ R) (y1 y2 : Value) :
  RX X u v z ((w.setCell ⟨R, 0, none⟩ y1).setCell ⟨R, 1, none⟩ y2) :=
 ⟨(cell_store2 hne).trans h.c0, (cell_store2 hne).trans h.c1, by simpa using h.f0, by simpa using h.f1, h.rv.store h0 h1 y1 y2⟩
theorem RX.mine {R : Nat} {a a' : Bool} {ad ad' : Option Addr} {n c n' c' : Nat} {z z' : Int} {w : World} (h : RX R (.bool a) (.slice ad n c) z w) (hi : RefV w (.agg #[.bool a', .slice ad' n' c']) z') :
  RX R (.bool a') (.slice ad' n' c') z' ((w.setCell ⟨R, 0, none⟩ (.bool a')).setCell ⟨R, 1, none⟩ (.slice ad' n' c')) := by
 refine ⟨?_, ?_, by simpa using h.f0, by simpa using h.f1, hi.store h.c0 h.c1 _ _⟩
 ·rw [World.cell?_setCell_other _ _ _ _ (by simp)]
  exact World.cell?_setCell_same _ _ _ h.c0
 ·exact World.cell?_setCell_same _ _ _ (by rw [World.cell?_setCell_other _ _ _ _ (by simp)]; exact h.c1)
def RefErr (w : World) (c : Int) (e : Ending) (w' : World) : Prop := e = .returned (.tuple #[.agg #[.bool false, .slice none 0 0], .int .i64 c]) ∧ Below w.heap.size w w'
end
section
open Go.RowKit Digs
theorem lenZ_bda {k M : Nat} {z : Int} (h : Bd k z) (hk : 32 * k ≤ M) : lenZ z ≤ M := by
 unfold Bd at h
 rw [pow32] at h
 have h2 : (2 : Nat) ^ (32 * k) ≤ 2 ^ M := Nat.pow_le_pow_right (by decide) hk
 unfold lenZ
 split
 ·exact bl_le_iff.2 (by omega)
 ·exact bl_le_iff.2 (by omega)
end
section
open Go.RowKit Digs
end
end Go.Proofs.YtghgcbedajaldaaGreat
/-  The reference's Bits.  -/
namespace Go.Proofs.YtghgcbedajaldaaGreat
open Go.RowKit Digs
def bv (l : List Bool) : List Value := l.map Value.bool
theorem bv_get (l : List Bool) (j : Nat) (h : j < l.length) : (bv l)[j]? = some (.bool (l[j]?.getD false)) := by
 simp [bv, List.getElem?_map, List.getElem?_eq_getElem h]
def Oo (w : World) (base : Nat) (v : Value) (l : List Bool) : Prop := w.ownsRow base 4 1 v l.length (bv l)
def RdB (w : World) (v : Value) (l : List Bool) : Prop :=
 ∃ ad cap, v = .slice ad l.length cap ∧ cap ≤ maxLen ∧ l.length ≤ cap ∧ ∀ j : Nat, j < l.length → ∃ b off, ad = some ⟨b, off, none⟩ ∧ b < w.heap.size ∧ w.cell? ⟨b, off + j, none⟩ = some (.bool (l[j]?.getD false))
theorem RdB.keep {w w' : World} {v : Value} {l : List Bool} (h : RdB w v l) (hb : Below w.heap.size w w') : RdB w' v l := by
 obtain ⟨ad, cap, rfl, hm, hc, h1⟩ := h
 refine ⟨ad, cap, rfl, hm, hc, fun j hj => ?_⟩
 obtain ⟨b, off, e, h2, h3⟩ := h1 j hj
 exact ⟨b, off, e, Nat.lt_of_lt_of_le h2 hb.size, (hb.cell (p := ⟨b, off + j, none⟩) h2).trans h3⟩
theorem Oo.rd {w : World} {base : Nat} {v : Value} {l : List Bool} (h : Oo w base v l) : RdB w v l := by
 obtain ⟨_, ⟨rfl, hn⟩ | ⟨g, cap, cur, rfl, _, hg, hc, hm, _, ht⟩⟩ := h
 ·exact ⟨none, 0, by rw [hn], Nat.zero_le _, by omega, fun j hj => by omega⟩
 ·refine ⟨_, cap, rfl, hm, hc, fun j hj => ⟨g, 0, rfl, (Array.getElem?_eq_some_iff.1 hg).1, ?_⟩⟩
  rw [Nat.zero_add, World.cell?]
  simp only [hg]
  have h1 := bv_get l j hj
  rw [← ht, List.getElem?_take, if_pos (by omega)] at h1
  simpa using h1
theorem Oo.keep {w w' : World} {base : Nat} {v : Value} {l : List Bool} (h : Oo w base v l) (hb : Below w.heap.size w w') : Oo w' base v l := by
 refine ⟨h.1, ?_⟩
 rcases h.2 with hn | ⟨g, cap, cur, rfl, hg, hgg, rest⟩
 ·exact .inl hn
 ·exact .inr ⟨g, cap, cur, rfl, hg, by rw [hb.block g (Array.getElem?_eq_some_iff.1 hgg).1]; exact hgg, rest⟩
theorem Oo.low {w : World} {base base' : Nat} {v : Value} {l : List Bool} (h : Oo w base v l) (hb : base' ≤ base) : Oo w base' v l := by
 obtain ⟨h1, h2⟩ := h
 refine ⟨h1, ?_⟩
 rcases h2 with hn | ⟨g, cap, cur, e, hg, rest⟩
 ·exact .inl hn
 ·exact .inr ⟨g, cap, cur, e, Nat.le_trans hb hg, rest⟩
theorem zc2 {w : World} {a b c d : Value} {t u : TypeId} {w' : World} (h : Below ((w.alloc (.cells #[a, b] t)).alloc (.cells #[c, d] u)).heap.size ((w.alloc (.cells #[a, b] t)).alloc (.cells #[c, d] u)) w') :
  (w'.cell? ⟨w.heap.size, 0, none⟩ = some a ∧ w'.cell? ⟨w.heap.size, 1, none⟩ = some b) ∧ (w'.cell? ⟨w.heap.size + 1, 0, none⟩ = some c ∧ w'.cell? ⟨w.heap.size + 1, 1, none⟩ = some d ∧ w'.frozen? ⟨w.heap.size + 1, 0, none⟩ = false ∧ w'.frozen? ⟨w.heap.size + 1, 1, none⟩ = false) := by
 have k1 := box2r h
 have k0 := box2 (w := w) (((Below.refl (w.alloc (.cells #[a, b] t)).heap.size _).alloc (Nat.le_refl _) (.cells #[c, d] u)).trans (h.mono (by simp)))
 exact ⟨⟨k0.1, k0.2.1⟩, k1.1, k1.2.1, k1.2.2.1, k1.2.2.2.1⟩
end Go.Proofs.YtghgcbedajaldaaGreat
/-  The reference's chosen and Of (of bits).  -/
namespace Go.Proofs.YtghgcbedajaldaaGreat
open Go.RowKit Digs
theorem vl_range (b V M : Nat) : vl b ((List.range M).map fun K => V / b ^ K % b) = V % b ^ M := by
 induction M with
 | zero => simp [vl, Nat.mod_one]
 | succ M ih =>
  rw [List.range_succ, List.map_append, List.map_singleton, vl_snoc, ih, List.length_map, List.length_range, Nat.pow_succ, Nat.mod_mul]
def xb (l : List Bool) (s : Bool) : List Bool := l.map (· != s)
end Go.Proofs.YtghgcbedajaldaaGreat
