/-  Open Ro  -/
import Derived.Test.YtghgcbedajaldaaGreatRows
import Derived.ProofKit
import Derived.Below
import Derived.Lib.SmallJoins
import Derived.Test.YtghgcbedajaldaaGreatMpal
/-
 The frame of a law of layer 2: closed facts of the program, and how an argument N is opened.
-/
namespace Go.Proofs.YtghgcbedajaldaaGreat
open Go.ChangeShapes Go.WideShapes Go.ChangeAt Go.RowKit Go.Joins
theorem Tryz.own : ownKnob Tryz.prog.godebug = none := by kernel_rfl
theorem Tryz.laidOut : laidOutB Tryz.prog = true := by kernel_rfl
end Go.Proofs.YtghgcbedajaldaaGreat
/-  How an argument Q of layer 3's laws is opened.  -/
namespace Go.Proofs.YtghgcbedajaldaaGreat
open Go.ChangeShapes Go.WideShapes Go.ChangeAt Go.RowKit Go.Joins Go.Deep
section
variable {P : Program} {H : Type} {enc : TypeId × Value → H} {w : World} {base : Nat} {spare : Nat → Bool} {held : Bool}
theorem open_pair {t : TypeId} {f0 f1 : Field} {fuel : Nat} {c0 c1 : Value} {x : DataW H × List MemPlace} (hs : P.underlying t = some (.struct #[f0, f1])) (hone : oneCellFields P #[f0, f1] = true) (hf : DataW.trod enc P w base spare held fuel t [c0, c1] = some x) :
  ∃ (y0 y1 : DataW H × List MemPlace) (n : Nat), DataW.trod enc P w base spare held n f0.type [c0] = some y0 ∧ DataW.trod enc P w base spare held n f1.type [c1] = some y1 := by
 obtain ⟨y0, y1, n, _, _, h0, h1⟩ := trod_struct2 hs hf
 obtain ⟨o0, k0⟩ := hone_of hone 0 f0 rfl
 obtain ⟨o1, k1⟩ := hone_of hone 1 f1 rfl
 exact ⟨y0, y1, n, by simpa [o0, k0] using h0, by simpa [o1, k1] using h1⟩
theorem open_nest {r : Reach} {b0 : Nat} {t : TypeId} {f0 f1 : Field} {v : Value} {d : DataW H} {p : List MemPlace} (hs : P.underlying t = some (.struct #[f0, f1])) (o0 : f0.offset = 0) (o1 : f1.offset = 2) (k0 : P.cellsOf f0.type = 2) (k1 : P.cellsOf f1.type = 2) (hC : P.cellsOf t = 4)
  (hv : Value.okWide P w r b0 t v) (h : DataW.Trod enc P w base spare held t v d p) :
  ∃ (c0 c1 c2 c3 : Value) (y0 y1 : DataW H × List MemPlace) (n : Nat), v = .agg #[c0, c1, c2, c3] ∧ DataW.trod enc P w base spare held n f0.type [c0, c1] = some y0 ∧ DataW.trod enc P w base spare held n f1.type [c2, c3] = some y1 := by
 obtain ⟨cs, rfl, hsz⟩ := okWide_struct hs hv
 obtain ⟨c0, c1, c2, c3, rfl⟩ := array4 (hsz.trans hC)
 obtain ⟨fuel, hf⟩ := h
 obtain ⟨y0, y1, n, _, _, h0, h1⟩ := trod_struct2 hs hf
 exact ⟨c0, c1, c2, c3, y0, y1, n, rfl, by simpa [Value.cells, o0, k0] using h0, by simpa [Value.cells, o1, k1] using h1⟩
end
theorem Tryz.cellsQ : Tryz.prog.cellsOf 26 = 4 := by kernel_rfl
theorem open_ncore {H : Type} {enc : TypeId × Value → H} {W : World} {base m : Nat} {held : Bool} {c0 c1 : Value} {y0 y1 : DataW H × List MemPlace}
  (hy0 : DataW.trod enc Tryz.prog W base (fun _ => true) held m 4 [c0] = some y0) (hy1 : DataW.trod enc Tryz.prog W base (fun _ => true) held m 22 [c1] = some y1) :
  ∃ (b : Bool) (ad : Option Addr) (c : Nat) (l : List Nat), c0 = .bool b ∧ c1 = .slice ad l.length c ∧ NArg W ad c l := by
 obtain ⟨b, e0, _⟩ := DataW.trod_bool Tryz.underlying4 hy0
 rcases open_ints Tryz.underlying22 Tryz.underlying137 (by kernel_rfl) hy1 with ⟨e1, _⟩ | ⟨x, n, cap, zs, e1, _, hl, hm, hz, _, hcell, hwz⟩
 ·simp at e0 e1
  subst e0 e1
  exact ⟨b, none, 0, [], rfl, rfl, .inl (.inl ⟨rfl, rfl⟩), (by simp), (by simp)⟩
 ·simp at e0 e1
  subst e0 e1
  simp only [if_pos] at hz
  have hnat : ∀ i, i < zs.length → ∃ k : Nat, zs.getD i 0 = (k : Int) ∧ k < 4294967296 := fun i hi => by
   have := hwz (zs.getD i 0) (by simp [List.getD_eq_getElem?_getD, List.getElem?_eq_getElem hi])
   simp [Lit.wf] at this
   rw [show IntKind.u32.min = 0 from rfl, show IntKind.u32.max = 4294967295 from rfl] at this
   refine ⟨(zs.getD i 0).toNat, ?_, ?_⟩ <;> (simp only [List.getD_eq_getElem?_getD] at *; omega)
  by_cases hn : n = 0
  ·subst hn
   exact ⟨b, some x, cap, [], rfl, rfl, .inr ⟨rfl, x, cap, rfl⟩, (by simp), (by simp)⟩
  ·obtain ⟨xb, off, spot⟩ := x
   have hzl : n ≤ zs.length := by omega
   have hc0 := hcell 0 (by omega)
   have hspot : spot = none := by simpa [Addr.add] using World.cell?_spot hc0
   subst hspot
   have hlen : ((zs.take n).map Int.toNat).length = n := by simp; omega
   have hget : ∀ i, i < n → ((zs.take n).map Int.toNat)[i]?.getD 0 = (zs.getD i 0).toNat := fun i hi => by
    simp [hi, List.getElem?_eq_getElem (show i < zs.length by omega)]
   refine ⟨b, some ⟨xb, off, none⟩, cap, (zs.take n).map Int.toNat, rfl, by rw [hlen], .inl (.inr ⟨xb, off, cap, rfl, ?_, by omega, hm, fun i hi => ?_⟩), fun u hu => ?_, by omega⟩
   ·exact World.block_lt_of_cell? W _ hc0
   ·rw [hlen] at hi
    obtain ⟨k, hk, _⟩ := hnat i (by omega)
    have h := hcell i (by omega)
    rw [hget i hi, hk]
    rw [hk, Addr.add_lit] at h
    exact h
   ·obtain ⟨i, hi, rfl⟩ := List.mem_iff_getElem.1 hu
    rw [hlen] at hi
    obtain ⟨k, hk, hk2⟩ := hnat i (by omega)
    have h := hget i hi
    rw [List.getElem?_eq_getElem (by rw [hlen]; exact hi), hk] at h
    simp only [Option.getD_some, Int.toNat_natCast] at h
    omega
set_option maxRecDepth 100000 in
theorem open_q {H : Type} {enc : TypeId × Value → H} {W : World} {base : Nat} {held : Bool} {r : Reach} {b0 : Nat} {v : Value} {d : DataW H} {p : List MemPlace}
  (hv : Value.okWide Tryz.prog W r b0 26 v) (h : DataW.Trod enc Tryz.prog W base (fun _ => true) held 26 v d p) :
  ∃ (b : Bool) (ad : Option Addr) (c : Nat) (l : List Nat) (b' : Bool) (ad' : Option Addr) (c' : Nat) (l' : List Nat), v = .agg #[.bool b, .slice ad l.length c, .bool b', .slice ad' l'.length c'] ∧ NArg W ad c l ∧ NArg W ad' c' l' := by
 obtain ⟨c0, c1, c2, c3, y0, y1, n, rfl, h0, h1⟩ := open_nest Tryz.underlying26 rfl rfl (by kernel_rfl) (by kernel_rfl) Tryz.cellsQ hv h
 obtain ⟨z0, z1, m, g0, g1⟩ := open_pair Tryz.underlying24 (by kernel_rfl) h0
 obtain ⟨z2, z3, m', g2, g3⟩ := open_pair Tryz.underlying24 (by kernel_rfl) h1
 obtain ⟨b, ad, c, l, rfl, rfl, hn⟩ := open_ncore g0 g1
 obtain ⟨b', ad', c', l', rfl, rfl, hn'⟩ := open_ncore g2 g3
 exact ⟨b, ad, c, l, b', ad', c', l', rfl, hn, hn'⟩
end Go.Proofs.YtghgcbedajaldaaGreat
