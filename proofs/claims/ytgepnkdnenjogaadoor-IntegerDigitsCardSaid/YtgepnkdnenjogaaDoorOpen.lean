/-
  The frame of a law of layer 2: closed facts of the program, and how an argument N is opened.
-/
import Derived.Test.YtgepnkdnenjogaaDoorRows
import Derived.Test.YtgepnkdnenjogaaDoorRingA
import Derived.ProofKit
import Derived.Below
import Derived.Lib.SmallJoins
namespace Go.Proofs.YtgepnkdnenjogaaDoor
open Go.ChangeShapes Go.WideShapes Go.ChangeAt Go.RowKit Go.Joins

theorem Tryd.own : ownKnob Tryd.prog.godebug = none := by kernel_rfl
theorem Tryd.laidOut : laidOutB Tryd.prog = true := by kernel_rfl
theorem Tryd.cellsN : Tryd.prog.cellsOf 24 = 2 := by kernel_rfl

set_option maxRecDepth 100000 in
/-- An argument of the law, opened. -/
theorem open_n {H : Type} {enc : TypeId × Value → H} {W : World} {base : Nat} {held : Bool} {r : Reach} {b0 : Nat} {v : Value} {d : DataW H} {p : List MemPlace}
    (hv : Value.okWide Tryd.prog W r b0 24 v) (h : DataW.Trod enc Tryd.prog W base (fun _ => true) held 24 v d p) :
    ∃ (b : Bool) (ad : Option Addr) (c : Nat) (l : List Nat), v = .agg #[.bool b, .slice ad l.length c] ∧ NArg W ad c l := by
  obtain ⟨c0, c1, y0, y1, m, rfl, _, _, hy0, hy1⟩ := open_agg2 Tryd.underlying24 (by kernel_rfl) Tryd.cellsN hv h
  obtain ⟨b, e0, _⟩ := DataW.trod_bool Tryd.underlying4 hy0
  rcases open_ints Tryd.underlying22 Tryd.underlying56 (by kernel_rfl) hy1 with ⟨e1, _⟩ | ⟨x, n, cap, zs, e1, _, hl, hm, hz, _, hcell, hwz⟩
  · simp at e0 e1
    subst e0 e1
    exact ⟨b, none, 0, [], rfl, .inl (.inl ⟨rfl, rfl⟩), (by simp), (by simp)⟩
  · simp at e0 e1
    subst e0 e1
    simp only [if_pos] at hz
    have hnat : ∀ i, i < zs.length → ∃ k : Nat, zs.getD i 0 = (k : Int) ∧ k < 4294967296 := fun i hi => by
      have := hwz (zs.getD i 0) (by simp [List.getD_eq_getElem?_getD, List.getElem?_eq_getElem hi])
      simp [Lit.wf] at this
      rw [show IntKind.u32.min = 0 from rfl, show IntKind.u32.max = 4294967295 from rfl] at this
      refine ⟨(zs.getD i 0).toNat, ?_, ?_⟩ <;> (simp only [List.getD_eq_getElem?_getD] at *; omega)
    by_cases hn : n = 0
    · subst hn
      exact ⟨b, some x, cap, [], rfl, .inr ⟨rfl, x, cap, rfl⟩, (by simp), (by simp)⟩
    · obtain ⟨xb, off, spot⟩ := x
      have hzl : n ≤ zs.length := by omega
      have hc0 := hcell 0 (by omega)
      have hspot : spot = none := by simpa [Addr.add] using World.cell?_spot hc0
      subst hspot
      have hlen : ((zs.take n).map Int.toNat).length = n := by simp; omega
      have hget : ∀ i, i < n → ((zs.take n).map Int.toNat)[i]?.getD 0 = (zs.getD i 0).toNat := fun i hi => by
        simp [hi, List.getElem?_eq_getElem (show i < zs.length by omega)]
      refine ⟨b, some ⟨xb, off, none⟩, cap, (zs.take n).map Int.toNat, by rw [hlen], .inl (.inr ⟨xb, off, cap, rfl, ?_, by omega, hm, fun i hi => ?_⟩), fun u hu => ?_, by omega⟩
      · exact World.block_lt_of_cell? W _ hc0
      · rw [hlen] at hi
        obtain ⟨k, hk, _⟩ := hnat i (by omega)
        have h := hcell i (by omega)
        rw [hget i hi, hk]
        rw [hk, Addr.add_lit] at h
        exact h
      · obtain ⟨i, hi, rfl⟩ := List.mem_iff_getElem.1 hu
        rw [hlen] at hi
        obtain ⟨k, hk, hk2⟩ := hnat i (by omega)
        have h := hget i hi
        rw [List.getElem?_eq_getElem (by rw [hlen]; exact hi), hk] at h
        simp only [Option.getD_some, Int.toNat_natCast] at h
        omega


theorem wf_u16 {a : Int} (h : (Lit.int .u16 a).wf = true) : 0 ≤ a ∧ a ≤ 65535 := by
  simp [Lit.wf] at h
  rwa [show IntKind.u16.min = 0 from rfl, show IntKind.u16.max = 65535 from rfl] at h
theorem wf_u8 {a : Int} (h : (Lit.int .u8 a).wf = true) : 0 ≤ a ∧ a ≤ 255 := by
  simp [Lit.wf] at h
  rwa [show IntKind.u8.min = 0 from rfl, show IntKind.u8.max = 255 from rfl] at h
theorem wf_i64 {a : Int} (h : (Lit.int .i64 a).wf = true) : -9223372036854775808 ≤ a ∧ a ≤ 9223372036854775807 := by
  simp [Lit.wf] at h
  first | exact h | (rw [show IntKind.i64.min = -9223372036854775808 from rfl] at h; exact h)

end Go.Proofs.YtgepnkdnenjogaaDoor
