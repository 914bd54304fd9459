/-
  IntegerRing: for every input the law returns true, and each argument reads behind the call as it read before. No condition.
-/
import Derived.Test.YtfkiognaggccjaaRows
import Derived.Test.YtfkiognaggccjaaRing
import Derived.ProofKit
import Derived.Below
import Derived.Lib.SmallJoins
namespace Go.Proofs.Ytfkiognaggccjaa
open Go.ChangeShapes Go.WideShapes Go.ChangeAt Go.RowKit Go.Joins

theorem Try.own : ownKnob Try.prog.godebug = none := by kernel_rfl
theorem Try.laidOut : laidOutB Try.prog = true := by kernel_rfl
theorem Try.cellsN : Try.prog.cellsOf 24 = 2 := by kernel_rfl

set_option maxRecDepth 100000 in
/-- An argument of the law, opened. -/
theorem open_n {H : Type} {enc : TypeId × Value → H} {W : World} {base : Nat} {held : Bool} {r : Reach} {b0 : Nat} {v : Value} {d : DataW H} {p : List MemPlace}
    (hv : Value.okWide Try.prog W r b0 24 v) (h : DataW.Trod enc Try.prog W base (fun _ => true) held 24 v d p) :
    ∃ (b : Bool) (ad : Option Addr) (c : Nat) (l : List Nat), v = .agg #[.bool b, .slice ad l.length c] ∧ NArg W ad c l := by
  obtain ⟨c0, c1, y0, y1, m, rfl, _, _, hy0, hy1⟩ := open_agg2 Try.underlying24 (by kernel_rfl) Try.cellsN hv h
  obtain ⟨b, e0, _⟩ := DataW.trod_bool Try.underlying4 hy0
  rcases open_ints Try.underlying22 Try.underlying93 (by kernel_rfl) hy1 with ⟨e1, _⟩ | ⟨x, n, cap, zs, e1, _, hl, hm, hz, _, hcell, hwz⟩
  · simp at e0 e1
    subst e0 e1
    exact ⟨b, none, 0, [], rfl, .inl (.inl ⟨rfl, rfl⟩), (by simp), (by simp)⟩
  · simp at e0 e1
    subst e0 e1
    simp only [if_pos] at hz
    have hnat : ∀ i, i < zs.length → ∃ k : Nat, zs.getD i 0 = (k : Int) ∧ k < 4294967296 := fun i hi => by
      have := hwz (zs.getD i 0) (by simp [List.getD_eq_getElem?_getD, List.getElem?_eq_getElem hi])
      simp [Lit.wf] at this
      rw [show IntKind.u32.min = 0 from rfl, show IntKind.u32.max = 4294967295 from rfl] at this
      refine ⟨(zs.getD i 0).toNat, ?_, ?_⟩ <;> (simp only [List.getD_eq_getElem?_getD] at *; omega)
    by_cases hn : n = 0
    · subst hn
      exact ⟨b, some x, cap, [], rfl, .inr ⟨rfl, x, cap, rfl⟩, (by simp), (by simp)⟩
    · obtain ⟨xb, off, spot⟩ := x
      have hzl : n ≤ zs.length := by omega
      have hc0 := hcell 0 (by omega)
      have hspot : spot = none := by simpa [Addr.add] using World.cell?_spot hc0
      subst hspot
      have hlen : ((zs.take n).map Int.toNat).length = n := by simp; omega
      have hget : ∀ i, i < n → ((zs.take n).map Int.toNat)[i]?.getD 0 = (zs.getD i 0).toNat := fun i hi => by
        simp [hi, List.getElem?_eq_getElem (show i < zs.length by omega)]
      refine ⟨b, some ⟨xb, off, none⟩, cap, (zs.take n).map Int.toNat, by rw [hlen], .inl (.inr ⟨xb, off, cap, rfl, ?_, by omega, hm, fun i hi => ?_⟩), fun u hu => ?_, by omega⟩
      · exact World.block_lt_of_cell? W _ hc0
      · rw [hlen] at hi
        obtain ⟨k, hk, _⟩ := hnat i (by omega)
        have h := hcell i (by omega)
        rw [hget i hi, hk]
        rw [hk, Addr.add_lit] at h
        exact h
      · obtain ⟨i, hi, rfl⟩ := List.mem_iff_getElem.1 hu
        rw [hlen] at hi
        obtain ⟨k, hk, hk2⟩ := hnat i (by omega)
        have h := hget i hi
        rw [List.getElem?_eq_getElem (by rw [hlen]; exact hi), hk] at h
        simp only [Option.getD_some, Int.toNat_natCast] at h
        omega

set_option maxRecDepth 100000 in
theorem ring_lifted (os : Os) (started : os.Started) (H : Type) (enc : TypeId × Value → H) :
    ReturnsInHanded {} Try.checked os 10 .any (Rows.integerRingSpec.pre6 enc Try.prog Try.f10 Rows.integerRingRow.domain false) (Rows.integerRingSpec.post enc Try.prog Try.f10 false true false false) := by
  refine returnsInHanded_of_change (C := Try.checked) Try.own started (by kernel_rfl) Try.func10
    (ChangeSpec.witness6 (enc := enc) (C := Try.checked) false ⟨#[], #[.agg #[.bool false, .slice none 0 0], .agg #[.bool false, .slice none 0 0], .agg #[.bool false, .slice none 0 0]], []⟩ 8 (by kernel_rfl) (by kernel_rfl) (by kernel_rfl) (by kernel_rfl)) ?_
  intro W base args ds gs before hval0 hW hcnd _
  have hval : ∀ (j : Nat) t v, Try.f10.params[j]? = some t → args[j]? = some v → Value.okWide Try.prog W .any base t v := hval0
  have hW' := hW
  obtain ⟨p, q, hA0, hV, rfl, hfz, hnd⟩ := hW
  have hA : DataW.TrodAll enc Try.prog W 0 (fun _ => true) true Try.f10.params.toList args.toList ds p := hA0
  rw [Try.params10] at hA hval
  obtain ⟨v0, vs0, d0, ds0, p0, q0, hargs, rfl, rfl, h0, r0⟩ := trodAll_cons hA
  obtain ⟨v1, vs1, d1, ds1, p1, q1, rfl, rfl, rfl, h1, r1⟩ := trodAll_cons r0
  obtain ⟨v2, vs2, d2, ds2, p2, q2, rfl, rfl, rfl, h2, r2⟩ := trodAll_cons r1
  obtain ⟨rfl, rfl, rfl⟩ := trodAll_nil r2
  obtain rfl : args = #[v0, v1, v2] := by cases args; simp_all
  obtain ⟨rfl, rfl⟩ := trodVars_none hV
  have lt0 : ∀ x ∈ p0, x.block < W.heap.size := by obtain ⟨m, hm⟩ := h0; exact DataW.trod_lt m _ _ _ hm
  have lt1 : ∀ x ∈ p1, x.block < W.heap.size := by obtain ⟨m, hm⟩ := h1; exact DataW.trod_lt m _ _ _ hm
  have lt2 : ∀ x ∈ p2, x.block < W.heap.size := by obtain ⟨m, hm⟩ := h2; exact DataW.trod_lt m _ _ _ hm
  obtain ⟨b1, a1, c1, l1, rfl, n1⟩ := open_n (hval 0 24 v0 rfl rfl) h0
  obtain ⟨b2, a2, c2, l2, rfl, n2⟩ := open_n (hval 1 24 v1 rfl rfl) h1
  obtain ⟨b3, a3, c3, l3, rfl, n3⟩ := open_n (hval 2 24 v2 rfl rfl) h2
  clear hA0 hval0
  refine (ring_any b1 b2 b3 a1 a2 a3 c1 c2 c3 l1 l2 l3 W n1 n2 n3).mono fun e W' ⟨he, bel⟩ => ?_
  subst he
  exact ⟨_, rfl, _, _, _, [], _, [], hW', trodAll_mk1 (shut_bool Try.underlying4 _),
    (trodAll_cons_mk (Below.trod Try.laidOut (by kernel_rfl) (of_decide_eq_true (by kernel_rfl)) h0 bel lt0) (trodAll_cons_mk (Below.trod Try.laidOut (by kernel_rfl) (of_decide_eq_true (by kernel_rfl)) h1 bel lt1) (trodAll_cons_mk (Below.trod Try.laidOut (by kernel_rfl) (of_decide_eq_true (by kernel_rfl)) h2 bel lt2) trodAll_mk0))),
    rfl, bel.frame _, fun h => by cases h⟩

/-- The statement. -/
theorem integerRing_holds : Rows.IntegerRingSaid :=
  OpenClaim.holds_of_wide 10 Try.f10 rfl rfl rfl rfl rfl rfl rfl ⟨rfl, rfl, rfl, rfl, rfl⟩ rfl rfl rfl rfl rfl (by kernel_rfl) Try.func10 (by kernel_rfl)
    (of_decide_eq_true (by kernel_rfl)) (by unfold Func.isWrapper; first | (rw [if_pos (by decide +kernel)]; kernel_rfl) | (rw [if_neg (by decide +kernel)]; exact ⟨rfl, rfl⟩))
    (fun os started H enc _ => ring_lifted os started H enc)

end Go.Proofs.Ytfkiognaggccjaa
