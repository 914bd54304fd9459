/-  The law's made: the program's integers.  -/
import Derived.Test.YtfieecdedilonaaMakeO
namespace Go.Proofs.Ytfieecdedilonaa
open Go.RowKit Digs

theorem Try.infoInt : (Try.prog.info? 28).map (fun i => (i.zero, i.size, i.bytes)) = some (some (.agg #[.bool false, .slice none 0 0]), 2, 32) := by kernel_rfl

/-- A row of the law's integers. -/
def NRd (w : World) (L : Nat) (ns : List (Bool × List Nat)) : Prop :=
  L < w.heap.size ∧ ∀ j : Nat, j < ns.length → ∃ (b : Bool) (l : List Nat) (ad : Option Addr) (c : Nat), ns[j]? = some (b, l) ∧ w.cell? ⟨L, j * 2, none⟩ = some (.bool b) ∧ w.cell? ⟨L, j * 2 + 1, none⟩ = some (.slice ad l.length c) ∧ RdE w (.slice ad l.length c) l ∧ (∀ x ∈ l, x < 4294967296) ∧ l.length * 4 ≤ 140737488355328
theorem NRd.keep {w w' : World} {L : Nat} {ns : List (Bool × List Nat)} (h : NRd w L ns) (hb : Below w.heap.size w w') : NRd w' L ns :=
  ⟨Nat.lt_of_lt_of_le h.1 hb.size, fun j hj => by
    obtain ⟨b, l, ad, c, h1, h2, h3, h4, h5, h6⟩ := h.2 j hj
    exact ⟨b, l, ad, c, h1, (hb.cell (p := ⟨L, j * 2, none⟩) h.1).trans h2, (hb.cell (p := ⟨L, j * 2 + 1, none⟩) h.1).trans h3, h4.keep hb, h5, h6⟩⟩

theorem ownsRow_keep {w w' : World} {base e size n : Nat} {v : Value} {xs : List Value} (h : w.ownsRow base e size v n xs) (hb : Below w.heap.size w w') : w'.ownsRow base e size v n xs := by
  refine ⟨h.1, ?_⟩
  rcases h.2 with hn | ⟨g, cap, cur, rfl, hg, hgg, rest⟩
  · exact .inl hn
  · exact .inr ⟨g, cap, cur, rfl, hg, by rw [hb.block g (Array.getElem?_eq_some_iff.1 hgg).1]; exact hgg, rest⟩

/-- A row of the program's integers, made by the call. -/
def IElem (w : World) (xs : List Value) (z : Int) (j : Nat) : Prop :=
  ∃ ad n c, xs[j * 2]? = some (.bool (decide (z < 0))) ∧ xs[j * 2 + 1]? = some (.slice ad n c) ∧ IntV w (.agg #[.bool (decide (z < 0)), .slice ad n c]) z ∧ Typed w (.agg #[.bool (decide (z < 0)), .slice ad n c])
def IRow (w : World) (base : Nat) (v : Value) (zs : List Int) : Prop :=
  ∃ xs : List Value, w.ownsRow base 28 2 v zs.length xs ∧ ∀ j : Nat, j < zs.length → IElem w xs (zs[j]?.getD 0) j
theorem IElem.keep {w w' : World} {xs : List Value} {z : Int} {j : Nat} (h : IElem w xs z j) (hb : Below w.heap.size w w') : IElem w' xs z j := by
  obtain ⟨ad, n, c, g1, g2, g3, g4⟩ := h
  exact ⟨ad, n, c, g1, g2, g3.keep hb, g4.keep hb⟩
theorem IRow.keep {w w' : World} {base : Nat} {v : Value} {zs : List Int} (h : IRow w base v zs) (hb : Below w.heap.size w w') : IRow w' base v zs := by
  obtain ⟨xs, h1, h2⟩ := h
  exact ⟨xs, ownsRow_keep h1 hb, fun j hj => (h2 j hj).keep hb⟩
theorem u32_ne {w : World} {base n : Nat} {v : Value} {xs : List Value} {b : Nat} (h : w.ownsRow base 28 2 v n xs) (hb : U32At w b) : some b ≠ v.ownBlock := by
  obtain ⟨cur, f, hc⟩ := hb
  obtain ⟨_, ⟨rfl, _⟩ | ⟨g', cap, cur', rfl, _, hgg, _⟩⟩ := h
  · intro h; cases h
  · intro h
    cases h
    rw [hgg] at hc
    cases hc
theorem IElem.grown {w w1 : World} {base n : Nat} {v : Value} {xs0 xs xs' : List Value} {z : Int} {j : Nat} (h : IElem w xs z j) (ho : w.ownsRow base 28 2 v n xs0) (hg : w.grownBy w1 v.ownBlock)
    (h0 : xs[j * 2]? = xs'[j * 2]?) (h1 : xs[j * 2 + 1]? = xs'[j * 2 + 1]?) : IElem w1 xs' z j := by
  obtain ⟨ad, m, c, g1, g2, g3, g4⟩ := h
  have hty : ∀ a, ad = some a → w1.heap[a.block]? = w.heap[a.block]? := fun a ha => by
    have := g4 _ a m c (by rw [ha])
    exact hg.block _ this.lt (u32_ne ho this)
  refine ⟨ad, m, c, h0 ▸ g1, h1 ▸ g2, ?_, fun b a m' c' he => ?_⟩
  · obtain ⟨ad', n', c', he, hr⟩ := g3
    cases he
    refine ⟨_, _, _, rfl, ?_⟩
    rcases hr with hr | ⟨b, off, cap, he, h2, h3, h4, h5⟩
    · exact .inl hr
    · refine .inr ⟨b, off, cap, he, Nat.lt_of_lt_of_le h2 hg.size, h3, h4, fun q hq => ?_⟩
      cases he
      rw [← h5 q hq]
      exact World.cell?_of_block (a := ⟨b, off + q, none⟩) (hty ⟨b, off, none⟩ rfl)
  · cases he
    obtain ⟨cur, f, hc⟩ := g4 _ a m c rfl
    exact ⟨cur, f, by rw [hty a rfl]; exact hc⟩
/-- One more element. -/
theorem IRow.snoc {w w1 : World} {base : Nat} {v v' : Value} {zs : List Int} {xs : List Value} {z : Int} {ad : Option Addr} {n c : Nat}
    (ho : w.ownsRow base 28 2 v zs.length xs) (he : ∀ j : Nat, j < zs.length → IElem w xs (zs[j]?.getD 0) j)
    (hz : IntV w (.agg #[.bool (decide (z < 0)), .slice ad n c]) z) (ht : Typed w (.agg #[.bool (decide (z < 0)), .slice ad n c]))
    (hown : w1.ownsRow base 28 2 v' (zs.length + 1) (xs ++ [.bool (decide (z < 0)), .slice ad n c])) (hg : w.grownBy w1 v.ownBlock) : IRow w1 base v' (zs ++ [z]) := by
  have hxl := ho.1
  refine ⟨xs ++ [.bool (decide (z < 0)), .slice ad n c], by rw [List.length_append]; exact hown, fun j hj => ?_⟩
  rw [List.length_append, List.length_singleton] at hj
  by_cases hjl : j < zs.length
  · rw [List.getElem?_append_left hjl]
    refine (he j hjl).grown ho hg ?_ ?_
    · rw [List.getElem?_append_left (by omega)]
    · rw [List.getElem?_append_left (by omega)]
  · obtain rfl : j = zs.length := by omega
    rw [List.getElem?_append_right (Nat.le_refl _), Nat.sub_self]
    show IElem w1 _ z zs.length
    have h0 : IElem w ((List.replicate xs.length undef) ++ [.bool (decide (z < 0)), .slice ad n c]) z zs.length := by
      refine ⟨ad, n, c, ?_, ?_, hz, ht⟩
      · rw [List.getElem?_append_right (by simp; omega)]; simp [hxl]
      · rw [List.getElem?_append_right (by simp; omega)]; simp [hxl]
    refine h0.grown ho hg ?_ ?_
    · rw [List.getElem?_append_right (by simp; omega), List.getElem?_append_right (by omega)]; simp
    · rw [List.getElem?_append_right (by simp; omega), List.getElem?_append_right (by omega)]; simp

def nz (p : Bool × List Nat) : Int := sg p.1 (vl 4294967296 p.2)

def MadeRel (ns : List (Bool × List Nat)) (w : World) (out i : Value) (wr : World) : Prop :=
  ∃ j : Nat, i = .int .i64 j ∧ j ≤ ns.length ∧ IRow wr w.heap.size out ((ns.take j).map nz) ∧ Below w.heap.size w wr

set_option maxHeartbeats 2000000 in
set_option maxRecDepth 100000 in
theorem made_any (L c : Nat) (ns : List (Bool × List Nat)) (w : World) (hl : ns.length ≤ 1000) (hr : NRd w L ns) :
    Calls Try.prog 64 #[.slice (some ⟨L, 0, none⟩) ns.length c] w fun e w' => ∃ v, e = .returned v ∧ IRow w' w.heap.size v (ns.map nz) ∧ Below w.heap.size w w' := by
  have HR := Lib.hid hr
  clear hr
  obtain ⟨i0, hi, hz0, hz1, hz2⟩ := info_parts Try.infoInt
  go_enter Try.func64, Try.ntmps64
  go_wp2
  go_loopw [3, 8] (MadeRel ns w) (fun _ i _ => ns.length - (intOf i).toNat)
  case atStart => exact ⟨0, rfl, Nat.zero_le _, ⟨[], World.ownsRow_nil _ _ _ _, fun j hj => absurd hj (by simp)⟩, Below.refl _ _⟩
  case round =>
    obtain ⟨j, rfl, hj, hrow, hnx⟩ := hrel
    have HROW := Lib.hid hrow
    have HNX := Lib.hid hnx
    clear hrow hnx
    by_cases hjl : j < ns.length
    · obtain ⟨b, l, ad, c', hns, g1, g2, hrd, hlt, hll⟩ := (HR.out.keep HNX.out).2 j hjl
      have HM := Lib.hid (fun W hW => make_anyO b (.slice ad l.length c') l W hll (hrd.keep (w' := W) hW) hlt)
      have HNS := Lib.hid hns
      clear hrd hlt hns
      go_wp2_with fail
      refine (HM.out _ ((Below.refl _ _).alloc (Nat.le_refl _) _)).mono ?_
      rintro e w2 ⟨v2, rfl, ⟨ad2, n2, c2, rfl, hr2⟩, hfr, hb2⟩
      obtain ⟨xs, hown, hel⟩ := HROW.out
      have HB2 := Lib.hid (((Below.refl wr.heap.size wr).alloc (Nat.le_refl _) (.cells #[.bool b, .slice ad l.length c'] 24)).trans (hb2.mono (by simp)))
      have hown2 := ownsRow_keep hown HB2.out
      have HO2 := Lib.hid hown2
      have HR2 := Lib.hid hr2
      have HFR := Lib.hid hfr
      have HEL := Lib.hid hel
      clear hown hown2 hel hr2 hfr hb2
      go_wp2_with (at_builtin; refine wpList_append_own _ rfl (.tmp 12) (.tmp 18) 81 rfl w.heap.size 28 i0 (.agg #[.bool false, .slice none 0 0]) 2 32 Try.underlying81 hi hz0 hz1 hz2 rfl (by decide) _ _ _ rfl (World.ownsRow.alloc HO2.out _) ⟨w2.heap.size, 0, none⟩ 1 1 [.bool (decide (sg b (vl 4294967296 l) < 0)), .slice ad2 n2 c2] rfl rfl ?c1 ?c5 ?c2 ?c3 ?c4 ?_)
      case c1 =>
        intro q u hu
        match q, hu with
        | 0, hu => simp at hu; subst hu; rw [Addr.add_lit, World.cell?_alloc_at _ _ _ _ rfl]; rfl
        | 1, hu => simp at hu; subst hu; rw [Addr.add_lit, World.cell?_alloc_at _ _ _ _ rfl]; rfl
      case c5 =>
        intro u hu
        simp only [List.mem_cons, List.not_mem_nil, or_false] at hu
        rcases hu with rfl | rfl <;> rfl
      case c2 => simp only [List.length_map, List.length_take]; unfold maxLen; omega
      case c3 => simp only [List.length_map, List.length_take]; omega
      case c4 => have h1 := HNX.out.size; have h2 := HB2.out.size; simp only [World.size_alloc]; omega
      intro v' w1 hown1 hgrow _
      have HO1 := Lib.hid hown1
      have HG := Lib.hid hgrow
      clear hown1 hgrow
      go_wp2
      go_roundw
      case rel =>
        have hal : Below w2.heap.size w2 (w2.alloc (.cells #[.bool (decide (sg b (vl 4294967296 l) < 0)), .slice ad2 n2 c2] 28)) := (Below.refl _ _).alloc (Nat.le_refl _) _
        have hz : IntV w2 (.agg #[.bool (decide (sg b (vl 4294967296 l) < 0)), .slice ad2 n2 c2]) (sg b (vl 4294967296 l)) := ⟨_, _, _, rfl, HR2.out⟩
        refine ⟨j + 1, by go_num, by omega, ?_, ?_⟩
        · have hts : (ns.take (j + 1)).map nz = (ns.take j).map nz ++ [sg b (vl 4294967296 l)] := by
            rw [List.take_add_one, HNS.out, List.map_append]
            rfl
          rw [hts]
          have hlen : ((ns.take j).map nz).length = j := by rw [List.length_map, List.length_take]; omega
          refine IRow.snoc (World.ownsRow.alloc HO2.out _) (fun q hq => ((HEL.out q hq).keep HB2.out).keep hal) (hz.keep hal) (HFR.out.keep hal) ?_ HG.out
          rw [hlen]
          exact HO1.out
        · refine ((HNX.out.trans (HB2.out.mono HNX.out.size)).alloc ?_ _).grown HG.out ?_ ?_
          · have h1 := HNX.out.size; have h2 := HB2.out.size; omega
          · have h1 := HNX.out.size; have h2 := HB2.out.size; simp only [World.size_alloc]; omega
          · intro q hq
            exact (HO2.out.lt q hq).1
      case measure => simp [intOf]; omega
    · obtain rfl : j = ns.length := by omega
      have h := HROW.out
      rw [List.take_length] at h
      have HROW := Lib.hid h
      clear h
      go_wp2
      go_ret
      exact ⟨_, rfl, HROW.out, HNX.out⟩

end Go.Proofs.Ytfieecdedilonaa
