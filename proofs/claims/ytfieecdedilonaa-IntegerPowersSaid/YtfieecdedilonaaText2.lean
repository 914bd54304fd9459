/-  Text.  -/
import Derived.Test.YtfieecdedilonaaText
namespace Go.Proofs.Ytfieecdedilonaa
open Go.RowKit Digs

def lenV : Value → Nat | .slice _ n _ => n | _ => 0

/-- The byte of a digit. -/
def ch (d : Nat) : Nat := if d < 10 then 48 + d else 55 + d

theorem ch_get (d : Nat) (h : d < (ByteArray.mk #[48, 49, 50, 51, 52, 53, 54, 55, 56, 57, 65, 66, 67, 68, 69, 70, 71, 72, 73, 74, 75, 76, 77, 78, 79, 80, 81, 82, 83, 84, 85, 86, 87, 88, 89, 90]).size) : ((ByteArray.mk #[48, 49, 50, 51, 52, 53, 54, 55, 56, 57, 65, 66, 67, 68, 69, 70, 71, 72, 73, 74, 75, 76, 77, 78, 79, 80, 81, 82, 83, 84, 85, 86, 87, 88, 89, 90])[d]'h).toNat = ch d := by
  have key : ∀ d : Fin 36, ((ByteArray.mk #[48, 49, 50, 51, 52, 53, 54, 55, 56, 57, 65, 66, 67, 68, 69, 70, 71, 72, 73, 74, 75, 76, 77, 78, 79, 80, 81, 82, 83, 84, 85, 86, 87, 88, 89, 90])[d.val]'(d.isLt)).toNat = ch d.val := by decide
  exact key ⟨d, h⟩

theorem Ob.snoc_ch {w : World} {base : Nat} {v : Value} {t : List Nat} {d : Nat} (h : w.ownsRow base 5 1 v (t.length + 1) (bw (t.map ch) ++ bw [ch d])) : Ob w base v ((t ++ [d]).map ch) := by
  unfold Ob
  rw [List.map_append, bw_append, List.length_append, List.length_map]
  exact h

theorem own_ne {w : World} {b1 e1 s1 n1 b2 e2 s2 n2 : Nat} {v1 v2 : Value} {xs1 xs2 : List Value} (h1 : w.ownsRow b1 e1 s1 v1 n1 xs1) (h2 : w.ownsRow b2 e2 s2 v2 n2 xs2) (he : e1 ≠ e2) : v1.ownBlock = none ∨ v1.ownBlock ≠ v2.ownBlock := by
  rcases h1.2 with ⟨rfl, _⟩ | ⟨g, cap, cur, rfl, _, hg, _⟩
  · exact .inl rfl
  · right
    rcases h2.2 with ⟨rfl, _⟩ | ⟨g', cap', cur', rfl, _, hg', _⟩
    · simp [Value.ownBlock]
    · intro h
      simp only [Value.ownBlock, Option.some.injEq] at h
      subst h
      rw [hg] at hg'
      simp only [Option.some.injEq, Obj.cells.injEq] at hg'
      exact he hg'.2.1
theorem ownsRow_zero {w : World} {b e s n : Nat} {v : Value} {xs : List Value} (h : w.ownsRow b e s v n xs) : w.ownsRow 0 e s v n xs := by
  refine ⟨h.1, ?_⟩
  rcases h.2 with h1 | ⟨g, cap, cur, h1, _, h2⟩
  · exact .inl h1
  · exact .inr ⟨g, cap, cur, h1, Nat.zero_le _, h2⟩
theorem Ob.lenV {w : World} {b : Nat} {v : Value} {l : List Nat} (h : Ob w b v l) : lenV v = l.length := by
  rcases h.2 with ⟨rfl, h0⟩ | ⟨g, cap, cur, rfl, _⟩
  · exact h0.symm
  · rfl

theorem ch_zero (d : Nat) (h : d < 36) : ch d = 48 ↔ d = 0 := by unfold ch; split <;> omega
theorem ch_lt (d : Nat) (h : d < 36) : ch d < 256 := by unfold ch; split <;> omega
theorem Ob.row {w : World} {base : Nat} {v : Value} {l : List Nat} (h : Ob w base v l) (h0 : l ≠ []) : ∃ g cap, v = .slice (some ⟨g, 0, none⟩) l.length cap ∧ base ≤ g ∧ l.length ≤ cap ∧ cap ≤ maxLen := by
  rcases h.2 with ⟨_, hn⟩ | ⟨g, cap, cur, rfl, hb, _, hc, hm, _⟩
  · exact absurd (List.eq_nil_of_length_eq_zero hn) h0
  · exact ⟨g, cap, rfl, hb, hc, hm⟩

/-- Bytes as a string. -/
def bstr (p : List Nat) : ByteArray := ⟨(p.map UInt8.ofNat).toArray⟩
theorem fold_push (p : List Nat) (b : ByteArray) : (p.map fun n : Nat => (n : Int)).foldl (fun r n => r.push (UInt8.ofNat n.toNat)) b = ⟨b.data ++ (p.map UInt8.ofNat).toArray⟩ := by
  induction p generalizing b with
  | nil => simp
  | cons x xs ih =>
    rw [List.map_cons, List.foldl_cons, ih]
    apply ByteArray.ext
    apply Array.ext'
    simp [ByteArray.push]

theorem conv_rb {w : World} {base g n cap : Nat} {p : List Nat} (h : RbC w base g n cap p) : (convert 129 9 (.slice (some ⟨g, 0, none⟩) n cap)).run Try.prog w = .ok (.string (bstr p)) w := by
  rw [run_convert_bytes_string w 129 9 5 _ n cap Try.underlying129 Try.underlying5 Try.underlying9]
  have h1 := run_loadCells_list (P := Try.prog) (w := w) ⟨g, 0, none⟩ ((p.map fun n : Nat => (n : Int)).map (Value.int .u8)) (by
    intro j v hv
    rw [Addr.add_lit, Nat.zero_add]
    by_cases hj : j < n
    · rw [h.cell j hj]
      rw [List.map_map, List.getElem?_map, List.getElem?_eq_getElem (by rw [h.1]; exact hj)] at hv
      rw [List.getElem?_eq_getElem (by rw [h.1]; exact hj)]
      simpa using hv
    · rw [List.getElem?_eq_none (by simp; rw [h.1]; omega)] at hv
      cases hv)
  rw [List.length_map, List.length_map, h.1] at h1
  rw [run_bytesToString w ⟨g, 0, none⟩ n cap _ h1, fold_push]
  congr 2
  apply ByteArray.ext
  simp [bstr]

/-- The bytes of a number's text. -/
def textB (neg : Bool) (r N : Nat) : List Nat := (if neg then [45] else []) ++ ((digs r N).map ch).reverse
def TextPost (w : World) (s : List Nat) (e : Ending) (w' : World) : Prop := e = .returned (.tuple #[.string (bstr s), .int .i64 0]) ∧ Below w.heap.size w w'

def TextRel (N L r : Nat) (X : World) (tv lv : Value) (wr : World) : Prop :=
  ∃ (m : Nat) (t : List Nat), Rd .u32 wr lv (digs 4294967296 m) ∧ Ob wr X.heap.size tv (t.map ch) ∧ (∀ x ∈ t, x < r) ∧ vl r t + r ^ t.length * m = N ∧ t.length ≤ 32 * L + 32 ∧ (digs 4294967296 m).length ≤ L ∧ Below X.heap.size X wr
def TextIn (N r c m t0 : Nat) (vq : Value) (X : World) (tv pv i : Value) (wr : World) : Prop :=
  ∃ (k p : Nat) (t : List Nat), i = .int .i64 k ∧ pv = .int .u32 p ∧ k ≤ c ∧ p < r ^ (c - k) ∧ Ob wr X.heap.size tv (t.map ch) ∧ (∀ x ∈ t, x < r) ∧ t.length = t0 + k ∧ vl r t + r ^ t.length * (p + r ^ (c - k) * m) = N ∧ Below X.heap.size X wr ∧ Ow wr 0 vq (digs 4294967296 m)

set_option maxHeartbeats 4000000 in
set_option maxRecDepth 100000 in
theorem text_core (neg : Bool) (ad : Option Addr) (nx cx : Nat) (r N L : Nat) (z : Int) (hz : z.natAbs = N) (hz0 : N ≠ 0) (w : World) (h2 : 2 ≤ r) (h36 : r ≤ 36) (hL : (digs 4294967296 N).length ≤ L) (hLb : L ≤ 1000000)
    (hv : IntV w (.agg #[.bool neg, .slice ad nx cx]) z) :
    Calls Try.prog 60 #[.agg #[.bool neg, .slice ad nx cx], .int .i64 r] w (TextPost w (textB neg r N)) := by
  have hlz : len z ≤ 1000000 := by unfold len; rw [hz]; omega
  have HSG := fun W hw => Lib.hid (sign_any z _ W hlz (hv.keep (w' := W) hw))
  have HSG := Lib.hid HSG
  have hsg : (sgnZ z == 0) = false := by unfold sgnZ; split <;> (try split) <;> first | rfl | (exfalso; omega)
  have hr0 : Rd .u32 w (.slice ad nx cx) (digs 4294967296 N) := by
    obtain ⟨_, _, _, he, h⟩ := hv
    cases he
    rw [← hz]; exact h
  have HR0 := Lib.hid hr0
  have HZ := Lib.hid hz
  have HL := Lib.hid hL
  clear hlz hv hz hr0 hL
  generalize hsv : sgnZ z = sz at *
  clear hsv
  obtain ⟨i0, hi, hz0', hz1, hz2⟩ := info_parts Try.infoU8
  go_enter Try.func60, Try.ntmps60
  go_wp2_with fail
  refine (HSG.out _ ((Below.refl _ _).alloc (Nat.le_refl _) _)).out.mono ?_
  rintro e w0 ⟨rfl, hb0⟩
  obtain ⟨cA0, cB0⟩ := box1 hb0
  have HB0 := Lib.hid hb0
  clear hb0
  go_wp2_with fail
  refine (group_any r _ h2 h36).mono ?_
  rintro e w' ⟨c, P, rfl, hP, hPb, hc1, hc32, rfl⟩
  have HP := Lib.hid hP
  clear hP
  go_wp2
  go_loopw [8, 9] (TextRel N L r (w.alloc (.cells #[.bool neg, .slice ad nx cx] 28))) (fun tv _ _ => 32 * L + 64 - lenV tv)
  case atStart => exact ⟨N, [], HR0.out.keep (((Below.refl _ _).alloc (Nat.le_refl _) _).trans (HB0.out.mono (by simp))), World.ownsRow_nil _ _ _ _, by simp, by simp [vl], by simp, HL.out, HB0.out⟩
  case round =>
    obtain ⟨m, t, hlv, htv, htr, hvl, htl, hml, hnx⟩ := hrel
    have HLV := Lib.hid hlv
    have HTV := Lib.hid htv
    have HTR := Lib.hid htr
    have HVL := Lib.hid hvl
    have HTL := Lib.hid htl
    have HNX := Lib.hid hnx
    clear hlv htv htr hvl htl hnx
    obtain ⟨adl, cl, hvs⟩ := HLV.out.shape'
    by_cases hm0 : 0 < (digs 4294967296 m).length
    · have HD := Lib.hid (divSmall_any m P _ wr (by omega) HLV.out (by rw [HP.out]; exact Nat.pow_pos (by omega)) hPb)
      have hPp := HP.out
      rw [hvs] at HD ⊢
      generalize hdl : (digs 4294967296 m).length = dl at *
      have HDL := Lib.hid hdl
      clear hdl hPp
      go_wp2_with fail
      refine HD.out.mono ?_
      rintro e w1 ⟨vq, rfl, hq, hb1⟩
      have HQ := Lib.hid hq
      have HB1 := Lib.hid hb1
      clear hq hb1
      have hPpos : 1 ≤ P := by rw [HP.out]; exact Nat.pow_pos (by omega)
      have htlen : t.length < 32 * L := by
        have h5 := HVL.out
        have h6 : m ≠ 0 := by
          rintro rfl
          have := HDL.out
          rw [digs_zero] at this
          simp at this; omega
        have h7 : r ^ t.length * 1 ≤ r ^ t.length * m := Nat.mul_le_mul_left _ (by omega)
        have h8 : 2 ^ t.length ≤ r ^ t.length := Nat.pow_le_pow_left h2 _
        have h9 := digs_lt_pow (b := 4294967296) (by decide) N
        have h10 : (4294967296 : Nat) ^ (digs 4294967296 N).length ≤ 4294967296 ^ L := Nat.pow_le_pow_right (by decide) HL.out
        have h11 : (4294967296 : Nat) ^ L = 2 ^ (32 * L) := by rw [Nat.pow_mul]
        have h12 : 2 ^ t.length < 2 ^ (32 * L) := by omega
        exact (Nat.pow_lt_pow_iff_right (by decide)).1 h12
      go_wp2
      go_loopw [8, 10, 37] (TextIn N r c (m / P) t.length vq (w.alloc (.cells #[.bool neg, .slice ad nx cx] 28))) (fun _ _ i _ => c - (intOf i).toNat)
      case atStart =>
        have hmod : m % P < r ^ (c - 0) := by rw [Nat.sub_zero, ← HP.out]; exact Nat.mod_lt _ hPpos
        refine ⟨0, m % P, t, rfl, by rw [Int.natCast_emod], Nat.zero_le _, hmod, HTV.out.keep HB1.out, HTR.out, rfl, ?_, HNX.out.trans (HB1.out.mono HNX.out.size), ownsRow_zero HQ.out⟩
        rw [Nat.sub_zero, ← HP.out, Nat.mod_add_div]
        exact HVL.out
      case round =>
        obtain ⟨k, p, t1, rfl, rfl, hk, hp, htv1, htr1, htl1, hvl1, hnx1, hoq1⟩ := hrel
        have HOQ1 := Lib.hid hoq1
        have HTV1 := Lib.hid htv1
        have HTR1 := Lib.hid htr1
        have HTL1 := Lib.hid htl1
        have HVL1 := Lib.hid hvl1
        have HNX1 := Lib.hid hnx1
        have HPP := Lib.hid hp
        have hp32 : p < 4294967296 := Nat.lt_of_lt_of_le hp (Nat.le_trans (Nat.pow_le_pow_right (by omega) (Nat.sub_le c k)) (by rw [← HP.out]; omega))
        clear htv1 htr1 htl1 hvl1 hnx1 hp hoq1
        by_cases hkc : k < c
        · have hpr : p % r < r := Nat.mod_lt _ (by omega)
          have hpi0 : (0 : Int) ≤ (p : Int) % (r : Int) := Int.emod_nonneg _ (by omega)
          have hpi1 : (p : Int) % (r : Int) < 36 := by rw [← Int.natCast_emod]; omega
          go_wp2_with (at_builtin; refine wpList_append_own _ rfl (.tmp 39) (.tmp 45) 129 rfl (w.heap.size + 1) 5 i0 (.int .u8 0) 1 1 Try.underlying129 hi hz0' hz1 hz2 rfl (by decide) _ _ _ rfl (World.ownsRow.alloc (by have h := HTV1.out; unfold Ob at h; rw [World.size_alloc, List.length_map] at h; exact h) _) ⟨wr.heap.size, 0, none⟩ 1 1 (bw [ch (p % r)]) rfl rfl ?c1 (bw_oneCell _) ?c2 ?c3 ?c4 ?_)
          case c1 => exact new_byte _ _ _ _ (by rw [ch_get])
          case c2 => have := HTL1.out; unfold maxLen; omega
          case c3 => have := HTL1.out; omega
          case c4 => have := HNX1.out.size; simp at this ⊢; omega
          intro v' w2 hown1 hgrow _
          have HO1 := Lib.hid hown1
          have HG := Lib.hid hgrow
          clear hown1 hgrow
          go_wp2
          go_roundw
          case rel =>
            have hpow : r ^ (c - k) = r ^ (c - (k + 1)) * r := by rw [← Nat.pow_succ]; congr 1; omega
            refine ⟨k + 1, p / r, t1 ++ [p % r], by go_num, (by refine congrArg (Value.int .u32) ?_; have hq : p / r < 4294967296 := Nat.lt_of_le_of_lt (Nat.div_le_self _ _) hp32; have e1 : (p : Int) / (r : Int) = ((p / r : Nat) : Int) := (Int.natCast_ediv p r).symm; rw [e1]; generalize p / r = q at hq ⊢; omega), by omega, ?_, Ob.snoc_ch (by rw [World.size_alloc]; exact HO1.out), all_snoc HTR1.out hpr, by rw [List.length_append, HTL1.out]; rfl, ?_, ?_, ?_⟩
            · rw [Nat.div_lt_iff_lt_mul (by omega), ← hpow]; exact HPP.out
            · rw [vl_snoc, List.length_append, List.length_singleton, Nat.pow_succ, ← HVL1.out]
              have h20 := split_mod (r ^ t1.length) r p
              have h21 : r ^ t1.length * r * (r ^ (c - (k + 1)) * (m / P)) = r ^ t1.length * (r ^ (c - k) * (m / P)) := by
                rw [hpow]; simp only [Nat.mul_assoc, Nat.mul_comm, Nat.mul_left_comm]
              rw [Nat.mul_add, Nat.mul_add, h21]
              omega
            · exact (HNX1.out.alloc HNX1.out.size _).grown HG.out (by have := HNX1.out.size; simp at this ⊢; omega) (fun q hq => (HTV1.out.lt q hq).1)
            · have h30 := World.ownsRow.alloc HOQ1.out (.cells #[.int .u8 ((ch (p % r) : Nat) : Int)] 5)
              clear h30
              exact World.ownsRow.kept (World.ownsRow.alloc HOQ1.out _) HG.out (own_ne HOQ1.out HTV1.out (by decide))
          case measure => simp [intOf]; omega
        · obtain rfl : k = c := by omega
          have hp0 : p = 0 := by
            have := HPP.out
            rw [Nat.sub_self, Nat.pow_zero] at this
            omega
          have HP0 := Lib.hid hp0
          clear hp0
          go_wp2
          go_roundw
          case rel =>
            refine ⟨m / P, t1, ?_, HTV1.out, HTR1.out, ?_, by rw [HTL1.out]; omega, ?_, HNX1.out⟩
            · exact Ow.rd HOQ1.out
            · have := HVL1.out
              rw [HP0.out, Nat.sub_self, Nat.pow_zero, Nat.one_mul, Nat.zero_add] at this
              exact this
            · exact Nat.le_trans (digs_length_mono (by decide) (Nat.div_le_self _ _)) (by have := HDL.out; omega)
          case measure =>
            rw [HTV1.out.lenV, HTV.out.lenV, List.length_map, List.length_map, HTL1.out]
            omega
    · have hm00 : m = 0 := (digs_length_zero (b := 4294967296) (by decide) m).1 (by omega)
      have hvn : vl r t = N := by
        have := HVL.out
        rw [hm00, Nat.mul_zero, Nat.add_zero] at this
        exact this
      have HVN := Lib.hid hvn
      rw [hvs]
      obtain ⟨cA, cB⟩ := box1 HNX.out
      have hl0 : (digs 4294967296 m).length = 0 := by omega
      rw [hl0]
      clear hm00 hvn hl0 hm0 hvs
      go_wp2
      have ht0 : t ≠ [] := by
        rintro rfl
        exact hz0 HVN.out.symm
      obtain ⟨g, cap, hgv, hbg, hgc, hcm⟩ := HTV.out.row (by simpa using ht0)
      have htv := HTV.out
      rw [hgv] at htv ⊢
      rw [List.length_map] at hgc htv ⊢
      have hrow := RbC.of htv (by simp)
      have HROW := Lib.hid hrow
      have HTO := Lib.hid htv
      unfold maxLen at hcm
      clear hgv htv hrow
      go_loop [8] (fun v => ∃ j : Nat, v = .slice (some ⟨g, 0, none⟩) j cap ∧ 1 ≤ j ∧ j ≤ t.length ∧ ∀ i, j ≤ i → t[i]?.getD 0 = 0) (fun v => lenV v)
      case atStart => exact ⟨t.length, rfl, by have h40 := List.length_pos_iff.2 ht0; omega, Nat.le_refl _, fun i h41 => by rw [List.getElem?_eq_none (by omega)]; rfl⟩
      case round =>
        obtain ⟨j, rfl, hj1, hjl, hjz⟩ := hrel
        have HJZ := Lib.hid hjz
        clear hjz
        obtain ⟨k, rfl⟩ : ∃ k, j = k + 1 := ⟨j - 1, by omega⟩
        have gx := HROW.out.cell k (by omega)
        have hkt : k < t.length := by omega
        have hmap : (t.map ch)[k]?.getD 0 = ch (t[k]?.getD 0) := by rw [List.getElem?_map, List.getElem?_eq_getElem hkt]; rfl
        have hxr : t[k]?.getD 0 < r := by rw [List.getElem?_eq_getElem hkt]; exact HTR.out _ (List.getElem_mem hkt)
        rw [hmap] at gx
        obtain ⟨x, hx⟩ : ∃ x, x = t[k]?.getD 0 := ⟨_, rfl⟩
        rw [← hx] at gx hxr
        have HX := Lib.hid hx
        have hcx := ch_zero x (by omega)
        by_cases hx0 : x = 0
        · have hc48 : ch x = 48 := hcx.2 hx0
          rw [hc48] at gx
          have hk0 : 0 < k := by
            rcases Nat.eq_zero_or_pos k with rfl | h50
            · exfalso
              apply hz0
              rw [← HVN.out]
              apply vl_zeros
              intro y hy
              obtain ⟨i, hii, rfl⟩ := List.getElem_of_mem hy
              rcases Nat.eq_zero_or_pos i with rfl | h51
              · rw [List.getElem?_eq_getElem hkt] at hx
                simp only [Option.getD_some] at hx
                rw [← hx]; exact hx0
              · have := HJZ.out i (by omega)
                rw [List.getElem?_eq_getElem hii] at this
                exact this
            · exact h50
          have HX0 := Lib.hid hx0
          clear hx hmap hcx hx0 hc48
          go_wp2
          go_round
          case rel =>
            refine ⟨k, rfl, hk0, by omega, fun i h60 => ?_⟩
            by_cases h61 : i = k
            · rw [h61, ← HX.out, HX0.out]
            · exact HJZ.out i (by omega)
          case measure => show k < k + 1; omega
        · have hc48 : ((ch x : Nat) : Int) ≠ 48 := by intro h; exact hx0 (hcx.1 (by omega))
          have hcb : (((ch x : Nat) : Int) == 48) = false := by rw [beq_eq_false_iff_ne]; exact hc48
          have htk : t.take (k + 1) = digs r N := by
            rw [← HVN.out]
            refine digs_trim h2 t (k + 1) HTR.out (by omega) HJZ.out (.inr ?_)
            rw [Nat.add_sub_cancel, ← hx]; exact hx0
          have HTK := Lib.hid htk
          clear hx hmap hcx hx0 hc48 htk
          cases neg
          · have hpre := Ob.headN (n := k + 1) (d := (digs r N).map ch) (by rw [List.length_map]; exact HTO.out) (by rw [List.length_map]; omega) (by rw [← List.map_take, HTK.out])
            have hdl : (digs r N).length = k + 1 := by rw [← HTK.out, List.length_take]; omega
            have HREV := Lib.hid (reverse_any (w.heap.size + 1) g (k + 1) cap _ wr (by have := HTL.out; omega) (RbC.of (by rw [World.size_alloc] at hpre; exact hpre) (by rw [List.length_map, hdl])) (by rw [World.size_alloc] at hbg; exact hbg))
            clear hpre hdl
            go_wp2_with fail
            refine HREV.out.mono ?_
            rintro e w2 ⟨rfl, hrb, hb2, hon2⟩
            have hcv := conv_rb hrb
            have HB2 := Lib.hid hb2
            clear hrb hb2 hon2
            go_wp2
            go_ret2
            exact ⟨rfl, ((Below.refl _ _).alloc (Nat.le_refl _) _).trans ((HNX.out.mono (by simp)).trans (HB2.out.mono (Nat.le_succ _)))⟩
          · have hpre := Ob.headN (n := k + 1) (d := (digs r N).map ch) (by rw [List.length_map]; exact HTO.out) (by rw [List.length_map]; omega) (by rw [← List.map_take, HTK.out])
            have hdl : (digs r N).length = k + 1 := by rw [← HTK.out, List.length_take]; omega
            rw [World.size_alloc] at hpre hbg
            have HPRE := Lib.hid hpre
            have HDL := Lib.hid hdl
            clear hpre hdl
            go_wp2_with (at_builtin; refine wpList_append_own _ rfl (.tmp 66) (.tmp 67) 129 rfl (w.heap.size + 1) 5 i0 (.int .u8 0) 1 1 Try.underlying129 hi hz0' hz1 hz2 rfl (by decide) _ (k + 1) _ rfl (World.ownsRow.alloc (by have h := HPRE.out; unfold Ob at h; rw [List.length_map, HDL.out] at h; exact h) _) ⟨wr.heap.size, 0, none⟩ 1 1 (bw [45]) rfl rfl ?d1 (bw_oneCell _) ?d2 ?d3 ?d4 ?_)
            case d1 => exact fun _ _ h => h
            case d2 => have := HTL.out; unfold maxLen; omega
            case d3 => have := HTL.out; omega
            case d4 => have := HNX.out.size; simp at this ⊢; omega
            intro v' w1 hown1 hgrow _
            have hob : Ob w1 (w.heap.size + 1) v' ((digs r N).map ch ++ [45]) := by
              unfold Ob
              rw [bw_append, List.length_append, List.length_map, HDL.out]
              exact hown1
            have hbw := (HNX.out.alloc HNX.out.size _).grown hgrow (by have := HNX.out.size; simp at this ⊢; omega) (fun q hq => by have := (HPRE.out.lt q hq).1; simpa using this)
            obtain ⟨g', cap', hgv', hbg', hgc', hcm'⟩ := hob.row (by simp)
            rw [hgv'] at hob ⊢
            have hln : ((digs r N).map ch ++ [45]).length = k + 2 := by rw [List.length_append, List.length_map, HDL.out]; rfl
            rw [hln] at hob ⊢
            have HREV := Lib.hid (reverse_any (w.heap.size + 1) g' (k + 2) cap' _ w1 (by have := HTL.out; omega) (RbC.of hob hln) hbg')
            have HBW := Lib.hid hbw
            have c2 := (box1 hbw).1
            clear hown1 hgrow hob hbw hgv' hln
            go_wp2_with fail
            refine HREV.out.mono ?_
            rintro e w2 ⟨rfl, hrb, hb2, hon2⟩
            rw [List.reverse_append] at hrb
            have hcv := conv_rb hrb
            have HB2 := Lib.hid hb2
            clear hrb hb2 hon2
            go_wp2
            go_ret2
            exact ⟨rfl, ((Below.refl _ _).alloc (Nat.le_refl _) _).trans ((HBW.out.mono (by simp)).trans (HB2.out.mono (Nat.le_succ _)))⟩

end Go.Proofs.Ytfieecdedilonaa
