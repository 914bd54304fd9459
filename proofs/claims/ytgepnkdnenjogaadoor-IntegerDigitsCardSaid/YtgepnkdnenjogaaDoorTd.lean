/-  A number's text read again: no run of the model.  -/
import Derived.Test.YtgepnkdnenjogaaDoorTx
import Derived.Lib.Case
import Derived.Lib.Repeat
import Derived.Lib.Strings
namespace Go.Proofs.YtgepnkdnenjogaaDoor
section
open Digs

/-- The digits of a number in a radix, '0' for none. -/
def dt (r N : Nat) : List Nat := if N = 0 then [48] else ((digs r N).map ch).reverse
/-- A number's text: a minus and the digits. -/
def tx (r : Nat) (z : Int) : List Nat := if z < 0 then 45 :: dt r z.natAbs else dt r z.natAbs
def isd (c : Nat) : Prop := 48 ≤ c ∧ c ≤ 57 ∨ 65 ≤ c ∧ c ≤ 90
def low (c : Nat) : Nat := if 65 ≤ c ∧ c ≤ 90 then c + 32 else c

theorem ch_isd {d : Nat} (h : d < 36) : isd (ch d) ∧ dg (ch d) = d := by
  unfold isd ch
  by_cases h10 : d < 10
  · rw [if_pos h10]
    exact ⟨.inl ⟨by omega, by omega⟩, by rw [dg_num (by omega) (by omega)]; omega⟩
  · rw [if_neg h10]
    exact ⟨.inr ⟨by omega, by omega⟩, by rw [dg_up (by omega) (by omega)]; omega⟩
theorem low_dg {c : Nat} (h : isd c) : dg (low c) = dg c := by
  unfold low
  rcases h with h | h
  · rw [if_neg (by omega)]
  · rw [if_pos h, dg_up h.1 h.2, dg_low (by omega) (by omega)]; omega
theorem low_ne {c : Nat} (h : isd c) : low c < 128 ∧ low c ≠ 43 ∧ low c ≠ 45 := by
  unfold low
  rcases h with h | h
  · rw [if_neg (by omega)]; omega
  · rw [if_pos h]; omega
theorem dt_all {r N : Nat} (h2 : 2 ≤ r) (h36 : r ≤ 36) : ∀ c ∈ dt r N, isd c ∧ dg c < r := by
  intro c hc
  unfold dt at hc
  by_cases h0 : N = 0
  · rw [if_pos h0] at hc
    obtain rfl : c = 48 := by simpa using hc
    exact ⟨.inl ⟨by omega, by omega⟩, by rw [dg_num (by omega) (by omega)]; omega⟩
  · rw [if_neg h0] at hc
    obtain ⟨d, hd, rfl⟩ := List.mem_map.1 (List.mem_reverse.1 hc)
    have := digs_lt h2 N d hd
    have h := ch_isd (d := d) (by omega)
    exact ⟨h.1, by rw [h.2]; exact this⟩
theorem dt_ne (r N : Nat) (h2 : 2 ≤ r) : dt r N ≠ [] := by
  unfold dt
  by_cases h0 : N = 0
  · rw [if_pos h0]; simp
  · rw [if_neg h0, digs_pos h2 h0]; simp
theorem pv_map (r : Nat) (l : List Nat) : pv r l = (l.map dg).foldl (fun v c => v * r + c) 0 := by
  unfold pv
  rw [List.foldl_map]
theorem pv_low (r : Nat) (l : List Nat) (h : ∀ c ∈ l, isd c) : pv r (l.map low) = pv r l := by
  rw [pv_map, pv_map, List.map_map]
  congr 1
  exact List.map_congr_left fun c hc => low_dg (h c hc)
theorem pv_rev (r : Nat) (l : List Nat) (h : ∀ d ∈ l, d < 36) : pv r (l.map ch).reverse = vl r l := by
  induction l with
  | nil => rfl
  | cons d l ih =>
    rw [List.map_cons, List.reverse_cons, pv_snoc, ih (fun x hx => h x (List.mem_cons_of_mem _ hx)), (ch_isd (h d (List.mem_cons_self ..))).2]
    show _ = d + r * vl r l
    rw [Nat.mul_comm, Nat.add_comm]
theorem pv_dt {r : Nat} (N : Nat) (h2 : 2 ≤ r) (h36 : r ≤ 36) : pv r (dt r N) = N := by
  unfold dt
  by_cases h0 : N = 0
  · rw [if_pos h0, h0]
    show 0 * r + dg 48 = 0
    rw [dg_num (by omega) (by omega)]
    omega
  · rw [if_neg h0, pv_rev r _ (fun d hd => by have := digs_lt h2 N d hd; omega), vl_digs h2]
theorem pv_zeros (r n : Nat) (l : List Nat) : pv r (List.replicate n 48 ++ l) = pv r l := by
  have h : pv r (List.replicate n 48) = 0 := by
    induction n with
    | zero => rfl
    | succ n ih => rw [List.replicate_succ', pv_snoc, ih]; rw [dg_num (by omega) (by omega)]; omega
  rw [pv_append, h]; omega
theorem dt_head {r N : Nat} (h2 : 2 ≤ r) : dt r N = [48] ∨ (dt r N).head? ≠ some 48 := by
  by_cases h0 : N = 0
  · left; unfold dt; rw [if_pos h0]
  · right
    unfold dt
    rw [if_neg h0, List.head?_reverse, List.getLast?_map]
    obtain ⟨x, hx, hx0⟩ := digs_getLast h2 N h0
    rw [hx]
    have hl := digs_lt h2 N x (List.mem_of_getLast? hx)
    intro h
    have h' : ch x = 48 := by simpa using h
    unfold ch at h'
    split at h' <;> omega
theorem dt_len {r N : Nat} (h2 : 2 ≤ r) (h : N < 4294967296 ^ 8) : (dt r N).length ≤ 256 := by
  unfold dt
  split
  · simp
  · rw [List.length_reverse, List.length_map]
    refine digs_length_le h2 N 256 (Nat.lt_of_lt_of_le h ?_)
    rw [show (4294967296 : Nat) ^ 8 = 2 ^ 256 from by decide +kernel]
    exact Nat.pow_le_pow_left h2 256
theorem txt_tx {r : Nat} (z : Int) (h2 : 2 ≤ r) (h36 : r ≤ 36) : txt r z = (tx r z, 0) := by
  unfold txt tx dt
  rw [if_neg (by omega)]
  by_cases hz : z = 0
  · rw [if_pos hz, hz]; rfl
  · rw [if_neg hz, if_neg (by omega : ¬ z.natAbs = 0)]
    unfold textB
    rw [Int.toNat_natCast]
    by_cases h : z < 0
    · rw [if_pos h, decide_eq_true h]; rfl
    · rw [if_neg h, decide_eq_false h]; rfl
theorem tx_len {r : Nat} {z : Int} (h2 : 2 ≤ r) (h : Bd 8 z) : (tx r z).length ≤ 257 := by
  have := dt_len h2 h
  unfold tx
  split
  · rw [List.length_cons]; omega
  · omega
theorem isd_lt {c : Nat} (h : isd c) : c < 128 ∧ c ≠ 43 ∧ c ≠ 45 := by rcases h with h | h <;> omega
theorem tx_lt {r : Nat} {z : Int} (h2 : 2 ≤ r) (h36 : r ≤ 36) : ∀ c ∈ tx r z, c < 256 := by
  intro c hc
  unfold tx at hc
  split at hc
  · rcases List.mem_cons.1 hc with rfl | h
    · omega
    · have := isd_lt (dt_all h2 h36 c h).1; omega
  · have := isd_lt (dt_all h2 h36 c hc).1; omega
theorem sgn_abs (z : Int) : sg (decide (z < 0)) z.natAbs = z := by
  unfold sg
  by_cases h : z < 0
  · rw [decide_eq_true h]; simp; omega
  · rw [decide_eq_false h]; simp; omega
theorem prs_signed {r : Nat} (b : Bool) (l : List Nat) (N : Nat) (h2 : 2 ≤ r) (h36 : r ≤ 36) (hl : l ≠ []) (ha : ∀ c ∈ l, dg c < r) (hv : pv r l = N) : prs r ((if b then 45 else 43) :: l) = (sg b N, 0) := by
  have hb : bare ((if b then 45 else 43) :: l) = l := by unfold bare; cases b <;> simp
  have hg : ngS ((if b then 45 else 43) :: l) = b := by unfold ngS; cases b <;> simp
  rw [prs_ok h2 h36 (by rw [hb]; exact hl) (by rw [hb]; exact ha), hb, hg, hv]
theorem prs_tx {r : Nat} (z : Int) (h2 : 2 ≤ r) (h36 : r ≤ 36) : prs r (tx r z) = (z, 0) := by
  have ha : ∀ c ∈ dt r z.natAbs, dg c < r := fun c hc => (dt_all h2 h36 c hc).2
  unfold tx
  by_cases h : z < 0
  · rw [if_pos h]
    have := prs_signed true _ _ h2 h36 (dt_ne r z.natAbs h2) ha (pv_dt z.natAbs h2 h36)
    rw [← decide_eq_true h, sgn_abs] at this
    rw [decide_eq_true h] at this
    exact this
  · rw [if_neg h]
    obtain ⟨c, l, hl⟩ : ∃ c l, dt r z.natAbs = c :: l := by
      cases hd : dt r z.natAbs with
      | nil => exact absurd hd (dt_ne r _ h2)
      | cons c l => exact ⟨c, l, rfl⟩
    have hc := isd_lt (dt_all h2 h36 c (by rw [hl]; exact List.mem_cons_self ..)).1
    have hb : bare (dt r z.natAbs) = dt r z.natAbs := by unfold bare; rw [hl, if_neg (by simp; omega)]
    have hg : ngS (dt r z.natAbs) = false := by unfold ngS; rw [hl]; simp; omega
    rw [prs_ok h2 h36 (by rw [hb]; exact dt_ne r _ h2) (by rw [hb]; exact ha), hb, hg, pv_dt _ h2 h36]
    have := sgn_abs z
    rw [decide_eq_false h] at this
    rw [this]
/-- The other writing: a sign, zeros, small letters. -/
def ty (r : Nat) (z : Int) (n : Nat) : List Nat := (if decide (z < 0) then 45 else 43) :: (List.replicate n 48 ++ (dt r z.natAbs).map low)
theorem prs_ty {r : Nat} (z : Int) (n : Nat) (h2 : 2 ≤ r) (h36 : r ≤ 36) : prs r (ty r z n) = (z, 0) := by
  unfold ty
  rw [prs_signed (decide (z < 0)) _ z.natAbs h2 h36 (by simp [dt_ne r z.natAbs h2]) ?_ (by rw [pv_zeros, pv_low r _ (fun c hc => (dt_all h2 h36 c hc).1), pv_dt _ h2 h36]), sgn_abs]
  intro c hc
  rcases List.mem_append.1 hc with h | h
  · obtain rfl := List.eq_of_mem_replicate h
    rw [dg_num (by omega) (by omega)]; omega
  · obtain ⟨d, hd, rfl⟩ := List.mem_map.1 h
    have := dt_all h2 h36 d hd
    rw [low_dg this.1]; exact this.2
theorem ty_len {r n : Nat} {z : Int} (h2 : 2 ≤ r) (h : Bd 8 z) (hn : n ≤ 20) : (ty r z n).length ≤ 300 := by
  have := dt_len h2 h
  unfold ty
  rw [List.length_cons, List.length_append, List.length_replicate, List.length_map]
  omega
theorem ty_lt {r n : Nat} {z : Int} (h2 : 2 ≤ r) (h36 : r ≤ 36) : ∀ c ∈ ty r z n, c < 256 := by
  intro c hc
  unfold ty at hc
  rcases List.mem_cons.1 hc with rfl | hc
  · split <;> omega
  rcases List.mem_append.1 hc with h | h
  · obtain rfl := List.eq_of_mem_replicate h; omega
  · obtain ⟨d, hd, rfl⟩ := List.mem_map.1 h
    have := low_ne (dt_all h2 h36 d hd).1; omega

/-! The strings. -/
theorem bstr_list (l : List Nat) : (bstr l).data.toList = l.map UInt8.ofNat := by simp [bstr]
theorem bstr_app (a b : List Nat) : bstr a ++ bstr b = bstr (a ++ b) := by
  apply ByteArray.ext
  rw [ByteArray.data_append]
  simp [bstr]
theorem trim_tx {r : Nat} (z : Int) (h2 : 2 ≤ r) (h36 : r ≤ 36) : (⟨(Lib.trimPrefix (bstr (tx r z)).data.toList (⟨#[45]⟩ : ByteArray).data.toList).toArray⟩ : ByteArray) = bstr (dt r z.natAbs) ∧ Lib.hasPrefix (bstr (tx r z)).data.toList (⟨#[45]⟩ : ByteArray).data.toList = decide (z < 0) := by
  rw [bstr_list]
  unfold tx
  by_cases h : z < 0
  · rw [if_pos h, decide_eq_true h]
    unfold Lib.trimPrefix Lib.hasPrefix
    simp [bstr]
  · rw [if_neg h, decide_eq_false h]
    obtain ⟨c, l, hl⟩ : ∃ c l, dt r z.natAbs = c :: l := by
      cases hd : dt r z.natAbs with
      | nil => exact absurd hd (dt_ne r _ h2)
      | cons c l => exact ⟨c, l, rfl⟩
    have hc := isd_lt (dt_all h2 h36 c (by rw [hl]; exact List.mem_cons_self ..)).1
    have hne : (45 : UInt8) ≠ UInt8.ofNat c := by
      intro h
      have := congrArg UInt8.toNat h
      rw [UInt8.toNat_ofNat'] at this
      have h45 : (45 : UInt8).toNat = 45 := rfl
      omega
    have hp : Lib.hasPrefix ((dt r z.natAbs).map UInt8.ofNat) (⟨#[45]⟩ : ByteArray).data.toList = false := by
      rw [hl]
      unfold Lib.hasPrefix
      simp [List.isPrefixOf, hne]
    refine ⟨?_, hp⟩
    unfold Lib.trimPrefix
    rw [hp]
    rfl
theorem zero_dt {r N : Nat} (h2 : 2 ≤ r) (h36 : r ≤ 36) : bstr (dt r N) = (⟨#[48]⟩ : ByteArray) ∨ Lib.hasPrefix (bstr (dt r N)).data.toList (⟨#[48]⟩ : ByteArray).data.toList = false := by
  rcases dt_head (N := N) h2 with h | h
  · left; rw [h]; rfl
  · right
    rw [bstr_list]
    cases hd : dt r N with
    | nil => exact absurd hd (dt_ne r _ h2)
    | cons c l =>
      have hc := isd_lt (dt_all (N := N) h2 h36 c (by rw [hd]; exact List.mem_cons_self ..)).1
      rw [hd] at h
      have hne : (48 : UInt8) ≠ UInt8.ofNat c := by
        intro h'
        have := congrArg UInt8.toNat h'
        rw [UInt8.toNat_ofNat'] at this
        have h48 : (48 : UInt8).toNat = 48 := rfl
        exact h (by rw [List.head?_cons]; congr 1; omega)
      unfold Lib.hasPrefix
      simp [List.isPrefixOf, hne]
theorem repeat_zeros (n : Nat) : (⟨(Lib.repeatL (⟨#[48]⟩ : ByteArray).data.toList n).toArray⟩ : ByteArray) = bstr (List.replicate n 48) := by
  have h : ∀ n, Lib.repeatL [(48 : UInt8)] n = (List.replicate n 48).map UInt8.ofNat := by
    intro n
    induction n with
    | zero => rfl
    | succ n ih => rw [List.replicate_succ, List.map_cons]; show [(48 : UInt8)] ++ _ = _; rw [ih]; rfl
  show (⟨(Lib.repeatL [(48 : UInt8)] n).toArray⟩ : ByteArray) = _
  rw [h]; rfl
theorem lower_dt {r N : Nat} (h2 : 2 ≤ r) (h36 : r ≤ 36) : (⟨(Lib.toLowerA (bstr (dt r N)).data.toList).toArray⟩ : ByteArray) = bstr ((dt r N).map low) := by
  rw [bstr_list]
  unfold Lib.toLowerA bstr
  rw [List.map_map, List.map_map]
  congr 2
  refine List.map_congr_left fun c hc => ?_
  have h := isd_lt (dt_all h2 h36 c hc).1
  have key : ∀ c : Fin 128, Lib.lowerB (UInt8.ofNat c.val) = UInt8.ofNat (low c.val) := by decide +kernel
  exact key ⟨c, h.1⟩
theorem ascii_dt {r N : Nat} (h2 : 2 ≤ r) (h36 : r ≤ 36) : ∀ (j : Nat) (b : UInt8), (bstr (dt r N)).data.toList[j]? = some b → b.toNat < 128 := by
  intro j b h
  rw [bstr_list, List.getElem?_map] at h
  obtain ⟨c, hc, rfl⟩ := Option.map_eq_some_iff.1 h
  have := isd_lt (dt_all h2 h36 c (List.mem_of_getElem? hc)).1
  rw [UInt8.toNat_ofNat']
  omega
theorem join_ty (r : Nat) (z : Int) (n : Nat) : (⟨#[if decide (z < 0) then 45 else 43]⟩ : ByteArray) ++ bstr (List.replicate n 48) ++ bstr ((dt r z.natAbs).map low) = bstr (ty r z n) := by
  unfold ty
  have h : (⟨#[if decide (z < 0) then 45 else 43]⟩ : ByteArray) = bstr [if decide (z < 0) then 45 else 43] := by
    cases decide (z < 0) <;> rfl
  rw [h, bstr_app, bstr_app]
  rw [List.append_assoc]
  rfl

end
end Go.Proofs.YtgepnkdnenjogaaDoor
