/-  Is  -/
import Derived.Test.YtghgcbedajaldaaGreatMkac
/-  IBase RefNum Num Eq Is  -/
namespace Go.Proofs.YtghgcbedajaldaaGreat
section
open Go.RowKit Digs
theorem Tryz.infoI64 : (Tryz.prog.info? 3).map (fun i => (i.zero, i.size, i.bytes)) = some (some (.int .i64 0), 1, 8) := by kernel_rfl
def iw (l : List Nat) : List Value := l.map fun n : Nat => Value.int .i64 (n : Int)
theorem iw_length (l : List Nat) : (iw l).length = l.length := by simp [iw]
theorem iw_append (l m : List Nat) : iw (l ++ m) = iw l ++ iw m := by simp [iw]
theorem iw_oneCell (l : List Nat) : ∀ u ∈ iw l, u.oneCell' = true := by
 intro u hu
 simp only [iw, List.mem_map] at hu
 obtain ⟨n, _, rfl⟩ := hu
 rfl
theorem iw_getElem? (l : List Nat) (j : Nat) (h : j < l.length) : (iw l)[j]? = some (.int .i64 ((l[j]?.getD 0 : Nat) : Int)) := by
 simp [iw, List.getElem?_map, List.getElem?_eq_getElem h]
def Oi (w : World) (base : Nat) (v : Value) (l : List Nat) : Prop := w.ownsRow base 3 1 v l.length (iw l)
theorem Oi.rd {w : World} {base : Nat} {v : Value} {l : List Nat} (h : Oi w base v l) : Rd .i64 w v l := by
 have h0 := h
 obtain ⟨_, ⟨rfl, hn⟩ | ⟨g, cap, cur, rfl, _, hg, hc, hm, _, ht⟩⟩ := h
 ·exact .inl ⟨rfl, List.eq_nil_of_length_eq_zero hn⟩
 ·refine .inr ⟨g, 0, cap, rfl, (Array.getElem?_eq_some_iff.1 hg).1, hc, hm, fun j hj => ?_⟩
  rw [Nat.zero_add, World.cell?]
  simp only [hg]
  have h1 := iw_getElem? l j hj
  rw [← ht, List.getElem?_take, if_pos (by omega)] at h1
  simpa using h1
theorem Oi.keep {w w' : World} {base : Nat} {v : Value} {l : List Nat} (h : Oi w base v l) (hb : Below w.heap.size w w') : Oi w' base v l := by
 refine ⟨h.1, ?_⟩
 rcases h.2 with hn | ⟨g, cap, cur, rfl, hg, hgg, rest⟩
 ·exact .inl hn
 ·exact .inr ⟨g, cap, cur, rfl, hg, by rw [hb.block g (Array.getElem?_eq_some_iff.1 hgg).1]; exact hgg, rest⟩
theorem new_int (w : World) (t : TypeId) (n : Nat) (z : Int) (h : z = n) : ∀ (j : Nat) (u : Value), (iw [n])[j]? = some u → (w.alloc (.cells #[.int .i64 z] t)).cell? ((⟨w.heap.size, 0, none⟩ : Addr).add j) = some u := by
 subst h
 intro j u hu
 match j, hu with
 | 0, hu =>
  simp [iw] at hu
  subst hu
  rw [Addr.add_lit, World.cell?_alloc_at _ _ _ _ rfl]
  rfl
theorem Oi.snoc {w : World} {base : Nat} {v : Value} {s : List Nat} {x : Nat} (h : w.ownsRow base 3 1 v (s.length + 1) (iw s ++ iw [x])) : Oi w base v (s ++ [x]) := by
 unfold Oi
 rw [iw_append, List.length_append]
 exact h
def TrimPostI (b off cap : Nat) (l : List Nat) (w : World) (e : Ending) (w' : World) : Prop :=
 ∃ k, e = .returned (.slice (some ⟨b, off, none⟩) k cap) ∧ k ≤ l.length ∧ (∀ j, k ≤ j → l[j]?.getD 0 = 0) ∧ (k = 0 ∨ l[k - 1]?.getD 0 ≠ 0) ∧ w = w'
set_option maxHeartbeats 400000 in
theorem trimmed_some (b off cap : Nat) (l : List Nat) (w : World) (hlc : l.length ≤ cap) (hcm : cap ≤ maxLen)
  (hc : ∀ j, j < l.length → w.cell? ⟨b, off + j, none⟩ = some (.int .i64 ((l[j]?.getD 0 : Nat) : Int))) :
  Calls Tryz.prog 156 #[.slice (some ⟨b, off, none⟩) l.length cap] w (TrimPostI b off cap l w) := by
 unfold maxLen at hcm
 go_enter Tryz.func156, Tryz.ntmps156
 go_wp2
 go_loop [3] (fun n => ∃ k : Nat, k ≤ l.length ∧ n = .int .i64 k ∧ ∀ j, k ≤ j → l[j]?.getD 0 = 0) (fun n => (intOf n).toNat)
 case atStart => exact ⟨l.length, Nat.le_refl _, rfl, fun j hj => by rw [List.getElem?_eq_none hj]; rfl⟩
 case round =>
  obtain ⟨k, hk, rfl, hz⟩ := hrel
  have HZ := Lib.hid hz
  clear hz
  by_cases h0 : 0 < k
  ·have hcell := hc (k - 1) (by omega)
   by_cases hx : l[k - 1]?.getD 0 = 0
   ·have hcell0 : w.cell? ⟨b, off + (k - 1), none⟩ = some (.int .i64 0) := by rw [hcell, hx]; rfl
    have HX := Lib.hid hx
    clear hcell hc hx
    go_wp2
    go_round
    case rel =>
     refine ⟨k - 1, by omega, by go_num, fun j hj => ?_⟩
     by_cases hjk : j = k - 1
     ·rw [hjk]; exact HX.out
     ·exact HZ.out j (by omega)
    case measure => simp [intOf]; omega
   ·have hne : (((l[k - 1]?.getD 0 : Nat) : Int) == 0) = false := by rw [beq_eq_false_iff_ne]; omega
    clear hc
    go_wp2
    go_ret
    exact ⟨k, rfl, hk, HZ.out, .inr hx, rfl⟩
  ·obtain rfl : k = 0 := by omega
   clear hc
   go_wp2
   go_ret
   exact ⟨0, rfl, Nat.zero_le _, HZ.out, .inl rfl, rfl⟩
set_option maxHeartbeats 400000 in
theorem trimmed_nil (w : World) :
  Calls Tryz.prog 156 #[.slice none 0 0] w fun e w' => e = .returned (.slice none 0 0) ∧ w = w' := by
 go_enter Tryz.func156, Tryz.ntmps156
 go_wp2
 refine wp_loop_rounds 1 ?_
 rw [rounds_succ]
 go_wp2
 go_ret
 exact ⟨rfl, rfl⟩
theorem trimmed_digs {l : List Nat} {k : Nat} (hl : ∀ x ∈ l, x < 65536) (h1 : k ≤ l.length) (h2 : ∀ j, k ≤ j → l[j]?.getD 0 = 0) (h3 : k = 0 ∨ l[k - 1]?.getD 0 ≠ 0) :
  l.take k = digs 65536 (vl 65536 l) := digs_trim (by decide) l k hl h1 h2 h3
theorem Oi.headN {w : World} {base g cap n : Nat} {l d : List Nat} (h : Oi w base (.slice (some ⟨g, 0, none⟩) l.length cap) l) (hn : n ≤ l.length) (hd : l.take n = d) : Oi w base (.slice (some ⟨g, 0, none⟩) n cap) d := by
 subst hd
 have hlen : (l.take n).length = n := by rw [List.length_take]; omega
 obtain ⟨_, ⟨hv, _⟩ | ⟨g', cap', cur, hv, hb, hg, hc, hm, hs, ht⟩⟩ := h
 ·cases hv
 ·cases hv
  refine ⟨by simp [iw_length], .inr ⟨g, cap, cur, by rw [hlen], hb, hg, by omega, hm, hs, ?_⟩⟩
  rw [hlen, Nat.mul_one]
  rw [Nat.mul_one] at ht
  have h1 : (cur.toList.take l.length).take n = (iw l).take n := by rw [ht]
  rw [List.take_take, Nat.min_eq_left hn] at h1
  rw [h1]
  simp [iw]
theorem trimmed_oi {w : World} {base : Nat} {v : Value} {l : List Nat} (h : Oi w base v l) (hlt : ∀ x ∈ l, x < 65536) :
  Calls Tryz.prog 156 #[v] w fun e w' => (∃ v', e = .returned v' ∧ Oi w base v' (digs 65536 (vl 65536 l))) ∧ w = w' := by
 have hr := h.rd
 have h' := h
 rcases h.2 with ⟨rfl, hn⟩ | ⟨g, cap, cur, rfl, _, _, hc, hm, _⟩
 ·obtain rfl := List.eq_nil_of_length_eq_zero hn
  exact (trimmed_nil w).mono fun _ _ ⟨he, hw⟩ => ⟨⟨_, he, by rw [vl, digs_zero]; exact World.ownsRow_nil _ _ _ _⟩, hw⟩
 ·have hcells : ∀ j, j < l.length → w.cell? ⟨g, 0 + j, none⟩ = some (.int .i64 ((l[j]?.getD 0 : Nat) : Int)) := by
   rcases hr with ⟨hv, _⟩ | ⟨b, off, cap', hv, _, _, _, h4⟩
   ·cases hv
   ·cases hv; exact h4
  refine (trimmed_some g 0 cap l w hc hm hcells).mono ?_
  rintro e w' ⟨k, rfl, h1, h2, h3, rfl⟩
  exact ⟨⟨_, rfl, Oi.headN h' h1 (trimmed_digs hlt h1 h2 h3)⟩, rfl⟩
def Ri (w : World) (base g N : Nat) (p : List Nat) : Prop := p.length = N ∧ w.ownsRow base 3 1 (.slice (some ⟨g, 0, none⟩) N N) N (iw p)
theorem Ri.cell {w : World} {base g N : Nat} {p : List Nat} (h : Ri w base g N p) (j : Nat) (hj : j < N) : w.cell? ⟨g, j, none⟩ = some (.int .i64 ((p[j]?.getD 0 : Nat) : Int)) := by
 rw [h.2.cellAt j (by omega), iw_getElem? _ _ (by rw [h.1]; exact hj)]
theorem Ri.frozen {w : World} {base g N : Nat} {p : List Nat} (h : Ri w base g N p) (j : Nat) : w.frozen? ⟨g, j, none⟩ = false := h.2.frozenAt j
theorem iw_set (p : List Nat) (j x : Nat) : iw (p.set j x) = (iw p).set j (.int .i64 (x : Int)) := by unfold iw; rw [List.map_set]
theorem Ri.store {w : World} {base g N : Nat} {p : List Nat} (h : Ri w base g N p) (j x : Nat) (z : Int) (hz : z = x) : Ri (w.setCell ⟨g, j, none⟩ (.int .i64 z)) base g N (p.set j x) := by
 subst hz
 exact ⟨by rw [List.length_set, h.1], by rw [iw_set]; exact (h.2.stored j _).1⟩
theorem Ri.oi {w : World} {base g N : Nat} {p : List Nat} (h : Ri w base g N p) : Oi w base (.slice (some ⟨g, 0, none⟩) N N) p := by
 unfold Oi; rw [h.1]; exact h.2
theorem Ri.lt {w : World} {base g N : Nat} {p : List Nat} (h : Ri w base g N p) : base ≤ g ∧ g < w.heap.size := h.2.lt g rfl
theorem iw_zeros (n : Nat) : (madeCells #[Value.int .i64 0] n).toList = iw (List.replicate n 0) := by
 rw [toList_madeCells_one]; simp [iw]
end
section
open Go.RowKit Digs
def RefV (w : World) (v : Value) (z : Int) : Prop := ∃ ad n c, v = .agg #[.bool (decide (z < 0)), .slice ad n c] ∧ Rd .i64 w (.slice ad n c) (digs 65536 z.natAbs)
def RefPost (w : World) (z : Int) (e : Ending) (w' : World) : Prop := ∃ v, e = .returned v ∧ RefV w' v z ∧ Below w.heap.size w w'
theorem RefV.keep {w w' : World} {v : Value} {z : Int} (h : RefV w v z) (hb : Below w.heap.size w w') : RefV w' v z := by
 obtain ⟨ad, n, c, rfl, hr⟩ := h
 exact ⟨ad, n, c, rfl, hr.keep hb⟩
theorem Rd.headN {k : IntKind} {w : World} {b off cap n : Nat} {l d : List Nat} (h : Rd k w (.slice (some ⟨b, off, none⟩) l.length cap) l) (hn : n ≤ l.length) (hd : l.take n = d) : Rd k w (.slice (some ⟨b, off, none⟩) n cap) d := by
 rcases h with ⟨hv, _⟩ | ⟨b', off', cap', hv, h1, h2, h3, h4⟩
 ·cases hv
 ·cases hv
  exact Rd.take h2 h3 h1 h4 hn hd
set_option maxHeartbeats 400000 in
theorem rmade_nil (neg : Bool) (w : World) :
  Calls Tryz.prog 122 #[.bool neg, .slice none 0 0] w fun e w' => e = .returned (.agg #[.bool false, .slice none 0 0]) ∧ Below w.heap.size w w' := by
 cases neg
 all_goals
  go_enter Tryz.func122, Tryz.ntmps122
  go_wp2_with (go_at_call 156; refine (trimmed_nil _).mono ?_; rintro e w' ⟨rfl, rfl⟩)
  exact bodyPost_ret (v := .agg #[.bool false, .slice none 0 0]) (by simp [results, Tryz.results122, go_sem]) rfl ⟨rfl, (Below.refl _ _).alloc (Nat.le_refl _) _⟩
def RmadePost (neg : Bool) (b off cap : Nat) (l : List Nat) (w : World) (e : Ending) (w' : World) : Prop :=
 ∃ k, e = .returned (.agg #[.bool (neg && decide (0 < k)), .slice (some ⟨b, off, none⟩) k cap]) ∧ k ≤ l.length ∧ (∀ j, k ≤ j → l[j]?.getD 0 = 0) ∧ (k = 0 ∨ l[k - 1]?.getD 0 ≠ 0) ∧ Below w.heap.size w w'
set_option maxHeartbeats 400000 in
theorem rmade_some (neg : Bool) (b off cap : Nat) (l : List Nat) (w : World) (hlc : l.length ≤ cap) (hcm : cap ≤ maxLen) (hb : b < w.heap.size)
  (hc : ∀ j, j < l.length → w.cell? ⟨b, off + j, none⟩ = some (.int .i64 ((l[j]?.getD 0 : Nat) : Int))) :
  Calls Tryz.prog 122 #[.bool neg, .slice (some ⟨b, off, none⟩) l.length cap] w (RmadePost neg b off cap l w) := by
 have HT : ∀ o : Obj, Calls Tryz.prog 156 #[.slice (some ⟨b, off, none⟩) l.length cap] (w.alloc o) (TrimPostI b off cap l (w.alloc o)) := fun o =>
  trimmed_some b off cap l _ hlc hcm (fun j hj => by rw [World.cell?_alloc_past _ _ _ hb]; exact hc j hj)
 have H := Lib.hid HT
 clear HT hc
 cases neg
 ·go_enter Tryz.func122, Tryz.ntmps122
  go_wp2_with fail
  refine (H.out _).mono ?_
  rintro e w' ⟨k, rfl, h1, h2, h3, rfl⟩
  have H2 := Lib.hid h2
  have H3 := Lib.hid h3
  clear h2 h3
  go_wp2_with fail
  exact bodyPost_ret (v := .agg #[.bool false, .slice (some ⟨b, off, none⟩) k cap]) (by simp [results, Tryz.results122, go_sem]) rfl ⟨k, rfl, h1, H2.out, H3.out, (Below.refl _ _).alloc (Nat.le_refl _) _⟩
 ·go_enter Tryz.func122, Tryz.ntmps122
  go_wp2_with fail
  refine (H.out _).mono ?_
  rintro e w' ⟨k, rfl, h1, h2, h3, rfl⟩
  have H2 := Lib.hid h2
  have H3 := Lib.hid h3
  clear h2 h3
  by_cases hk : 0 < k
  ·have hd : decide (0 < k) = true := by simpa using hk
   go_wp2_with fail
   exact bodyPost_ret (v := .agg #[.bool true, .slice (some ⟨b, off, none⟩) k cap]) (by simp [results, Tryz.results122, go_sem]) rfl ⟨k, by rw [hd]; rfl, h1, H2.out, H3.out, (Below.refl _ _).alloc (Nat.le_refl _) _⟩
  ·obtain rfl : k = 0 := by omega
   clear hk
   go_wp2_with fail
   exact bodyPost_ret (v := .agg #[.bool false, .slice (some ⟨b, off, none⟩) 0 cap]) (by simp [results, Tryz.results122, go_sem]) rfl ⟨0, rfl, h1, H2.out, .inl rfl, (Below.refl _ _).alloc (Nat.le_refl _) _⟩
theorem rmade_any (neg : Bool) (v : Value) (l : List Nat) (w : World) (h : Rd .i64 w v l) (hlt : ∀ x ∈ l, x < 65536) :
  Calls Tryz.prog 122 #[.bool neg, v] w (RefPost w (sg neg (vl 65536 l))) := by
 have h' := h
 rcases h with ⟨rfl, rfl⟩ | ⟨b, off, cap, rfl, hb, hlc, hcm, hc⟩
 ·refine (rmade_nil neg w).mono fun e w' ⟨he, hw⟩ => ⟨_, he, ⟨_, _, _, ?_, .inl ⟨rfl, ?_⟩⟩, hw⟩
  ·rw [vl]; unfold sg; cases neg <;> rfl
  ·rw [sg_natAbs, vl, digs_zero]
 ·refine (rmade_some neg b off cap l w hlc hcm hb hc).mono ?_
  rintro e w' ⟨k, rfl, h1, h2, h3, hw⟩
  have ht := trimmed_digs hlt h1 h2 h3
  refine ⟨_, rfl, ⟨_, _, _, ?_, by rw [sg_natAbs]; exact Rd.headN (h'.keep hw) h1 ht⟩, hw⟩
  have e : (neg && decide (0 < k)) = decide (sg neg (vl 65536 l) < 0) := by
   have hk : 0 < k ↔ vl 65536 l ≠ 0 := by
    constructor
    ·intro h0 h5
     rw [h5, digs_zero] at ht
     have h6 : (l.take k).length = 0 := by rw [ht]; rfl
     rw [List.length_take] at h6
     omega
    ·intro h0
     rcases Nat.eq_zero_or_pos k with rfl | h6
     ·rw [← vl_digs (b := 65536) (by decide) (vl 65536 l), ← ht] at h0
      exact absurd rfl h0
     ·exact h6
   unfold sg
   cases neg
   ·simp
   ·show (true && decide (0 < k)) = decide (-(vl 65536 l : Int) < 0)
    rw [Bool.true_and, decide_eq_decide, hk]
    omega
  rw [e]
def NewRel (u : Nat) (X : World) (c v : Value) (wr : World) : Prop :=
 ∃ (k t : Nat) (s : List Nat), c = .int .u64 t ∧ k ≤ 4 ∧ t < 65536 ^ (4 - k) ∧ s.length = k ∧ (∀ x ∈ s, x < 65536) ∧ Oi wr X.heap.size v s ∧ vl 65536 s + 65536 ^ k * t = u ∧ Below X.heap.size X wr
theorem wrap_abs (z : Int) (hlo : -9223372036854775808 ≤ z) (hhi : z ≤ 9223372036854775807) :
  (if z < 0 then IntKind.u64.wrap (-IntKind.u64.wrap z) else IntKind.u64.wrap z) = (z.natAbs : Int) := by
 simp only [IntKind.wrap_u64]
 split <;> omega
theorem new_step {k t : Nat} (hk : k ≤ 4) (ht : t < 65536 ^ (4 - k)) (h0 : 0 < t) : k < 4 ∧ t / 65536 < 65536 ^ (4 - (k + 1)) := by
 have h1 : k < 4 := by
  rcases Nat.lt_or_ge k 4 with h | h
  ·exact h
  ·obtain rfl : k = 4 := by omega
   simp at ht; omega
 refine ⟨h1, ?_⟩
 rw [Nat.div_lt_iff_lt_mul (by decide), ← Nat.pow_succ]
 have : (4 - (k + 1)).succ = 4 - k := by omega
 rw [this]
 exact ht
set_option maxHeartbeats 1000000 in
set_option maxRecDepth 100000 in
theorem rnew_neg (z : Int) (w : World) (hlo : -9223372036854775808 ≤ z) (hhi : z ≤ 9223372036854775807) (hz : z < 0) :
  Calls Tryz.prog 87 #[.int .i64 z] w (RefPost w z) := by
 have HU := Lib.hid (wrap_abs z hlo hhi)
 have HA : Hid (z.natAbs < 65536 ^ 4) := by show z.natAbs < 18446744073709551616; omega
 clear hlo hhi
 obtain ⟨i0, hi, hz0, hz1, hz2⟩ := info_parts Tryz.infoI64
 go_enter Tryz.func87, Tryz.ntmps87
 go_wp2_with fail
 go_loopw [3, 4] (NewRel z.natAbs (w.alloc (.cells #[.bool false, .slice none 0 0] 34))) (fun c _ _ => (intOf c).toNat)
 case atStart =>
  have h := HU.out
  rw [if_pos hz] at h
  exact ⟨0, z.natAbs, [], by rw [h], Nat.zero_le _, HA.out, rfl, by simp, World.ownsRow_nil _ _ _ _, by simp [vl], Below.refl _ _⟩
 case round =>
  obtain ⟨k, t, s, rfl, hk, ht, hs, hsl, hown, hv, hnx⟩ := hrel
  have HS := Lib.hid hs
  have HSL := Lib.hid hsl
  have HV := Lib.hid hv
  have HO := Lib.hid hown
  have HNX := Lib.hid hnx
  have HT := Lib.hid ht
  clear hs hsl hv hown hnx ht
  have htb : t < 18446744073709551616 := Nat.lt_of_lt_of_le HT.out (Nat.pow_le_pow_right (n := 65536) (by decide) (show 4 - k ≤ 4 by omega))
  by_cases h0 : 0 < t
  ·obtain ⟨hk4, hstep⟩ := new_step hk HT.out h0
   have HST := Lib.hid hstep
   clear hstep
   go_wp2_with (at_builtin; refine wpList_append_own _ rfl (.tmp 13) (.tmp 17) 32 rfl (w.heap.size + 1) 3 i0 (.int .i64 0) 1 8 Tryz.underlying32 hi hz0 hz1 hz2 rfl (by decide) _ _ _ rfl (World.ownsRow.alloc (by have h := HO.out; unfold Oi at h; rw [World.size_alloc] at h; exact h) _) ⟨wr.heap.size, 0, none⟩ 1 1 (iw [t % 65536]) rfl rfl ?c1 (iw_oneCell _) ?c2 ?c3 ?c4 ?_)
   case c1 => exact new_int _ _ _ _ (by omega)
   case c2 => have := HS.out; unfold maxLen; omega
   case c3 => have := HS.out; omega
   case c4 => have := HNX.out.size; simp at this ⊢; omega
   intro v' w1 hown1 hgrow _
   have HO1 := Lib.hid hown1
   have HG := Lib.hid hgrow
   clear hown1 hgrow
   go_wp2
   go_roundw
   case rel =>
    refine ⟨k + 1, t / 65536, s ++ [t % 65536], by go_num, by omega, HST.out, by rw [List.length_append, HS.out]; rfl, all_snoc HSL.out (Nat.mod_lt _ (by decide)), Oi.snoc (by rw [World.size_alloc]; exact HO1.out), ?_, ?_⟩
    ·rw [vl_snoc, HS.out, Nat.pow_succ]
     have h1 := split_mod (65536 ^ k) 65536 t
     have h2 := HV.out
     omega
    ·exact (HNX.out.alloc HNX.out.size _).grown HG.out (by have := HNX.out.size; simp at this ⊢; omega) (fun q hq => (HO.out.lt q hq).1)
   case measure => simp [intOf]; omega
  ·obtain rfl : t = 0 := by omega
   have hm := rmade_any true _ s wr HO.out.rd HSL.out
   have h2 := HV.out
   rw [Nat.mul_zero, Nat.add_zero] at h2
   rw [h2] at hm
   have HM := Lib.hid hm
   clear hm h2
   go_wp2_with fail
   refine HM.out.mono ?_
   rintro e w2 ⟨v2, rfl, ⟨ad, n, c, rfl, hr2⟩, hb2⟩
   have hB := HNX.out.trans (hb2.mono HNX.out.size)
   obtain ⟨c0, c1, f0, f1, hlt⟩ := box2 hB
   have HR := Lib.hid (hr2.store2 c0 c1 (by intro n h; cases h) (by intro n h; cases h))
   have HBB := Lib.hid hB
   have e : sg true z.natAbs = z := by unfold sg; simp; omega
   have HE := Lib.hid e
   clear hB hb2 hr2 e
   go_wp2_with fail
   refine bodyPost_ret (v := .agg #[.bool (decide (sg true z.natAbs < 0)), .slice ad n c]) (by simp [results, Tryz.results87, go_sem, c0, c1]) rfl ⟨_, rfl, ⟨_, _, _, by rw [HE.out], ?_⟩, ?_⟩
   ·have := HR.out (.bool (decide (sg true z.natAbs < 0))) (.slice ad n c)
    rw [HE.out] at this ⊢
    exact this
   ·exact ((((Below.refl _ _).alloc (Nat.le_refl _) _).trans (HBB.out.mono (by simp))).setCell (by simp) _).setCell (by simp) _
set_option maxHeartbeats 1000000 in
set_option maxRecDepth 100000 in
theorem rnew_pos (z : Int) (w : World) (hlo : -9223372036854775808 ≤ z) (hhi : z ≤ 9223372036854775807) (hz : ¬ z < 0) :
  Calls Tryz.prog 87 #[.int .i64 z] w (RefPost w z) := by
 have HU := Lib.hid (wrap_abs z hlo hhi)
 have HA : Hid (z.natAbs < 65536 ^ 4) := by show z.natAbs < 18446744073709551616; omega
 clear hlo hhi
 have hzd : decide (z < 0) = false := by simp; omega
 obtain ⟨i0, hi, hz0, hz1, hz2⟩ := info_parts Tryz.infoI64
 go_enter Tryz.func87, Tryz.ntmps87
 go_wp2_with fail
 go_loopw [3, 4] (NewRel z.natAbs (w.alloc (.cells #[.bool false, .slice none 0 0] 34))) (fun c _ _ => (intOf c).toNat)
 case atStart =>
  have h := HU.out
  rw [if_neg (by omega)] at h
  exact ⟨0, z.natAbs, [], by rw [h], Nat.zero_le _, HA.out, rfl, by simp, World.ownsRow_nil _ _ _ _, by simp [vl], Below.refl _ _⟩
 case round =>
  obtain ⟨k, t, s, rfl, hk, ht, hs, hsl, hown, hv, hnx⟩ := hrel
  have HS := Lib.hid hs
  have HSL := Lib.hid hsl
  have HV := Lib.hid hv
  have HO := Lib.hid hown
  have HNX := Lib.hid hnx
  have HT := Lib.hid ht
  clear hs hsl hv hown hnx ht
  have htb : t < 18446744073709551616 := Nat.lt_of_lt_of_le HT.out (Nat.pow_le_pow_right (n := 65536) (by decide) (show 4 - k ≤ 4 by omega))
  by_cases h0 : 0 < t
  ·obtain ⟨hk4, hstep⟩ := new_step hk HT.out h0
   have HST := Lib.hid hstep
   clear hstep
   go_wp2_with (at_builtin; refine wpList_append_own _ rfl (.tmp 13) (.tmp 17) 32 rfl (w.heap.size + 1) 3 i0 (.int .i64 0) 1 8 Tryz.underlying32 hi hz0 hz1 hz2 rfl (by decide) _ _ _ rfl (World.ownsRow.alloc (by have h := HO.out; unfold Oi at h; rw [World.size_alloc] at h; exact h) _) ⟨wr.heap.size, 0, none⟩ 1 1 (iw [t % 65536]) rfl rfl ?c1 (iw_oneCell _) ?c2 ?c3 ?c4 ?_)
   case c1 => exact new_int _ _ _ _ (by omega)
   case c2 => have := HS.out; unfold maxLen; omega
   case c3 => have := HS.out; omega
   case c4 => have := HNX.out.size; simp at this ⊢; omega
   intro v' w1 hown1 hgrow _
   have HO1 := Lib.hid hown1
   have HG := Lib.hid hgrow
   clear hown1 hgrow
   go_wp2
   go_roundw
   case rel =>
    refine ⟨k + 1, t / 65536, s ++ [t % 65536], by go_num, by omega, HST.out, by rw [List.length_append, HS.out]; rfl, all_snoc HSL.out (Nat.mod_lt _ (by decide)), Oi.snoc (by rw [World.size_alloc]; exact HO1.out), ?_, ?_⟩
    ·rw [vl_snoc, HS.out, Nat.pow_succ]
     have h1 := split_mod (65536 ^ k) 65536 t
     have h2 := HV.out
     omega
    ·exact (HNX.out.alloc HNX.out.size _).grown HG.out (by have := HNX.out.size; simp at this ⊢; omega) (fun q hq => (HO.out.lt q hq).1)
   case measure => simp [intOf]; omega
  ·obtain rfl : t = 0 := by omega
   have hm := rmade_any false _ s wr HO.out.rd HSL.out
   have h2 := HV.out
   rw [Nat.mul_zero, Nat.add_zero] at h2
   rw [h2] at hm
   have HM := Lib.hid hm
   clear hm h2
   go_wp2_with fail
   refine HM.out.mono ?_
   rintro e w2 ⟨v2, rfl, ⟨ad, n, c, rfl, hr2⟩, hb2⟩
   have hB := HNX.out.trans (hb2.mono HNX.out.size)
   obtain ⟨c0, c1, f0, f1, hlt⟩ := box2 hB
   have HR := Lib.hid (hr2.store2 c0 c1 (by intro n h; cases h) (by intro n h; cases h))
   have HBB := Lib.hid hB
   have e : sg false z.natAbs = z := by unfold sg; simp; omega
   have HE := Lib.hid e
   clear hB hb2 hr2 e
   go_wp2_with fail
   refine bodyPost_ret (v := .agg #[.bool (decide (sg false z.natAbs < 0)), .slice ad n c]) (by simp [results, Tryz.results87, go_sem, c0, c1]) rfl ⟨_, rfl, ⟨_, _, _, by rw [HE.out], ?_⟩, ?_⟩
   ·have := HR.out (.bool (decide (sg false z.natAbs < 0))) (.slice ad n c)
    rw [HE.out] at this ⊢
    exact this
   ·exact ((((Below.refl _ _).alloc (Nat.le_refl _) _).trans (HBB.out.mono (by simp))).setCell (by simp) _).setCell (by simp) _
theorem rnew_any (z : Int) (w : World) (hlo : -9223372036854775808 ≤ z) (hhi : z ≤ 9223372036854775807) :
  Calls Tryz.prog 87 #[.int .i64 z] w (RefPost w z) := by
 by_cases h : z < 0
 ·exact rnew_neg z w hlo hhi h
 ·exact rnew_pos z w hlo hhi h
end
section
open Go.RowKit Digs
theorem Rd.two (w : World) (t : TypeId) (a b : Int) (x y g : Nat) (hg : g = w.heap.size) (ha : a = x) (hb : b = y) : Rd .u32 (w.alloc (.cells #[.int .u32 a, .int .u32 b] t)) (.slice (some ⟨g, 0, none⟩) 2 2) [x, y] := by
 subst hg ha hb
 refine .inr ⟨w.heap.size, 0, 2, rfl, by simp, by simp, by unfold maxLen; omega, fun j hj => ?_⟩
 rw [World.cell?_alloc_at _ _ _ _ rfl]
 simp only [List.length_cons, List.length_nil] at hj
 rcases (show j = 0 ∨ j = 1 by omega) with rfl | rfl <;> rfl
set_option maxHeartbeats 1000000 in
set_option maxRecDepth 100000 in
theorem new_neg (z : Int) (w : World) (hlo : -9223372036854775808 ≤ z) (hhi : z ≤ 9223372036854775807) (hz : z < 0) :
  Calls Tryz.prog 65 #[.int .i64 z] w (IntPost w z) := by
 have HU := Lib.hid (wrap_abs z hlo hhi)
 have HA : Hid (z.natAbs < 18446744073709551616) := by show z.natAbs < 18446744073709551616; omega
 clear hlo hhi
 have hzd : decide (z < 0) = true := by simp; omega
 go_enter Tryz.func65, Tryz.ntmps65
 go_wp2_with fail
 refine (own_any true _ [z.natAbs % 4294967296, z.natAbs / 4294967296] _ (Rd.two _ _ _ _ _ _ _ ?h1 ?h2 ?h3) ?h4).mono ?_
 case h1 => simp
 case h2 => have h := HU.out; rw [if_pos hz] at h; rw [h]; omega
 case h3 => have h := HU.out; have := HA.out; rw [if_pos hz] at h; rw [h]; omega
 case h4 =>
  have := HA.out
  intro x hx
  simp only [List.mem_cons, List.not_mem_nil, or_false] at hx
  rcases hx with rfl | rfl <;> omega
 rintro e w2 ⟨v2, rfl, ⟨ad, n, c, rfl, hr2⟩, hb2⟩
 have hB := ((Below.refl _ _).alloc (Nat.le_refl _) _).trans (hb2.mono (by simp))
 obtain ⟨c0, c1, f0, f1, hlt⟩ := box2 hB
 have HR := Lib.hid (hr2.store2 c0 c1 (by intro n h; cases h) (by intro n h; cases h))
 have HBB := Lib.hid hB
 have e : sg true (vl 4294967296 [z.natAbs % 4294967296, z.natAbs / 4294967296]) = z := by
  simp only [vl]
  show -(((z.natAbs % 4294967296 + 4294967296 * (z.natAbs / 4294967296 + 4294967296 * 0) : Nat) : Int)) = z
  omega
 have HE := Lib.hid e
 clear hB hb2 hr2 e
 go_wp2_with fail
 refine bodyPost_ret (v := .agg #[.bool (decide (sg true (vl 4294967296 [z.natAbs % 4294967296, z.natAbs / 4294967296]) < 0)), .slice ad n c]) (by simp [results, Tryz.results65, go_sem, c0, c1]) rfl ⟨_, rfl, ⟨_, _, _, by rw [HE.out], ?_⟩, ?_⟩
 ·have := HR.out (.bool (decide (sg true (vl 4294967296 [z.natAbs % 4294967296, z.natAbs / 4294967296]) < 0))) (.slice ad n c)
  rw [HE.out] at this ⊢
  exact this
 ·exact ((((Below.refl _ _).alloc (Nat.le_refl _) _).trans (HBB.out.mono (by simp))).setCell (by simp) _).setCell (by simp) _
set_option maxHeartbeats 1000000 in
set_option maxRecDepth 100000 in
theorem new_pos (z : Int) (w : World) (hlo : -9223372036854775808 ≤ z) (hhi : z ≤ 9223372036854775807) (hz : ¬ z < 0) :
  Calls Tryz.prog 65 #[.int .i64 z] w (IntPost w z) := by
 have HU := Lib.hid (wrap_abs z hlo hhi)
 have HA : Hid (z.natAbs < 18446744073709551616) := by show z.natAbs < 18446744073709551616; omega
 clear hlo hhi
 have hzd : decide (z < 0) = false := by simp; omega
 go_enter Tryz.func65, Tryz.ntmps65
 go_wp2_with fail
 refine (own_any false _ [z.natAbs % 4294967296, z.natAbs / 4294967296] _ (Rd.two _ _ _ _ _ _ _ ?h1 ?h2 ?h3) ?h4).mono ?_
 case h1 => simp
 case h2 => have h := HU.out; rw [if_neg (by omega)] at h; rw [h]; omega
 case h3 => have h := HU.out; have := HA.out; rw [if_neg (by omega)] at h; rw [h]; omega
 case h4 =>
  have := HA.out
  intro x hx
  simp only [List.mem_cons, List.not_mem_nil, or_false] at hx
  rcases hx with rfl | rfl <;> omega
 rintro e w2 ⟨v2, rfl, ⟨ad, n, c, rfl, hr2⟩, hb2⟩
 have hB := ((Below.refl _ _).alloc (Nat.le_refl _) _).trans (hb2.mono (by simp))
 obtain ⟨c0, c1, f0, f1, hlt⟩ := box2 hB
 have HR := Lib.hid (hr2.store2 c0 c1 (by intro n h; cases h) (by intro n h; cases h))
 have HBB := Lib.hid hB
 have e : sg false (vl 4294967296 [z.natAbs % 4294967296, z.natAbs / 4294967296]) = z := by
  simp only [vl]
  show ((z.natAbs % 4294967296 + 4294967296 * (z.natAbs / 4294967296 + 4294967296 * 0) : Nat) : Int) = z
  omega
 have HE := Lib.hid e
 clear hB hb2 hr2 e
 go_wp2_with fail
 refine bodyPost_ret (v := .agg #[.bool (decide (sg false (vl 4294967296 [z.natAbs % 4294967296, z.natAbs / 4294967296]) < 0)), .slice ad n c]) (by simp [results, Tryz.results65, go_sem, c0, c1]) rfl ⟨_, rfl, ⟨_, _, _, by rw [HE.out], ?_⟩, ?_⟩
 ·have := HR.out (.bool (decide (sg false (vl 4294967296 [z.natAbs % 4294967296, z.natAbs / 4294967296]) < 0))) (.slice ad n c)
  rw [HE.out] at this ⊢
  exact this
 ·exact ((((Below.refl _ _).alloc (Nat.le_refl _) _).trans (HBB.out.mono (by simp))).setCell (by simp) _).setCell (by simp) _
theorem new_any (z : Int) (w : World) (hlo : -9223372036854775808 ≤ z) (hhi : z ≤ 9223372036854775807) :
  Calls Tryz.prog 65 #[.int .i64 z] w (IntPost w z) := by
 by_cases h : z < 0
 ·exact new_neg z w hlo hhi h
 ·exact new_pos z w hlo hhi h
theorem box1 {w w2 : World} {a b : Value} {t : TypeId} (h : Below (w.alloc (.cells #[a, b] t)).heap.size (w.alloc (.cells #[a, b] t)) w2) :
  w2.cell? ⟨w.heap.size, 0, none⟩ = some a ∧ w2.cell? ⟨w.heap.size, 1, none⟩ = some b := ⟨(box2 h).1, (box2 h).2.1⟩
def LimbsPost (w : World) (z : Int) (e : Ending) (w' : World) : Prop := ∃ v, e = .returned (.tuple #[.bool (decide (z < 0)), v]) ∧ Rd .u32 w' v (digs 4294967296 z.natAbs) ∧ Below w.heap.size w w'
set_option maxHeartbeats 1000000 in
set_option maxRecDepth 100000 in
theorem limbs_any (z : Int) (v : Value) (w : World) (hl : len z ≤ 1000000) (h : IntV w v z) :
  Calls Tryz.prog 103 #[v] w (LimbsPost w z) := by
 obtain ⟨ad, n, c, rfl, hr⟩ := h
 have HC := fun W hw => Lib.hid (clone_any _ _ W (by unfold len at hl; omega) (hr.keep (w' := W) hw))
 have HC := Lib.hid HC
 clear hl hr
 go_enter Tryz.func103, Tryz.ntmps103
 go_wp2_with fail
 go_region_held3 (fun w' => w'.cell? ⟨w.heap.size, 0, none⟩ = some (.bool (decide (z < 0))) ∧ w'.cell? ⟨w.heap.size, 1, none⟩ = some (.slice ad n c))
  (first | exact ⟨cA, cB⟩ | go_keep)
  (first | (go_at_call 121; refine (HC.out _ ((Below.refl _ _).alloc (Nat.le_refl _) _).drew).out.mono ?_; rintro e w1 ⟨v1, rfl, ho1, hb1⟩; obtain ⟨cA, cB⟩ := box1 ((Below.refl _ _).drew.trans hb1)))
 go_wp2
 go_ret2
 exact ⟨_, rfl, ho1.rd, ((Below.refl _ _).alloc (Nat.le_refl _) _).drew.trans (hb1.mono (by simp))⟩
end
section
open Go.RowKit Digs
theorem drewN2 (w : World) (a b : Nat) : ∃ n, (w.drewN a).drewN b = w.drewN n := ⟨a + b, by rw [World.drewN_drewN]⟩
set_option maxHeartbeats 400000 in
theorem equal_ne (ada adb : Option Addr) (la ca lb cb : Nat) (w : World) (h : la ≠ lb) :
  Calls Tryz.prog 104 #[.slice ada la ca, .slice adb lb cb] w fun e w' => e = .returned (.bool false) ∧ w = w' := by
 have hne : ((la : Int) != (lb : Int)) = true := by rw [bne_iff_ne]; omega
 go_enter Tryz.func104, Tryz.ntmps104
 go_wp2
 go_ret
 exact ⟨rfl, rfl⟩
def EqPost (la lb : List Nat) (w : World) (e : Ending) (w' : World) : Prop := e = .returned (.bool (decide (la = lb))) ∧ ∃ d, w' = w.drewN d
set_option maxHeartbeats 1000000 in
set_option maxRecDepth 100000 in
theorem equal_same (ada adb : Option Addr) (ca cb : Nat) (la lb : List Nat) (w : World) (hll : lb.length = la.length) (hla : la.length ≤ 1000000) (hca : RdA .u32 w ada la) (hcb : RdA .u32 w adb lb) :
  Calls Tryz.prog 104 #[.slice ada la.length ca, .slice adb la.length cb] w (EqPost la lb w) := by
 obtain ⟨n, hn⟩ : ∃ n, n = la.length := ⟨_, rfl⟩
 rw [← hn] at hll hla ⊢
 have HN := Lib.hid hn
 have HL := Lib.hid hll
 have HCA := Lib.hid hca
 have HCB := Lib.hid hcb
 clear hn hll hca hcb
 have hne : ((n : Int) != (n : Int)) = false := by simp
 go_enter Tryz.func104, Tryz.ntmps104
 go_wp2
 clear hne
 go_loopw [13] (fun i wr => ∃ (k d : Nat), i = .int .i64 k ∧ k ≤ n ∧ wr = w.drewN d ∧ ∀ j, j < k → la[j]?.getD 0 = lb[j]?.getD 0) (fun i _ => n - (intOf i).toNat)
 case atStart => exact ⟨0, 0, rfl, Nat.zero_le _, rfl, fun j hj => absurd hj (Nat.not_lt_zero _)⟩
 case round =>
  obtain ⟨k, d, rfl, hk, rfl, hz⟩ := hrel
  have HZ := Lib.hid hz
  clear hz
  by_cases h0 : k < n
  ·obtain ⟨ba, oa, rfl, _, h1⟩ := HCA.out k (by rw [← HN.out]; exact h0)
   obtain ⟨bb, ob, rfl, _, h2⟩ := HCB.out k (by rw [HL.out]; exact h0)
   obtain ⟨x, hx⟩ : ∃ x, x = la[k]?.getD 0 := ⟨_, rfl⟩
   obtain ⟨y, hy⟩ : ∃ y, y = lb[k]?.getD 0 := ⟨_, rfl⟩
   rw [← hx] at h1
   rw [← hy] at h2
   have HX := Lib.hid hx
   have HY := Lib.hid hy
   clear hx hy
   by_cases hxy : x = y
   ·subst hxy
    go_wp2_with fail
    go_quiet (fail)
    go_wp2
    go_roundw
    case rel =>
     refine ⟨k + 1, _, by go_num, by omega, rfl, fun j hj => ?_⟩
     by_cases hjm : j = k
     ·rw [hjm, ← HX.out, ← HY.out]
     ·exact HZ.out j (by omega)
    case measure => simp [intOf]; omega
   ·have hne : ((x : Int) != (y : Int)) = true := by rw [bne_iff_ne]; omega
    go_wp2_with fail
    go_quiet (fail)
    go_wp2
    go_ret
    refine ⟨?_, drewN2 _ _ _⟩
    have e : decide (la = lb) = false := by
     rw [decide_eq_false_iff_not]
     rintro rfl
     exact hxy (HX.out.trans HY.out.symm)
    rw [e]; rfl
  ·obtain rfl : k = n := by omega
   go_wp2
   go_ret
   refine ⟨?_, _, rfl⟩
   have e : decide (la = lb) = true := by
    rw [decide_eq_true_iff]
    apply List.ext_getElem?
    intro j
    by_cases hj : j < k
    ·have := HZ.out j hj
     rw [List.getElem?_eq_getElem (by rw [← HN.out]; exact hj), List.getElem?_eq_getElem (by rw [HL.out]; exact hj)] at this ⊢
     simpa using this
    ·rw [List.getElem?_eq_none (by rw [← HN.out]; omega), List.getElem?_eq_none (by rw [HL.out]; omega)]
   rw [e]; rfl
theorem equal_any (va vb : Value) (la lb : List Nat) (w : World) (hla : la.length ≤ 1000000) (ha : Rd .u32 w va la) (hb : Rd .u32 w vb lb) :
  Calls Tryz.prog 104 #[va, vb] w (EqPost la lb w) := by
 obtain ⟨ada, ca, rfl, ra⟩ := ha.opt
 obtain ⟨adb, cb, rfl, rb⟩ := hb.opt
 by_cases h : lb.length = la.length
 ·rw [h]; exact equal_same ada adb ca cb la lb w h hla ra rb
 ·refine (equal_ne ada adb la.length ca lb.length cb w (fun e => h e.symm)).mono ?_
  rintro e w' ⟨rfl, rfl⟩
  have e : decide (la = lb) = false := by
   rw [decide_eq_false_iff_not]
   rintro rfl
   exact h rfl
  exact ⟨by rw [e], 0, rfl⟩
theorem digs_of_len {b : Nat} (hb : 2 ≤ b) (s : List Nat) (h : ∀ x ∈ s, x < b) (hk : s.length = 0 ∨ b ^ (s.length - 1) ≤ vl b s) : s = digs b (vl b s) := by
 have h1 := digs_trim hb s s.length h (Nat.le_refl _) (fun j hj => by rw [List.getElem?_eq_none hj]; rfl) (by
  rcases hk with hk | hk
  ·exact .inl hk
  ·by_cases h0 : s.length = 0
   ·exact .inl h0
   ·refine .inr fun h2 => ?_
    have h3 := vl_take_succ b s (s.length - 1) (by omega)
    rw [h2, Nat.mul_zero, Nat.add_zero, show s.length - 1 + 1 = s.length by omega, List.take_of_length_le (Nat.le_refl _)] at h3
    have h4 := vl_lt (b := b) (s.take (s.length - 1)) (fun x hx => h x (List.mem_of_mem_take hx))
    rw [List.length_take, Nat.min_eq_left (by omega)] at h4
    omega)
 rwa [List.take_of_length_le (Nat.le_refl _)] at h1
theorem pow_two_base (k : Nat) : (4294967296 : Nat) ^ k = 65536 ^ (2 * k) := by
 rw [Nat.pow_mul]
theorem limb_step (D s : List Nat) (k x y : Nat) (hs : s.length = k) (hv : vl 4294967296 s = vl 65536 (D.take (2 * k))) (hk : 2 * k < D.length) (hx : x = D[2 * k]?.getD 0)
  (hy : y = D[2 * k + 1]?.getD 0) : vl 4294967296 (s ++ [x + y * 65536]) = vl 65536 (D.take (2 * (k + 1))) := by
 have h1 := vl_take_succ 65536 D (2 * k) hk
 have h2 : vl 65536 (D.take (2 * k + 1 + 1)) = vl 65536 (D.take (2 * k + 1)) + 65536 ^ (2 * k + 1) * y := by
  by_cases h : 2 * k + 1 < D.length
  ·rw [vl_take_succ 65536 D (2 * k + 1) h, hy]
  ·rw [vl_take_le _ _ _ (by omega), hy, List.getElem?_eq_none (by omega)]
   rfl
 rw [vl_snoc, hs, pow_two_base, show 2 * (k + 1) = 2 * k + 1 + 1 by omega, h2, h1, ← hx, hv, Nat.pow_succ, Nat.mul_add]
 have : 65536 ^ (2 * k) * (y * 65536) = 65536 ^ (2 * k) * 65536 * y := by rw [Nat.mul_assoc, Nat.mul_comm y]
 omega
def RLimbsRel (D : List Nat) (X : World) (i v : Value) (wr : World) : Prop :=
 ∃ (k : Nat) (s : List Nat), i = .int .i64 ((2 * k : Nat) : Int) ∧ 2 * k ≤ D.length + 1 ∧ s.length = k ∧ (∀ x ∈ s, x < 4294967296) ∧ Ow wr X.heap.size v s ∧ vl 4294967296 s = vl 65536 (D.take (2 * k)) ∧ Below X.heap.size X wr
set_option maxHeartbeats 2000000 in
set_option maxRecDepth 100000 in
theorem rlimbs_core (neg : Bool) (ad : Option Addr) (c : Nat) (D : List Nat) (w : World) (hl : D.length ≤ 1000000) (hr : RdA .i64 w ad D) (hd : ∀ x ∈ D, x < 65536)
  (hn : D = [] ∨ 65536 ^ (D.length - 1) ≤ vl 65536 D) :
  Calls Tryz.prog 105 #[.agg #[.bool neg, .slice ad D.length c]] w (OwPost w (digs 4294967296 (vl 65536 D))) := by
 have HR := Lib.hid hr
 have HD := Lib.hid hd
 have HN := Lib.hid hn
 clear hr hd hn
 obtain ⟨i0, hi, hz0, hz1, hz2⟩ := info_parts Tryz.infoU32
 go_enter Tryz.func105, Tryz.ntmps105
 go_wp2_with fail
 go_loopw [4, 3] (fun i v wr => RLimbsRel D (w.alloc (.cells #[.bool neg, .slice ad D.length c] 34)) i v wr) (fun i _ _ => D.length + 1 - (intOf i).toNat)
 case atStart => exact ⟨0, [], rfl, by omega, rfl, by simp, World.ownsRow_nil _ _ _ _, by simp [vl], Below.refl _ _⟩
 case round =>
  obtain ⟨k, s, rfl, hk, hs, hsl, hown, hv, hnx⟩ := hrel
  have HS := Lib.hid hs
  have HSL := Lib.hid hsl
  have HV := Lib.hid hv
  have HO := Lib.hid hown
  have HNX := Lib.hid hnx
  clear hs hsl hv hown hnx
  have cB := (box1 HNX.out).2
  by_cases hkl : 2 * k < D.length
  ·obtain ⟨ba, oa, rfl, hba, gx0⟩ := HR.out (2 * k) hkl
   have hX : Below w.heap.size w wr := ((Below.refl _ _).alloc (Nat.le_refl _) _).trans (HNX.out.mono (by simp))
   have gx := (hX.cell (p := ⟨ba, oa + 2 * k, none⟩) hba).trans gx0
   clear gx0
   obtain ⟨x, hx⟩ : ∃ x, x = D[2 * k]?.getD 0 := ⟨_, rfl⟩
   rw [← hx] at gx
   have hxb : x < 65536 := by rw [hx, List.getElem?_eq_getElem hkl]; exact HD.out _ (List.getElem_mem hkl)
   have HX := Lib.hid hx
   clear hx
   by_cases hk1 : 2 * k + 1 < D.length
   ·obtain ⟨bb, ob, hbo, hbb, gy0⟩ := HR.out (2 * k + 1) hk1
    cases hbo
    have gy := (hX.cell (p := ⟨ba, oa + (2 * k + 1), none⟩) hbb).trans gy0
    clear gy0
    obtain ⟨y, hy⟩ : ∃ y, y = D[2 * k + 1]?.getD 0 := ⟨_, rfl⟩
    rw [← hy] at gy
    have hyb : y < 65536 := by rw [hy, List.getElem?_eq_getElem hk1]; exact HD.out _ (List.getElem_mem hk1)
    have HY := Lib.hid hy
    have HXX := Lib.hid hX
    clear hy hX
    go_wp2_with (at_builtin; refine wpList_append_own _ rfl (.tmp 35) (.tmp 37) 22 rfl (w.heap.size + 1) 137 i0 (.int .u32 0) 1 4 Tryz.underlying22 hi hz0 hz1 hz2 rfl (by decide) _ _ _ rfl (World.ownsRow.alloc (by have h := HO.out; unfold Ow at h; rw [World.size_alloc] at h; exact h) _) ⟨wr.heap.size, 0, none⟩ 1 1 (uw [x + y * 65536]) rfl rfl ?c1 (uw_oneCell _) ?c2 ?c3 ?c4 ?_)
    case c1 => exact new_one _ _ _ _ (by first | omega | (simp only [IntKind.wrap_u32]; omega))
    case c2 => have := HS.out; unfold maxLen; omega
    case c3 => have := HS.out; omega
    case c4 => have := HNX.out.size; simp at this ⊢; omega
    intro v' w1 hown1 hgrow _
    have HO1 := Lib.hid hown1
    have HG := Lib.hid hgrow
    clear hown1 hgrow
    go_wp2
    go_roundw
    case rel =>
     refine ⟨k + 1, s ++ [x + y * 65536], by go_num, by omega, by rw [List.length_append, HS.out]; rfl, all_snoc HSL.out (by omega), Ow.snoc (by rw [World.size_alloc]; exact HO1.out), ?_, ?_⟩
     ·exact limb_step _ s k x y HS.out HV.out hkl HX.out HY.out
     ·exact (HNX.out.alloc HNX.out.size _).grown HG.out (by have := HNX.out.size; simp at this ⊢; omega) (fun q hq => (HO.out.lt q hq).1)
    case measure => simp [intOf]; omega
   ·have HXX := Lib.hid hX
    clear hX
    go_wp2_with (at_builtin; refine wpList_append_own _ rfl (.tmp 35) (.tmp 37) 22 rfl (w.heap.size + 1) 137 i0 (.int .u32 0) 1 4 Tryz.underlying22 hi hz0 hz1 hz2 rfl (by decide) _ _ _ rfl (World.ownsRow.alloc (by have h := HO.out; unfold Ow at h; rw [World.size_alloc] at h; exact h) _) ⟨wr.heap.size, 0, none⟩ 1 1 (uw [x + 0 * 65536]) rfl rfl ?c1 (uw_oneCell _) ?c2 ?c3 ?c4 ?_)
    case c1 => exact new_one _ _ _ _ (by first | omega | (simp only [IntKind.wrap_u32]; omega))
    case c2 => have := HS.out; unfold maxLen; omega
    case c3 => have := HS.out; omega
    case c4 => have := HNX.out.size; simp at this ⊢; omega
    intro v' w1 hown1 hgrow _
    have HO1 := Lib.hid hown1
    have HG := Lib.hid hgrow
    clear hown1 hgrow
    go_wp2
    go_roundw
    case rel =>
     refine ⟨k + 1, s ++ [x + 0 * 65536], by go_num, by omega, by rw [List.length_append, HS.out]; rfl, all_snoc HSL.out (by omega), Ow.snoc (by rw [World.size_alloc]; exact HO1.out), ?_, ?_⟩
     ·exact limb_step _ s k x 0 HS.out HV.out hkl HX.out (by rw [List.getElem?_eq_none (by omega)]; rfl)
     ·exact (HNX.out.alloc HNX.out.size _).grown HG.out (by have := HNX.out.size; simp at this ⊢; omega) (fun q hq => (HO.out.lt q hq).1)
    case measure => simp [intOf]; omega
  ·have e : s = digs 4294967296 (vl 65536 D) := by
    have h1 := HV.out
    rw [List.take_of_length_le (by omega)] at h1
    rw [← h1]
    refine digs_of_len (by decide) s HSL.out ?_
    rw [h1]
    rcases HN.out with h2 | h2
    ·left
     rw [HS.out]
     rw [h2] at hk hkl
     simp only [List.length_nil] at hk hkl
     omega
    ·by_cases h0 : k = 0
     ·left; rw [HS.out]; exact h0
     ·right
      rw [pow_two_base, HS.out]
      exact Nat.le_trans (Nat.pow_le_pow_right (by decide) (by omega)) h2
   have HE := Lib.hid e
   clear e
   go_wp2
   go_ret
   refine ⟨_, rfl, ?_, ((Below.refl _ _).alloc (Nat.le_refl _) _).trans (HNX.out.mono (by simp))⟩
   have h3 := HO.out
   rw [← HE.out]
   obtain ⟨h4, h5⟩ := h3
   refine ⟨h4, ?_⟩
   rcases h5 with h5 | ⟨g, cap, cur, h6, h7, h8⟩
   ·exact .inl h5
   ·exact .inr ⟨g, cap, cur, h6, by simp at h7; omega, h8⟩
end
section
open Go.RowKit Digs
def rlen (z : Int) : Nat := (digs 65536 z.natAbs).length
theorem rlimbs_any (z : Int) (v : Value) (w : World) (hl : rlen z ≤ 1000000) (h : RefV w v z) :
  Calls Tryz.prog 105 #[v] w (OwPost w (digs 4294967296 z.natAbs)) := by
 obtain ⟨ad, n, c, rfl, hr⟩ := h
 obtain ⟨ad', c', hv, ra⟩ := hr.opt
 cases hv
 have := rlimbs_core (decide (z < 0)) ad c _ w hl ra (digs_lt (by decide) _) (by
  rw [vl_digs (by decide)]
  by_cases h0 : z.natAbs = 0
  ·left; rw [h0, digs_zero]
  ·right; exact digs_pow_le (by decide) _ h0)
 rw [vl_digs (by decide)] at this
 exact this
theorem box2two {w w2 : World} {a b c d : Value} {t u : TypeId} (h : Below ((w.alloc (.cells #[a, b] t)).alloc (.cells #[c, d] u)).heap.size ((w.alloc (.cells #[a, b] t)).alloc (.cells #[c, d] u)) w2) :
  w2.cell? ⟨w.heap.size, 0, none⟩ = some a ∧ w2.cell? ⟨w.heap.size, 1, none⟩ = some b ∧ w2.cell? ⟨w.heap.size + 1, 0, none⟩ = some c ∧ w2.cell? ⟨w.heap.size + 1, 1, none⟩ = some d := by
 refine ⟨?_, ?_, ?_, ?_⟩
 ·rw [h.cell (p := ⟨w.heap.size, 0, none⟩) (by simp; omega), World.cell?_alloc_past _ _ _ (by simp), World.cell?_alloc_at _ _ _ _ rfl]; rfl
 ·rw [h.cell (p := ⟨w.heap.size, 1, none⟩) (by simp; omega), World.cell?_alloc_past _ _ _ (by simp), World.cell?_alloc_at _ _ _ _ rfl]; rfl
 ·rw [h.cell (p := ⟨w.heap.size + 1, 0, none⟩) (by simp), World.cell?_alloc_at _ _ _ _ (by simp)]; rfl
 ·rw [h.cell (p := ⟨w.heap.size + 1, 1, none⟩) (by simp), World.cell?_alloc_at _ _ _ _ (by simp)]; rfl
theorem below2 (w : World) (a b : Obj) : Below w.heap.size w ((w.alloc a).alloc b) := ((Below.refl _ _).alloc (Nat.le_refl _) _).alloc (by simp) _
def BoolPost (w : World) (b : Bool) (e : Ending) (w' : World) : Prop := e = .returned (.bool b) ∧ Below w.heap.size w w'
set_option maxHeartbeats 2000000 in
set_option maxRecDepth 100000 in
theorem is_any (x y : Int) (vx vy : Value) (w : World) (hx : len x ≤ 1000000) (hy : rlen y ≤ 1000000) (ha : IntV w vx x) (hb : RefV w vy y) :
  Calls Tryz.prog 48 #[vx, vy] w (BoolPost w (decide (x = y))) := by
 have HL := fun W hw => Lib.hid (limbs_any x vx W hx (ha.keep (w' := W) hw))
 have HR := fun W hw => Lib.hid (rlimbs_any y vy W hy (hb.keep (w' := W) hw))
 have HE := fun va vb W h1 h2 => Lib.hid (equal_any va vb (digs 4294967296 x.natAbs) (digs 4294967296 y.natAbs) W hx h1 h2)
 obtain ⟨adx, nx, cx, rfl, _⟩ := ha
 obtain ⟨ady, ny, cy, rfl, _⟩ := hb
 have HL := Lib.hid HL
 have HR := Lib.hid HR
 have HE := Lib.hid HE
 clear hx hy
 generalize hbx : decide (x < 0) = bx at *
 generalize hby : decide (y < 0) = by' at *
 have HBX := Lib.hid hbx
 have HBY := Lib.hid hby
 clear hbx hby
 by_cases hs : bx = by'
 ·subst hs
  go_enter Tryz.func48, Tryz.ntmps48
  go_wp2_with fail
  refine (HL.out _ (below2 _ _ _)).out.mono ?_
  rintro e w1 ⟨v1, rfl, hr1, hb1⟩
  obtain ⟨cA, cB, cC, cD⟩ := box2two hb1
  have HB1 := Lib.hid hb1
  have HR1 := Lib.hid hr1
  rw [HBX.out]
  clear hb1 hr1
  have h2 := HR.out w1 ((below2 _ _ _).trans (HB1.out.mono (by simp <;> omega)))
  go_wp2_with fail
  refine h2.out.mono ?_
  rintro e w2 ⟨v2, rfl, hr2, hb2⟩
  have h3 := HE.out v1 v2 w2 (HR1.out.keep hb2) hr2.rd
  have HB2 := Lib.hid hb2
  clear hb2 hr2 h2
  go_wp2_with fail
  refine h3.out.mono ?_
  rintro e w3 ⟨rfl, d, rfl⟩
  have e : decide (digs 4294967296 x.natAbs = digs 4294967296 y.natAbs) = decide (x = y) := by
   rw [decide_eq_decide]
   have h4 := HBX.out
   have h5 := HBY.out
   rw [← h5, decide_eq_decide] at h4
   constructor
   ·intro h
    have := digs_inj (by decide) h
    omega
   ·rintro rfl; rfl
  rw [e]
  clear h3 e
  go_wp2
  go_ret
  exact ⟨rfl, below_drewN' (((below2 _ _ _).trans (HB1.out.mono (by simp <;> omega))).trans (HB2.out.mono (Nat.le_trans (by simp <;> omega) HB1.out.size))) _⟩
 ·have hs' : (bx == by') = false := by simpa using hs
  have e : decide (x = y) = false := by
   rw [decide_eq_false_iff_not]
   rintro rfl
   exact hs (HBX.out.symm.trans HBY.out)
  rw [e]
  clear e hs
  go_enter Tryz.func48, Tryz.ntmps48
  go_wp2_with fail
  refine (HL.out _ (below2 _ _ _)).out.mono ?_
  rintro e w1 ⟨v1, rfl, hr1, hb1⟩
  obtain ⟨cA, cB, cC, cD⟩ := box2two hb1
  have HB1 := Lib.hid hb1
  rw [HBX.out]
  clear hb1 hr1
  go_wp2
  go_ret
  exact ⟨rfl, (below2 _ _ _).trans (HB1.out.mono (by simp <;> omega))⟩
end
end Go.Proofs.YtghgcbedajaldaaGreat
