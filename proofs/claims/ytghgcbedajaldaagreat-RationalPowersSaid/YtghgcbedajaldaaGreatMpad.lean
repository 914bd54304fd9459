/-  Is  -/
import Derived.Test.YtghgcbedajaldaaGreatMpac
/-  IBase RefNum Num Eq Is  -/
namespace Go.Proofs.YtghgcbedajaldaaGreat
section
open Go.RowKit Digs
theorem Tryz.infoI64 : (Tryz.prog.info? 3).map (fun i => (i.zero, i.size, i.bytes)) = some (some (.int .i64 0), 1, 8) := by kernel_rfl
def iw (l : List Nat) : List Value := l.map fun n : Nat => Value.int .i64 (n : Int)
theorem iw_length (l : List Nat) : (iw l).length = l.length := by simp [iw]
theorem iw_append (l m : List Nat) : iw (l ++ m) = iw l ++ iw m := by simp [iw]
theorem iw_oneCell (l : List Nat) : ∀ u ∈ iw l, u.oneCell' = true := by
 intro u hu
 simp only [iw, List.mem_map] at hu
 obtain ⟨n, _, rfl⟩ := hu
 rfl
theorem iw_getElem? (l : List Nat) (j : Nat) (h : j < l.length) : (iw l)[j]? = some (.int .i64 ((l[j]?.getD 0 : Nat) : Int)) := by
 simp [iw, List.getElem?_map, List.getElem?_eq_getElem h]
def Oi (w : World) (base : Nat) (v : Value) (l : List Nat) : Prop := w.ownsRow base 3 1 v l.length (iw l)
theorem Oi.rd {w : World} {base : Nat} {v : Value} {l : List Nat} (h : Oi w base v l) : Rd .i64 w v l := by
 have h0 := h
 obtain ⟨_, ⟨rfl, hn⟩ | ⟨g, cap, cur, rfl, _, hg, hc, hm, _, ht⟩⟩ := h
 ·exact .inl ⟨rfl, List.eq_nil_of_length_eq_zero hn⟩
 ·refine .inr ⟨g, 0, cap, rfl, (Array.getElem?_eq_some_iff.1 hg).1, hc, hm, fun j hj => ?_⟩
  rw [Nat.zero_add, World.cell?]
  simp only [hg]
  have h1 := iw_getElem? l j hj
  rw [← ht, List.getElem?_take, if_pos (by omega)] at h1
  simpa using h1
theorem Oi.keep {w w' : World} {base : Nat} {v : Value} {l : List Nat} (h : Oi w base v l) (hb : Below w.heap.size w w') : Oi w' base v l := by
 refine ⟨h.1, ?_⟩
 rcases h.2 with hn | ⟨g, cap, cur, rfl, hg, hgg, rest⟩
 ·exact .inl hn
 ·exact .inr ⟨g, cap, cur, rfl, hg, by rw [hb.block g (Array.getElem?_eq_some_iff.1 hgg).1]; exact hgg, rest⟩
theorem new_int (w : World) (t : TypeId) (n : Nat) (z : Int) (h : z = n) : ∀ (j : Nat) (u : Value), (iw [n])[j]? = some u → (w.alloc (.cells #[.int .i64 z] t)).cell? ((⟨w.heap.size, 0, none⟩ : Addr).add j) = some u := by
 subst h
 intro j u hu
 match j, hu with
 | 0, hu =>
  simp [iw] at hu
  subst hu
  rw [Addr.add_lit, World.cell?_alloc_at _ _ _ _ rfl]
  rfl
theorem Oi.snoc {w : World} {base : Nat} {v : Value} {s : List Nat} {x : Nat} (h : w.ownsRow base 3 1 v (s.length + 1) (iw s ++ iw [x])) : Oi w base v (s ++ [x]) := by
 unfold Oi
 rw [iw_append, List.length_append]
 exact h
def TrimPostI (b off cap : Nat) (l : List Nat) (w : World) (e : Ending) (w' : World) : Prop :=
 ∃ k, e = .returned (.slice (some ⟨b, off, none⟩) k cap) ∧ k ≤ l.length ∧ (∀ j, k ≤ j → l[j]?.getD 0 = 0) ∧ (k = 0 ∨ l[k - 1]?.getD 0 ≠ 0) ∧ w = w'
set_option maxHeartbeats 400000 in
theorem trimmed_some (b off cap : Nat) (l : List Nat) (w : World) (hlc : l.length ≤ cap) (hcm : cap ≤ maxLen)
  (hc : ∀ j, j < l.length → w.cell? ⟨b, off + j, none⟩ = some (.int .i64 ((l[j]?.getD 0 : Nat) : Int))) :
  Calls Tryz.prog 156 #[.slice (some ⟨b, off, none⟩) l.length cap] w (TrimPostI b off cap l w) := by
 unfold maxLen at hcm
 go_enter Tryz.func156, Tryz.ntmps156
 go_wp2
 go_loop [3] (fun n => ∃ k : Nat, k ≤ l.length ∧ n = .int .i64 k ∧ ∀ j, k ≤ j → l[j]?.getD 0 = 0) (fun n => (intOf n).toNat)
 case atStart => exact ⟨l.length, Nat.le_refl _, rfl, fun j hj => by rw [List.getElem?_eq_none hj]; rfl⟩
 case round =>
  obtain ⟨k, hk, rfl, hz⟩ := hrel
  have HZ := Lib.hid hz
  clear hz
  by_cases h0 : 0 < k
  ·have hcell := hc (k - 1) (by omega)
   by_cases hx : l[k - 1]?.getD 0 = 0
   ·have hcell0 : w.cell? ⟨b, off + (k - 1), none⟩ = some (.int .i64 0) := by rw [hcell, hx]; rfl
    have HX := Lib.hid hx
    clear hcell hc hx
    go_wp2
    go_round
    case rel =>
     refine ⟨k - 1, by omega, by go_num, fun j hj => ?_⟩
     by_cases hjk : j = k - 1
     ·rw [hjk]; exact HX.out
     ·exact HZ.out j (by omega)
    case measure => simp [intOf]; omega
   ·have hne : (((l[k - 1]?.getD 0 : Nat) : Int) == 0) = false := by rw [beq_eq_false_iff_ne]; omega
    clear hc
    go_wp2
    go_ret
    exact ⟨k, rfl, hk, HZ.out, .inr hx, rfl⟩
  ·obtain rfl : k = 0 := by omega
   clear hc
   go_wp2
   go_ret
   exact ⟨0, rfl, Nat.zero_le _, HZ.out, .inl rfl, rfl⟩
set_option maxHeartbeats 400000 in
theorem trimmed_nil (w : World) :
  Calls Tryz.prog 156 #[.slice none 0 0] w fun e w' => e = .returned (.slice none 0 0) ∧ w = w' := by
 go_enter Tryz.func156, Tryz.ntmps156
 go_wp2
 refine wp_loop_rounds 1 ?_
 rw [rounds_succ]
 go_wp2
 go_ret
 exact ⟨rfl, rfl⟩
theorem trimmed_digs {l : List Nat} {k : Nat} (hl : ∀ x ∈ l, x < 65536) (h1 : k ≤ l.length) (h2 : ∀ j, k ≤ j → l[j]?.getD 0 = 0) (h3 : k = 0 ∨ l[k - 1]?.getD 0 ≠ 0) :
  l.take k = digs 65536 (vl 65536 l) := digs_trim (by decide) l k hl h1 h2 h3
theorem Oi.headN {w : World} {base g cap n : Nat} {l d : List Nat} (h : Oi w base (.slice (some ⟨g, 0, none⟩) l.length cap) l) (hn : n ≤ l.length) (hd : l.take n = d) : Oi w base (.slice (some ⟨g, 0, none⟩) n cap) d := by
 subst hd
 have hlen : (l.take n).length = n := by rw [List.length_take]; omega
 obtain ⟨_, ⟨hv, _⟩ | ⟨g', cap', cur, hv, hb, hg, hc, hm, hs, ht⟩⟩ := h
 ·cases hv
 ·cases hv
  refine ⟨by simp [iw_length], .inr ⟨g, cap, cur, by rw [hlen], hb, hg, by omega, hm, hs, ?_⟩⟩
  rw [hlen, Nat.mul_one]
  rw [Nat.mul_one] at ht
  have h1 : (cur.toList.take l.length).take n = (iw l).take n := by rw [ht]
  rw [List.take_take, Nat.min_eq_left hn] at h1
  rw [h1]
  simp [iw]
theorem trimmed_oi {w : World} {base : Nat} {v : Value} {l : List Nat} (h : Oi w base v l) (hlt : ∀ x ∈ l, x < 65536) :
  Calls Tryz.prog 156 #[v] w fun e w' => (∃ v', e = .returned v' ∧ Oi w base v' (digs 65536 (vl 65536 l))) ∧ w = w' := by
 have hr := h.rd
 have h' := h
 rcases h.2 with ⟨rfl, hn⟩ | ⟨g, cap, cur, rfl, _, _, hc, hm, _⟩
 ·obtain rfl := List.eq_nil_of_length_eq_zero hn
  exact (trimmed_nil w).mono fun _ _ ⟨he, hw⟩ => ⟨⟨_, he, by rw [vl, digs_zero]; exact World.ownsRow_nil _ _ _ _⟩, hw⟩
 ·have hcells : ∀ j, j < l.length → w.cell? ⟨g, 0 + j, none⟩ = some (.int .i64 ((l[j]?.getD 0 : Nat) : Int)) := by
   rcases hr with ⟨hv, _⟩ | ⟨b, off, cap', hv, _, _, _, h4⟩
   ·cases hv
   ·cases hv; exact h4
  refine (trimmed_some g 0 cap l w hc hm hcells).mono ?_
  rintro e w' ⟨k, rfl, h1, h2, h3, rfl⟩
  exact ⟨⟨_, rfl, Oi.headN h' h1 (trimmed_digs hlt h1 h2 h3)⟩, rfl⟩
def Ri (w : World) (base g N : Nat) (p : List Nat) : Prop := p.length = N ∧ w.ownsRow base 3 1 (.slice (some ⟨g, 0, none⟩) N N) N (iw p)
theorem Ri.cell {w : World} {base g N : Nat} {p : List Nat} (h : Ri w base g N p) (j : Nat) (hj : j < N) : w.cell? ⟨g, j, none⟩ = some (.int .i64 ((p[j]?.getD 0 : Nat) : Int)) := by
 rw [h.2.cellAt j (by omega), iw_getElem? _ _ (by rw [h.1]; exact hj)]
theorem Ri.frozen {w : World} {base g N : Nat} {p : List Nat} (h : Ri w base g N p) (j : Nat) : w.frozen? ⟨g, j, none⟩ = false := h.2.frozenAt j
theorem iw_set (p : List Nat) (j x : Nat) : iw (p.set j x) = (iw p).set j (.int .i64 (x : Int)) := by unfold iw; rw [List.map_set]
theorem Ri.store {w : World} {base g N : Nat} {p : List Nat} (h : Ri w base g N p) (j x : Nat) (z : Int) (hz : z = x) : Ri (w.setCell ⟨g, j, none⟩ (.int .i64 z)) base g N (p.set j x) := by
 subst hz
 exact ⟨by rw [List.length_set, h.1], by rw [iw_set]; exact (h.2.stored j _).1⟩
theorem Ri.oi {w : World} {base g N : Nat} {p : List Nat} (h : Ri w base g N p) : Oi w base (.slice (some ⟨g, 0, none⟩) N N) p := by
 unfold Oi; rw [h.1]; exact h.2
theorem Ri.lt {w : World} {base g N : Nat} {p : List Nat} (h : Ri w base g N p) : base ≤ g ∧ g < w.heap.size := h.2.lt g rfl
theorem iw_zeros (n : Nat) : (madeCells #[Value.int .i64 0] n).toList = iw (List.replicate n 0) := by
 rw [toList_madeCells_one]; simp [iw]
end
section
open Go.RowKit Digs
def RefV (w : World) (v : Value) (z : Int) : Prop := ∃ ad n c, v = .agg #[.bool (decide (z < 0)), .slice ad n c] ∧ Rd .i64 w (.slice ad n c) (digs 65536 z.natAbs)
def RefPost (w : World) (z : Int) (e : Ending) (w' : World) : Prop := ∃ v, e = .returned v ∧ RefV w' v z ∧ Below w.heap.size w w'
theorem RefV.keep {w w' : World} {v : Value} {z : Int} (h : RefV w v z) (hb : Below w.heap.size w w') : RefV w' v z := by
 obtain ⟨ad, n, c, rfl, hr⟩ := h
 exact ⟨ad, n, c, rfl, hr.keep hb⟩
theorem Rd.headN {k : IntKind} {w : World} {b off cap n : Nat} {l d : List Nat} (h : Rd k w (.slice (some ⟨b, off, none⟩) l.length cap) l) (hn : n ≤ l.length) (hd : l.take n = d) : Rd k w (.slice (some ⟨b, off, none⟩) n cap) d := by
 rcases h with ⟨hv, _⟩ | ⟨b', off', cap', hv, h1, h2, h3, h4⟩
 ·cases hv
 ·cases hv
  exact Rd.take h2 h3 h1 h4 hn hd
set_option maxHeartbeats 400000 in
theorem rmade_nil (neg : Bool) (w : World) :
  Calls Tryz.prog 122 #[.bool neg, .slice none 0 0] w fun e w' => e = .returned (.agg #[.bool false, .slice none 0 0]) ∧ Below w.heap.size w w' := by
 cases neg
 all_goals
  go_enter Tryz.func122, Tryz.ntmps122
  go_wp2_with (go_at_call 156; refine (trimmed_nil _).mono ?_; rintro e w' ⟨rfl, rfl⟩)
  exact bodyPost_ret (v := .agg #[.bool false, .slice none 0 0]) (by simp [results, Tryz.results122, go_sem]) rfl ⟨rfl, (Below.refl _ _).alloc (Nat.le_refl _) _⟩
def RmadePost (neg : Bool) (b off cap : Nat) (l : List Nat) (w : World) (e : Ending) (w' : World) : Prop :=
 ∃ k, e = .returned (.agg #[.bool (neg && decide (0 < k)), .slice (some ⟨b, off, none⟩) k cap]) ∧ k ≤ l.length ∧ (∀ j, k ≤ j → l[j]?.getD 0 = 0) ∧ (k = 0 ∨ l[k - 1]?.getD 0 ≠ 0) ∧ Below w.heap.size w w'
set_option maxHeartbeats 400000 in
theorem rmade_some (neg : Bool) (b off cap : Nat) (l : List Nat) (w : World) (hlc : l.length ≤ cap) (hcm : cap ≤ maxLen) (hb : b < w.heap.size)
  (hc : ∀ j, j < l.length → w.cell? ⟨b, off + j, none⟩ = some (.int .i64 ((l[j]?.getD 0 : Nat) : Int))) :
  Calls Tryz.prog 122 #[.bool neg, .slice (some ⟨b, off, none⟩) l.length cap] w (RmadePost neg b off cap l w) := by
 have HT : ∀ o : Obj, Calls Tryz.prog 156 #[.slice (some ⟨b, off, none⟩) l.length cap] (w.alloc o) (TrimPostI b off cap l (w.alloc o)) := fun o =>
  trimmed_some b off cap l _ hlc hcm (fun j hj => by rw [World.cell?_alloc_past _ _ _ hb]; exact hc j hj)
 have H := Lib.hid HT
 clear HT hc
 cases neg
 ·go_enter Tryz.func122, Tryz.ntmps122
  go_wp2_with fail
  refine (H.out _).mono ?_
  rintro e w' ⟨k, rfl, h1, h2, h3, rfl⟩
  have H2 := Lib.hid h2
  have H3 := Lib.hid h3
  clear h2 h3
  go_wp2_with fail
  exact bodyPost_ret (v := .agg #[.bool false, .slice (some ⟨b, off, none⟩) k cap]) (by simp [results, Tryz.results122, go_sem]) rfl ⟨k, rfl, h1, H2.out, H3.out, (Below.refl _ _).alloc (Nat.le_refl _) _⟩
 ·go_enter Tryz.func122, Tryz.ntmps122
  go_wp2_with fail
  refine (H.out _).mono ?_
  rintro e w' ⟨k, rfl, h1, h2, h3, rfl⟩
  have H2 := Lib.hid h2
  have H3 := Lib.hid h3
  clear h2 h3
  by_cases hk : 0 < k
  ·have hd : decide (0 < k) = true := by simpa using hk
   go_wp2_with fail
   exact bodyPost_ret (v := .agg #[.bool true, .slice (some ⟨b, off, none⟩) k cap]) (by simp [results, Tryz.results122, go_sem]) rfl ⟨k, by rw [hd]; rfl, h1, H2.out, H3.out, (Below.refl _ _).alloc (Nat.le_refl _) _⟩
  ·obtain rfl : k = 0 := by omega
   clear hk
   go_wp2_with fail
   exact bodyPost_ret (v := .agg #[.bool false, .slice (some ⟨b, off, none⟩) 0 cap]) (by simp [results, Tryz.results122, go_sem]) rfl ⟨0, rfl, h1, H2.out, .inl rfl, (Below.refl _ _).alloc (Nat.le_refl _) _⟩
theorem rmade_any (neg : Bool) (v : Value) (l : List Nat) (w : World) (h : Rd .i64 w v l) (hlt : ∀ x ∈ l, x < 65536) :
  Calls Tryz.prog 122 #[.bool neg, v] w (RefPost w (sg neg (vl 65536 l))) := by
 have h' := h
 rcases h with ⟨rfl, rfl⟩ | ⟨b, off, cap, rfl, hb, hlc, hcm, hc⟩
 ·refine (rmade_nil neg w).mono fun e w' ⟨he, hw⟩ => ⟨_, he, ⟨_, _, _, ?_, .inl ⟨rfl, ?_⟩⟩, hw⟩
  ·rw [vl]; unfold sg; cases neg <;> rfl
  ·rw [sg_natAbs, vl, digs_zero]
 ·refine (rmade_some neg b off cap l w hlc hcm hb hc).mono ?_
  rintro e w' ⟨k, rfl, h1, h2, h3, hw⟩
  have ht := trimmed_digs hlt h1 h2 h3
  refine ⟨_, rfl, ⟨_, _, _, ?_, by rw [sg_natAbs]; exact Rd.headN (h'.keep hw) h1 ht⟩, hw⟩
  have e : (neg && decide (0 < k)) = decide (sg neg (vl 65536 l) < 0) := by
   have hk : 0 < k ↔ vl 65536 l ≠ 0 := by
    constructor
    ·intro h0 h5
     rw [h5, digs_zero] at ht
     have h6 : (l.take k).length = 0 := by rw [ht]; rfl
     rw [List.length_take] at h6
     omega
    ·intro h0
     rcases Nat.eq_zero_or_pos k with rfl | h6
     ·rw [← vl_digs (b := 65536) (by decide) (vl 65536 l), ← ht] at h0
      exact absurd rfl h0
     ·exact h6
   unfold sg
   cases neg
   ·simp
   ·show (true && decide (0 < k)) = decide (-(vl 65536 l : Int) < 0)
    rw [Bool.true_and, decide_eq_decide, hk]
    omega
  rw [e]
def NewRel (u : Nat) (X : World) (c v : Value) (wr : World) : Prop :=
 ∃ (k t : Nat) (s : List Nat), c = .int .u64 t ∧ k ≤ 4 ∧ t < 65536 ^ (4 - k) ∧ s.length = k ∧ (∀ x ∈ s, x < 65536) ∧ Oi wr X.heap.size v s ∧ vl 65536 s + 65536 ^ k * t = u ∧ Below X.heap.size X wr
theorem wrap_abs (z : Int) (hlo : -9223372036854775808 ≤ z) (hhi : z ≤ 9223372036854775807) :
  (if z < 0 then IntKind.u64.wrap (-IntKind.u64.wrap z) else IntKind.u64.wrap z) = (z.natAbs : Int) := by
 simp only [IntKind.wrap_u64]
 split <;> omega
theorem new_step {k t : Nat} (hk : k ≤ 4) (ht : t < 65536 ^ (4 - k)) (h0 : 0 < t) : k < 4 ∧ t / 65536 < 65536 ^ (4 - (k + 1)) := by
 have h1 : k < 4 := by
  rcases Nat.lt_or_ge k 4 with h | h
  ·exact h
  ·obtain rfl : k = 4 := by omega
   simp at ht; omega
 refine ⟨h1, ?_⟩
 rw [Nat.div_lt_iff_lt_mul (by decide), ← Nat.pow_succ]
 have : (4 - (k + 1)).succ = 4 - k := by omega
 rw [this]
 exact ht
set_option maxHeartbeats 1000000 in
set_option maxRecDepth 100000 in
theorem rnew_neg (z : Int) (w : World) (hlo : -9223372036854775808 ≤ z) (hhi : z ≤ 9223372036854775807) (hz : z < 0) :
  Calls Tryz.prog 87 #[.int .i64 z] w (RefPost w z) := by
 have HU := Lib.hid (wrap_abs z hlo hhi)
 have HA : Hid (z.natAbs < 65536 ^ 4) := by show z.natAbs < 18446744073709551616; omega
 clear hlo hhi
 obtain ⟨i0, hi, hz0, hz1, hz2⟩ := info_parts Tryz.infoI64
 go_enter Tryz.func87, Tryz.ntmps87
 go_wp2_with fail
 go_loopw [3, 4] (NewRel z.natAbs (w.alloc (.cells #[.bool false, .slice none 0 0] 34))) (fun c _ _ => (intOf c).toNat)
 case atStart =>
  have h := HU.out
  rw [if_pos hz] at h
  exact ⟨0, z.natAbs, [], by rw [h], Nat.zero_le _, HA.out, rfl, by simp, World.ownsRow_nil _ _ _ _, by simp [vl], Below.refl _ _⟩
 case round =>
  obtain ⟨k, t, s, rfl, hk, ht, hs, hsl, hown, hv, hnx⟩ := hrel
  have HS := Lib.hid hs
  have HSL := Lib.hid hsl
  have HV := Lib.hid hv
  have HO := Lib.hid hown
  have HNX := Lib.hid hnx
  have HT := Lib.hid ht
  clear hs hsl hv hown hnx ht
  have htb : t < 18446744073709551616 := Nat.lt_of_lt_of_le HT.out (Nat.pow_le_pow_right (n := 65536) (by decide) (show 4 - k ≤ 4 by omega))
  by_cases h0 : 0 < t
  ·obtain ⟨hk4, hstep⟩ := new_step hk HT.out h0
   have HST := Lib.hid hstep
   clear hstep
   go_wp2_with (at_builtin; refine wpList_append_own _ rfl (.tmp 13) (.tmp 17) 32 rfl (w.heap.size + 1) 3 i0 (.int .i64 0) 1 8 Tryz.underlying32 hi hz0 hz1 hz2 rfl (by decide) _ _ _ rfl (World.ownsRow.alloc (by have h := HO.out; unfold Oi at h; rw [World.size_alloc] at h; exact h) _) ⟨wr.heap.size, 0, none⟩ 1 1 (iw [t % 65536]) rfl rfl ?c1 (iw_oneCell _) ?c2 ?c3 ?c4 ?_)
   case c1 => exact new_int _ _ _ _ (by omega)
   case c2 => have := HS.out; unfold maxLen; omega
   case c3 => have := HS.out; omega
   case c4 => have := HNX.out.size; simp at this ⊢; omega
   intro v' w1 hown1 hgrow _
   have HO1 := Lib.hid hown1
   have HG := Lib.hid hgrow
   clear hown1 hgrow
   go_wp2
   go_roundw
   case rel =>
    refine ⟨k + 1, t / 65536, s ++ [t % 65536], by go_num, by omega, HST.out, by rw [List.length_append, HS.out]; rfl, all_snoc HSL.out (Nat.mod_lt _ (by decide)), Oi.snoc (by rw [World.size_alloc]; exact HO1.out), ?_, ?_⟩
    ·rw [vl_snoc, HS.out, Nat.pow_succ]
     have h1 := split_mod (65536 ^ k) 65536 t
     have h2 := HV.out
     omega
    ·exact (HNX.out.alloc HNX.out.size _).grown HG.out (by have := HNX.out.size; simp at this ⊢; omega) (fun q hq => (HO.out.lt q hq).1)
   case measure => simp [intOf]; omega
  ·obtain rfl : t = 0 := by omega
   have hm := rmade_any true _ s wr HO.out.rd HSL.out
   have h2 := HV.out
   rw [Nat.mul_zero, Nat.add_zero] at h2
   rw [h2] at hm
   have HM := Lib.hid hm
   clear hm h2
   go_wp2_with fail
   refine HM.out.mono ?_
   rintro e w2 ⟨v2, rfl, ⟨ad, n, c, rfl, hr2⟩, hb2⟩
   have hB := HNX.out.trans (hb2.mono HNX.out.size)
   obtain ⟨c0, c1, f0, f1, hlt⟩ := box2 hB
   have HR := Lib.hid (hr2.store2 c0 c1 (by intro n h; cases h) (by intro n h; cases h))
   have HBB := Lib.hid hB
   have e : sg true z.natAbs = z := by unfold sg; simp; omega
   have HE := Lib.hid e
   clear hB hb2 hr2 e
   go_wp2_with fail
   refine bodyPost_ret (v := .agg #[.bool (decide (sg true z.natAbs < 0)), .slice ad n c]) (by simp [results, Tryz.results87, go_sem, c0, c1]) rfl ⟨_, rfl, ⟨_, _, _, by rw [HE.out], ?_⟩, ?_⟩
   ·have := HR.out (.bool (decide (sg true z.natAbs < 0))) (.slice ad n c)
    rw [HE.out] at this ⊢
    exact this
   ·exact ((((Below.refl _ _).alloc (Nat.le_refl _) _).trans (HBB.out.mono (by simp))).setCell (by simp) _).setCell (by simp) _
set_option maxHeartbeats 1000000 in
set_option maxRecDepth 100000 in
theorem rnew_pos (z : Int) (w : World) (hlo : -9223372036854775808 ≤ z) (hhi : z ≤ 9223372036854775807) (hz : ¬ z < 0) :
  Calls Tryz.prog 87 #[.int .i64 z] w (RefPost w z) := by
 have HU := Lib.hid (wrap_abs z hlo hhi)
 have HA : Hid (z.natAbs < 65536 ^ 4) := by show z.natAbs < 18446744073709551616; omega
 clear hlo hhi
 have hzd : decide (z < 0) = false := by simp; omega
 obtain ⟨i0, hi, hz0, hz1, hz2⟩ := info_parts Tryz.infoI64
 go_enter Tryz.func87, Tryz.ntmps87
 go_wp2_with fail
 go_loopw [3, 4] (NewRel z.natAbs (w.alloc (.cells #[.bool false, .slice none 0 0] 34))) (fun c _ _ => (intOf c).toNat)
 case atStart =>
  have h := HU.out
  rw [if_neg (by omega)] at h
  exact ⟨0, z.natAbs, [], by rw [h], Nat.zero_le _, HA.out, rfl, by simp, World.ownsRow_nil _ _ _ _, by simp [vl], Below.refl _ _⟩
 case round =>
  obtain ⟨k, t, s, rfl, hk, ht, hs, hsl, hown, hv, hnx⟩ := hrel
  have HS := Lib.hid hs
  have HSL := Lib.hid hsl
  have HV := Lib.hid hv
  have HO := Lib.hid hown
  have HNX := Lib.hid hnx
  have HT := Lib.hid ht
  clear hs hsl hv hown hnx ht
  have htb : t < 18446744073709551616 := Nat.lt_of_lt_of_le HT.out (Nat.pow_le_pow_right (n := 65536) (by decide) (show 4 - k ≤ 4 by omega))
  by_cases h0 : 0 < t
  ·obtain ⟨hk4, hstep⟩ := new_step hk HT.out h0
   have HST := Lib.hid hstep
   clear hstep
   go_wp2_with (at_builtin; refine wpList_append_own _ rfl (.tmp 13) (.tmp 17) 32 rfl (w.heap.size + 1) 3 i0 (.int .i64 0) 1 8 Tryz.underlying32 hi hz0 hz1 hz2 rfl (by decide) _ _ _ rfl (World.ownsRow.alloc (by have h := HO.out; unfold Oi at h; rw [World.size_alloc] at h; exact h) _) ⟨wr.heap.size, 0, none⟩ 1 1 (iw [t % 65536]) rfl rfl ?c1 (iw_oneCell _) ?c2 ?c3 ?c4 ?_)
   case c1 => exact new_int _ _ _ _ (by omega)
   case c2 => have := HS.out; unfold maxLen; omega
   case c3 => have := HS.out; omega
   case c4 => have := HNX.out.size; simp at this ⊢; omega
   intro v' w1 hown1 hgrow _
   have HO1 := Lib.hid hown1
   have HG := Lib.hid hgrow
   clear hown1 hgrow
   go_wp2
   go_roundw
   case rel =>
    refine ⟨k + 1, t / 65536, s ++ [t % 65536], by go_num, by omega, HST.out, by rw [List.length_append, HS.out]; rfl, all_snoc HSL.out (Nat.mod_lt _ (by decide)), Oi.snoc (by rw [World.size_alloc]; exact HO1.out), ?_, ?_⟩
    ·rw [vl_snoc, HS.out, Nat.pow_succ]
     have h1 := split_mod (65536 ^ k) 65536 t
     have h2 := HV.out
     omega
    ·exact (HNX.out.alloc HNX.out.size _).grown HG.out (by have := HNX.out.size; simp at this ⊢; omega) (fun q hq => (HO.out.lt q hq).1)
   case measure => simp [intOf]; omega
  ·obtain rfl : t = 0 := by omega
   have hm := rmade_any false _ s wr HO.out.rd HSL.out
   have h2 := HV.out
   rw [Nat.mul_zero, Nat.add_zero] at h2
   rw [h2] at hm
   have HM := Lib.hid hm
   clear hm h2
   go_wp2_with fail
   refine HM.out.mono ?_
   rintro e w2 ⟨v2, rfl, ⟨ad, n, c, rfl, hr2⟩, hb2⟩
   have hB := HNX.out.trans (hb2.mono HNX.out.size)
   obtain ⟨c0, c1, f0, f1, hlt⟩ := box2 hB
   have HR := Lib.hid (hr2.store2 c0 c1 (by intro n h; cases h) (by intro n h; cases h))
   have HBB := Lib.hid hB
   have e : sg false z.natAbs = z := by unfold sg; simp; omega
   have HE := Lib.hid e
   clear hB hb2 hr2 e
   go_wp2_with fail
   refine bodyPost_ret (v := .agg #[.bool (decide (sg false z.natAbs < 0)), .slice ad n c]) (by simp [results, Tryz.results87, go_sem, c0, c1]) rfl ⟨_, rfl, ⟨_, _, _, by rw [HE.out], ?_⟩, ?_⟩
   ·have := HR.out (.bool (decide (sg false z.natAbs < 0))) (.slice ad n c)
    rw [HE.out] at this ⊢
    exact this
   ·exact ((((Below.refl _ _).alloc (Nat.le_refl _) _).trans (HBB.out.mono (by simp))).setCell (by simp) _).setCell (by simp) _
theorem rnew_any (z : Int) (w : World) (hlo : -9223372036854775808 ≤ z) (hhi : z ≤ 9223372036854775807) :
  Calls Tryz.prog 87 #[.int .i64 z] w (RefPost w z) := by
 by_cases h : z < 0
 ·exact rnew_neg z w hlo hhi h
 ·exact rnew_pos z w hlo hhi h
end
section
open Go.RowKit Digs
theorem Rd.two (w : World) (t : TypeId) (a b : Int) (x y g : Nat) (hg : g = w.heap.size) (ha : a = x) (hb : b = y) : Rd .u32 (w.alloc (.cells #[.int .u32 a, .int .u32 b] t)) (.slice (some ⟨g, 0, none⟩) 2 2) [x, y] := by
 subst hg ha hb
 refine .inr ⟨w.heap.size, 0, 2, rfl, by simp, by simp, by unfold maxLen; omega, fun j hj => ?_⟩
 rw [World.cell?_alloc_at _ _ _ _ rfl]
 simp only [List.length_cons, List.length_nil] at hj
 rcases (show j = 0 ∨ j = 1 by omega) with rfl | rfl <;> rfl
set_option maxHeartbeats 1000000 in
set_option maxRecDepth 100000 in
theorem new_neg (z : Int) (w : World) (hlo : -9223372036854775808 ≤ z) (hhi : z ≤ 9223372036854775807) (hz : z < 0) :
  Calls Tryz.prog 65 #[.int .i64 z] w (IntPost w z) := by
 have HU := Lib.hid (wrap_abs z hlo hhi)
 have HA : Hid (z.natAbs < 18446744073709551616) := by show z.natAbs < 18446744073709551616; omega
 clear hlo hhi
 have hzd : decide (z < 0) = true := by simp; omega
 go_enter Tryz.func65, Tryz.ntmps65
 go_wp2_with fail
 refine (own_any true _ [z.natAbs % 4294967296, z.natAbs / 4294967296] _ (Rd.two _ _ _ _ _ _ _ ?h1 ?h2 ?h3) ?h4).mono ?_
 case h1 => simp
 case h2 => have h := HU.out; rw [if_pos hz] at h; rw [h]; omega
 case h3 => have h := HU.out; have := HA.out; rw [if_pos hz] at h; rw [h]; omega
 case h4 =>
  have := HA.out
  intro x hx
  simp only [List.mem_cons, List.not_mem_nil, or_false] at hx
  rcases hx with rfl | rfl <;> omega
 rintro e w2 ⟨v2, rfl, ⟨ad, n, c, rfl, hr2⟩, hb2⟩
 have hB := ((Below.refl _ _).alloc (Nat.le_refl _) _).trans (hb2.mono (by simp))
 obtain ⟨c0, c1, f0, f1, hlt⟩ := box2 hB
 have HR := Lib.hid (hr2.store2 c0 c1 (by intro n h; cases h) (by intro n h; cases h))
 have HBB := Lib.hid hB
 have e : sg true (vl 4294967296 [z.natAbs % 4294967296, z.natAbs / 4294967296]) = z := by
  simp only [vl]
  show -(((z.natAbs % 4294967296 + 4294967296 * (z.natAbs / 4294967296 + 4294967296 * 0) : Nat) : Int)) = z
  omega
 have HE := Lib.hid e
 clear hB hb2 hr2 e
 go_wp2_with fail
 refine bodyPost_ret (v := .agg #[.bool (decide (sg true (vl 4294967296 [z.natAbs % 4294967296, z.natAbs / 4294967296]) < 0)), .slice ad n c]) (by simp [results, Tryz.results65, go_sem, c0, c1]) rfl ⟨_, rfl, ⟨_, _, _, by rw [HE.out], ?_⟩, ?_⟩
 ·have := HR.out (.bool (decide (sg true (vl 4294967296 [z.natAbs % 4294967296, z.natAbs / 4294967296]) < 0))) (.slice ad n c)
  rw [HE.out] at this ⊢
  exact this
 ·exact ((((Below.refl _ _).alloc (Nat.le_refl _) _).trans (HBB.out.mono (by simp))).setCell (by simp) _).setCell (by simp) _
set_option maxHeartbeats 1000000 in
set_option maxRecDepth 100000 in
theorem new_pos (z : Int) (w : World) (hlo : -9223372036854775808 ≤ z) (hhi : z ≤ 9223372036854775807) (hz : ¬ z < 0) :
  Calls Tryz.prog 65 #[.int .i64 z] w (IntPost w z) := by
 have HU := Lib.hid (wrap_abs z hlo hhi)
 have HA : Hid (z.natAbs < 18446744073709551616) := by show z.natAbs < 18446744073709551616; omega
 clear hlo hhi
 have hzd : decide (z < 0) = false := by simp; omega
 go_enter Tryz.func65, Tryz.ntmps65
 go_wp2_with fail
 refine (own_any false _ [z.natAbs % 4294967296, z.natAbs / 4294967296] _ (Rd.two _ _ _ _ _ _ _ ?h1 ?h2 ?h3) ?h4).mono ?_
 case h1 => simp
 case h2 => have h := HU.out; rw [if_neg (by omega)] at h; rw [h]; omega
 case h3 => have h := HU.out; have := HA.out; rw [if_neg (by omega)] at h; rw [h]; omega
 case h4 =>
  have := HA.out
  intro x hx
  simp only [List.mem_cons, List.not_mem_nil, or_false] at hx
  rcases hx with rfl | rfl <;> omega
 rintro e w2 ⟨v2, rfl, ⟨ad, n, c, rfl, hr2⟩, hb2⟩
 have hB := ((Below.refl _ _).alloc (Nat.le_refl _) _).trans (hb2.mono (by simp))
 obtain ⟨c0, c1, f0, f1, hlt⟩ := box2 hB
 have HR := Lib.hid (hr2.store2 c0 c1 (by intro n h; cases h) (by intro n h; cases h))
 have HBB := Lib.hid hB
 have e : sg false (vl 4294967296 [z.natAbs % 4294967296, z.natAbs / 4294967296]) = z := by
  simp only [vl]
  show ((z.natAbs % 4294967296 + 4294967296 * (z.natAbs / 4294967296 + 4294967296 * 0) : Nat) : Int) = z
  omega
 have HE := Lib.hid e
 clear hB hb2 hr2 e
 go_wp2_with fail
 refine bodyPost_ret (v := .agg #[.bool (decide (sg false (vl 4294967296 [z.natAbs % 4294967296, z.natAbs / 4294967296]) < 0)), .slice ad n c]) (by simp [results, Tryz.results65, go_sem, c0, c1]) rfl ⟨_, rfl, ⟨_, _, _, by rw [HE.out], ?_⟩, ?_⟩
 ·have := HR.out (.bool (decide (sg false (vl 4294967296 [z.natAbs % 4294967296, z.natAbs / 4294967296]) < 0))) (.slice ad n c)
  rw [HE.out] at this ⊢
  exact this
 ·exact ((((Below.refl _ _).alloc (Nat.le_refl _) _).trans (HBB.out.mono (by simp))).setCell (by simp) _).setCell (by simp) _
theorem new_any (z : Int) (w : World) (hlo : -9223372036854775808 ≤ z) (hhi : z ≤ 9223372036854775807) :
  Calls Tryz.prog 65 #[.int .i64 z] w (IntPost w z) := by
 by_cases h : z < 0
 ·exact new_neg z w hlo hhi h
 ·exact new_pos z w hlo hhi h
theorem box1 {w w2 : World} {a b : Value} {t : TypeId} (h : Below (w.alloc (.cells #[a, b] t)).heap.size (w.alloc (.cells #[a, b] t)) w2) :
  w2.cell? ⟨w.heap.size, 0, none⟩ = some a ∧ w2.cell? ⟨w.heap.size, 1, none⟩ = some b := ⟨(box2 h).1, (box2 h).2.1⟩
end
section
open Go.RowKit Digs
theorem drewN2 (w : World) (a b : Nat) : ∃ n, (w.drewN a).drewN b = w.drewN n := ⟨a + b, by rw [World.drewN_drewN]⟩
theorem pow_two_base (k : Nat) : (4294967296 : Nat) ^ k = 65536 ^ (2 * k) := by
 rw [Nat.pow_mul]
end
section
open Go.RowKit Digs
def rlen (z : Int) : Nat := (digs 65536 z.natAbs).length
theorem box2two {w w2 : World} {a b c d : Value} {t u : TypeId} (h : Below ((w.alloc (.cells #[a, b] t)).alloc (.cells #[c, d] u)).heap.size ((w.alloc (.cells #[a, b] t)).alloc (.cells #[c, d] u)) w2) :
  w2.cell? ⟨w.heap.size, 0, none⟩ = some a ∧ w2.cell? ⟨w.heap.size, 1, none⟩ = some b ∧ w2.cell? ⟨w.heap.size + 1, 0, none⟩ = some c ∧ w2.cell? ⟨w.heap.size + 1, 1, none⟩ = some d := by
 refine ⟨?_, ?_, ?_, ?_⟩
 ·rw [h.cell (p := ⟨w.heap.size, 0, none⟩) (by simp; omega), World.cell?_alloc_past _ _ _ (by simp), World.cell?_alloc_at _ _ _ _ rfl]; rfl
 ·rw [h.cell (p := ⟨w.heap.size, 1, none⟩) (by simp; omega), World.cell?_alloc_past _ _ _ (by simp), World.cell?_alloc_at _ _ _ _ rfl]; rfl
 ·rw [h.cell (p := ⟨w.heap.size + 1, 0, none⟩) (by simp), World.cell?_alloc_at _ _ _ _ (by simp)]; rfl
 ·rw [h.cell (p := ⟨w.heap.size + 1, 1, none⟩) (by simp), World.cell?_alloc_at _ _ _ _ (by simp)]; rfl
theorem below2 (w : World) (a b : Obj) : Below w.heap.size w ((w.alloc a).alloc b) := ((Below.refl _ _).alloc (Nat.le_refl _) _).alloc (by simp) _
def BoolPost (w : World) (b : Bool) (e : Ending) (w' : World) : Prop := e = .returned (.bool b) ∧ Below w.heap.size w w'
end
end Go.Proofs.YtghgcbedajaldaaGreat
