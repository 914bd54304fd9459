/-  The same of slices of ints: the reference's digits to the base 65536.  -/
import Derived.Test.YtfieecdedilonaaAct
namespace Go.Proofs.Ytfieecdedilonaa
open Go.RowKit Digs

theorem Try.infoI64 : (Try.prog.info? 3).map (fun i => (i.zero, i.size, i.bytes)) = some (some (.int .i64 0), 1, 8) := by kernel_rfl

/-- Words as values. -/
def iw (l : List Nat) : List Value := l.map fun n : Nat => Value.int .i64 (n : Int)
theorem iw_length (l : List Nat) : (iw l).length = l.length := by simp [iw]
theorem iw_append (l m : List Nat) : iw (l ++ m) = iw l ++ iw m := by simp [iw]
theorem iw_oneCell (l : List Nat) : ∀ u ∈ iw l, u.oneCell' = true := by
  intro u hu
  simp only [iw, List.mem_map] at hu
  obtain ⟨n, _, rfl⟩ := hu
  rfl
theorem iw_getElem? (l : List Nat) (j : Nat) (h : j < l.length) : (iw l)[j]? = some (.int .i64 ((l[j]?.getD 0 : Nat) : Int)) := by
  simp [iw, List.getElem?_map, List.getElem?_eq_getElem h]

/-- A slice of words of the call's own (blocks from base on), that reads as l. -/
def Oi (w : World) (base : Nat) (v : Value) (l : List Nat) : Prop := w.ownsRow base 3 1 v l.length (iw l)

theorem Oi.rd {w : World} {base : Nat} {v : Value} {l : List Nat} (h : Oi w base v l) : Rd .i64 w v l := by
  have h0 := h
  obtain ⟨_, ⟨rfl, hn⟩ | ⟨g, cap, cur, rfl, _, hg, hc, hm, _, ht⟩⟩ := h
  · exact .inl ⟨rfl, List.eq_nil_of_length_eq_zero hn⟩
  · refine .inr ⟨g, 0, cap, rfl, (Array.getElem?_eq_some_iff.1 hg).1, hc, hm, fun j hj => ?_⟩
    rw [Nat.zero_add, World.cell?]
    simp only [hg]
    have h1 := iw_getElem? l j hj
    rw [← ht, List.getElem?_take, if_pos (by omega)] at h1
    simpa using h1

theorem Oi.keep {w w' : World} {base : Nat} {v : Value} {l : List Nat} (h : Oi w base v l) (hb : Below w.heap.size w w') : Oi w' base v l := by
  refine ⟨h.1, ?_⟩
  rcases h.2 with hn | ⟨g, cap, cur, rfl, hg, hgg, rest⟩
  · exact .inl hn
  · exact .inr ⟨g, cap, cur, rfl, hg, by rw [hb.block g (Array.getElem?_eq_some_iff.1 hgg).1]; exact hgg, rest⟩

theorem new_int (w : World) (t : TypeId) (n : Nat) (z : Int) (h : z = n) : ∀ (j : Nat) (u : Value), (iw [n])[j]? = some u → (w.alloc (.cells #[.int .i64 z] t)).cell? ((⟨w.heap.size, 0, none⟩ : Addr).add j) = some u := by
  subst h
  intro j u hu
  match j, hu with
  | 0, hu =>
    simp [iw] at hu
    subst hu
    rw [Addr.add_lit, World.cell?_alloc_at _ _ _ _ rfl]
    rfl
theorem Oi.snoc {w : World} {base : Nat} {v : Value} {s : List Nat} {x : Nat} (h : w.ownsRow base 3 1 v (s.length + 1) (iw s ++ iw [x])) : Oi w base v (s ++ [x]) := by
  unfold Oi
  rw [iw_append, List.length_append]
  exact h
def TrimPostI (b off cap : Nat) (l : List Nat) (w : World) (e : Ending) (w' : World) : Prop :=
  ∃ k, e = .returned (.slice (some ⟨b, off, none⟩) k cap) ∧ k ≤ l.length ∧ (∀ j, k ≤ j → l[j]?.getD 0 = 0) ∧ (k = 0 ∨ l[k - 1]?.getD 0 ≠ 0) ∧ w = w'

set_option maxHeartbeats 400000 in
theorem trimmed_some (b off cap : Nat) (l : List Nat) (w : World) (hlc : l.length ≤ cap) (hcm : cap ≤ maxLen)
    (hc : ∀ j, j < l.length → w.cell? ⟨b, off + j, none⟩ = some (.int .i64 ((l[j]?.getD 0 : Nat) : Int))) :
    Calls Try.prog 110 #[.slice (some ⟨b, off, none⟩) l.length cap] w (TrimPostI b off cap l w) := by
  unfold maxLen at hcm
  go_enter Try.func110, Try.ntmps110
  go_wp2
  go_loop [3] (fun n => ∃ k : Nat, k ≤ l.length ∧ n = .int .i64 k ∧ ∀ j, k ≤ j → l[j]?.getD 0 = 0) (fun n => (intOf n).toNat)
  case atStart => exact ⟨l.length, Nat.le_refl _, rfl, fun j hj => by rw [List.getElem?_eq_none hj]; rfl⟩
  case round =>
    obtain ⟨k, hk, rfl, hz⟩ := hrel
    have HZ := Lib.hid hz
    clear hz
    by_cases h0 : 0 < k
    · have hcell := hc (k - 1) (by omega)
      by_cases hx : l[k - 1]?.getD 0 = 0
      · have hcell0 : w.cell? ⟨b, off + (k - 1), none⟩ = some (.int .i64 0) := by rw [hcell, hx]; rfl
        have HX := Lib.hid hx
        clear hcell hc hx
        go_wp2
        go_round
        case rel =>
          refine ⟨k - 1, by omega, by go_num, fun j hj => ?_⟩
          by_cases hjk : j = k - 1
          · rw [hjk]; exact HX.out
          · exact HZ.out j (by omega)
        case measure => simp [intOf]; omega
      · have hne : (((l[k - 1]?.getD 0 : Nat) : Int) == 0) = false := by rw [beq_eq_false_iff_ne]; omega
        clear hc
        go_wp2
        go_ret
        exact ⟨k, rfl, hk, HZ.out, .inr hx, rfl⟩
    · obtain rfl : k = 0 := by omega
      clear hc
      go_wp2
      go_ret
      exact ⟨0, rfl, Nat.zero_le _, HZ.out, .inl rfl, rfl⟩

set_option maxHeartbeats 400000 in
theorem trimmed_nil (w : World) :
    Calls Try.prog 110 #[.slice none 0 0] w fun e w' => e = .returned (.slice none 0 0) ∧ w = w' := by
  go_enter Try.func110, Try.ntmps110
  go_wp2
  refine wp_loop_rounds 1 ?_
  rw [rounds_succ]
  go_wp2
  go_ret
  exact ⟨rfl, rfl⟩

/-- The results of a trim are the digits of the number. -/
theorem trimmed_digs {l : List Nat} {k : Nat} (hl : ∀ x ∈ l, x < 65536) (h1 : k ≤ l.length) (h2 : ∀ j, k ≤ j → l[j]?.getD 0 = 0) (h3 : k = 0 ∨ l[k - 1]?.getD 0 ≠ 0) :
    l.take k = digs 65536 (vl 65536 l) := digs_trim (by decide) l k hl h1 h2 h3

theorem Oi.headN {w : World} {base g cap n : Nat} {l d : List Nat} (h : Oi w base (.slice (some ⟨g, 0, none⟩) l.length cap) l) (hn : n ≤ l.length) (hd : l.take n = d) : Oi w base (.slice (some ⟨g, 0, none⟩) n cap) d := by
  subst hd
  have hlen : (l.take n).length = n := by rw [List.length_take]; omega
  obtain ⟨_, ⟨hv, _⟩ | ⟨g', cap', cur, hv, hb, hg, hc, hm, hs, ht⟩⟩ := h
  · cases hv
  · cases hv
    refine ⟨by simp [iw_length], .inr ⟨g, cap, cur, by rw [hlen], hb, hg, by omega, hm, hs, ?_⟩⟩
    rw [hlen, Nat.mul_one]
    rw [Nat.mul_one] at ht
    have h1 : (cur.toList.take l.length).take n = (iw l).take n := by rw [ht]
    rw [List.take_take, Nat.min_eq_left hn] at h1
    rw [h1]
    simp [iw]

/-- trim, of a slice of the call's own. -/
theorem trimmed_oi {w : World} {base : Nat} {v : Value} {l : List Nat} (h : Oi w base v l) (hlt : ∀ x ∈ l, x < 65536) :
    Calls Try.prog 110 #[v] w fun e w' => (∃ v', e = .returned v' ∧ Oi w base v' (digs 65536 (vl 65536 l))) ∧ w = w' := by
  have hr := h.rd
  have h' := h
  rcases h.2 with ⟨rfl, hn⟩ | ⟨g, cap, cur, rfl, _, _, hc, hm, _⟩
  · obtain rfl := List.eq_nil_of_length_eq_zero hn
    exact (trimmed_nil w).mono fun _ _ ⟨he, hw⟩ => ⟨⟨_, he, by rw [vl, digs_zero]; exact World.ownsRow_nil _ _ _ _⟩, hw⟩
  · have hcells : ∀ j, j < l.length → w.cell? ⟨g, 0 + j, none⟩ = some (.int .i64 ((l[j]?.getD 0 : Nat) : Int)) := by
      rcases hr with ⟨hv, _⟩ | ⟨b, off, cap', hv, _, _, _, h4⟩
      · cases hv
      · cases hv; exact h4
    refine (trimmed_some g 0 cap l w hc hm hcells).mono ?_
    rintro e w' ⟨k, rfl, h1, h2, h3, rfl⟩
    exact ⟨⟨_, rfl, Oi.headN h' h1 (trimmed_digs hlt h1 h2 h3)⟩, rfl⟩

/-- A row of words of the call's own, at the head of block g: N of them. -/
def Ri (w : World) (base g N : Nat) (p : List Nat) : Prop := p.length = N ∧ w.ownsRow base 3 1 (.slice (some ⟨g, 0, none⟩) N N) N (iw p)
theorem Ri.cell {w : World} {base g N : Nat} {p : List Nat} (h : Ri w base g N p) (j : Nat) (hj : j < N) : w.cell? ⟨g, j, none⟩ = some (.int .i64 ((p[j]?.getD 0 : Nat) : Int)) := by
  rw [h.2.cellAt j (by omega), iw_getElem? _ _ (by rw [h.1]; exact hj)]
theorem Ri.frozen {w : World} {base g N : Nat} {p : List Nat} (h : Ri w base g N p) (j : Nat) : w.frozen? ⟨g, j, none⟩ = false := h.2.frozenAt j
theorem iw_set (p : List Nat) (j x : Nat) : iw (p.set j x) = (iw p).set j (.int .i64 (x : Int)) := by unfold iw; rw [List.map_set]
theorem Ri.store {w : World} {base g N : Nat} {p : List Nat} (h : Ri w base g N p) (j x : Nat) (z : Int) (hz : z = x) : Ri (w.setCell ⟨g, j, none⟩ (.int .i64 z)) base g N (p.set j x) := by
  subst hz
  exact ⟨by rw [List.length_set, h.1], by rw [iw_set]; exact (h.2.stored j _).1⟩
theorem Ri.oi {w : World} {base g N : Nat} {p : List Nat} (h : Ri w base g N p) : Oi w base (.slice (some ⟨g, 0, none⟩) N N) p := by
  unfold Oi; rw [h.1]; exact h.2
theorem Ri.lt {w : World} {base g N : Nat} {p : List Nat} (h : Ri w base g N p) : base ≤ g ∧ g < w.heap.size := h.2.lt g rfl
theorem iw_zeros (n : Nat) : (madeCells #[Value.int .i64 0] n).toList = iw (List.replicate n 0) := by
  rw [toList_madeCells_one]; simp [iw]

end Go.Proofs.Ytfieecdedilonaa
