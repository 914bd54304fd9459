/-  CmpInt  -/
import Derived.Test.YtghgcbedajaldaaGreatMpae
/-  BBase Text Text2 Awake CmpInt  -/
namespace Go.Proofs.YtghgcbedajaldaaGreat
section
open Go.RowKit Digs
theorem Tryz.infoU8 : (Tryz.prog.info? 5).map (fun i => (i.zero, i.size, i.bytes)) = some (some (.int .u8 0), 1, 1) := by kernel_rfl
def bw (l : List Nat) : List Value := l.map fun n : Nat => Value.int .u8 (n : Int)
theorem bw_length (l : List Nat) : (bw l).length = l.length := by simp [bw]
theorem bw_append (l m : List Nat) : bw (l ++ m) = bw l ++ bw m := by simp [bw]
theorem bw_oneCell (l : List Nat) : ∀ u ∈ bw l, u.oneCell' = true := by
 intro u hu
 simp only [bw, List.mem_map] at hu
 obtain ⟨n, _, rfl⟩ := hu
 rfl
theorem bw_getElem? (l : List Nat) (j : Nat) (h : j < l.length) : (bw l)[j]? = some (.int .u8 ((l[j]?.getD 0 : Nat) : Int)) := by
 simp [bw, List.getElem?_map, List.getElem?_eq_getElem h]
def Ob (w : World) (base : Nat) (v : Value) (l : List Nat) : Prop := w.ownsRow base 5 1 v l.length (bw l)
theorem Ob.rd {w : World} {base : Nat} {v : Value} {l : List Nat} (h : Ob w base v l) : Rd .u8 w v l := by
 have h0 := h
 obtain ⟨_, ⟨rfl, hn⟩ | ⟨g, cap, cur, rfl, _, hg, hc, hm, _, ht⟩⟩ := h
 ·exact .inl ⟨rfl, List.eq_nil_of_length_eq_zero hn⟩
 ·refine .inr ⟨g, 0, cap, rfl, (Array.getElem?_eq_some_iff.1 hg).1, hc, hm, fun j hj => ?_⟩
  rw [Nat.zero_add, World.cell?]
  simp only [hg]
  have h1 := bw_getElem? l j hj
  rw [← ht, List.getElem?_take, if_pos (by omega)] at h1
  simpa using h1
theorem Ob.keep {w w' : World} {base : Nat} {v : Value} {l : List Nat} (h : Ob w base v l) (hb : Below w.heap.size w w') : Ob w' base v l := by
 refine ⟨h.1, ?_⟩
 rcases h.2 with hn | ⟨g, cap, cur, rfl, hg, hgg, rest⟩
 ·exact .inl hn
 ·exact .inr ⟨g, cap, cur, rfl, hg, by rw [hb.block g (Array.getElem?_eq_some_iff.1 hgg).1]; exact hgg, rest⟩
theorem new_byte (w : World) (t : TypeId) (n : Nat) (z : Int) (h : z = n) : ∀ (j : Nat) (u : Value), (bw [n])[j]? = some u → (w.alloc (.cells #[.int .u8 z] t)).cell? ((⟨w.heap.size, 0, none⟩ : Addr).add j) = some u := by
 subst h
 intro j u hu
 match j, hu with
 | 0, hu =>
  simp [bw] at hu
  subst hu
  rw [Addr.add_lit, World.cell?_alloc_at _ _ _ _ rfl]
  rfl
theorem Ob.snoc {w : World} {base : Nat} {v : Value} {s : List Nat} {x : Nat} (h : w.ownsRow base 5 1 v (s.length + 1) (bw s ++ bw [x])) : Ob w base v (s ++ [x]) := by
 unfold Ob
 rw [bw_append, List.length_append]
 exact h
theorem Ob.headN {w : World} {base g cap n : Nat} {l d : List Nat} (h : Ob w base (.slice (some ⟨g, 0, none⟩) l.length cap) l) (hn : n ≤ l.length) (hd : l.take n = d) : Ob w base (.slice (some ⟨g, 0, none⟩) n cap) d := by
 subst hd
 have hlen : (l.take n).length = n := by rw [List.length_take]; omega
 obtain ⟨_, ⟨hv, _⟩ | ⟨g', cap', cur, hv, hb, hg, hc, hm, hs, ht⟩⟩ := h
 ·cases hv
 ·cases hv
  refine ⟨by simp [bw_length], .inr ⟨g, cap, cur, by rw [hlen], hb, hg, by omega, hm, hs, ?_⟩⟩
  rw [hlen, Nat.mul_one]
  rw [Nat.mul_one] at ht
  have h1 : (cur.toList.take l.length).take n = (bw l).take n := by rw [ht]
  rw [List.take_take, Nat.min_eq_left hn] at h1
  rw [h1]
  simp [bw]
def Rb (w : World) (base g N : Nat) (p : List Nat) : Prop := p.length = N ∧ w.ownsRow base 5 1 (.slice (some ⟨g, 0, none⟩) N N) N (bw p)
theorem Rb.cell {w : World} {base g N : Nat} {p : List Nat} (h : Rb w base g N p) (j : Nat) (hj : j < N) : w.cell? ⟨g, j, none⟩ = some (.int .u8 ((p[j]?.getD 0 : Nat) : Int)) := by
 rw [h.2.cellAt j (by omega), bw_getElem? _ _ (by rw [h.1]; exact hj)]
theorem Rb.frozen {w : World} {base g N : Nat} {p : List Nat} (h : Rb w base g N p) (j : Nat) : w.frozen? ⟨g, j, none⟩ = false := h.2.frozenAt j
theorem bw_set (p : List Nat) (j x : Nat) : bw (p.set j x) = (bw p).set j (.int .u8 (x : Int)) := by unfold bw; rw [List.map_set]
theorem Rb.store {w : World} {base g N : Nat} {p : List Nat} (h : Rb w base g N p) (j x : Nat) (z : Int) (hz : z = x) : Rb (w.setCell ⟨g, j, none⟩ (.int .u8 z)) base g N (p.set j x) := by
 subst hz
 exact ⟨by rw [List.length_set, h.1], by rw [bw_set]; exact (h.2.stored j _).1⟩
theorem Rb.lt {w : World} {base g N : Nat} {p : List Nat} (h : Rb w base g N p) : base ≤ g ∧ g < w.heap.size := h.2.lt g rfl
end
section
open Go.RowKit Digs
def GroupPost (r : Nat) (w : World) (e : Ending) (w' : World) : Prop :=
 ∃ c P : Nat, e = .returned (.tuple #[.int .i64 c, .int .u32 P]) ∧ P = r ^ c ∧ P < 4294967296 ∧ 1 ≤ c ∧ c < 32 ∧ w = w'
theorem pow_lt_32 {r c : Nat} (hr : 2 ≤ r) (h : r ^ c < 4294967296) : c < 32 := by
 rcases Nat.lt_or_ge c 32 with h1 | h1
 ·exact h1
 ·have h2 : 2 ^ 32 ≤ r ^ c := Nat.le_trans (Nat.pow_le_pow_right (by decide) h1) (Nat.pow_le_pow_left hr c)
  omega
set_option maxHeartbeats 1000000 in
set_option maxRecDepth 100000 in
theorem group_any (r : Nat) (w : World) (h2 : 2 ≤ r) (h36 : r ≤ 36) :
  Calls Tryz.prog 154 #[.int .i64 r] w (GroupPost r w) := by
 go_enter Tryz.func154, Tryz.ntmps154
 go_wp2
 go_loop [2, 4] (fun cv av => ∃ c a : Nat, cv = .int .i64 c ∧ av = .int .u64 a ∧ a = r ^ c ∧ a < 4294967296 ∧ 1 ≤ c) (fun _ av => 4294967296 - (intOf av).toNat)
 case atStart => exact ⟨1, r, rfl, rfl, by rw [Nat.pow_one], by omega, Nat.le_refl _⟩
 case round =>
  obtain ⟨c, a, rfl, rfl, ha, hab, hc⟩ := hrel
  have hc32 : c < 32 := pow_lt_32 h2 (by rw [← ha]; exact hab)
  have HA := Lib.hid ha
  have ha1 : 1 ≤ a := by rw [ha]; exact Nat.pow_pos (by omega)
  clear ha
  have hm0 : (0 : Int) ≤ (a : Int) * (r : Int) := Int.mul_nonneg (by omega) (by omega)
  have hmb : a * r ≤ 4294967295 * 36 := Nat.mul_le_mul (by omega) h36
  have hm1 : (a : Int) * (r : Int) ≤ 154618822620 := by
   have h3 : ((a * r : Nat) : Int) ≤ ((4294967295 * 36 : Nat) : Int) := Int.ofNat_le.2 hmb
   rw [Int.natCast_mul] at h3
   exact h3
  have hmm : a * 2 ≤ a * r := Nat.mul_le_mul_left a h2
  by_cases hle : a * r ≤ 4294967295
  ·have hle' : (a : Int) * (r : Int) ≤ 4294967295 := by
    have h3 : ((a * r : Nat) : Int) ≤ ((4294967295 : Nat) : Int) := Int.ofNat_le.2 hle
    rw [Int.natCast_mul] at h3
    exact h3
   go_wp2
   go_round
   case rel =>
    refine ⟨c + 1, a * r, by go_num, by rw [Int.natCast_mul], by rw [HA.out, Nat.pow_succ], by omega, by omega⟩
   case measure =>
    rw [← Int.natCast_mul]
    simp only [intOf, Int.toNat_natCast]
    omega
  ·have hle' : ¬ (a : Int) * (r : Int) ≤ 4294967295 := by
    intro h
    rw [← Int.natCast_mul] at h
    omega
   go_wp2
   go_ret2
   exact ⟨c, a, rfl, HA.out, hab, hc, hc32, rfl⟩
def RbC (w : World) (base g n cap : Nat) (p : List Nat) : Prop := p.length = n ∧ w.ownsRow base 5 1 (.slice (some ⟨g, 0, none⟩) n cap) n (bw p)
theorem RbC.cell {w : World} {base g n cap : Nat} {p : List Nat} (h : RbC w base g n cap p) (j : Nat) (hj : j < n) : w.cell? ⟨g, j, none⟩ = some (.int .u8 ((p[j]?.getD 0 : Nat) : Int)) := by
 rw [h.2.cellAt j (by omega), bw_getElem? _ _ (by rw [h.1]; exact hj)]
theorem RbC.frozen {w : World} {base g n cap : Nat} {p : List Nat} (h : RbC w base g n cap p) (j : Nat) : w.frozen? ⟨g, j, none⟩ = false := h.2.frozenAt j
theorem RbC.store {w : World} {base g n cap : Nat} {p : List Nat} (h : RbC w base g n cap p) (j x : Nat) (z : Int) (hz : z = x) : RbC (w.setCell ⟨g, j, none⟩ (.int .u8 z)) base g n cap (p.set j x) := by
 subst hz
 exact ⟨by rw [List.length_set, h.1], by rw [bw_set]; exact (h.2.stored j _).1⟩
theorem RbC.of {w : World} {base g n cap : Nat} {p : List Nat} (h : Ob w base (.slice (some ⟨g, 0, none⟩) n cap) p) (hn : p.length = n) : RbC w base g n cap p := ⟨hn, by unfold Ob at h; rw [hn] at h; exact h⟩
def RevRel (l : List Nat) (w : World) (base g n cap : Nat) (i j : Value) (wr : World) : Prop :=
 ∃ (k : Nat) (z : Int) (p : List Nat), i = .int .i64 k ∧ j = .int .i64 z ∧ z = (n : Int) - 1 - k ∧ 2 * k ≤ n + 1 ∧ RbC wr base g n cap p ∧ (∀ q, q < n → p[q]?.getD 0 = if q < k ∨ n ≤ q + k then l[n - 1 - q]?.getD 0 else l[q]?.getD 0) ∧ Below base w wr ∧ Only g w wr
theorem Only.refl (g : Nat) (w : World) : Only g w w := fun _ _ _ => rfl
theorem Only.setCell {g : Nat} {w w' : World} (h : Only g w w') (j : Nat) (u : Value) : Only g w (w'.setCell ⟨g, j, none⟩ u) := fun k hk hg => by
 rw [heap_setCell_other _ _ _ _ hg]; exact h k hk hg
set_option maxHeartbeats 2000000 in
set_option maxRecDepth 100000 in
theorem reverse_any (base g n cap : Nat) (l : List Nat) (w : World) (hn : n ≤ 100000000) (hr : RbC w base g n cap l) (hbase : base ≤ g) :
  Calls Tryz.prog 155 #[.slice (some ⟨g, 0, none⟩) n cap] w fun e w' => e = .returned (.tuple #[]) ∧ RbC w' base g n cap l.reverse ∧ Below base w w' ∧ Only g w w' := by
 have HR := Lib.hid hr
 clear hr
 go_enter Tryz.func155, Tryz.ntmps155
 go_wp2
 go_loopw [2, 3] (RevRel l w base g n cap) (fun i _ _ => n + 1 - (intOf i).toNat)
 case atStart => exact ⟨0, _, l, rfl, rfl, by omega, by omega, HR.out, fun q hq => by rw [if_neg (by omega)], Below.refl _ _, Only.refl _ _⟩
 case round =>
  obtain ⟨k, z, p, rfl, rfl, hz, hk, hrow, hp, hnx, hon⟩ := hrel
  have HROW := Lib.hid hrow
  have HP := Lib.hid hp
  have HNX := Lib.hid hnx
  have HON := Lib.hid hon
  clear hrow hp hnx hon
  by_cases hkz : (k : Int) < z
  ·obtain ⟨m, rfl⟩ : ∃ m : Nat, z = m := ⟨z.toNat, by omega⟩
   have hm : m < n := by omega
   have hkm : k < m := by omega
   have gx := HROW.out.cell k (by omega)
   have gy := HROW.out.cell m hm
   have fx := HROW.out.frozen k
   have fy := HROW.out.frozen m
   have HZ : Hid (m + 1 + k = n) := by show m + 1 + k = n; omega
   obtain ⟨a, ha⟩ : ∃ a, a = p[k]?.getD 0 := ⟨_, rfl⟩
   obtain ⟨b, hb⟩ : ∃ b, b = p[m]?.getD 0 := ⟨_, rfl⟩
   rw [← ha] at gx
   rw [← hb] at gy
   have HA := Lib.hid ha
   have HBV := Lib.hid hb
   clear hz ha hb
   go_wp2
   go_region
   go_wp2
   go_roundw
   case rel =>
    refine ⟨k + 1, _, (p.set k b).set m a, by go_num, rfl, by have := HZ.out; omega, by have := HZ.out; omega, ?_, ?_, ?_, ?_⟩
    ·exact (HROW.out.store k b _ rfl).store m a _ rfl
    ·intro q hq
     have h1 := HZ.out
     have h2 := HROW.out.1
     by_cases hqm : q = m
     ·subst hqm
      rw [List.getElem?_set_self (by rw [List.length_set, h2]; exact hq), if_pos (by omega), Option.getD_some, HA.out, HP.out k (by omega), if_neg (by omega), show n - 1 - q = k by omega]
     ·rw [getD_set_ne _ _ _ _ (by omega)]
      by_cases hqk : q = k
      ·subst hqk
       rw [List.getElem?_set_self (by rw [h2]; exact hq), if_pos (by omega), Option.getD_some, HBV.out, HP.out m (by omega), if_neg (by omega), show n - 1 - q = m by omega]
      ·rw [getD_set_ne _ _ _ _ (by omega), HP.out q hq]
       by_cases h3 : q < k ∨ n ≤ q + k
       ·rw [if_pos h3, if_pos (by omega)]
       ·rw [if_neg h3, if_neg (by omega)]
    ·exact ((HNX.out.setCell (p := ⟨g, k, none⟩) hbase _).setCell (p := ⟨g, m, none⟩) hbase _).drew
    ·exact (HON.out.setCell k _).setCell m _
   case measure => simp [intOf]; have := HZ.out; omega
  ·go_wp2
   go_end0
   have e : p = l.reverse := by
    have h2 := HROW.out.1
    have h4 := HR.out.1
    apply List.ext_getElem (by rw [List.length_reverse, h2, h4])
    intro i h5 h6
    rw [h2] at h5
    have h7 := HP.out i h5
    rw [List.getElem?_eq_getElem (by omega)] at h7
    rw [List.getElem_reverse]
    by_cases h3 : i < k ∨ n ≤ i + k
    ·rw [if_pos h3, List.getElem?_eq_getElem (by omega)] at h7
     simp only [Option.getD_some] at h7
     rw [h7]
     congr 1
     omega
    ·rw [if_neg h3, List.getElem?_eq_getElem (by omega)] at h7
     simp only [Option.getD_some] at h7
     rw [h7]
     congr 1
     omega
   exact ⟨rfl, by rw [← e]; exact HROW.out, HNX.out, HON.out⟩
end
section
open Go.RowKit Digs
def lenV : Value → Nat | .slice _ n _ => n | _ => 0
def ch (d : Nat) : Nat := if d < 10 then 48 + d else 55 + d
theorem ch_get (d : Nat) (h : d < (ByteArray.mk #[48, 49, 50, 51, 52, 53, 54, 55, 56, 57, 65, 66, 67, 68, 69, 70, 71, 72, 73, 74, 75, 76, 77, 78, 79, 80, 81, 82, 83, 84, 85, 86, 87, 88, 89, 90]).size) : ((ByteArray.mk #[48, 49, 50, 51, 52, 53, 54, 55, 56, 57, 65, 66, 67, 68, 69, 70, 71, 72, 73, 74, 75, 76, 77, 78, 79, 80, 81, 82, 83, 84, 85, 86, 87, 88, 89, 90])[d]'h).toNat = ch d := by
 have key : ∀ d : Fin 36, ((ByteArray.mk #[48, 49, 50, 51, 52, 53, 54, 55, 56, 57, 65, 66, 67, 68, 69, 70, 71, 72, 73, 74, 75, 76, 77, 78, 79, 80, 81, 82, 83, 84, 85, 86, 87, 88, 89, 90])[d.val]'(d.isLt)).toNat = ch d.val := by decide
 exact key ⟨d, h⟩
theorem Ob.snoc_ch {w : World} {base : Nat} {v : Value} {t : List Nat} {d : Nat} (h : w.ownsRow base 5 1 v (t.length + 1) (bw (t.map ch) ++ bw [ch d])) : Ob w base v ((t ++ [d]).map ch) := by
 unfold Ob
 rw [List.map_append, bw_append, List.length_append, List.length_map]
 exact h
theorem own_ne {w : World} {b1 e1 s1 n1 b2 e2 s2 n2 : Nat} {v1 v2 : Value} {xs1 xs2 : List Value} (h1 : w.ownsRow b1 e1 s1 v1 n1 xs1) (h2 : w.ownsRow b2 e2 s2 v2 n2 xs2) (he : e1 ≠ e2) : v1.ownBlock = none ∨ v1.ownBlock ≠ v2.ownBlock := by
 rcases h1.2 with ⟨rfl, _⟩ | ⟨g, cap, cur, rfl, _, hg, _⟩
 ·exact .inl rfl
 ·right
  rcases h2.2 with ⟨rfl, _⟩ | ⟨g', cap', cur', rfl, _, hg', _⟩
  ·simp [Value.ownBlock]
  ·intro h
   simp only [Value.ownBlock, Option.some.injEq] at h
   subst h
   rw [hg] at hg'
   simp only [Option.some.injEq, Obj.cells.injEq] at hg'
   exact he hg'.2.1
theorem ownsRow_zero {w : World} {b e s n : Nat} {v : Value} {xs : List Value} (h : w.ownsRow b e s v n xs) : w.ownsRow 0 e s v n xs := by
 refine ⟨h.1, ?_⟩
 rcases h.2 with h1 | ⟨g, cap, cur, h1, _, h2⟩
 ·exact .inl h1
 ·exact .inr ⟨g, cap, cur, h1, Nat.zero_le _, h2⟩
theorem Ob.lenV {w : World} {b : Nat} {v : Value} {l : List Nat} (h : Ob w b v l) : lenV v = l.length := by
 rcases h.2 with ⟨rfl, h0⟩ | ⟨g, cap, cur, rfl, _⟩
 ·exact h0.symm
 ·rfl
theorem ch_zero (d : Nat) (h : d < 36) : ch d = 48 ↔ d = 0 := by unfold ch; split <;> omega
theorem Ob.row {w : World} {base : Nat} {v : Value} {l : List Nat} (h : Ob w base v l) (h0 : l ≠ []) : ∃ g cap, v = .slice (some ⟨g, 0, none⟩) l.length cap ∧ base ≤ g ∧ l.length ≤ cap ∧ cap ≤ maxLen := by
 rcases h.2 with ⟨_, hn⟩ | ⟨g, cap, cur, rfl, hb, _, hc, hm, _⟩
 ·exact absurd (List.eq_nil_of_length_eq_zero hn) h0
 ·exact ⟨g, cap, rfl, hb, hc, hm⟩
def bstr (p : List Nat) : ByteArray := ⟨(p.map UInt8.ofNat).toArray⟩
theorem fold_push (p : List Nat) (b : ByteArray) : (p.map fun n : Nat => (n : Int)).foldl (fun r n => r.push (UInt8.ofNat n.toNat)) b = ⟨b.data ++ (p.map UInt8.ofNat).toArray⟩ := by
 induction p generalizing b with
 | nil => simp
 | cons x xs ih =>
  rw [List.map_cons, List.foldl_cons, ih]
  apply ByteArray.ext
  apply Array.ext'
  simp [ByteArray.push]
theorem conv_rb {w : World} {base g n cap : Nat} {p : List Nat} (h : RbC w base g n cap p) : (convert 187 9 (.slice (some ⟨g, 0, none⟩) n cap)).run Tryz.prog w = .ok (.string (bstr p)) w := by
 rw [run_convert_bytes_string w 187 9 5 _ n cap Tryz.underlying187 Tryz.underlying5 Tryz.underlying9]
 have h1 := run_loadCells_list (P := Tryz.prog) (w := w) ⟨g, 0, none⟩ ((p.map fun n : Nat => (n : Int)).map (Value.int .u8)) (by
  intro j v hv
  rw [Addr.add_lit, Nat.zero_add]
  by_cases hj : j < n
  ·rw [h.cell j hj]
   rw [List.map_map, List.getElem?_map, List.getElem?_eq_getElem (by rw [h.1]; exact hj)] at hv
   rw [List.getElem?_eq_getElem (by rw [h.1]; exact hj)]
   simpa using hv
  ·rw [List.getElem?_eq_none (by simp; rw [h.1]; omega)] at hv
   cases hv)
 rw [List.length_map, List.length_map, h.1] at h1
 rw [run_bytesToString w ⟨g, 0, none⟩ n cap _ h1, fold_push]
 congr 2
 apply ByteArray.ext
 simp [bstr]
def textB (neg : Bool) (r N : Nat) : List Nat := (if neg then [45] else []) ++ ((digs r N).map ch).reverse
def TextPost (w : World) (s : List Nat) (e : Ending) (w' : World) : Prop := e = .returned (.tuple #[.string (bstr s), .int .i64 0]) ∧ Below w.heap.size w w'
def TextRel (N L r : Nat) (X : World) (tv lv : Value) (wr : World) : Prop :=
 ∃ (m : Nat) (t : List Nat), Rd .u32 wr lv (digs 4294967296 m) ∧ Ob wr X.heap.size tv (t.map ch) ∧ (∀ x ∈ t, x < r) ∧ vl r t + r ^ t.length * m = N ∧ t.length ≤ 32 * L + 32 ∧ (digs 4294967296 m).length ≤ L ∧ Below X.heap.size X wr
def TextIn (N r c m t0 : Nat) (vq : Value) (X : World) (tv pv i : Value) (wr : World) : Prop :=
 ∃ (k p : Nat) (t : List Nat), i = .int .i64 k ∧ pv = .int .u32 p ∧ k ≤ c ∧ p < r ^ (c - k) ∧ Ob wr X.heap.size tv (t.map ch) ∧ (∀ x ∈ t, x < r) ∧ t.length = t0 + k ∧ vl r t + r ^ t.length * (p + r ^ (c - k) * m) = N ∧ Below X.heap.size X wr ∧ Ow wr 0 vq (digs 4294967296 m)
set_option maxHeartbeats 4000000 in
set_option maxRecDepth 100000 in
theorem text_core (neg : Bool) (ad : Option Addr) (nx cx : Nat) (r N L : Nat) (z : Int) (hz : z.natAbs = N) (hz0 : N ≠ 0) (w : World) (h2 : 2 ≤ r) (h36 : r ≤ 36) (hL : (digs 4294967296 N).length ≤ L) (hLb : L ≤ 1000000)
  (hv : IntV w (.agg #[.bool neg, .slice ad nx cx]) z) :
  Calls Tryz.prog 111 #[.agg #[.bool neg, .slice ad nx cx], .int .i64 r] w (TextPost w (textB neg r N)) := by
 have hlz : len z ≤ 1000000 := by unfold len; rw [hz]; omega
 have HSG := fun W hw => Lib.hid (sign_any z _ W hlz (hv.keep (w' := W) hw))
 have HSG := Lib.hid HSG
 have hsg : (sgnZ z == 0) = false := by unfold sgnZ; split <;> (try split) <;> first | rfl | (exfalso; omega)
 have hr0 : Rd .u32 w (.slice ad nx cx) (digs 4294967296 N) := by
  obtain ⟨_, _, _, he, h⟩ := hv
  cases he
  rw [← hz]; exact h
 have HR0 := Lib.hid hr0
 have HZ := Lib.hid hz
 have HL := Lib.hid hL
 clear hlz hv hz hr0 hL
 generalize hsv : sgnZ z = sz at *
 clear hsv
 obtain ⟨i0, hi, hz0', hz1, hz2⟩ := info_parts Tryz.infoU8
 go_enter Tryz.func111, Tryz.ntmps111
 go_wp2_with fail
 refine (HSG.out _ ((Below.refl _ _).alloc (Nat.le_refl _) _)).out.mono ?_
 rintro e w0 ⟨rfl, hb0⟩
 obtain ⟨cA0, cB0⟩ := box1 hb0
 have HB0 := Lib.hid hb0
 clear hb0
 go_wp2_with fail
 refine (group_any r _ h2 h36).mono ?_
 rintro e w' ⟨c, P, rfl, hP, hPb, hc1, hc32, rfl⟩
 have HP := Lib.hid hP
 clear hP
 go_wp2
 go_loopw [8, 9] (TextRel N L r (w.alloc (.cells #[.bool neg, .slice ad nx cx] 31))) (fun tv _ _ => 32 * L + 64 - lenV tv)
 case atStart => exact ⟨N, [], HR0.out.keep (((Below.refl _ _).alloc (Nat.le_refl _) _).trans (HB0.out.mono (by simp))), World.ownsRow_nil _ _ _ _, by simp, by simp [vl], by simp, HL.out, HB0.out⟩
 case round =>
  obtain ⟨m, t, hlv, htv, htr, hvl, htl, hml, hnx⟩ := hrel
  have HLV := Lib.hid hlv
  have HTV := Lib.hid htv
  have HTR := Lib.hid htr
  have HVL := Lib.hid hvl
  have HTL := Lib.hid htl
  have HNX := Lib.hid hnx
  clear hlv htv htr hvl htl hnx
  obtain ⟨adl, cl, hvs⟩ := HLV.out.shape'
  by_cases hm0 : 0 < (digs 4294967296 m).length
  ·have HD := Lib.hid (divSmall_any m P _ wr (by omega) HLV.out (by rw [HP.out]; exact Nat.pow_pos (by omega)) hPb)
   have hPp := HP.out
   rw [hvs] at HD ⊢
   generalize hdl : (digs 4294967296 m).length = dl at *
   have HDL := Lib.hid hdl
   clear hdl hPp
   go_wp2_with fail
   refine HD.out.mono ?_
   rintro e w1 ⟨vq, rfl, hq, hb1⟩
   have HQ := Lib.hid hq
   have HB1 := Lib.hid hb1
   clear hq hb1
   have hPpos : 1 ≤ P := by rw [HP.out]; exact Nat.pow_pos (by omega)
   have htlen : t.length < 32 * L := by
    have h5 := HVL.out
    have h6 : m ≠ 0 := by
     rintro rfl
     have := HDL.out
     rw [digs_zero] at this
     simp at this; omega
    have h7 : r ^ t.length * 1 ≤ r ^ t.length * m := Nat.mul_le_mul_left _ (by omega)
    have h8 : 2 ^ t.length ≤ r ^ t.length := Nat.pow_le_pow_left h2 _
    have h9 := digs_lt_pow (b := 4294967296) (by decide) N
    have h10 : (4294967296 : Nat) ^ (digs 4294967296 N).length ≤ 4294967296 ^ L := Nat.pow_le_pow_right (by decide) HL.out
    have h11 : (4294967296 : Nat) ^ L = 2 ^ (32 * L) := by rw [Nat.pow_mul]
    have h12 : 2 ^ t.length < 2 ^ (32 * L) := by omega
    exact (Nat.pow_lt_pow_iff_right (by decide)).1 h12
   go_wp2
   go_loopw [8, 10, 37] (TextIn N r c (m / P) t.length vq (w.alloc (.cells #[.bool neg, .slice ad nx cx] 31))) (fun _ _ i _ => c - (intOf i).toNat)
   case atStart =>
    have hmod : m % P < r ^ (c - 0) := by rw [Nat.sub_zero, ← HP.out]; exact Nat.mod_lt _ hPpos
    refine ⟨0, m % P, t, rfl, by rw [Int.natCast_emod], Nat.zero_le _, hmod, HTV.out.keep HB1.out, HTR.out, rfl, ?_, HNX.out.trans (HB1.out.mono HNX.out.size), ownsRow_zero HQ.out⟩
    rw [Nat.sub_zero, ← HP.out, Nat.mod_add_div]
    exact HVL.out
   case round =>
    obtain ⟨k, p, t1, rfl, rfl, hk, hp, htv1, htr1, htl1, hvl1, hnx1, hoq1⟩ := hrel
    have HOQ1 := Lib.hid hoq1
    have HTV1 := Lib.hid htv1
    have HTR1 := Lib.hid htr1
    have HTL1 := Lib.hid htl1
    have HVL1 := Lib.hid hvl1
    have HNX1 := Lib.hid hnx1
    have HPP := Lib.hid hp
    have hp32 : p < 4294967296 := Nat.lt_of_lt_of_le hp (Nat.le_trans (Nat.pow_le_pow_right (by omega) (Nat.sub_le c k)) (by rw [← HP.out]; omega))
    clear htv1 htr1 htl1 hvl1 hnx1 hp hoq1
    by_cases hkc : k < c
    ·have hpr : p % r < r := Nat.mod_lt _ (by omega)
     have hpi0 : (0 : Int) ≤ (p : Int) % (r : Int) := Int.emod_nonneg _ (by omega)
     have hpi1 : (p : Int) % (r : Int) < 36 := by rw [← Int.natCast_emod]; omega
     go_wp2_with (at_builtin; refine wpList_append_own _ rfl (.tmp 39) (.tmp 45) 187 rfl (w.heap.size + 1) 5 i0 (.int .u8 0) 1 1 Tryz.underlying187 hi hz0' hz1 hz2 rfl (by decide) _ _ _ rfl (World.ownsRow.alloc (by have h := HTV1.out; unfold Ob at h; rw [World.size_alloc, List.length_map] at h; exact h) _) ⟨wr.heap.size, 0, none⟩ 1 1 (bw [ch (p % r)]) rfl rfl ?c1 (bw_oneCell _) ?c2 ?c3 ?c4 ?_)
     case c1 => exact new_byte _ _ _ _ (by rw [ch_get])
     case c2 => have := HTL1.out; unfold maxLen; omega
     case c3 => have := HTL1.out; omega
     case c4 => have := HNX1.out.size; simp at this ⊢; omega
     intro v' w2 hown1 hgrow _
     have HO1 := Lib.hid hown1
     have HG := Lib.hid hgrow
     clear hown1 hgrow
     go_wp2
     go_roundw
     case rel =>
      have hpow : r ^ (c - k) = r ^ (c - (k + 1)) * r := by rw [← Nat.pow_succ]; congr 1; omega
      refine ⟨k + 1, p / r, t1 ++ [p % r], by go_num, (by refine congrArg (Value.int .u32) ?_; have hq : p / r < 4294967296 := Nat.lt_of_le_of_lt (Nat.div_le_self _ _) hp32; have e1 : (p : Int) / (r : Int) = ((p / r : Nat) : Int) := (Int.natCast_ediv p r).symm; rw [e1]; generalize p / r = q at hq ⊢; omega), by omega, ?_, Ob.snoc_ch (by rw [World.size_alloc]; exact HO1.out), all_snoc HTR1.out hpr, by rw [List.length_append, HTL1.out]; rfl, ?_, ?_, ?_⟩
      ·rw [Nat.div_lt_iff_lt_mul (by omega), ← hpow]; exact HPP.out
      ·rw [vl_snoc, List.length_append, List.length_singleton, Nat.pow_succ, ← HVL1.out]
       have h20 := split_mod (r ^ t1.length) r p
       have h21 : r ^ t1.length * r * (r ^ (c - (k + 1)) * (m / P)) = r ^ t1.length * (r ^ (c - k) * (m / P)) := by
        rw [hpow]; simp only [Nat.mul_assoc, Nat.mul_comm, Nat.mul_left_comm]
       rw [Nat.mul_add, Nat.mul_add, h21]
       omega
      ·exact (HNX1.out.alloc HNX1.out.size _).grown HG.out (by have := HNX1.out.size; simp at this ⊢; omega) (fun q hq => (HTV1.out.lt q hq).1)
      ·have h30 := World.ownsRow.alloc HOQ1.out (.cells #[.int .u8 ((ch (p % r) : Nat) : Int)] 5)
       clear h30
       exact World.ownsRow.kept (World.ownsRow.alloc HOQ1.out _) HG.out (own_ne HOQ1.out HTV1.out (by decide))
     case measure => simp [intOf]; omega
    ·obtain rfl : k = c := by omega
     have hp0 : p = 0 := by
      have := HPP.out
      rw [Nat.sub_self, Nat.pow_zero] at this
      omega
     have HP0 := Lib.hid hp0
     clear hp0
     go_wp2
     go_roundw
     case rel =>
      refine ⟨m / P, t1, ?_, HTV1.out, HTR1.out, ?_, by rw [HTL1.out]; omega, ?_, HNX1.out⟩
      ·exact Ow.rd HOQ1.out
      ·have := HVL1.out
       rw [HP0.out, Nat.sub_self, Nat.pow_zero, Nat.one_mul, Nat.zero_add] at this
       exact this
      ·exact Nat.le_trans (digs_length_mono (by decide) (Nat.div_le_self _ _)) (by have := HDL.out; omega)
     case measure =>
      rw [HTV1.out.lenV, HTV.out.lenV, List.length_map, List.length_map, HTL1.out]
      omega
  ·have hm00 : m = 0 := (digs_length_zero (b := 4294967296) (by decide) m).1 (by omega)
   have hvn : vl r t = N := by
    have := HVL.out
    rw [hm00, Nat.mul_zero, Nat.add_zero] at this
    exact this
   have HVN := Lib.hid hvn
   rw [hvs]
   obtain ⟨cA, cB⟩ := box1 HNX.out
   have hl0 : (digs 4294967296 m).length = 0 := by omega
   rw [hl0]
   clear hm00 hvn hl0 hm0 hvs
   go_wp2
   have ht0 : t ≠ [] := by
    rintro rfl
    exact hz0 HVN.out.symm
   obtain ⟨g, cap, hgv, hbg, hgc, hcm⟩ := HTV.out.row (by simpa using ht0)
   have htv := HTV.out
   rw [hgv] at htv ⊢
   rw [List.length_map] at hgc htv ⊢
   have hrow := RbC.of htv (by simp)
   have HROW := Lib.hid hrow
   have HTO := Lib.hid htv
   unfold maxLen at hcm
   clear hgv htv hrow
   go_loop [8] (fun v => ∃ j : Nat, v = .slice (some ⟨g, 0, none⟩) j cap ∧ 1 ≤ j ∧ j ≤ t.length ∧ ∀ i, j ≤ i → t[i]?.getD 0 = 0) (fun v => lenV v)
   case atStart => exact ⟨t.length, rfl, by have h40 := List.length_pos_iff.2 ht0; omega, Nat.le_refl _, fun i h41 => by rw [List.getElem?_eq_none (by omega)]; rfl⟩
   case round =>
    obtain ⟨j, rfl, hj1, hjl, hjz⟩ := hrel
    have HJZ := Lib.hid hjz
    clear hjz
    obtain ⟨k, rfl⟩ : ∃ k, j = k + 1 := ⟨j - 1, by omega⟩
    have gx := HROW.out.cell k (by omega)
    have hkt : k < t.length := by omega
    have hmap : (t.map ch)[k]?.getD 0 = ch (t[k]?.getD 0) := by rw [List.getElem?_map, List.getElem?_eq_getElem hkt]; rfl
    have hxr : t[k]?.getD 0 < r := by rw [List.getElem?_eq_getElem hkt]; exact HTR.out _ (List.getElem_mem hkt)
    rw [hmap] at gx
    obtain ⟨x, hx⟩ : ∃ x, x = t[k]?.getD 0 := ⟨_, rfl⟩
    rw [← hx] at gx hxr
    have HX := Lib.hid hx
    have hcx := ch_zero x (by omega)
    by_cases hx0 : x = 0
    ·have hc48 : ch x = 48 := hcx.2 hx0
     rw [hc48] at gx
     have hk0 : 0 < k := by
      rcases Nat.eq_zero_or_pos k with rfl | h50
      ·exfalso
       apply hz0
       rw [← HVN.out]
       apply vl_zeros
       intro y hy
       obtain ⟨i, hii, rfl⟩ := List.getElem_of_mem hy
       rcases Nat.eq_zero_or_pos i with rfl | h51
       ·rw [List.getElem?_eq_getElem hkt] at hx
        simp only [Option.getD_some] at hx
        rw [← hx]; exact hx0
       ·have := HJZ.out i (by omega)
        rw [List.getElem?_eq_getElem hii] at this
        exact this
      ·exact h50
     have HX0 := Lib.hid hx0
     clear hx hmap hcx hx0 hc48
     go_wp2
     go_round
     case rel =>
      refine ⟨k, rfl, hk0, by omega, fun i h60 => ?_⟩
      by_cases h61 : i = k
      ·rw [h61, ← HX.out, HX0.out]
      ·exact HJZ.out i (by omega)
     case measure => show k < k + 1; omega
    ·have hc48 : ((ch x : Nat) : Int) ≠ 48 := by intro h; exact hx0 (hcx.1 (by omega))
     have hcb : (((ch x : Nat) : Int) == 48) = false := by rw [beq_eq_false_iff_ne]; exact hc48
     have htk : t.take (k + 1) = digs r N := by
      rw [← HVN.out]
      refine digs_trim h2 t (k + 1) HTR.out (by omega) HJZ.out (.inr ?_)
      rw [Nat.add_sub_cancel, ← hx]; exact hx0
     have HTK := Lib.hid htk
     clear hx hmap hcx hx0 hc48 htk
     cases neg
     ·have hpre := Ob.headN (n := k + 1) (d := (digs r N).map ch) (by rw [List.length_map]; exact HTO.out) (by rw [List.length_map]; omega) (by rw [← List.map_take, HTK.out])
      have hdl : (digs r N).length = k + 1 := by rw [← HTK.out, List.length_take]; omega
      have HREV := Lib.hid (reverse_any (w.heap.size + 1) g (k + 1) cap _ wr (by have := HTL.out; omega) (RbC.of (by rw [World.size_alloc] at hpre; exact hpre) (by rw [List.length_map, hdl])) (by rw [World.size_alloc] at hbg; exact hbg))
      clear hpre hdl
      go_wp2_with fail
      refine HREV.out.mono ?_
      rintro e w2 ⟨rfl, hrb, hb2, hon2⟩
      have hcv := conv_rb hrb
      have HB2 := Lib.hid hb2
      clear hrb hb2 hon2
      go_wp2
      go_ret2
      exact ⟨rfl, ((Below.refl _ _).alloc (Nat.le_refl _) _).trans ((HNX.out.mono (by simp)).trans (HB2.out.mono (Nat.le_succ _)))⟩
     ·have hpre := Ob.headN (n := k + 1) (d := (digs r N).map ch) (by rw [List.length_map]; exact HTO.out) (by rw [List.length_map]; omega) (by rw [← List.map_take, HTK.out])
      have hdl : (digs r N).length = k + 1 := by rw [← HTK.out, List.length_take]; omega
      rw [World.size_alloc] at hpre hbg
      have HPRE := Lib.hid hpre
      have HDL := Lib.hid hdl
      clear hpre hdl
      go_wp2_with (at_builtin; refine wpList_append_own _ rfl (.tmp 66) (.tmp 67) 187 rfl (w.heap.size + 1) 5 i0 (.int .u8 0) 1 1 Tryz.underlying187 hi hz0' hz1 hz2 rfl (by decide) _ (k + 1) _ rfl (World.ownsRow.alloc (by have h := HPRE.out; unfold Ob at h; rw [List.length_map, HDL.out] at h; exact h) _) ⟨wr.heap.size, 0, none⟩ 1 1 (bw [45]) rfl rfl ?d1 (bw_oneCell _) ?d2 ?d3 ?d4 ?_)
      case d1 => exact fun _ _ h => h
      case d2 => have := HTL.out; unfold maxLen; omega
      case d3 => have := HTL.out; omega
      case d4 => have := HNX.out.size; simp at this ⊢; omega
      intro v' w1 hown1 hgrow _
      have hob : Ob w1 (w.heap.size + 1) v' ((digs r N).map ch ++ [45]) := by
       unfold Ob
       rw [bw_append, List.length_append, List.length_map, HDL.out]
       exact hown1
      have hbw := (HNX.out.alloc HNX.out.size _).grown hgrow (by have := HNX.out.size; simp at this ⊢; omega) (fun q hq => by have := (HPRE.out.lt q hq).1; simpa using this)
      obtain ⟨g', cap', hgv', hbg', hgc', hcm'⟩ := hob.row (by simp)
      rw [hgv'] at hob ⊢
      have hln : ((digs r N).map ch ++ [45]).length = k + 2 := by rw [List.length_append, List.length_map, HDL.out]; rfl
      rw [hln] at hob ⊢
      have HREV := Lib.hid (reverse_any (w.heap.size + 1) g' (k + 2) cap' _ w1 (by have := HTL.out; omega) (RbC.of hob hln) hbg')
      have HBW := Lib.hid hbw
      have c2 := (box1 hbw).1
      clear hown1 hgrow hob hbw hgv' hln
      go_wp2_with fail
      refine HREV.out.mono ?_
      rintro e w2 ⟨rfl, hrb, hb2, hon2⟩
      rw [List.reverse_append] at hrb
      have hcv := conv_rb hrb
      have HB2 := Lib.hid hb2
      clear hrb hb2 hon2
      go_wp2
      go_ret2
      exact ⟨rfl, ((Below.refl _ _).alloc (Nat.le_refl _) _).trans ((HBW.out.mono (by simp)).trans (HB2.out.mono (Nat.le_succ _)))⟩
end
section
open Go.RowKit Digs
theorem digs_small (n : Nat) (h0 : n ≠ 0) (h : n < 4294967296) : digs 4294967296 n = [n] := by
 rw [digs_pos (by decide) h0, Nat.div_eq_of_lt h, digs_zero, Nat.mod_eq_of_lt h]
theorem text_any (r : Nat) (z : Int) (v : Value) (w : World) (h2 : 2 ≤ r) (h36 : r ≤ 36) (hz : z ≠ 0) (hl : len z ≤ 1000000) (h : IntV w v z) :
  Calls Tryz.prog 111 #[v, .int .i64 r] w (TextPost w (textB (decide (z < 0)) r z.natAbs)) := by
 have h' := h
 obtain ⟨ad, n, c, rfl, _⟩ := h
 exact text_core (decide (z < 0)) ad n c r z.natAbs 1000000 z rfl (by omega) w h2 h36 hl (Nat.le_refl _) h'
def AwS (w : World) (p q : Nat) (x y z : Value × Value) (w' : World) : Prop :=
 w'.cell? ⟨p, 0, none⟩ = some x.1 ∧ w'.cell? ⟨p, 1, none⟩ = some x.2 ∧ w'.cell? ⟨p + 1, 0, none⟩ = some y.1 ∧ w'.cell? ⟨p + 1, 1, none⟩ = some y.2 ∧ w'.cell? ⟨q, 0, none⟩ = some z.1 ∧ w'.cell? ⟨q, 1, none⟩ = some z.2 ∧
  IntV w' (.agg #[x.1, x.2]) (-3) ∧ IntV w' (.agg #[y.1, y.2]) (-1) ∧ IntV w' (.agg #[z.1, z.2]) 4 ∧ Below w.heap.size w w'
theorem AwS.keep {w : World} {p q : Nat} {x y z : Value × Value} {w1 w2 : World} (h : AwS w p q x y z w1) (hb : Below w1.heap.size w1 w2) : AwS w p q x y z w2 := by
 obtain ⟨h1, h2, h3, h4, h5, h6, h7, h8, h9, h10⟩ := h
 have hp := World.block_lt_of_cell? w1 _ h1
 have hp1 := World.block_lt_of_cell? w1 _ h3
 have hq := World.block_lt_of_cell? w1 _ h5
 exact ⟨(hb.cell (p := ⟨p, 0, none⟩) hp).trans h1, (hb.cell (p := ⟨p, 1, none⟩) hp).trans h2, (hb.cell (p := ⟨p + 1, 0, none⟩) hp1).trans h3, (hb.cell (p := ⟨p + 1, 1, none⟩) hp1).trans h4, (hb.cell (p := ⟨q, 0, none⟩) hq).trans h5, (hb.cell (p := ⟨q, 1, none⟩) hq).trans h6,
  h7.keep hb, h8.keep hb, h9.keep hb, h10.trans (hb.mono h10.size)⟩
end
section
open Go.RowKit Digs
theorem cmpN_Z (m n : Nat) : cmpN m n = cmpZ (m : Int) (n : Int) := by
 unfold cmpN cmpZ
 simp only [Int.ofNat_lt]
set_option maxHeartbeats 1000000 in
set_option maxRecDepth 100000 in
theorem Cmp_any (x y : Int) (vx vy : Value) (w : World) (ha : IntV w vx x) (hb : IntV w vy y) :
  Calls Tryz.prog 63 #[vx, vy] w fun e w' => e = .returned (.int .i64 (cmpZ x y)) ∧ Below w.heap.size w w' := by
 obtain ⟨adx, nx, cx, rfl, hrx⟩ := ha
 obtain ⟨ady, ny, cy, rfl, hry⟩ := hb
 have H1 := fun W hw => Lib.hid (compare_any x.natAbs y.natAbs _ _ W (hrx.keep (w' := W) hw) (hry.keep hw))
 have H2 := fun W hw => Lib.hid (compare_any y.natAbs x.natAbs _ _ W (hry.keep (w' := W) hw) (hrx.keep hw))
 have H1 := Lib.hid H1
 have H2 := Lib.hid H2
 clear hrx hry
 by_cases hx : x < 0
 ·have dx : decide (x < 0) = true := by simpa using hx
  rw [dx]
  by_cases hy : y < 0
  ·have dy : decide (y < 0) = true := by simpa using hy
   rw [dy]
   have e : cmpN y.natAbs x.natAbs = cmpZ x y := by
    rw [cmpN_Z]
    unfold cmpZ
    repeat' split
    all_goals omega
   rw [← e]
   clear dx dy hx hy e
   go_enter Tryz.func63, Tryz.ntmps63
   go_wp2_with fail
   refine (H2.out _ (below2 _ _ _)).out.mono ?_
   rintro e w1 ⟨rfl, d, rfl⟩
   go_wp2
   go_ret
   exact ⟨rfl, below_drewN' (below2 _ _ _) _⟩
  ·have dy : decide (y < 0) = false := by simpa using hy
   rw [dy]
   have e : cmpZ x y = -1 := by unfold cmpZ; rw [if_pos (by omega)]
   rw [e]
   clear dx dy hx hy e
   go_enter Tryz.func63, Tryz.ntmps63
   go_wp2
   go_ret
   exact ⟨rfl, below2 _ _ _⟩
 ·have dx : decide (x < 0) = false := by simpa using hx
  rw [dx]
  by_cases hy : y < 0
  ·have dy : decide (y < 0) = true := by simpa using hy
   rw [dy]
   have e : cmpZ x y = 1 := by unfold cmpZ; rw [if_neg (by omega), if_pos (by omega)]
   rw [e]
   clear dx dy hx hy e
   go_enter Tryz.func63, Tryz.ntmps63
   go_wp2
   go_ret
   exact ⟨rfl, below2 _ _ _⟩
  ·have dy : decide (y < 0) = false := by simpa using hy
   rw [dy]
   have e : cmpN x.natAbs y.natAbs = cmpZ x y := by
    rw [cmpN_Z, Int.natAbs_of_nonneg (by omega), Int.natAbs_of_nonneg (by omega)]
   rw [← e]
   clear dx dy hx hy e
   go_enter Tryz.func63, Tryz.ntmps63
   go_wp2_with fail
   refine (H1.out _ (below2 _ _ _)).out.mono ?_
   rintro e w1 ⟨rfl, d, rfl⟩
   go_wp2
   go_ret
   exact ⟨rfl, below_drewN' (below2 _ _ _) _⟩
end
end Go.Proofs.YtghgcbedajaldaaGreat
