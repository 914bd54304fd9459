/-  Qe Qf Qk0 Qa  -/
import Derived.Lib.Bytealg
import Derived.Test.YtghgcbedajaldaaGreatMpaz
import Derived.Test.YtghgcbedajaldaaGreatMpaw
import Derived.Test.YtghgcbedajaldaaGreatMpag
import Derived.RangeFuncNested
import Derived.RangeFuncLeaves
import Derived.Shelf.Abstract
import Derived.WalkKit
import Derived.OwnWalkIn
import Derived.TacticsInMore
import Derived.LoopNIn
import Derived.LoopIn
import Derived.Maps.AppendAt
import Derived.Maps.OwnIn
/-  strings.Cut at one byte that is there; strings.HasPrefix of one byte.  -/
namespace Go.Proofs.YtghgcbedajaldaaGreat
section
open Go.RowKit Digs
theorem bstr_list (l : List Nat) : (bstr l).data.toList = l.map UInt8.ofNat := by simp [bstr]
theorem idx_slash (l1 l2 : List Nat) (h : ∀ c ∈ l1, c ≠ 47 ∧ c < 256) : Lib.indexByte ((l1 ++ 47 :: l2).map UInt8.ofNat) (UInt8.ofNat 47) = (l1.length : Int) := by
 induction l1 with
 | nil => rfl
 | cons c l ih =>
  have hc := h c (List.mem_cons_self ..)
  have ih' := ih fun x hx => h x (List.mem_cons_of_mem _ hx)
  rw [List.cons_append, List.map_cons]
  unfold Lib.indexByte
  have hne : (UInt8.ofNat c == UInt8.ofNat 47) = false := by
   rw [beq_eq_false_iff_ne]
   intro h
   have := congrArg UInt8.toNat h
   simp at this
   omega
  rw [hne, ih']
  have h0 : ((l.length : Int) == -1) = false := by rw [beq_eq_false_iff_ne]; omega
  rw [h0]
  simp
theorem bstr_take (l1 l2 : List Nat) : (bstr (l1 ++ 47 :: l2)).extract 0 l1.length = bstr l1 := by
 apply ByteArray.ext
 apply Array.ext'
 unfold bstr
 rw [ByteArray.extract_mk]
 simp
theorem bstr_from (l1 l2 : List Nat) : (bstr (l1 ++ 47 :: l2)).extract (l1.length + 1) (l1.length + (l2.length + 1)) = bstr l2 := by
 apply ByteArray.ext
 apply Array.ext'
 unfold bstr
 rw [ByteArray.extract_mk]
 simp
 rw [show List.map UInt8.ofNat l1 ++ 47 :: List.map UInt8.ofNat l2 = (List.map UInt8.ofNat l1 ++ [47]) ++ List.map UInt8.ofNat l2 from by simp, List.drop_left' (by simp)]
 exact List.take_of_length_le (by simp; omega)
set_option maxRecDepth 100000 in
theorem indexByte_any (t : ByteArray) (c : Int) (w : World) :
  Calls Tryz.prog 184 #[.string t, .int .u8 c] w fun e w' => e = .returned (.int .i64 (Lib.indexByte t.data.toList c.toNat.toUInt8)) ∧ w' = w := by
 go_enter Tryz.func184, Tryz.ntmps184
 go_wp2
 rw [run_callFunc_extern Tryz.func188 (by kernel_rfl) (by kernel_rfl) (by kernel_rfl) (e := Extern.BytealgIndexByte.indexByte) (by kernel_rfl), Lib.run_indexByteString]
 simp only [Result.andThen]
 rw [Oper.upon_value]
 go_wp2
 go_ret
 exact ⟨rfl, rfl⟩
theorem tolist_ne {t : ByteArray} (h : 2 ≤ t.size) : ([47] == t.toList) = false := by
 rw [beq_eq_false_iff_ne]
 intro e
 have := congrArg List.length e
 rw [Lib.toList_data] at this
 simp at this
 have h2 : t.size = t.data.size := rfl
 omega
set_option maxRecDepth 100000 in
theorem strIndex_any (t : ByteArray) (w : World) (h : 2 ≤ t.size) :
  Calls Tryz.prog 174 #[.string t, .string ⟨#[47]⟩] w fun e w' => e = .returned (.int .i64 (Lib.indexByte t.data.toList (UInt8.ofNat 47))) ∧ w' = w := by
 have HI := Lib.hid (show Calls Tryz.prog 184 #[.string t, .int .u8 47] w (fun e w' => e = .returned (.int .i64 (Lib.indexByte t.data.toList (UInt8.ofNat 47))) ∧ w' = w) from indexByte_any t 47 w)
 have hne := tolist_ne h
 have hb : ((⟨#[47]⟩ : ByteArray)[0]'(by decide)).toNat = 47 := rfl
 clear h
 go_enter Tryz.func174, Tryz.ntmps174
 go_wp2_with fail
 refine HI.out.mono ?_
 rintro e w' ⟨rfl, rfl⟩
 go_wp2
 go_ret
 exact ⟨rfl, rfl⟩
def CutPost (l1 l2 : List Nat) (w : World) (e : Ending) (w' : World) : Prop := e = .returned (.tuple #[.string (bstr l1), .string (bstr l2), .bool true]) ∧ Below w.heap.size w w'
set_option maxRecDepth 100000 in
theorem cutLite_any (l1 l2 : List Nat) (w : World) (h1 : ∀ c ∈ l1, c ≠ 47 ∧ c < 256) (h0 : 0 < l1.length) (hs : l1.length + l2.length + 1 ≤ 1000000) :
  Calls Tryz.prog 157 #[.string (bstr (l1 ++ 47 :: l2)), .string ⟨#[47]⟩] w (CutPost l1 l2 w) := by
 have hsz : (bstr (l1 ++ 47 :: l2)).size = l1.length + (l2.length + 1) := by rw [bstr_size, List.length_append, List.length_cons]
 have HI := Lib.hid (strIndex_any (bstr (l1 ++ 47 :: l2)) w (by omega))
 rw [bstr_list, idx_slash l1 l2 h1] at HI
 have e1 := bstr_take l1 l2
 have e2 := bstr_from l1 l2
 clear h1
 obtain ⟨k, hk⟩ : ∃ k, l1.length = k := ⟨_, rfl⟩
 rw [hk] at HI e1 e2 hsz h0 hs
 obtain ⟨m, hm⟩ : ∃ m, k + (l2.length + 1) = m := ⟨_, rfl⟩
 rw [hm] at e2 hsz
 generalize bstr (l1 ++ 47 :: l2) = t at *
 have c1 : (0 : Int) ≤ (k : Int) := by omega
 have c2 : (k : Int) ≤ (m : Int) := by omega
 have c3 : (0 : Int) ≤ (k : Int) + 1 := by omega
 have c4 : (k : Int) + 1 ≤ (m : Int) := by omega
 have c5 : IntKind.i64.wrap ((k : Int) + 1) = (k : Int) + 1 := by rw [IntKind.wrap_i64]; omega
 have c6 : ((k : Int) + 1).toNat = k + 1 := by omega
 clear hk hm h0 hs
 go_enter Tryz.func157, Tryz.ntmps157
 go_wp2_with fail
 refine HI.out.mono ?_
 rintro e w' ⟨rfl, rfl⟩
 go_upto_region 3 with fail
 go_region
 all_goals
  go_wp2
  go_ret3
  exact ⟨rfl, (Below.refl _ _).drew⟩
set_option maxRecDepth 100000 in
theorem cut_any (l1 l2 : List Nat) (w : World) (h1 : ∀ c ∈ l1, c ≠ 47 ∧ c < 256) (h0 : 0 < l1.length) (hs : l1.length + l2.length + 1 ≤ 1000000) :
  Calls Tryz.prog 113 #[.string (bstr (l1 ++ 47 :: l2)), .string ⟨#[47]⟩] w (CutPost l1 l2 w) := by
 have HI := Lib.hid (cutLite_any l1 l2 w h1 h0 hs)
 clear h1 h0 hs
 generalize bstr (l1 ++ 47 :: l2) = t at *
 go_enter Tryz.func113, Tryz.ntmps113
 go_wp2_with fail
 refine HI.out.mono ?_
 rintro e w1 ⟨rfl, hb⟩
 go_wp2
 go_ret3
 exact ⟨rfl, hb⟩
theorem pref_ne {l : List Nat} {c : Nat} (hl : ∀ x ∈ l, x < 256) (hc : c < 256) (h : l.head? ≠ some c) : ((((bstr l).extract 0 1)).toList == [UInt8.ofNat c]) = false := by
 rw [beq_eq_false_iff_ne, Lib.toList_data]
 intro e
 cases l with
 | nil => simp [bstr] at e
 | cons x l =>
  unfold bstr at e
  rw [ByteArray.extract_mk] at e
  simp at e
  have := congrArg UInt8.toNat e
  have hx := hl x (List.mem_cons_self ..)
  simp at this
  simp at h
  omega
set_option maxRecDepth 100000 in
theorem hasPrefixLite_any (t : ByteArray) (c : UInt8) (m : Nat) (w : World) (hs : t.size = m + 1) (hn : ((t.extract 0 1).toList == [c]) = false) :
  Calls Tryz.prog 159 #[.string t, .string ⟨#[c]⟩] w (BoolPost w false) := by
 have c1 : (1 : Int) ≤ (m : Int) + 1 := by omega
 have c2 : ((m : Int) + 1 < 1) = False := by simp; omega
 go_enter Tryz.func159, Tryz.ntmps159
 go_wp2_with fail
 go_ret
 exact ⟨rfl, Below.refl _ _⟩
set_option maxRecDepth 100000 in
theorem hasPrefix_any (t : ByteArray) (c : UInt8) (m : Nat) (w : World) (hs : t.size = m + 1) (hn : ((t.extract 0 1).toList == [c]) = false) :
  Calls Tryz.prog 115 #[.string t, .string ⟨#[c]⟩] w (BoolPost w false) := by
 have HI := Lib.hid (hasPrefixLite_any t c m w hs hn)
 clear hs hn
 go_enter Tryz.func115, Tryz.ntmps115
 go_wp2_with fail
 refine HI.out.mono ?_
 rintro e w1 ⟨rfl, hb⟩
 go_wp2
 go_ret
 exact ⟨rfl, hb⟩
structure Z4 (R : Nat) (W : World) : Prop where
 r0 : W.cell? ⟨R, 0, none⟩ = some (.bool false)
 r1 : W.cell? ⟨R, 1, none⟩ = some (.slice none 0 0)
 r2 : W.cell? ⟨R, 2, none⟩ = some (.bool false)
 r3 : W.cell? ⟨R, 3, none⟩ = some (.slice none 0 0)
 f0 : W.frozen? ⟨R, 0, none⟩ = false
 f1 : W.frozen? ⟨R, 1, none⟩ = false
 f2 : W.frozen? ⟨R, 2, none⟩ = false
 f3 : W.frozen? ⟨R, 3, none⟩ = false
theorem Z4.keep {R : Nat} {W W' : World} (h : Z4 R W) (hb : Below W.heap.size W W') : Z4 R W' := by
 have l := World.block_lt_of_cell? W _ h.r0
 exact ⟨(hb.cell (p := ⟨R, 0, none⟩) l).trans h.r0, (hb.cell (p := ⟨R, 1, none⟩) l).trans h.r1, (hb.cell (p := ⟨R, 2, none⟩) l).trans h.r2, (hb.cell (p := ⟨R, 3, none⟩) l).trans h.r3,
  (hb.frozen (p := ⟨R, 0, none⟩) l).trans h.f0, (hb.frozen (p := ⟨R, 1, none⟩) l).trans h.f1, (hb.frozen (p := ⟨R, 2, none⟩) l).trans h.f2, (hb.frozen (p := ⟨R, 3, none⟩) l).trans h.f3⟩
theorem Z4.made (w : World) (t : TypeId) : Z4 w.heap.size (w.alloc (.cells #[.bool false, .slice none 0 0, .bool false, .slice none 0 0] t)) := by
 obtain ⟨h1, h2, h3, h4, h5, h6, h7, h8, _⟩ := cells4 (Below.refl (w.alloc (.cells #[.bool false, .slice none 0 0, .bool false, .slice none 0 0] t)).heap.size (w.alloc (.cells #[.bool false, .slice none 0 0, .bool false, .slice none 0 0] t)))
 exact ⟨h1, h2, h3, h4, h5, h6, h7, h8⟩
theorem Z4.set {R : Nat} {W : World} (h : Z4 R W) {v x y s t : Value} {n d : Int} (hv : RatV W v n d) (he : v = .agg #[x, y, s, t]) :
  RatV ((((W.setCell ⟨R, 0, none⟩ x).setCell ⟨R, 1, none⟩ y).setCell ⟨R, 2, none⟩ s).setCell ⟨R, 3, none⟩ t) v n d := by
 obtain ⟨a, b, c, e, rfl, h1, h2⟩ := hv
 exact ⟨a, b, c, e, rfl, h1.st4 h.r0 h.r1 h.r2 h.r3 (by intro n h; cases h) (by intro n h; cases h) (by intro n h; cases h) (by intro n h; cases h) _ _ _ _, h2.st4 h.r0 h.r1 h.r2 h.r3 (by intro n h; cases h) (by intro n h; cases h) (by intro n h; cases h) (by intro n h; cases h) _ _ _ _⟩
theorem rat_shape {w : World} {v : Value} {n d : Int} (h : RatV w v n d) : ∃ (p : Bool) (ad : Option Addr) (m c : Nat) (p' : Bool) (ad' : Option Addr) (m' c' : Nat), v = .agg #[.bool p, .slice ad m c, .bool p', .slice ad' m' c'] := by
 obtain ⟨a, b, c, e, rfl, h1, h2⟩ := h
 obtain ⟨p1, ad1, n1, c1, rfl, rfl, _⟩ := h1.parts
 obtain ⟨p2, ad2, n2, c2, rfl, rfl, _⟩ := h2.parts
 exact ⟨_, _, _, _, _, _, _, _, rfl⟩
set_option maxHeartbeats 400000 in
set_option maxRecDepth 100000 in
theorem ratParse_ok (r : Int) (l1 l2 : List Nat) (n d : Int) (w : World) (h1 : ∀ c ∈ l1, c ≠ 47 ∧ c < 256) (h0 : 0 < l1.length) (h2 : ∀ c ∈ l2, c < 256) (h20 : 0 < l2.length) (hs : l1.length + l2.length + 1 ≤ 20000)
  (p1 : prs r l1 = (n, 0)) (p2 : prs r l2 = (d, 0)) (hd : d ≠ 0) (hh1 : l2.head? ≠ some 43) (hh2 : l2.head? ≠ some 45) (hln : len n ≤ 1000000) (hld : len d ≤ 1000000) :
  Calls Tryz.prog 58 #[.string (bstr (l1 ++ 47 :: l2)), .int .i64 r] w (RatRes w (qn n d) (qd n d) 0) := by
 have HC := Lib.hid fun W => Lib.hid (show Calls Tryz.prog 113 #[.string (bstr (l1 ++ 47 :: l2)), .string ⟨#[47]⟩] W (fun e w' => e = .returned (.tuple #[.string (bstr l1), .string (bstr l2), .bool true]) ∧ Below W.heap.size W w') from cut_any l1 l2 W h1 h0 (by omega))
 have HP1 := Lib.hid fun W => Lib.hid (show Calls Tryz.prog 114 #[.string (bstr l1), .int .i64 r] W (IntRes W n 0) from by
  have := parse_any r l1 W (by omega) (fun c hc => (h1 c hc).2)
  rwa [p1] at this)
 have HP2 := Lib.hid fun W => Lib.hid (show Calls Tryz.prog 114 #[.string (bstr l2), .int .i64 r] W (IntRes W d 0) from by
  have := parse_any r l2 W (by omega) h2
  rwa [p2] at this)
 obtain ⟨m, hm⟩ : ∃ m, l2.length = m + 1 := ⟨l2.length - 1, by omega⟩
 have HF1 := Lib.hid fun W => Lib.hid (hasPrefix_any (bstr l2) 43 m W (by rw [bstr_size, hm]) (pref_ne h2 (by decide) hh1))
 have HF2 := Lib.hid fun W => Lib.hid (hasPrefix_any (bstr l2) 45 m W (by rw [bstr_size, hm]) (pref_ne h2 (by decide) hh2))
 have HN := Lib.hid fun W u v h h' => Lib.hid (show Calls Tryz.prog 16 #[u, v] W (RatRes W (qn n d) (qd n d) 0) from by
  have := ratNew_any n d u v W hln hld h h'
  rwa [if_neg hd, if_neg hd, if_neg hd] at this)
 obtain ⟨k, hk⟩ : ∃ k : Nat, l1.length + (l2.length + 1) = k := ⟨_, rfl⟩
 have hsz : (bstr (l1 ++ 47 :: l2)).size = k := by rw [bstr_size, List.length_append, List.length_cons, hk]
 have hk2 : ((20000 : Int) < (k : Int)) = False := by simp; omega
 clear h1 h0 h2 h20 p1 p2 hd hh1 hh2 hln hld hm hk hs
 generalize bstr (l1 ++ 47 :: l2) = t at *
 generalize bstr l1 = t1 at *
 generalize bstr l2 = t2 at *
 generalize qn n d = N at *
 generalize qd n d = D at *
 go_enter Tryz.func58, Tryz.ntmps58
 have hZ0 := Lib.hid (Z4.made w 38)
 have hB0 := Lib.hid ((Below.refl w.heap.size w).alloc (Nat.le_refl _) (.cells #[.bool false, .slice none 0 0, .bool false, .slice none 0 0] 38))
 go_wp2_with fail
 refine (HC.out _).out.mono ?_
 rintro e w1 ⟨rfl, hb1⟩
 have hZ1 := Lib.hid (hZ0.out.keep hb1)
 have hB1 := Lib.hid (hB0.out.trans (hb1.mono hB0.out.size))
 clear hb1 hZ0 hB0
 go_wp2_with fail
 refine (HP1.out _).out.mono ?_
 rintro e w2 ⟨v2, rfl, hi2, hb2⟩
 obtain ⟨q2, a2, n2, c2, rfl⟩ := intv_shape hi2
 have hal2 := (Below.refl w2.heap.size w2).alloc (Nat.le_refl _) (.cells #[.bool q2, .slice a2 n2 c2] 31)
 have hX2 : Hid (BX w2.heap.size (.bool q2) (.slice a2 n2 c2) n (w2.alloc (.cells #[.bool q2, .slice a2 n2 c2] 31))) := Lib.hid (BX.made hi2)
 have hZ2 := Lib.hid ((hZ1.out.keep hb2).keep hal2)
 have hB2 := Lib.hid (hB1.out.trans ((hb2.trans (hal2.mono hb2.size)).mono hB1.out.size))
 clear hb2 hal2 hi2 hZ1 hB1
 go_wp2_with fail
 refine (HF1.out _).out.mono ?_
 rintro e w3 ⟨rfl, hb3⟩
 have hX3 := Lib.hid (hX2.out.keep hb3)
 have hZ3 := Lib.hid (hZ2.out.keep hb3)
 have hB3 := Lib.hid (hB2.out.trans (hb3.mono hB2.out.size))
 clear hb3 hX2 hZ2 hB2
 go_wp2_with fail
 refine (HF2.out _).out.mono ?_
 rintro e w4 ⟨rfl, hb4⟩
 have hX4 := Lib.hid (hX3.out.keep hb4)
 have hZ4 := Lib.hid (hZ3.out.keep hb4)
 have hB4 := Lib.hid (hB3.out.trans (hb4.mono hB3.out.size))
 clear hb4 hX3 hZ3 hB3
 go_wp2_with fail
 refine (HP2.out _).out.mono ?_
 rintro e w5 ⟨v5, rfl, hi5, hb5⟩
 obtain ⟨q5, a5, n5, c5, rfl⟩ := intv_shape hi5
 have hal5 := (Below.refl w5.heap.size w5).alloc (Nat.le_refl _) (.cells #[.bool q5, .slice a5 n5 c5] 31)
 have hX5 := Lib.hid ((hX4.out.keep hb5).keep hal5)
 have hY5 : Hid (BX w5.heap.size (.bool q5) (.slice a5 n5 c5) d (w5.alloc (.cells #[.bool q5, .slice a5 n5 c5] 31))) := Lib.hid (BX.made hi5)
 have hZ5 := Lib.hid ((hZ4.out.keep hb5).keep hal5)
 have hB5 := Lib.hid (hB4.out.trans ((hb5.trans (hal5.mono hb5.size)).mono hB4.out.size))
 obtain ⟨g0, g1⟩ := hX5.out.cells
 clear hb5 hal5 hi5 hX4 hZ4 hB4
 go_wp2_with fail
 (with_reducible refine (HN.out _ _ _ hX5.out.iv hY5.out.iv).out.mono ?_)
 rintro e w6 ⟨v6, rfl, hr6, hb6⟩
 have hr6' := hr6
 obtain ⟨p6, ad6, n6, c6, p7, ad7, n7, c7, rfl⟩ := rat_shape hr6'
 have hZ6 := Lib.hid (hZ5.out.keep hb6)
 have hR6 := Lib.hid hr6
 have hB6 := Lib.hid (hB5.out.trans (hb6.mono hB5.out.size))
 obtain ⟨r0, r1, r2, r3, f0, f1, f2, f3⟩ := hZ6.out
 clear hb6 hr6 hr6' g0 g1
 go_wp2_with fail
 refine bodyPost_ret (v := .tuple #[.agg #[.bool p6, .slice ad6 n6 c6, .bool p7, .slice ad7 n7 c7], .int .i64 0]) (by simp [results, Tryz.results58, go_sem, r0, r1, r2, r3]) rfl ⟨_, rfl, hZ6.out.set hR6.out rfl, ?_⟩
 exact (((hB6.out.setCell (by simp) _).setCell (by simp) _).setCell (by simp) _).setCell (by simp) _
end
end Go.Proofs.YtghgcbedajaldaaGreat
/-  Fractions: the text of one that is no integer.  -/
namespace Go.Proofs.YtghgcbedajaldaaGreat
section
open Go.RowKit Digs
theorem bstr_app (s1 s2 : List Nat) : bstr s1 ++ (⟨#[47]⟩ : ByteArray) ++ bstr s2 = bstr (s1 ++ 47 :: s2) := by
 apply ByteArray.ext
 apply Array.ext'
 simp [bstr]
set_option maxHeartbeats 1000000 in
set_option maxRecDepth 100000 in
theorem ratText_any (r n d : Int) (s1 s2 : List Nat) (v : Value) (w : World) (h : RatV w v n d) (hd0 : 0 < d) (hd1 : d ≠ 1) (hln : len n ≤ 1000000) (hld : len d ≤ 1000000) (t1 : txt r n = (s1, 0)) (t2 : txt r d = (s2, 0)) (hs1 : s1.length ≤ 1000000) (hs2 : s2.length ≤ 1000000) :
  Calls Tryz.prog 56 #[v, .int .i64 r] w (TextRes w (s1 ++ 47 :: s2) 0) := by
 have HV := Lib.hid h
 have HW := Lib.hid fun W u hu => Lib.hid (show Calls Tryz.prog 22 #[u] W (BoolPost W false) from by
  have := ratWhole_any n d u W hd0 hld hu
  rwa [decide_eq_false hd1] at this)
 obtain ⟨a, b, c, e, rfl, h1, h2⟩ := h
 have hdz : dz d = d := by unfold dz; rw [if_neg hd1]
 rw [hdz] at h2
 have HT1 := Lib.hid fun W u hu => Lib.hid (show Calls Tryz.prog 111 #[u, .int .i64 r] W (fun e w' => e = .returned (.tuple #[.string (bstr s1), .int .i64 0]) ∧ Below W.heap.size W w') from by
  have := Text_all r n u W hln hu
  rwa [t1] at this)
 have HT2 := Lib.hid fun W u hu => Lib.hid (show Calls Tryz.prog 111 #[u, .int .i64 r] W (fun e w' => e = .returned (.tuple #[.string (bstr s2), .int .i64 0]) ∧ Below W.heap.size W w') from by
  have := Text_all r d u W hld hu
  rwa [t2] at this)
 obtain ⟨p1, ad1, n1, c1, rfl, rfl, _⟩ := h1.parts
 obtain ⟨p2, ad2, n2, c2, rfl, rfl, _⟩ := h2.parts
 have H1 := Lib.hid h1
 have H2 := Lib.hid h2
 have HS := Lib.hid (bstr_app s1 s2)
 have z1 : (bstr s1).size ≤ 1000000 := by rw [bstr_size]; exact hs1
 have z2 : (bstr s2).size ≤ 1000000 := by rw [bstr_size]; exact hs2
 clear h1 h2 t1 t2 hd0 hd1 hln hld hdz hs1 hs2
 have HR : ∀ e w', (e = .returned (.tuple #[.string (bstr (s1 ++ 47 :: s2)), .int .i64 0]) ∧ Below w.heap.size w w') → TextRes w (s1 ++ 47 :: s2) 0 e w' := fun _ _ h => h
 have HR' := Lib.hid HR
 clear HR
 generalize bstr (s1 ++ 47 :: s2) = t at *
 generalize bstr s1 = t1 at *
 generalize bstr s2 = t2 at *
 go_enter Tryz.func56, Tryz.ntmps56
 have hal := (Below.refl w.heap.size w).alloc (Nat.le_refl _) (.cells #[.bool p1, .slice ad1 n1 c1, .bool p2, .slice ad2 n2 c2] 38)
 have HB0 := Lib.hid (fun W (h : Below (w.alloc (.cells #[.bool p1, .slice ad1 n1 c1, .bool p2, .slice ad2 n2 c2] 38)).heap.size (w.alloc (.cells #[.bool p1, .slice ad1 n1 c1, .bool p2, .slice ad2 n2 c2] 38)) W) => cells4 h)
 have HAL := Lib.hid hal
 clear hal
 go_wp2_with fail
 (with_reducible refine (HT1.out _ _ (H1.out.keep HAL.out)).out.mono ?_)
 rintro e w1 ⟨rfl, hb1⟩
 obtain ⟨x0, x1, x2, x3, _⟩ := HB0.out _ hb1
 have HB1 := Lib.hid (HAL.out.trans (hb1.mono HAL.out.size))
 have HC1 := Lib.hid hb1
 clear hb1
 go_wp2_with fail
 (with_reducible refine (HW.out _ _ (HV.out.keep HB1.out)).out.mono ?_)
 rintro e w2 ⟨rfl, hb2⟩
 have HC2 := Lib.hid (HC1.out.trans (hb2.mono HC1.out.size))
 have HB2 := Lib.hid (HB1.out.trans (hb2.mono HB1.out.size))
 clear hb2 x0 x1 x2 x3
 obtain ⟨x0, x1, x2, x3, _⟩ := HB0.out _ HC2.out
 go_wp2_with fail
 (with_reducible refine (HT2.out _ _ (H2.out.keep HB2.out)).out.mono ?_)
 rintro e w3 ⟨rfl, hb3⟩
 have HB3 := Lib.hid (HB2.out.trans (hb3.mono HB2.out.size))
 clear hb3
 go_wp2_with fail
 have hst := HS.out
 rw [hst]
 go_ret2
 exact HR'.out _ _ ⟨rfl, HB3.out⟩
end
end Go.Proofs.YtghgcbedajaldaaGreat
/-  The closed facts of layer 3's example.  -/
namespace Go.Proofs.YtghgcbedajaldaaGreat
section
open Go.RowKit Digs
theorem prs_a : prs 10 [43, 48, 54] = (6, 0) := by decide
theorem prs_b : prs 10 [52] = (4, 0) := by decide
theorem prs_c : prs 10 [51, 49] = (31, 0) := by decide
theorem prs_d : prs 10 [51, 50] = (32, 0) := by decide
theorem prs_e : prs 10 [49, 48, 48] = (100, 0) := by decide
theorem q_a : qn 6 4 = 3 ∧ qd 6 4 = 2 := by decide
theorem q_b : qn 31 100 = 31 ∧ qd 31 100 = 100 := by decide
theorem q_c : qn 32 100 = 8 ∧ qd 32 100 = 25 := by decide
theorem q_d : qn 5 16 = 5 ∧ qd 5 16 = 16 := by decide
theorem txt1 {z : Int} {c : Nat} (h0 : 0 < z) (h : z.natAbs < 10) (hc : ch z.natAbs = c) : txt 10 z = ([c], 0) := by
 unfold txt
 rw [if_neg (by decide), if_neg (by omega), decide_eq_false (by omega)]
 unfold textB
 rw [show ((10 : Int).toNat) = 10 from rfl, digs_pos (by decide) (by omega), Nat.div_eq_of_lt h, digs_zero, Nat.mod_eq_of_lt h]
 simp [hc]
theorem txt_a : txt 10 3 = ([51], 0) := txt1 (by decide) (by decide) (by decide)
theorem txt_b : txt 10 2 = ([50], 0) := txt1 (by decide) (by decide) (by decide)
theorem txt_c : txt 10 5 = ([53], 0) := txt1 (by decide) (by decide) (by decide)
theorem txt_d : txt 10 16 = ([49, 54], 0) := by
 unfold txt
 rw [if_neg (by decide), if_neg (by decide), decide_eq_false (by decide)]
 unfold textB
 rw [show ((10 : Int).toNat) = 10 from rfl, digs_pos (by decide) (by decide), show (16 : Int).natAbs / 10 = 1 from rfl, digs_pos (by decide) (by decide), show 1 / 10 = 0 from rfl, digs_zero]
 decide
end
end Go.Proofs.YtghgcbedajaldaaGreat
/-  A slice of the program's integers that grows while an iterator runs: what is kept by the one and by the other.  -/
namespace Go.Proofs.YtghgcbedajaldaaGreat
section
open Go.RowKit Digs
def NI (u : Value) : Prop := ∀ k, u ≠ .int .u32 k
def NUR (w : World) (v : Value) : Prop := ∀ g, v.ownBlock = some g → ∃ cur, w.heap[g]? = some (.cells cur 31 (0, 0)) ∧ ∀ u ∈ cur.toList, NI u
theorem NI.bool (b : Bool) : NI (.bool b) := fun _ h => by cases h
theorem NI.slice (a : Option Addr) (n c : Nat) : NI (.slice a n c) := fun _ h => by cases h
theorem zeros_ni {z : Value} (hz : z.cells = #[.bool false, .slice none 0 0]) (n : Nat) : ∀ u ∈ (Builtin.zeroCells z.cells n).toList, NI u := by
 intro u hu
 rw [hz] at hu
 unfold Builtin.zeroCells at hu
 rw [Array.mem_toList_iff, Array.mem_map] at hu
 obtain ⟨i, _, rfl⟩ := hu
 show NI (#[Value.bool false, .slice none 0 0][i % 2]!)
 rcases Nat.mod_two_eq_zero_or_one i with h | h
 ·rw [h]; exact NI.bool _
 ·rw [h]; exact NI.slice _ _ _
section
variable {P : Program} (w : World)
theorem run_append_nu (base : Nat) (t ty : TypeId) (i : TypeInfo) (z : Value) (ht : P.underlying t = some (.slice 31)) (hi : P.info? 31 = some i) (hz : i.zero = some z)
  (hsize : i.size = 2) (hby : i.bytes = 32) (hzc : z.cells = #[.bool false, .slice none 0 0])
  (v : Value) (n : Nat) (xs : List Value) (hown : w.ownsRow base 31 2 v n xs) (hnu : NUR w v) (hxs : ∀ u ∈ xs, NI u)
  (a : Addr) (c : Nat) (news : List Value) (hl : news.length = 2) (hnews : ∀ j u, news[j]? = some u → w.cell? (a.add j) = some u) (h1 : ∀ u ∈ news, u.oneCell' = true) (hni : ∀ u ∈ news, NI u)
  (h63 : n + 1 ≤ 1000000) (hbase : base ≤ w.heap.size) :
  ∃ v' w', (Builtin.append_ #[t, t] ty #[v, .slice (some a) 1 c]).run P w = .ok v' w' ∧ w'.ownsRow base 31 2 v' (n + 1) (xs ++ news) ∧ w.grownBy w' v.ownBlock ∧ NUR w' v' ∧ (∃ g cap, v' = .slice (some ⟨g, 0, none⟩) (n + 1) cap) := by
 have hl' : news.length = 1 * i.size := by rw [hsize]; exact hl
 have hbytes : (n + 1) * 32 ≤ 140737488355328 := by omega
 obtain ⟨v', w', hr, h2, h3, h4, _⟩ := run_append_own_at (P := P) w base t ty 31 i z 2 32 ht hi hz hsize hby (by rw [hzc]; rfl) (by decide) v n xs hown a 1 c news (by rw [hl]) hnews h1 (by unfold maxLen; omega) hbytes hbase
 refine ⟨v', w', hr, h2, h3, ?_, ?_⟩
 ·rcases hown.2 with ⟨rfl, rfl⟩ | ⟨g, cap, cur, rfl, hbg, hg, hnc, hcm, hcs, htake⟩
  ·have hx := run_append_nil (P := P) w t ty 31 i z ht hi hz a 1 c news hl' hnews (by omega) (by omega) (by rw [hby]; omega)
   rw [hr] at hx
   injection hx with e1 e2
   subst e1; subst e2
   intro g hg
   obtain rfl : w.heap.size = g := by simpa [Value.ownBlock] using hg
   refine ⟨_, heap_alloc_new w.drew _, fun u hu => ?_⟩
   rw [Array.toList_append, List.mem_append] at hu
   rcases hu with hu | hu
   ·exact hni u (by simpa using hu)
   ·exact zeros_ni hzc _ u hu
  ·by_cases hroom : n + 1 ≤ cap
   ·have hfit : n * i.size + news.length ≤ cur.size := by rw [hl', hcs, hsize]; omega
    have hx := run_append_room (P := P) w t ty 31 i ht hi g n cap cur hg a 1 c news hl' hnews h1 hroom hfit
    rw [hr] at hx
    injection hx with e1 e2
    subst e1; subst e2
    obtain ⟨cur', hc', hn'⟩ := hnu g rfl
    rw [hg] at hc'
    injection hc' with hc'
    injection hc' with hc'
    subst hc'
    intro g' hg'
    obtain rfl : g = g' := by simpa [Value.ownBlock] using hg'
    refine ⟨_, setRow_heap w g cur _ _ _ hg, fun u hu => ?_⟩
    simp only [List.append_assoc, List.mem_append] at hu
    rcases hu with hu | hu | hu
    ·exact hn' u (List.mem_of_mem_take hu)
    ·exact hni u hu
    ·exact hn' u (List.mem_of_mem_drop hu)
   ·have holds : ∀ j u, xs[j]? = some u → w.cell? ((⟨g, 0, none⟩ : Addr).add j) = some u := hown.cells (g := g) rfl
    have hx := run_append_grow (P := P) w t ty 31 i z ht hi hz ⟨g, 0, none⟩ n cap xs (by rw [hsize]; exact hown.1) holds a 1 c news hl' hnews (by omega) (by omega) (growslice_fits (by omega) (by rw [hby]; exact hbytes))
    rw [hr] at hx
    injection hx with e1 e2
    subst e1; subst e2
    intro g' hg'
    obtain rfl : w.heap.size = g' := by simpa [Value.ownBlock] using hg'
    refine ⟨_, heap_alloc_new w.drew _, fun u hu => ?_⟩
    simp only [Array.toList_append, List.append_assoc, List.mem_append] at hu
    rcases hu with hu | hu | hu
    ·exact hxs u (by simpa using hu)
    ·exact hni u (by simpa using hu)
    ·exact zeros_ni hzc _ u hu
 ·rcases h2.2 with ⟨_, h0⟩ | ⟨g, cap, _, rfl, _⟩
  ·omega
  ·exact ⟨g, cap, rfl⟩
theorem wpListIn_append_nu {F : Fence} {nF : Nat} {ops : Array Oper} {rest : List Oper} {o : Oper} {a : Act} {Q : Exit → Act → World → Prop} (hgd : o.guard = none) (s x : Operand) (t : TypeId)
  (ho : o.op = .call { callee := .builtin .append, args := #[s, x], argTypes := #[t, t] })
  (base : Nat) (i : TypeInfo) (z : Value) (ht : P.underlying t = some (.slice 31)) (hi : P.info? 31 = some i) (hz : i.zero = some z)
  (hsize : i.size = 2) (hby : i.bytes = 32) (hzc : z.cells = #[.bool false, .slice none 0 0])
  (v : Value) (n : Nat) (xs : List Value) (hs : a.eval s = v) (hown : w.ownsRow base 31 2 v n xs) (hnu : NUR w v) (hxs : ∀ u ∈ xs, NI u)
  (ad : Addr) (c : Nat) (news : List Value) (hx : a.eval x = .slice (some ad) 1 c) (hl : news.length = 2) (hnews : ∀ j u, news[j]? = some u → w.cell? (ad.add j) = some u) (h1 : ∀ u ∈ news, u.oneCell' = true) (hni : ∀ u ∈ news, NI u)
  (h63 : n + 1 ≤ 1000000) (hbase : base ≤ w.heap.size)
  (h : ∀ g cap w', w'.ownsRow base 31 2 (.slice (some ⟨g, 0, none⟩) (n + 1) cap) (n + 1) (xs ++ news) → w.grownBy w' v.ownBlock → NUR w' (.slice (some ⟨g, 0, none⟩) (n + 1) cap) → wpListIn F nF P ops Q rest (a.put o.dst (.slice (some ⟨g, 0, none⟩) (n + 1) cap)) w') :
  wpListIn F nF P ops Q (o :: rest) a w := by
 refine wpListIn_plain hgd fun K hK => ?_
 obtain ⟨v', w', hr, h2, h3, h4, g, cap, rfl⟩ := run_append_nu (P := P) w base t o.type i z ht hi hz hsize hby hzc v n xs hown hnu hxs ad c news hl hnews h1 hni h63 hbase
 have hk := hK _ _ (h g cap w' h2 h3 h4)
 unfold Oper.wpIn
 refine ⟨by simp [Oper.about, ho, resolve, Target.leads, Sem.run_pure], ?_⟩
 rw [Oper.semAt_plain F _ _ (by rw [ho]; intro c hc'; cases hc')]
 simp [execOp, ho, resolve, invoke, builtin, hs, hx, hr, Result.andThen]
 exact hk
end
def KU (A C : World) : Prop := ∀ (a : Addr) (n : Int), A.cell? a = some (.int .u32 n) → C.cell? a = some (.int .u32 n)
theorem KU.refl (A : World) : KU A A := fun _ _ h => h
theorem KU.trans {A B C : World} (h : KU A B) (k : KU B C) : KU A C := fun a n e => k a n (h a n e)
theorem KU.below {A C : World} (h : Below A.heap.size A C) : KU A C := fun a _ e => (h.cell (p := a) (World.block_lt_of_cell? A _ e)).trans e
theorem KU.setCell {A : World} {a : Addr} {u : Value} (hu : A.cell? a = some u) (hn : NI u) (x : Value) : KU A (A.setCell a x) := fun b n e => by
 rw [World.cell?_setCell_other _ _ _ _ ?_]
 ·exact e
 ·intro h
  subst h
  rw [hu] at e
  injection e with e
  exact hn n e
theorem KU.putObj {A : World} {l : Nat} {o o' : Obj} (hl : A.heap[l]? = some o) (ho : o.isCells = false) : KU A (A.putObj l o') := fun a n e => by
 refine (World.cell?_of_block (World.putObj_heap_other ?_)).trans e
 intro h
 obtain ⟨o2, h2, h3⟩ := cells_of_cell e
 rw [h, hl] at h2
 cases h2
 rw [ho] at h3
 cases h3
theorem KU.grown {A C : World} {v : Value} (hg : A.grownBy C v.ownBlock) (hn : NUR A v) : KU A C := fun a n e => by
 refine hg.cell e fun h => ?_
 obtain ⟨cur, hc, hi⟩ := hn a.block h.symm
 have e' := e
 unfold World.cell? at e'
 rw [hc] at e'
 simp only at e'
 split at e'
 ·cases e'
 ·exact hi _ (by simpa using Array.mem_of_getElem? e') n rfl
theorem IntV.ku {A C : World} {v : Value} {z : Int} (h : IntV A v z) (hk : KU A C) (hs : A.heap.size ≤ C.heap.size) : IntV C v z := by
 obtain ⟨ad, n, c, rfl, hr⟩ := h
 refine ⟨ad, n, c, rfl, ?_⟩
 rcases hr with h | ⟨b, off, cap, he, h1, h2, h3, h4⟩
 ·exact .inl h
 ·exact .inr ⟨b, off, cap, he, Nat.lt_of_lt_of_le h1 hs, h2, h3, fun j hj => hk _ _ (h4 j hj)⟩
structure Kept (S : Nat → Prop) (A C : World) : Prop where
 os : C.os = A.os
 tape : C.tape = A.tape
 output : C.output = A.output
 size : A.heap.size ≤ C.heap.size
 blk : ∀ k, k < A.heap.size → S k → C.heap[k]? = A.heap[k]?
 ku : KU A C
theorem Kept.refl (S : Nat → Prop) (A : World) : Kept S A A := ⟨rfl, rfl, rfl, Nat.le_refl _, fun _ _ _ => rfl, KU.refl A⟩
theorem Kept.trans {S : Nat → Prop} {A B C : World} (h : Kept S A B) (k : Kept S B C) : Kept S A C :=
 ⟨k.os.trans h.os, k.tape.trans h.tape, k.output.trans h.output, Nat.le_trans h.size k.size, fun i hi hs => (k.blk i (Nat.lt_of_lt_of_le hi h.size) hs).trans (h.blk i hi hs), h.ku.trans k.ku⟩
theorem Kept.below {S : Nat → Prop} {A C : World} (h : Below A.heap.size A C) : Kept S A C := ⟨h.os, h.tape, h.output, h.size, fun k hk _ => h.block k hk, KU.below h⟩
theorem Kept.setCell {S : Nat → Prop} {A : World} {a : Addr} {u : Value} (hu : A.cell? a = some u) (hn : NI u) (hs : ¬ S a.block) (x : Value) : Kept S A (A.setCell a x) :=
 ⟨rfl, rfl, rfl, by simp [World.setCell], fun k _ h => Below.heap_setCell _ _ _ _ (fun e => hs (e ▸ h)), KU.setCell hu hn x⟩
theorem Kept.mono {S T : Nat → Prop} {A C : World} (h : Kept S A C) (hT : ∀ k, k < A.heap.size → T k → S k) : Kept T A C :=
 ⟨h.os, h.tape, h.output, h.size, fun k hk hs => h.blk k hk (hT k hk hs), h.ku⟩
end
end Go.Proofs.YtghgcbedajaldaaGreat
