/-  IntegerDigits' walk.  -/
import Derived.Test.YtgepnkdnenjogaaDoorTd
import Derived.Test.YtgepnkdnenjogaaDoorShelf
namespace Go.Proofs.YtgepnkdnenjogaaDoor
section
open Go.RowKit Digs

theorem run_max_zero4 (w : World) (ts : Array TypeId) (t : TypeId) : (Builtin.max_ ts t #[.int .i64 0, .int .i64 0, .int .i64 0, .int .i64 0]).run Tryd.prog w = .ok (.int .i64 0) w := rfl
theorem allLe1 {a k : Nat} (h : allLe [a] k = true) : a ≤ k := by simpa [allLe] using h
/-- A box that is only read. -/
structure CX (p : Nat) (u v : Value) (z : Int) (w : World) : Prop where
  c0 : w.cell? ⟨p, 0, none⟩ = some u
  c1 : w.cell? ⟨p, 1, none⟩ = some v
  iv : IntV w (.agg #[u, v]) z
theorem CX.keep {p : Nat} {u v : Value} {z : Int} {w w' : World} (h : CX p u v z w) (hb : Below w.heap.size w w') : CX p u v z w' :=
  ⟨(hb.cell (p := ⟨p, 0, none⟩) (World.block_lt_of_cell? w _ h.c0)).trans h.c0, (hb.cell (p := ⟨p, 1, none⟩) (World.block_lt_of_cell? w _ h.c1)).trans h.c1, h.iv.keep hb⟩
theorem CX.made {u v : Value} {z : Int} {w : World} {t : TypeId} (h : IntV w (.agg #[u, v]) z) : CX w.heap.size u v z (w.alloc (.cells #[u, v] t)) :=
  have k := BX.made (t := t) h
  ⟨k.c0, k.c1, k.iv⟩
theorem CX.cells {p : Nat} {u v : Value} {z : Int} {w : World} (h : CX p u v z w) : w.cell? ⟨p, 0, none⟩ = some u ∧ w.cell? ⟨p, 1, none⟩ = some v := ⟨h.c0, h.c1⟩

theorem short18 (b1 : Bool) (a1 : Option Addr) (c1 : Nat) (l1 : List Nat) (w : World) (N : Nat) (hN : w.heap.size = N) (h1 : NArg w a1 c1 l1) :
    Calls Tryd.prog 4 #[.int .i64 8, .slice (some ⟨N, 0, none⟩) 1 1] (w.alloc (.cells #[.bool b1, .slice a1 l1.length c1] 24)) (BoolPost (w.alloc (.cells #[.bool b1, .slice a1 l1.length c1] 24)) (allLe [l1.length] 8)) :=
  short1a b1 a1 c1 l1 w N 8 hN h1
theorem str48 {D : ByteArray} (h : D.toList = [48]) : D = ⟨#[48]⟩ := by
  rw [Lib.toList_data] at h
  rw [← Lib.mk_data D, h]
def StrOut (w : World) (s : ByteArray) (e : Ending) (w' : World) : Prop := e = .returned (.string s) ∧ Below w.heap.size w w'
def StrErr (w : World) (s : ByteArray) (e : Ending) (w' : World) : Prop := e = .returned (.tuple #[.string s, .int .i64 0]) ∧ Below w.heap.size w w'

set_option maxHeartbeats 16000000 in
set_option maxRecDepth 100000 in
theorem digits_any (b1 : Bool) (a1 : Option Addr) (c1 : Nat) (l1 : List Nat) (m n : Int) (w : World) (h1 : NArg w a1 c1 l1) (hm0 : 0 ≤ m) (hm1 : m ≤ 255) (hn0 : 0 ≤ n) (hn1 : n ≤ 255) :
    Calls Tryd.prog 3 #[.agg #[.bool b1, .slice a1 l1.length c1], .int .u8 m, .int .u8 n] w (BoolPost w true) := by
  obtain ⟨i, hi⟩ : ∃ i : Nat, m % 35 = (i : Int) := ⟨(m % 35).toNat, by omega⟩
  obtain ⟨c, hc⟩ : ∃ c : Nat, n % 20 = (c : Int) := ⟨(n % 20).toNat, by omega⟩
  obtain ⟨k, hk⟩ : ∃ k : Nat, 2 + (i : Int) = (k : Int) := ⟨2 + i, by omega⟩
  have h2 : 2 ≤ k := by omega
  have h36 : k ≤ 36 := by omega
  have hc20 : c ≤ 20 := by omega
  have HA := Lib.hid h1
  have HAW := Lib.hid fun W => Lib.hid (awake_any W)
  clear h1
  go_enter Tryd.func3, Tryd.ntmps3
  have HB0 := Lib.hid ((Below.refl w.heap.size w).alloc (Nat.le_refl _) (.cells #[.bool b1, .slice a1 l1.length c1] 24))
  have HSH := Lib.hid (short18 b1 a1 c1 l1 _ (w.heap.size + 1) (by simp) (HA.out.keep HB0.out))
  go_wp2_with fail
  (with_reducible refine HSH.out.mono ?_)
  rintro e w1 ⟨rfl, hb1⟩
  have hbx := ((Below.refl _ _).alloc (Nat.le_refl _) (row1 b1 a1 c1 l1)).trans (hb1.mono (by simp))
  have HB1 := Lib.hid (HB0.out.trans (hbx.mono HB0.out.size))
  obtain ⟨cA, cB, _, _, hsz⟩ := box2 hbx
  clear hb1 hbx
  cases hall : allLe [l1.length] 8 with
  | false =>
    clear hall
    go_wp2_with fail
    refine (awake_any w1).mono ?_
    rintro e w2 ⟨rfl, hb2⟩
    go_wp2
    go_ret
    exact ⟨rfl, HB1.out.trans (hb2.mono HB1.out.size)⟩
  | true =>
    have hle := allLe1 hall
    have HM := Lib.hid (made1 b1 a1 c1 l1 w1 _ rfl (HA.out.keep HB1.out) (by omega))
    have HXB : Bd 8 (nz (b1, l1)) := nz_bd (by omega) HA.out.lt
    clear hall hle
    go_wp2_with fail
    (with_reducible refine HM.out.mono ?_)
    rintro e w2 ⟨v, rfl, hrow, hb2⟩
    obtain ⟨g, cap, dA, nA, eA, rfl, hg, hgb, q1, q2, i1⟩ := irow1 hrow
    have HB2 := Lib.hid (HB1.out.trans (hb2.mono HB1.out.size))
    generalize nz (b1, l1) = x at *
    have TX := Lib.hid fun W u h => Lib.hid (show Calls Tryd.prog 7 #[u, .int .i64 (k : Int)] W (StrErr W (bstr (tx k x))) from (Text_all (k : Int) x u W (len_le (by decide) HXB) h).mono fun e w' h => by rw [txt_tx x h2 h36] at h; exact h)
    have P1 := Lib.hid fun W => Lib.hid (show Calls Tryd.prog 8 #[.string (bstr (tx k x)), .int .i64 (k : Int)] W (IntRes W x 0) from (parse_any (k : Int) (tx k x) W (Nat.le_trans (tx_len h2 HXB) (by decide)) (tx_lt h2 h36)).mono fun e w' h => by rw [prs_tx x h2 h36] at h; exact h)
    have TP := Lib.hid fun W => Lib.hid (show Calls Tryd.prog 9 #[.string (bstr (tx k x)), .string ⟨#[45]⟩] W (StrOut W (bstr (dt k x.natAbs))) from (Tryd.strings_TrimPrefix _ _ W).mono fun e w' h => ⟨by rw [h.1, (trim_tx x h2 h36).1], h.2 ▸ Below.refl _ _⟩)
    have HP := Lib.hid fun W => Lib.hid (show Calls Tryd.prog 14 #[.string (bstr (tx k x)), .string ⟨#[45]⟩] W (BoolPost W (decide (x < 0))) from (Tryd.strings_HasPrefix _ _ W).mono fun e w' h => ⟨by rw [h.1, (trim_tx x h2 h36).2], h.2 ▸ Below.refl _ _⟩)
    have RP := Lib.hid fun W => Lib.hid (show Calls Tryd.prog 11 #[.string ⟨#[48]⟩, .int .i64 (c : Int)] W (StrOut W (bstr (List.replicate c 48))) from (Tryd.strings_Repeat ⟨#[48]⟩ c W (by omega) (by show 1 * c ≤ _; omega)).mono fun e w' h => ⟨by rw [h.1, repeat_zeros], h.2⟩)
    have hsz2 : (bstr (dt k x.natAbs)).size ≤ 140737488355328 := by rw [bstr_size]; exact Nat.le_trans (dt_len h2 HXB) (by decide)
    have LO := Lib.hid fun W => Lib.hid (show Calls Tryd.prog 12 #[.string (bstr (dt k x.natAbs))] W (StrOut W (bstr ((dt k x.natAbs).map low))) from (Tryd.strings_ToLower_ascii _ W hsz2 (ascii_dt h2 h36)).mono fun e w' h => ⟨by rw [h.1, lower_dt h2 h36], h.2⟩)
    have P2 := Lib.hid fun W => Lib.hid (show Calls Tryd.prog 8 #[.string (bstr (ty k x c)), .int .i64 (k : Int)] W (IntRes W x 0) from (parse_any (k : Int) (ty k x c) W (Nat.le_trans (ty_len h2 HXB hc20) (by decide)) (ty_lt h2 h36)).mono fun e w' h => by rw [prs_ty x c h2 h36] at h; exact h)
    have H0 : Hid (bstr (dt k x.natAbs) = ⟨#[48]⟩ ∨ ∀ W, Calls Tryd.prog 14 #[.string (bstr (dt k x.natAbs)), .string ⟨#[48]⟩] W (BoolPost W false)) := Lib.hid ((zero_dt (N := x.natAbs) h2 h36).imp id fun h W => (Tryd.strings_HasPrefix _ _ W).mono fun e w' h' => ⟨by rw [h'.1, h], h'.2 ▸ Below.refl _ _⟩)
    have JN := Lib.hid (join_ty k x c)
    have SG := Lib.hid fun W u h => Lib.hid (sign_any x u W (len_le (by decide) HXB) h)
    have SM := Lib.hid fun W u v h h' => Lib.hid (same_eq x x rfl u v W h h')
    have hZs : (bstr (List.replicate c 48)).size ≤ 20 := by rw [bstr_size, List.length_replicate]; exact hc20
    have hLs : (bstr ((dt k x.natAbs).map low)).size ≤ 256 := by rw [bstr_size, List.length_map]; exact dt_len h2 HXB
    clear hsz2 h2 h36 hc20 HXB
    generalize hdx : decide (x < 0) = bA at *
    have HS : Hid (if bA then sgnZ x = -1 else ¬ sgnZ x < 0) := Lib.hid (by
      unfold sgnZ
      cases bA with
      | true => have := of_decide_eq_true hdx; rw [if_pos this]; rfl
      | false => have := of_decide_eq_false hdx; rw [if_neg this]; simp only [Bool.false_eq_true, if_false]; split <;> omega)
    generalize sgnZ x = sx at *
    generalize bstr (dt k x.natAbs) = D at *
    generalize bstr ((dt k x.natAbs).map low) = L at *
    generalize bstr (List.replicate c 48) = Z at *
    generalize bstr (ty k x c) = V at *
    generalize bstr (tx k x) = T at *
    have KA0 := Lib.hid (CX.made (t := 28) i1)
    have HD0 := Lib.hid (HB2.out.alloc HB2.out.size (.cells #[.bool bA, .slice dA nA eA] 28))
    clear hdx hrow hb2 i1 hgb cA cB hsz
    obtain ⟨ga0, gb0⟩ := KA0.out.cells
    go_wp2_with fail
    (with_reducible refine ((TX.out _ _ KA0.out.iv).out).mono ?_)
    rintro e w4 ⟨rfl, hb4⟩
    have HD4 := Lib.hid (HD0.out.trans (hb4.mono HD0.out.size))
    have KA4 := Lib.hid (KA0.out.keep hb4)
    clear KA0
    clear hb4 HD0  ga0 gb0
    go_wp2_with fail
    (with_reducible refine ((P1.out _).out).mono ?_)
    rintro e w5 ⟨vY, rfl, ⟨dY, nY, eY, rfl, hrY⟩, hb5⟩
    have HIY : Hid (IntV w5 (.agg #[.bool (decide (x < 0)), .slice dY nY eY]) x) := Lib.hid ⟨_, _, _, rfl, hrY⟩
    have HD5 := Lib.hid (HD4.out.trans (hb5.mono HD4.out.size))
    have KA5 := Lib.hid (KA4.out.keep hb5)
    clear KA4
    clear hb5 HD4 hrY 
    generalize decide (x < 0) = bY at *
    have hal : Below w5.heap.size w5 (w5.alloc (.cells #[.bool bY, .slice dY nY eY] 28)) := (Below.refl _ _).alloc (Nat.le_refl _) _
    have HD6 := Lib.hid (HD5.out.trans (hal.mono HD5.out.size))
    have KA6 := Lib.hid (KA5.out.keep hal)
    clear KA5
    have KY6 : Hid (CX (w5.heap.size) (.bool bY) (.slice dY nY eY) x (w5.alloc (.cells #[.bool bY, .slice dY nY eY] 28))) := Lib.hid (CX.made HIY.out)
    clear hal HD5 HIY
    go_wp2_with fail
    (with_reducible refine ((TP.out _).out).mono ?_)
    rintro e w7 ⟨rfl, hb7⟩
    have HD7 := Lib.hid (HD6.out.trans (hb7.mono HD6.out.size))
    have KA7 := Lib.hid (KA6.out.keep hb7)
    have KY7 := Lib.hid (KY6.out.keep hb7)
    clear KA6 KY6
    clear hb7 HD6  
    cases bA with
    | false =>
      have hsx : 0 ≤ sx := by simpa using HS.out
      obtain ⟨U, hU⟩ : ∃ U : ByteArray, (⟨#[43]⟩ : ByteArray) ++ Z = U := ⟨_, rfl⟩
      have hUs : U.size ≤ 21 := by rw [← hU, ByteArray.size_append, show (⟨#[43]⟩ : ByteArray).size = 1 from rfl]; omega
      have hV : U ++ L = V := by have h := JN.out; rw [← hU]; exact h
      have hsn : ¬ sx < 0 := by omega
      have hsd : decide (sx < 0) = false := decide_eq_false hsn
      obtain ⟨ga0, gb0⟩ := KA7.out.cells
      go_wp2_with fail
      (with_reducible refine ((SG.out _ _ KA7.out.iv).out).mono ?_)
      rintro e w8 ⟨rfl, hb8⟩
      have HD8 := Lib.hid (HD7.out.trans (hb8.mono HD7.out.size))
      have KA8 := Lib.hid (KA7.out.keep hb8)
      have KY8 := Lib.hid (KY7.out.keep hb8)
      clear KA7 KY7
      clear hb8 HD7  ga0 gb0
      go_wp2_with fail
      (with_reducible refine ((RP.out _).out).mono ?_)
      rintro e w9 ⟨rfl, hb9⟩
      have HD9 := Lib.hid (HD8.out.trans (hb9.mono HD8.out.size))
      have KA9 := Lib.hid (KA8.out.keep hb9)
      have KY9 := Lib.hid (KY8.out.keep hb9)
      clear KA8 KY8
      clear hb9 HD8  
      go_wp2_with fail
      (with_reducible refine ((LO.out _).out).mono ?_)
      rintro e w10 ⟨rfl, hb10⟩
      have HD10 := Lib.hid (HD9.out.trans (hb10.mono HD9.out.size))
      have KA10 := Lib.hid (KA9.out.keep hb10)
      have KY10 := Lib.hid (KY9.out.keep hb10)
      clear KA9 KY9
      clear hb10 HD9  
      go_wp2_with fail
      (with_reducible refine ((P2.out _).out).mono ?_)
      rintro e w11 ⟨vX, rfl, ⟨dX, nX, eX, rfl, hrX⟩, hb11⟩
      have HIX : Hid (IntV w11 (.agg #[.bool (decide (x < 0)), .slice dX nX eX]) x) := Lib.hid ⟨_, _, _, rfl, hrX⟩
      have HD11 := Lib.hid (HD10.out.trans (hb11.mono HD10.out.size))
      have KA11 := Lib.hid (KA10.out.keep hb11)
      have KY11 := Lib.hid (KY10.out.keep hb11)
      clear KA10 KY10
      clear hb11 HD10 hrX 
      generalize decide (x < 0) = bX at *
      have hal : Below w11.heap.size w11 (w11.alloc (.cells #[.bool bX, .slice dX nX eX] 28)) := (Below.refl _ _).alloc (Nat.le_refl _) _
      have HD12 := Lib.hid (HD11.out.trans (hal.mono HD11.out.size))
      have KA12 := Lib.hid (KA11.out.keep hal)
      have KY12 := Lib.hid (KY11.out.keep hal)
      clear KA11 KY11
      have KX12 : Hid (CX (w11.heap.size) (.bool bX) (.slice dX nX eX) x (w11.alloc (.cells #[.bool bX, .slice dX nX eX] 28))) := Lib.hid (CX.made HIX.out)
      clear hal HD11 HIX
      obtain ⟨ga0, gb0⟩ := KX12.out.cells
      go_wp2_with fail
      (with_reducible refine ((TX.out _ _ KX12.out.iv).out).mono ?_)
      rintro e w13 ⟨rfl, hb13⟩
      have HD13 := Lib.hid (HD12.out.trans (hb13.mono HD12.out.size))
      have KA13 := Lib.hid (KA12.out.keep hb13)
      have KY13 := Lib.hid (KY12.out.keep hb13)
      have KX13 := Lib.hid (KX12.out.keep hb13)
      clear KA12 KY12 KX12
      clear hb13 HD12  ga0 gb0
      have hmax := run_max_zero4
      obtain ⟨ga0, gb0⟩ := KY13.out.cells
      obtain ⟨ga1, gb1⟩ := KA13.out.cells
      go_wp2_with fail
      (with_reducible refine ((SM.out _ _ _ KY13.out.iv KA13.out.iv).out).mono ?_)
      rintro e w14 ⟨rfl, hb14⟩
      have HD14 := Lib.hid (HD13.out.trans (hb14.mono HD13.out.size))
      have KA14 := Lib.hid (KA13.out.keep hb14)
      have KY14 := Lib.hid (KY13.out.keep hb14)
      have KX14 := Lib.hid (KX13.out.keep hb14)
      clear KA13 KY13 KX13
      clear hb14 HD13  ga0 gb0 ga1 gb1
      obtain ⟨ga0, gb0⟩ := KX14.out.cells
      obtain ⟨ga1, gb1⟩ := KA14.out.cells
      go_wp2_with fail
      (with_reducible refine ((SM.out _ _ _ KX14.out.iv KA14.out.iv).out).mono ?_)
      rintro e w15 ⟨rfl, hb15⟩
      have HD15 := Lib.hid (HD14.out.trans (hb15.mono HD14.out.size))
      have KA15 := Lib.hid (KA14.out.keep hb15)
      have KY15 := Lib.hid (KY14.out.keep hb15)
      have KX15 := Lib.hid (KX14.out.keep hb15)
      clear KA14 KY14 KX14
      clear hb15 HD14  ga0 gb0 ga1 gb1
      obtain ⟨ga0, gb0⟩ := KA15.out.cells
      go_wp2_with fail
      (with_reducible refine ((SG.out _ _ KA15.out.iv).out).mono ?_)
      rintro e w16 ⟨rfl, hb16⟩
      have HD16 := Lib.hid (HD15.out.trans (hb16.mono HD15.out.size))
      have KA16 := Lib.hid (KA15.out.keep hb16)
      have KY16 := Lib.hid (KY15.out.keep hb16)
      have KX16 := Lib.hid (KX15.out.keep hb16)
      clear KA15 KY15 KX15
      clear hb16 HD15  ga0 gb0
      by_cases hD0 : D = (⟨#[48]⟩ : ByteArray)
      · subst hD0
        go_wp2_with fail
        (with_reducible refine ((HP.out _).out).mono ?_)
        rintro e w17 ⟨rfl, hb17⟩
        have HD17 := Lib.hid (HD16.out.trans (hb17.mono HD16.out.size))
        have KA17 := Lib.hid (KA16.out.keep hb17)
        have KY17 := Lib.hid (KY16.out.keep hb17)
        have KX17 := Lib.hid (KX16.out.keep hb17)
        clear KA16 KY16 KX16
        clear hb17 HD16  
        go_wp2_with fail
        (with_reducible refine (HAW.out _).out.mono ?_)
        rintro e w30 ⟨rfl, hbz⟩
        go_wp2
        go_ret
        exact ⟨rfl, HD17.out.trans (hbz.mono HD17.out.size)⟩
      · have HH := Lib.hid (H0.out.resolve_left hD0)
        have hD1 : ¬ D.toList = [48] := fun h => hD0 (str48 h)
        go_wp2_with fail
        (with_reducible refine ((HP.out _).out).mono ?_)
        rintro e w17 ⟨rfl, hb17⟩
        have HD17 := Lib.hid (HD16.out.trans (hb17.mono HD16.out.size))
        have KA17 := Lib.hid (KA16.out.keep hb17)
        have KY17 := Lib.hid (KY16.out.keep hb17)
        have KX17 := Lib.hid (KX16.out.keep hb17)
        clear KA16 KY16 KX16
        clear hb17 HD16  
        go_wp2_with fail
        (with_reducible refine (HH.out _).mono ?_)
        rintro e w18 ⟨rfl, hb18⟩
        have HD18 := Lib.hid (HD17.out.trans (hb18.mono HD17.out.size))
        have KA18 := Lib.hid (KA17.out.keep hb18)
        have KY18 := Lib.hid (KY17.out.keep hb18)
        have KX18 := Lib.hid (KX17.out.keep hb18)
        clear KA17 KY17 KX17
        clear hb18 HD17  
        go_wp2_with fail
        (with_reducible refine (HAW.out _).out.mono ?_)
        rintro e w30 ⟨rfl, hbz⟩
        go_wp2
        go_ret
        exact ⟨rfl, HD18.out.trans (hbz.mono HD18.out.size)⟩
    | true =>
      have hsx : sx = -1 := by simpa using HS.out
      obtain ⟨U, hU⟩ : ∃ U : ByteArray, (⟨#[45]⟩ : ByteArray) ++ Z = U := ⟨_, rfl⟩
      have hUs : U.size ≤ 21 := by rw [← hU, ByteArray.size_append, show (⟨#[45]⟩ : ByteArray).size = 1 from rfl]; omega
      have hV : U ++ L = V := by have h := JN.out; rw [← hU]; exact h
      obtain ⟨ga0, gb0⟩ := KA7.out.cells
      go_wp2_with fail
      (with_reducible refine ((SG.out _ _ KA7.out.iv).out).mono ?_)
      rintro e w8 ⟨rfl, hb8⟩
      have HD8 := Lib.hid (HD7.out.trans (hb8.mono HD7.out.size))
      have KA8 := Lib.hid (KA7.out.keep hb8)
      have KY8 := Lib.hid (KY7.out.keep hb8)
      clear KA7 KY7
      clear hb8 HD7  ga0 gb0
      go_wp2_with fail
      (with_reducible refine ((RP.out _).out).mono ?_)
      rintro e w9 ⟨rfl, hb9⟩
      have HD9 := Lib.hid (HD8.out.trans (hb9.mono HD8.out.size))
      have KA9 := Lib.hid (KA8.out.keep hb9)
      have KY9 := Lib.hid (KY8.out.keep hb9)
      clear KA8 KY8
      clear hb9 HD8  
      go_wp2_with fail
      (with_reducible refine ((LO.out _).out).mono ?_)
      rintro e w10 ⟨rfl, hb10⟩
      have HD10 := Lib.hid (HD9.out.trans (hb10.mono HD9.out.size))
      have KA10 := Lib.hid (KA9.out.keep hb10)
      have KY10 := Lib.hid (KY9.out.keep hb10)
      clear KA9 KY9
      clear hb10 HD9  
      go_wp2_with fail
      (with_reducible refine ((P2.out _).out).mono ?_)
      rintro e w11 ⟨vX, rfl, ⟨dX, nX, eX, rfl, hrX⟩, hb11⟩
      have HIX : Hid (IntV w11 (.agg #[.bool (decide (x < 0)), .slice dX nX eX]) x) := Lib.hid ⟨_, _, _, rfl, hrX⟩
      have HD11 := Lib.hid (HD10.out.trans (hb11.mono HD10.out.size))
      have KA11 := Lib.hid (KA10.out.keep hb11)
      have KY11 := Lib.hid (KY10.out.keep hb11)
      clear KA10 KY10
      clear hb11 HD10 hrX 
      generalize decide (x < 0) = bX at *
      have hal : Below w11.heap.size w11 (w11.alloc (.cells #[.bool bX, .slice dX nX eX] 28)) := (Below.refl _ _).alloc (Nat.le_refl _) _
      have HD12 := Lib.hid (HD11.out.trans (hal.mono HD11.out.size))
      have KA12 := Lib.hid (KA11.out.keep hal)
      have KY12 := Lib.hid (KY11.out.keep hal)
      clear KA11 KY11
      have KX12 : Hid (CX (w11.heap.size) (.bool bX) (.slice dX nX eX) x (w11.alloc (.cells #[.bool bX, .slice dX nX eX] 28))) := Lib.hid (CX.made HIX.out)
      clear hal HD11 HIX
      obtain ⟨ga0, gb0⟩ := KX12.out.cells
      go_wp2_with fail
      (with_reducible refine ((TX.out _ _ KX12.out.iv).out).mono ?_)
      rintro e w13 ⟨rfl, hb13⟩
      have HD13 := Lib.hid (HD12.out.trans (hb13.mono HD12.out.size))
      have KA13 := Lib.hid (KA12.out.keep hb13)
      have KY13 := Lib.hid (KY12.out.keep hb13)
      have KX13 := Lib.hid (KX12.out.keep hb13)
      clear KA12 KY12 KX12
      clear hb13 HD12  ga0 gb0
      have hmax := run_max_zero4
      obtain ⟨ga0, gb0⟩ := KY13.out.cells
      obtain ⟨ga1, gb1⟩ := KA13.out.cells
      go_wp2_with fail
      (with_reducible refine ((SM.out _ _ _ KY13.out.iv KA13.out.iv).out).mono ?_)
      rintro e w14 ⟨rfl, hb14⟩
      have HD14 := Lib.hid (HD13.out.trans (hb14.mono HD13.out.size))
      have KA14 := Lib.hid (KA13.out.keep hb14)
      have KY14 := Lib.hid (KY13.out.keep hb14)
      have KX14 := Lib.hid (KX13.out.keep hb14)
      clear KA13 KY13 KX13
      clear hb14 HD13  ga0 gb0 ga1 gb1
      obtain ⟨ga0, gb0⟩ := KX14.out.cells
      obtain ⟨ga1, gb1⟩ := KA14.out.cells
      go_wp2_with fail
      (with_reducible refine ((SM.out _ _ _ KX14.out.iv KA14.out.iv).out).mono ?_)
      rintro e w15 ⟨rfl, hb15⟩
      have HD15 := Lib.hid (HD14.out.trans (hb15.mono HD14.out.size))
      have KA15 := Lib.hid (KA14.out.keep hb15)
      have KY15 := Lib.hid (KY14.out.keep hb15)
      have KX15 := Lib.hid (KX14.out.keep hb15)
      clear KA14 KY14 KX14
      clear hb15 HD14  ga0 gb0 ga1 gb1
      obtain ⟨ga0, gb0⟩ := KA15.out.cells
      go_wp2_with fail
      (with_reducible refine ((SG.out _ _ KA15.out.iv).out).mono ?_)
      rintro e w16 ⟨rfl, hb16⟩
      have HD16 := Lib.hid (HD15.out.trans (hb16.mono HD15.out.size))
      have KA16 := Lib.hid (KA15.out.keep hb16)
      have KY16 := Lib.hid (KY15.out.keep hb16)
      have KX16 := Lib.hid (KX15.out.keep hb16)
      clear KA15 KY15 KX15
      clear hb16 HD15  ga0 gb0
      by_cases hD0 : D = (⟨#[48]⟩ : ByteArray)
      · subst hD0
        go_wp2_with fail
        (with_reducible refine ((HP.out _).out).mono ?_)
        rintro e w17 ⟨rfl, hb17⟩
        have HD17 := Lib.hid (HD16.out.trans (hb17.mono HD16.out.size))
        have KA17 := Lib.hid (KA16.out.keep hb17)
        have KY17 := Lib.hid (KY16.out.keep hb17)
        have KX17 := Lib.hid (KX16.out.keep hb17)
        clear KA16 KY16 KX16
        clear hb17 HD16  
        go_wp2_with fail
        (with_reducible refine (HAW.out _).out.mono ?_)
        rintro e w30 ⟨rfl, hbz⟩
        go_wp2
        go_ret
        exact ⟨rfl, HD17.out.trans (hbz.mono HD17.out.size)⟩
      · have HH := Lib.hid (H0.out.resolve_left hD0)
        have hD1 : ¬ D.toList = [48] := fun h => hD0 (str48 h)
        go_wp2_with fail
        (with_reducible refine ((HP.out _).out).mono ?_)
        rintro e w17 ⟨rfl, hb17⟩
        have HD17 := Lib.hid (HD16.out.trans (hb17.mono HD16.out.size))
        have KA17 := Lib.hid (KA16.out.keep hb17)
        have KY17 := Lib.hid (KY16.out.keep hb17)
        have KX17 := Lib.hid (KX16.out.keep hb17)
        clear KA16 KY16 KX16
        clear hb17 HD16  
        go_wp2_with fail
        (with_reducible refine (HH.out _).mono ?_)
        rintro e w18 ⟨rfl, hb18⟩
        have HD18 := Lib.hid (HD17.out.trans (hb18.mono HD17.out.size))
        have KA18 := Lib.hid (KA17.out.keep hb18)
        have KY18 := Lib.hid (KY17.out.keep hb18)
        have KX18 := Lib.hid (KX17.out.keep hb18)
        clear KA17 KY17 KX17
        clear hb18 HD17  
        go_wp2_with fail
        (with_reducible refine (HAW.out _).out.mono ?_)
        rintro e w30 ⟨rfl, hbz⟩
        go_wp2
        go_ret
        exact ⟨rfl, HD18.out.trans (hbz.mono HD18.out.size)⟩


end
end Go.Proofs.YtgepnkdnenjogaaDoor
