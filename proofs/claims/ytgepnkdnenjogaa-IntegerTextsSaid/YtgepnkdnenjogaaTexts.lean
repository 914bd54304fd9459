/-  IntegerTexts' walk.  -/
import Derived.Test.YtgepnkdnenjogaaRTx
import Derived.Test.YtgepnkdnenjogaaPowers
namespace Go.Proofs.Ytgepnkdnenjogaa
section
open Go.RowKit Digs

theorem nz_bdt {b : Bool} {l : List Nat} {k : Nat} (hl : l.length ≤ k) (hlt : ∀ x ∈ l, x < 4294967296) : Bd k (nz (b, l)) := by
  have h : (nz (b, l)).natAbs = vl 4294967296 l := sg_natAbs _ _
  unfold Bd
  rw [h]
  exact Nat.lt_of_lt_of_le (vl_lt l hlt) (Nat.pow_le_pow_right (by decide) hl)
theorem short1t (b1 : Bool) (a1 : Option Addr) (c1 : Nat) (l1 : List Nat) (w : World) (N : Nat) (hN : w.heap.size = N) (h1 : NArg w a1 c1 l1) :
    Calls Try.prog 14 #[.int .i64 12, .slice (some ⟨N, 0, none⟩) 1 1] (w.alloc (.cells #[.bool b1, .slice a1 l1.length c1] 24)) (BoolPost (w.alloc (.cells #[.bool b1, .slice a1 l1.length c1] 24)) (allLe [l1.length] 12)) :=
  short1a b1 a1 c1 l1 w N 12 hN h1

theorem bare_len (s : List Nat) : (bare s).length ≤ s.length := by
  unfold bare
  split
  · rw [List.length_drop]; omega
  · exact Nat.le_refl _
theorem prs_bd (r : Int) (s : List Nat) (hs : s.length ≤ 200) : Bd 200 (prs r s).1 := by
  unfold prs
  split
  · exact Bd.zero.up (by decide)
  · rename_i hr
    split
    · exact Bd.zero.up (by decide)
    · split
      · rename_i hd
        show (sg (ngS s) (pv r.toNat (bare s))).natAbs < _
        rw [sg_natAbs]
        have h1 := pv_lt r.toNat (bare s) hd
        have h2 : r.toNat ^ (bare s).length ≤ 4294967296 ^ (bare s).length := Nat.pow_le_pow_left (by omega) _
        have h3 : 4294967296 ^ (bare s).length ≤ 4294967296 ^ 200 := Nat.pow_le_pow_right (by decide) (Nat.le_trans (bare_len s) hs)
        omega
      · exact Bd.zero.up (by decide)

set_option maxHeartbeats 8000000 in
set_option maxRecDepth 100000 in
theorem texts_any (b1 : Bool) (a1 : Option Addr) (c1 : Nat) (l1 : List Nat) (s : List Nat) (r : Int) (w : World) (h1 : NArg w a1 c1 l1) (hs : ∀ c ∈ s, c < 256) :
    Calls Try.prog 9 #[.agg #[.bool b1, .slice a1 l1.length c1], .string (bstr s), .int .i64 r] w (BoolPost w true) := by
  have HAW := Lib.hid fun W => Lib.hid (awake_any W)
  have HA := Lib.hid h1
  have HSB := Lib.hid hs
  obtain ⟨t, ht⟩ : ∃ t, t = bstr s := ⟨_, rfl⟩
  obtain ⟨n, hn⟩ : ∃ n, n = s.length := ⟨_, rfl⟩
  have htz : t.size = n := by rw [ht, bstr_size, hn]
  have HP1 := Lib.hid fun (hs2 : s.length ≤ 200) W => Lib.hid (parse_any r s W (by omega) hs)
  have HP2 := Lib.hid fun (hs2 : s.length ≤ 200) W => Lib.hid (rParse_any r s W (by omega) hs)
  rw [← ht] at HP1 HP2 ⊢
  have HN := Lib.hid hn
  clear h1 hs ht hn
  go_enter Try.func9, Try.ntmps9
  have HB0 := Lib.hid ((Below.refl w.heap.size w).alloc (Nat.le_refl _) (.cells #[.bool b1, .slice a1 l1.length c1] 24))
  have HS8 := Lib.hid (short1t b1 a1 c1 l1 _ (w.heap.size + 1) (by simp) (HA.out.keep HB0.out))
  go_wp2_with fail
  (with_reducible refine HS8.out.mono ?_)
  rintro e w1 ⟨rfl, hb1⟩
  have hb1' := ((Below.refl _ _).alloc (Nat.le_refl _) (row1 b1 a1 c1 l1)).trans (hb1.mono (by simp))
  have HD1 := Lib.hid (HB0.out.trans (hb1'.mono HB0.out.size))
  obtain ⟨cx0, cx1, _⟩ := box2 hb1'
  clear hb1 hb1'
  cases hall : allLe [l1.length] 12 with
  | false =>
    clear hall
    go_wp2_with fail
    (with_reducible refine (HAW.out _).out.mono ?_)
    rintro e w2 ⟨rfl, hb2⟩
    go_wp2
    go_ret
    exact ⟨rfl, HD1.out.trans (hb2.mono HD1.out.size)⟩
  | true =>
    have hle1 := allLe1 hall
    clear hall
    by_cases hlong : 200 < n
    · go_wp2_with fail
      (with_reducible refine (HAW.out _).out.mono ?_)
      rintro e w2 ⟨rfl, hb2⟩
      go_wp2
      go_ret
      exact ⟨rfl, HD1.out.trans (hb2.mono HD1.out.size)⟩
    have hdl : decide ((200 : Int) < (n : Int)) = false := decide_eq_false (by omega)
    have hsl : s.length ≤ 200 := by have := HN.out; omega
    have HOx := Lib.hid (of_any b1 a1 c1 l1 w1 (by omega) (HA.out.keep HD1.out))
    have hBX : Bd 12 (nz (b1, l1)) := nz_bdt hle1 HA.out.lt
    generalize nz (b1, l1) = x at *
    have hlx : len x ≤ 1000000 := len_le (by decide) hBX
    have hrx : rlen x ≤ 50000 := rlen_bd hBX (by decide)
    have HT1 := Lib.hid fun W v h => Lib.hid (Text_all r x v W hlx h)
    have HT2 := Lib.hid fun W v h => Lib.hid (rText_all r x v W (by omega) h)
    have HQ1 := Lib.hid (HP1.out hsl)
    have HQ2 := Lib.hid (HP2.out hsl)
    have hBZ := prs_bd r s hsl
    unfold TextRes at HT1 HT2
    generalize bstr (txt r x).1 = tx at *
    generalize (txt r x).2 = tc at *
    generalize (prs r s).1 = z at *
    generalize (prs r s).2 = pc at *
    have HIS : Hid (∀ W u v, IntV W u z → RefV W v z → Hid (Calls Try.prog 21 #[u, v] W (BoolPost W true))) := Lib.hid fun W u v h h' => Lib.hid (is_same z u v W (len_le (by decide) hBZ) (rlen_bd hBZ (by decide)) h h')
    clear hle1 hBX hlx hrx hsl hBZ HP1 HP2 hlong
    go_wp2_with fail
    (with_reducible refine (HOx.out).mono ?_)
    rintro e w2 ⟨vx, vu, rfl, ⟨dx, nx, ex, rfl, hrx⟩, ⟨du, nu, eu, rfl, hru⟩, hb2⟩
    have HIx : Hid (IntV w2 (.agg #[.bool (decide (x < 0)), .slice dx nx ex]) x) := Lib.hid ⟨_, _, _, rfl, hrx⟩
    have HIu : Hid (RefV w2 (.agg #[.bool (decide (x < 0)), .slice du nu eu]) x) := Lib.hid ⟨_, _, _, rfl, hru⟩
    have HD2 := Lib.hid (HD1.out.trans (hb2.mono HD1.out.size))
    clear hb2 HD1 hrx hru 
    generalize decide (x < 0) = bx at *
    have hal : Below w2.heap.size w2 ((w2.alloc (.cells #[.bool bx, .slice dx nx ex] 28)).alloc (.cells #[.bool bx, .slice du nu eu] 31)) := below2 _ _ _
    have HD3 := Lib.hid (HD2.out.trans (hal.mono HD2.out.size))
    have Kx3 : Hid (BX (w2.heap.size) (.bool bx) (.slice dx nx ex) x ((w2.alloc (.cells #[.bool bx, .slice dx nx ex] 28)).alloc (.cells #[.bool bx, .slice du nu eu] 31))) := Lib.hid ((BX.made HIx.out).keep ((Below.refl _ _).alloc (Nat.le_refl _) _))
    have Ku3 : Hid (RX (w2.heap.size + 1) (.bool bx) (.slice du nu eu) x ((w2.alloc (.cells #[.bool bx, .slice dx nx ex] 28)).alloc (.cells #[.bool bx, .slice du nu eu] 31))) := Lib.hid (by have h := RX.made (t := 31) (HIu.out.keep ((Below.refl w2.heap.size w2).alloc (Nat.le_refl _) (.cells #[.bool bx, .slice dx nx ex] 28))); rw [World.size_alloc] at h; exact h)
    clear hal HD2 HIx HIu
    obtain ⟨ga0, gb0⟩ := Kx3.out.cells
    go_wp2_with fail
    (with_reducible refine ((HT1.out _ _ Kx3.out.iv).out).mono ?_)
    rintro e w4 ⟨rfl, hb4⟩
    have HD4 := Lib.hid (HD3.out.trans (hb4.mono HD3.out.size))
    have Kx4 := Lib.hid (Kx3.out.keep hb4)
    have Ku4 := Lib.hid (Ku3.out.keep hb4)
    clear Kx3 Ku3
    clear hb4 HD3 ga0 gb0
    obtain ⟨ga0, gb0⟩ := Ku4.out.cells
    go_wp2_with fail
    (with_reducible refine ((HT2.out _ _ Ku4.out.rv).out).mono ?_)
    rintro e w5 ⟨rfl, hb5⟩
    have HD5 := Lib.hid (HD4.out.trans (hb5.mono HD4.out.size))
    have Kx5 := Lib.hid (Kx4.out.keep hb5)
    have Ku5 := Lib.hid (Ku4.out.keep hb5)
    clear Kx4 Ku4
    clear hb5 HD4 ga0 gb0
    go_wp2_with fail
    (with_reducible refine ((HQ1.out _).out).mono ?_)
    rintro e w6 ⟨vz, rfl, ⟨dz, nz, ez, rfl, hrz⟩, hb6⟩
    have HIz : Hid (IntV w6 (.agg #[.bool (decide (z < 0)), .slice dz nz ez]) z) := Lib.hid ⟨_, _, _, rfl, hrz⟩
    have HD6 := Lib.hid (HD5.out.trans (hb6.mono HD5.out.size))
    have Kx6 := Lib.hid (Kx5.out.keep hb6)
    have Ku6 := Lib.hid (Ku5.out.keep hb6)
    clear Kx5 Ku5
    clear hb6 HD5 hrz 
    generalize decide (z < 0) = bz at *
    have hal : Below w6.heap.size w6 (w6.alloc (.cells #[.bool bz, .slice dz nz ez] 28)) := (Below.refl _ _).alloc (Nat.le_refl _) _
    have HD7 := Lib.hid (HD6.out.trans (hal.mono HD6.out.size))
    have Kx7 := Lib.hid (Kx6.out.keep hal)
    have Ku7 := Lib.hid (Ku6.out.keep hal)
    clear Kx6 Ku6
    have Kz7 : Hid (BX (w6.heap.size) (.bool bz) (.slice dz nz ez) z (w6.alloc (.cells #[.bool bz, .slice dz nz ez] 28))) := Lib.hid (BX.made HIz.out)
    clear hal HD6 HIz
    go_wp2_with fail
    (with_reducible refine ((HQ2.out _).out).mono ?_)
    rintro e w8 ⟨vq, rfl, ⟨dq, nq, eq, rfl, hrq⟩, hb8⟩
    have HIq : Hid (RefV w8 (.agg #[.bool (decide (z < 0)), .slice dq nq eq]) z) := Lib.hid ⟨_, _, _, rfl, hrq⟩
    have HD8 := Lib.hid (HD7.out.trans (hb8.mono HD7.out.size))
    have Kx8 := Lib.hid (Kx7.out.keep hb8)
    have Ku8 := Lib.hid (Ku7.out.keep hb8)
    have Kz8 := Lib.hid (Kz7.out.keep hb8)
    clear Kx7 Ku7 Kz7
    clear hb8 HD7 hrq 
    generalize decide (z < 0) = bq at *
    have hal : Below w8.heap.size w8 (w8.alloc (.cells #[.bool bq, .slice dq nq eq] 31)) := (Below.refl _ _).alloc (Nat.le_refl _) _
    have HD9 := Lib.hid (HD8.out.trans (hal.mono HD8.out.size))
    have Kx9 := Lib.hid (Kx8.out.keep hal)
    have Ku9 := Lib.hid (Ku8.out.keep hal)
    have Kz9 := Lib.hid (Kz8.out.keep hal)
    clear Kx8 Ku8 Kz8
    have Kq9 : Hid (RX (w8.heap.size) (.bool bq) (.slice dq nq eq) z (w8.alloc (.cells #[.bool bq, .slice dq nq eq] 31))) := Lib.hid (RX.made HIq.out)
    clear hal HD8 HIq
    have eqtc : (tc == tc) = true := by simp
    have eqpc : (pc == pc) = true := by simp
    obtain ⟨ga0, gb0⟩ := Kz9.out.cells
    obtain ⟨ga1, gb1⟩ := Kq9.out.cells
    go_wp2_with fail
    (with_reducible refine (HIS.out _ _ _ Kz9.out.iv Kq9.out.rv).out.mono ?_)
    rintro e v1 ⟨rfl, hb1⟩
    have HD90 := Lib.hid (HD9.out.trans (hb1.mono HD9.out.size))
    clear hb1
    go_wp2_with fail
    (with_reducible refine (HAW.out _).out.mono ?_)
    rintro e v2 ⟨rfl, hb2⟩
    go_wp2
    go_ret
    exact ⟨rfl, HD90.out.trans (hb2.mono HD90.out.size)⟩

end
end Go.Proofs.Ytgepnkdnenjogaa
