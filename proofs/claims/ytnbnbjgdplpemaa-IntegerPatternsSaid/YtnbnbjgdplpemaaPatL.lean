/-  IntegerPatterns' walk.  -/
import Derived.Test.YtnbnbjgdplpemaaPat
namespace Go.Proofs.Ytnbnbjgdplpemaa
open Go.RowKit Digs

theorem nrd2 (b1 b2 : Bool) (a1 a2 : Option Addr) (c1 c2 : Nat) (l1 l2 : List Nat) (w : World) (h1 : NArg w a1 c1 l1) (h2 : NArg w a2 c2 l2) (hs : l1.length ≤ 8 ∧ l2.length ≤ 8) :
    NRd (w.alloc (row2 b1 b2 a1 a2 c1 c2 l1 l2)) w.heap.size [(b1, l1), (b2, l2)] := by
  have hal : Below w.heap.size w (w.alloc (row2 b1 b2 a1 a2 c1 c2 l1 l2)) := (Below.refl _ _).alloc (Nat.le_refl _) _
  refine ⟨by simp, fun j hj => ?_⟩
  match j, hj with
  | 0, _ => exact ⟨b1, l1, a1, c1, rfl, by rw [World.cell?_alloc_at _ _ _ _ rfl]; rfl, by rw [World.cell?_alloc_at _ _ _ _ rfl]; rfl, h1.rd.keep hal, h1.lt, (by have := hs.1; omega)⟩
  | 1, _ => exact ⟨b2, l2, a2, c2, rfl, by rw [World.cell?_alloc_at _ _ _ _ rfl]; rfl, by rw [World.cell?_alloc_at _ _ _ _ rfl]; rfl, h2.rd.keep hal, h2.lt, (by have := hs.2; omega)⟩
theorem short26 (b1 b2 : Bool) (a1 a2 : Option Addr) (c1 c2 : Nat) (l1 l2 : List Nat) (w : World) (N : Nat) (hN : w.heap.size = N) (h1 : NArg w a1 c1 l1) (h2 : NArg w a2 c2 l2) :
    Calls Try.prog 14 #[.int .i64 6, .slice (some ⟨N, 0, none⟩) 2 2] (w.alloc (.cells #[.bool b1, .slice a1 l1.length c1, .bool b2, .slice a2 l2.length c2] 24)) (BoolPost (w.alloc (.cells #[.bool b1, .slice a1 l1.length c1, .bool b2, .slice a2 l2.length c2] 24)) (allLe [l1.length, l2.length] 6)) := by
  subst hN
  exact Short_any w.heap.size 6 2 [l1.length, l2.length] _ (show 2 ≤ 1000 by decide) (nrow2 b1 b2 a1 a2 c1 c2 l1 l2 w h1 h2)
theorem made2 (b1 b2 : Bool) (a1 a2 : Option Addr) (c1 c2 : Nat) (l1 l2 : List Nat) (w : World) (N : Nat) (hN : w.heap.size = N) (h1 : NArg w a1 c1 l1) (h2 : NArg w a2 c2 l2) (hs : l1.length ≤ 8 ∧ l2.length ≤ 8) :
    Calls Try.prog 64 #[.slice (some ⟨N, 0, none⟩) 2 2] (w.alloc (.cells #[.bool b1, .slice a1 l1.length c1, .bool b2, .slice a2 l2.length c2] 24)) fun e w' => ∃ v, e = .returned v ∧ IRow w' (w.heap.size + 1) v [nz (b1, l1), nz (b2, l2)] ∧ Below w.heap.size w w' := by
  subst hN
  refine (made_any w.heap.size 2 [(b1, l1), (b2, l2)] _ (show 2 ≤ 1000 by decide) (nrd2 b1 b2 a1 a2 c1 c2 l1 l2 w h1 h2 hs)).mono ?_
  rintro e w' ⟨v, rfl, h, hb⟩
  rw [World.size_alloc] at h
  exact ⟨v, rfl, h, ((Below.refl _ _).alloc (Nat.le_refl _) _).trans (hb.mono (by simp))⟩
/-- The two integers of a row. -/
theorem irow2 {w : World} {base : Nat} {v : Value} {x y : Int} (h : IRow w base v [x, y]) :
    ∃ g cap a1 n1 c1 a2 n2 c2, v = .slice (some ⟨g, 0, none⟩) 2 cap ∧ g < w.heap.size ∧ base ≤ g ∧
      w.cell? ⟨g, 0, none⟩ = some (.bool (decide (x < 0))) ∧ w.cell? ⟨g, 1, none⟩ = some (.slice a1 n1 c1) ∧ w.cell? ⟨g, 2, none⟩ = some (.bool (decide (y < 0))) ∧ w.cell? ⟨g, 3, none⟩ = some (.slice a2 n2 c2) ∧
      IntV w (.agg #[.bool (decide (x < 0)), .slice a1 n1 c1]) x ∧ IntV w (.agg #[.bool (decide (y < 0)), .slice a2 n2 c2]) y := by
  obtain ⟨xs, ho, he⟩ := h
  obtain ⟨a1, n1, c1, p1, q1, i1, _⟩ := he 0 (by simp)
  obtain ⟨a2, n2, c2, p2, q2, i2, _⟩ := he 1 (by simp)
  have ho' := ho
  obtain ⟨hlen, ⟨_, hn⟩ | ⟨g, cap, cur, rfl, hg, hgg, _⟩⟩ := ho
  · cases hn
  · have hl : g < w.heap.size := (Array.getElem?_eq_some_iff.1 hgg).1
    refine ⟨g, cap, a1, n1, c1, a2, n2, c2, rfl, hl, hg, ?_, ?_, ?_, ?_, i1, i2⟩
    · rw [ho'.cellAt 0 (by simp)]; exact p1
    · rw [ho'.cellAt 1 (by simp)]; exact q1
    · rw [ho'.cellAt 2 (by simp)]; exact p2
    · rw [ho'.cellAt 3 (by simp)]; exact q2
/-- Two boxes laid one behind the other. -/
theorem two_boxes {W : World} {a b c d : Value} {x y : Int} {t u : TypeId} (hx : IntV W (.agg #[a, b]) x) (hy : IntV W (.agg #[c, d]) y) :
    BX W.heap.size a b x ((W.alloc (.cells #[a, b] t)).alloc (.cells #[c, d] u)) ∧ BX (W.heap.size + 1) c d y ((W.alloc (.cells #[a, b] t)).alloc (.cells #[c, d] u)) := by
  refine ⟨(BX.made hx).keep ((Below.refl _ _).alloc (Nat.le_refl _) _), ?_⟩
  have h := BX.made (t := u) (hy.keep ((Below.refl W.heap.size W).alloc (Nat.le_refl _) (.cells #[a, b] t)))
  rw [World.size_alloc] at h
  exact h

theorem onesN_len2 (s p : Nat) (hs : s ≤ 300) (hp : p ≤ 300) : len ((onesN s p : Nat) : Int) ≤ 100 := by
  unfold len onesN
  rw [Int.natAbs_natCast]
  refine Nat.le_trans (digs_length_le (by decide) _ ((s + p) / 32 + 1) ?_) (by omega)
  rw [pow32]
  have h1 : (1 * 2 ^ s - 1) * 2 ^ p ≤ 2 ^ s * 2 ^ p := Nat.mul_le_mul_right _ (by omega)
  rw [← Nat.pow_add] at h1
  exact Nat.lt_of_le_of_lt h1 (Nat.pow_lt_pow_right (by decide) (by omega))
theorem shr_len {z : Int} {k : Nat} (p : Nat) (h : len z ≤ k) : len (z / 2 ^ p) ≤ k := Nat.le_trans (digs_length_mono (by decide) (Int.natAbs_ediv_le_natAbs _ _)) h
theorem fieldZ_len {z : Int} (s p : Nat) (hs : s ≤ 300) (h : len z ≤ 100) : len (fieldZ z s p) ≤ 101 := boolZ_len 8 (shr_len p h) (onesN_len2 s 0 hs (by decide))
theorem depositZ_len {x y : Int} (s p : Nat) (hs : s ≤ 300) (hp : p ≤ 300) (hx : len x ≤ 100) (hy : len y ≤ 100) : len (depositZ x y s p) ≤ 300001 := by
  have h1 : len (boolZ 4 x ((onesN s p : Nat) : Int)) ≤ 300000 := Nat.le_trans (boolZ_len 4 hx (onesN_len2 s p hs hp)) (by decide)
  have h2 : len (fieldP y s) ≤ 101 := boolZ_len 8 hy (onesN_len2 s 0 hs (by decide))
  exact boolZ_len 14 h1 (shl_len p (by omega) h2 (by decide))
theorem Shift_upto (x : Int) (u : Value) (k : Nat) (W : World) (hB : Bd 8 x) (hk : k ≤ 300) (hu : IntV W u x) :
    Calls Try.prog 50 #[u, .int .i64 (k : Int)] W (IntOK W (x * 2 ^ k)) := by
  have hl8 : len x ≤ 1000000 := len_le (by decide) hB
  have hlz : lenZ x ≤ 256 := lenZ_bda hB (by decide)
  by_cases hk0 : k = 0
  · subst hk0
    have h := Shift_down x u 0 W hl8 (by decide) hu
    rw [show x / 2 ^ 0 = x * 2 ^ 0 by rw [Int.pow_zero, Int.ediv_one, Int.mul_one]] at h
    exact h
  · by_cases h0 : x = 0
    · have h := Shift_zero x u k W hl8 (by omega) hu h0
      rw [show x * 2 ^ k = 0 by rw [h0, Int.zero_mul]]
      exact h
    · exact Shift_up x u k W hl8 (by omega) hu h0 (by omega)
theorem pow_bd' {k m : Nat} (hk : k < 32 * m) : Bd m ((2 : Int) ^ k) := by
  unfold Bd
  rw [Int.natAbs_pow, show ((2 : Int)).natAbs = 2 from rfl, pow32]
  exact Nat.pow_lt_pow_right (by decide) hk
theorem run_max_zero6 (w : World) (ts : Array TypeId) (t : TypeId) : (Builtin.max_ ts t #[.int .i64 0, .int .i64 0, .int .i64 0, .int .i64 0, .int .i64 0, .int .i64 0]).run Try.prog w = .ok (.int .i64 0) w := rfl

set_option maxHeartbeats 16000000 in
set_option maxRecDepth 100000 in
theorem patterns_any (b1 : Bool) (a1 : Option Addr) (c1 : Nat) (l1 : List Nat) (b2 : Bool) (a2 : Option Addr) (c2 : Nat) (l2 : List Nat) (o' s' p' n' : Int) (w : World) (h1 : NArg w a1 c1 l1) (h2 : NArg w a2 c2 l2) (ho0 : 0 ≤ o') (ho1 : o' ≤ 255) (hs0 : 0 ≤ s') (hs1 : s' ≤ 255) (hp0 : 0 ≤ p') (hp1 : p' ≤ 255) (hn0 : 0 ≤ n') (hn1 : n' ≤ 65535) :
    Calls Try.prog 13 #[.agg #[.bool b1, .slice a1 l1.length c1], .agg #[.bool b2, .slice a2 l2.length c2], .int .u8 o', .int .u8 s', .int .u8 p', .int .u16 n'] w (BoolPost w true) := by
  obtain ⟨o, rfl⟩ : ∃ o : Nat, o' = (o : Int) := ⟨o'.toNat, by omega⟩
  obtain ⟨s, rfl⟩ : ∃ s : Nat, s' = (s : Int) := ⟨s'.toNat, by omega⟩
  obtain ⟨p, rfl⟩ : ∃ p : Nat, p' = (p : Int) := ⟨p'.toNat, by omega⟩
  obtain ⟨n, rfl⟩ : ∃ n : Nat, n' = (n : Int) := ⟨n'.toNat, by omega⟩
  obtain ⟨q, hq⟩ : ∃ q : Nat, (o : Int) % 16 = (q : Int) := ⟨o % 16, by omega⟩
  obtain ⟨m, hm⟩ : ∃ m : Nat, (n : Int) % 300 = (m : Int) := ⟨n % 300, by omega⟩
  have hq15 : q ≤ 15 := by omega
  have hqt : (o : Int).tmod 16 = (q : Int) := by rw [Int.tmod_eq_emod_of_nonneg (by omega)]; exact hq
  have hqw : IntKind.i64.wrap ((o : Int).tmod 16) = (q : Int) := by rw [hqt, IntKind.wrap_i64]; omega
  have hm300 : m < 300 := by omega
  clear ho0 hs0 hp0 hn0
  have HAW := Lib.hid fun W => Lib.hid (awake_any W)
  have HA := Lib.hid h1
  have HC := Lib.hid h2
  clear h1 h2
  go_enter Try.func13, Try.ntmps13
  have HB0 := Lib.hid (below2 w (.cells #[.bool b1, .slice a1 l1.length c1] 24) (.cells #[.bool b2, .slice a2 l2.length c2] 24))
  have HS8 := Lib.hid (short26 b1 b2 a1 a2 c1 c2 l1 l2 _ (w.heap.size + 1 + 1) (by simp) (HA.out.keep HB0.out) (HC.out.keep HB0.out))
  go_wp2_with fail
  (with_reducible refine HS8.out.mono ?_)
  rintro e w1 ⟨rfl, hb1⟩
  have hb1' := ((Below.refl _ _).alloc (Nat.le_refl _) (row2 b1 b2 a1 a2 c1 c2 l1 l2)).trans (hb1.mono (by simp))
  have HD1 := Lib.hid (HB0.out.trans (hb1'.mono HB0.out.size))
  obtain ⟨⟨cx0, cx1⟩, cy0, cy1, _⟩ := zc2 hb1'
  clear hb1 hb1'
  cases hall : allLe [l1.length, l2.length] 6 with
  | false =>
    clear hall
    go_wp2_with fail
    (with_reducible refine (HAW.out _).out.mono ?_)
    rintro e w2 ⟨rfl, hb2⟩
    go_wp2
    go_ret
    exact ⟨rfl, HD1.out.trans (hb2.mono HD1.out.size)⟩
  | true =>
    obtain ⟨hle1, hle2⟩ := allLe2 hall
    clear hall
    have HMD := Lib.hid (made2 b1 b2 a1 a2 c1 c2 l1 l2 w1 _ rfl (HA.out.keep HD1.out) (HC.out.keep HD1.out) ⟨by omega, by omega⟩)
    have hBX : Bd 8 (nz (b1, l1)) := nz_bd (by omega) HA.out.lt
    have hBY : Bd 8 (nz (b2, l2)) := nz_bd (by omega) HC.out.lt
    clear hle1 hle2
    generalize nz (b1, l1) = x at *
    generalize nz (b2, l2) = y at *
    have HLX : Hid (len x ≤ 8 ∧ len y ≤ 8) := Lib.hid ⟨digs_length_le (by decide) _ _ hBX, digs_length_le (by decide) _ _ hBY⟩
    clear hBX hBY
    go_wp2_with fail
    (with_reducible refine HMD.out.mono ?_)
    rintro e w2 ⟨v, rfl, hrow, hb2⟩
    obtain ⟨g, cap, dA, nA, eA, dB, nB, eB, rfl, hg, hgb, q1, q2, q3, q4, i1, i2⟩ := irow2 hrow
    have HD2 := Lib.hid (HD1.out.trans (hb2.mono HD1.out.size))
    have HI := Lib.hid (And.intro i1 i2)
    clear i1 i2 hb2 hrow cx0 cx1 cy0 cy1
    generalize decide (x < 0) = bA at *
    generalize decide (y < 0) = bB at *
    have HQ : Hid (∀ W, Below w2.heap.size w2 W → W.cell? ⟨g, 0, none⟩ = some (.bool bA) ∧ W.cell? ⟨g, 1, none⟩ = some (.slice dA nA eA) ∧ W.cell? ⟨g, 2, none⟩ = some (.bool bB) ∧ W.cell? ⟨g, 3, none⟩ = some (.slice dB nB eB)) := Lib.hid fun W hb => ⟨(hb.cell (p := ⟨g, 0, none⟩) hg).trans q1, (hb.cell (p := ⟨g, 1, none⟩) hg).trans q2, (hb.cell (p := ⟨g, 2, none⟩) hg).trans q3, (hb.cell (p := ⟨g, 3, none⟩) hg).trans q4⟩
    go_upto_region 4 with fail
    go_cut [14, 15] from 47 to 52 (fun s14 s15 wx => ∃ pA pB, s14 = .pointer (some ⟨pA, 0, none⟩) ∧ s15 = .pointer (some ⟨pB, 0, none⟩) ∧ BX pA (.bool bA) (.slice dA nA eA) x wx ∧ BX pB (.bool bB) (.slice dB nB eB) y wx ∧ Below w2.heap.size w2 wx)
    case first =>
      go_region_held3 (fun w' => w'.cell? ⟨g, 0, none⟩ = some (.bool bA) ∧ w'.cell? ⟨g, 1, none⟩ = some (.slice dA nA eA) ∧ w'.cell? ⟨g, 2, none⟩ = some (.bool bB) ∧ w'.cell? ⟨g, 3, none⟩ = some (.slice dB nB eB))
        (first | exact HQ.out _ ((Below.refl _ _).drew) | exact HQ.out _ (((Below.refl _ _).alloc (Nat.le_refl _) _).drew) | exact HQ.out _ ((((Below.refl _ _).alloc (Nat.le_refl _) _).alloc (by simp) _).drew) | go_keep) (first | fail)
      all_goals
        go_wp2_with fail
        go_meet
        have hdr : Below w2.heap.size w2 w2.drew := (Below.refl _ _).drew
        first
          | exact ⟨_, _, rfl, rfl, (two_boxes (HI.out.1.keep hdr) (HI.out.2.keep hdr)).1, (two_boxes (HI.out.1.keep hdr) (HI.out.2.keep hdr)).2, (hdr.alloc hdr.size _).alloc (by simp) _⟩
          | exact ⟨_, _, rfl, rfl, (two_boxes (HI.out.2.keep hdr) (HI.out.1.keep hdr)).2, (two_boxes (HI.out.2.keep hdr) (HI.out.1.keep hdr)).1, (hdr.alloc hdr.size _).alloc (by simp) _⟩
    case rest =>
      obtain ⟨pA, pB, rfl, rfl, hA3, hB3, hw3⟩ := hcut
      have KA3 := Lib.hid hA3
      have KB3 := Lib.hid hB3
      have HE3 := Lib.hid (Below.refl wc.heap.size wc)
      have HD3 := Lib.hid (HD2.out.trans (hw3.mono HD2.out.size))
      clear hA3 hB3 hw3 q1 q2 q3 q4
      have HB6 : Hid (∀ W u v, IntV W u x → IntV W v y → Hid (Calls Try.prog 51 #[u, .int .i64 6, v] W (IntOK W (boolZ 6 x y)))) := Lib.hid fun W u v h h' => Lib.hid (Boole_ok 6 x y u v W (by decide) (by have := HLX.out; omega) (by have := HLX.out; omega) h h')
      have HB8 : Hid (∀ W u v, IntV W u x → IntV W v y → Hid (Calls Try.prog 51 #[u, .int .i64 8, v] W (IntOK W (boolZ 8 x y)))) := Lib.hid fun W u v h h' => Lib.hid (Boole_ok 8 x y u v W (by decide) (by have := HLX.out; omega) (by have := HLX.out; omega) h h')
      obtain ⟨ga0, gb0⟩ := KA3.out.cells
      obtain ⟨ga1, gb1⟩ := KB3.out.cells
      go_wp2_with fail
      (with_reducible refine ((HB6.out _ _ _ KA3.out.iv KB3.out.iv).out).mono ?_)
      rintro e w4 ⟨vX, rfl, ⟨dX, nX, eX, rfl, hrX⟩, hb4⟩
      have HIX : Hid (IntV w4 (.agg #[.bool (decide ((boolZ 6 x y) < 0)), .slice dX nX eX]) (boolZ 6 x y)) := Lib.hid ⟨_, _, _, rfl, hrX⟩
      have HD4 := Lib.hid (HE3.out.trans (hb4.mono HE3.out.size))
      have KA4 := Lib.hid (KA3.out.keep hb4)
      have KB4 := Lib.hid (KB3.out.keep hb4)
      clear KA3 KB3
      clear hb4 HE3 hrX ga0 gb0 ga1 gb1
      generalize decide ((boolZ 6 x y) < 0) = bX at *
      have hal : Below w4.heap.size w4 (w4.alloc (.cells #[.bool bX, .slice dX nX eX] 28)) := (Below.refl _ _).alloc (Nat.le_refl _) _
      have HD5 := Lib.hid (HD4.out.trans (hal.mono HD4.out.size))
      have KA5 := Lib.hid (KA4.out.keep hal)
      have KB5 := Lib.hid (KB4.out.keep hal)
      clear KA4 KB4
      have KX5 : Hid (BX (w4.heap.size) (.bool bX) (.slice dX nX eX) (boolZ 6 x y) (w4.alloc (.cells #[.bool bX, .slice dX nX eX] 28))) := Lib.hid (BX.made HIX.out)
      clear hal HD4 HIX
      obtain ⟨ga0, gb0⟩ := KA5.out.cells
      obtain ⟨ga1, gb1⟩ := KB5.out.cells
      go_wp2_with fail
      (with_reducible refine ((HB8.out _ _ _ KA5.out.iv KB5.out.iv).out).mono ?_)
      rintro e w6 ⟨vN, rfl, ⟨dN, nN, eN, rfl, hrN⟩, hb6⟩
      have HIN : Hid (IntV w6 (.agg #[.bool (decide ((boolZ 8 x y) < 0)), .slice dN nN eN]) (boolZ 8 x y)) := Lib.hid ⟨_, _, _, rfl, hrN⟩
      have HD6 := Lib.hid (HD5.out.trans (hb6.mono HD5.out.size))
      have KA6 := Lib.hid (KA5.out.keep hb6)
      have KB6 := Lib.hid (KB5.out.keep hb6)
      have KX6 := Lib.hid (KX5.out.keep hb6)
      clear KA5 KB5 KX5
      clear hb6 HD5 hrN ga0 gb0 ga1 gb1
      generalize decide ((boolZ 8 x y) < 0) = bN at *
      have hal : Below w6.heap.size w6 (w6.alloc (.cells #[.bool bN, .slice dN nN eN] 28)) := (Below.refl _ _).alloc (Nat.le_refl _) _
      have HD7 := Lib.hid (HD6.out.trans (hal.mono HD6.out.size))
      have KA7 := Lib.hid (KA6.out.keep hal)
      have KB7 := Lib.hid (KB6.out.keep hal)
      have KX7 := Lib.hid (KX6.out.keep hal)
      clear KA6 KB6 KX6
      have KN7 : Hid (BX (w6.heap.size) (.bool bN) (.slice dN nN eN) (boolZ 8 x y) (w6.alloc (.cells #[.bool bN, .slice dN nN eN] 28))) := Lib.hid (BX.made HIN.out)
      clear hal HD6 HIN
      go_upto_region 8 with fail
      generalize hXX8 : (w6.alloc (.cells #[.bool bN, .slice dN nN eN] 28)) = X8 at *
      clear hXX8
      have HN1 := Lib.hid fun W => Lib.hid (show Calls Try.prog 17 #[.int .i64 (-1)] W (IntPost W (-1)) from new_any (-1) W (by decide) (by decide))
      have HSB := Lib.hid fun W u v hu hv => Lib.hid (show Calls Try.prog 40 #[u, v] W (IntPost W (-1 - x)) from Sub_any (-1) x u v W (by rw [len_neg1]; decide) (by have := HLX.out; omega) hu hv)
      go_cut [22] from 69 to 71 (fun s22 wx => ∃ (q : Nat) (bq : Bool) (dq : Option Addr) (nq eq : Nat), s22 = .pointer (some ⟨q, 0, none⟩) ∧ BX q (.bool bq) (.slice dq nq eq) (-1 - x) wx ∧ Below X8.heap.size X8 wx)
      case first =>
        have HS0 : Hid (∀ w', Below X8.heap.size X8 w' → (w'.cell? ⟨pA, 0, none⟩ = some (.bool bA) ∧ w'.cell? ⟨pA, 1, none⟩ = some (.slice dA nA eA))) := Lib.hid fun w' hb => (KA7.out.keep hb).cells
        have hbl : pA < X8.heap.size := KA7.out.lt
        go_region_held3 (fun w' => w'.cell? ⟨pA, 0, none⟩ = some (.bool bA) ∧ w'.cell? ⟨pA, 1, none⟩ = some (.slice dA nA eA))
          (first | exact ⟨(cell_store2 (by omega)).trans (HS0.out _ hbC).1, (cell_store2 (by omega)).trans (HS0.out _ hbC).2⟩ | exact HS0.out _ (hbC.alloc hbC.size _) | exact HS0.out _ hbC | exact HS0.out _ (hbO.alloc hbO.size _) | exact HS0.out _ hbO | exact HS0.out _ ((Below.refl _ _).drew) | exact HS0.out _ (((Below.refl _ _).alloc (Nat.le_refl _) _).drew) | go_keep)
          (first
            | (go_at_call 17; (with_reducible refine (HN1.out _).out.mono ?_); rintro e wO ⟨vO, rfl, hiO, hbO'⟩; have hbO : Below X8.heap.size X8 wO := (by first | exact below_dt hbO' | exact belowD hbO'); (first | (have zO := zbD hbO') | skip))
            | (go_at_call 40; (first | (with_reducible refine (HSB.out _ _ _ hiO (KA7.out.keep hbO).iv).out.mono ?_) | (with_reducible refine (HSB.out _ _ _ (hiO.keep ((Below.refl _ _).alloc (Nat.le_refl _) _)) (KA7.out.keep (hbO.alloc hbO.size _)).iv).out.mono ?_)); rintro e wC ⟨vC, rfl, ⟨dC, nC, eC, rfl, hrC⟩, hbC'⟩; have hbC : Below X8.heap.size X8 wC := (by first | exact hbO.trans (hbC'.mono hbO.size) | exact belowA hbO hbC' hbO.size); (first | (have zC := zO.keep hbC') | (have zC := zbA hbC') | skip); (first | (have zc0 := zC.c0; have zc1 := zC.c1; have zf0 := zC.f0; have zf1 := zC.f1; have hOs := hbO.size) | skip)))
        all_goals
          go_wp2_with fail
          go_meet
          first
            | exact ⟨_, _, _, _, _, rfl, BX.made ⟨_, _, _, rfl, hrC⟩, hbC.alloc hbC.size _⟩
            | exact ⟨_, _, _, _, _, rfl, zC.mine ⟨_, _, _, rfl, hrC⟩, (hbC.setCell (by simp <;> omega) _).setCell (by simp <;> omega) _⟩
      case rest =>
        obtain ⟨pO, bO, dO, nO, eO, rfl, hO9, hw9⟩ := hcut
        have HE8 := Lib.hid (HD7.out.trans (hw9.mono HD7.out.size))
        have KA8 := Lib.hid (KA7.out.keep hw9)
        have KB8 := Lib.hid (KB7.out.keep hw9)
        have KX8 := Lib.hid (KX7.out.keep hw9)
        have KN8 := Lib.hid (KN7.out.keep hw9)
        clear KA7 KB7 KX7 KN7
        have KO8 := Lib.hid hO9
        clear hO9 hw9
        have HLXX := HLX.out
        have hl6 : len (boolZ 6 x y) ≤ 9 := boolZ_len 6 (by omega) (by omega)
        have hl8 : len (boolZ 8 x y) ≤ 9 := boolZ_len 8 (by omega) (by omega)
        have hl68 : len (boolZ 6 x y + boolZ 8 x y) ≤ 1000000 := len_le (show 20 ≤ 1000000 by decide) (((len_bd' hl6).add (len_bd' hl8)).up (show 9 + 9 + 1 ≤ 20 by decide))
        have hlo : len (-1 - x) ≤ 1000000 := len_le (show 20 ≤ 1000000 by decide) (((show Bd 1 (-1) by unfold Bd; decide).sub (len_bd' HLXX.1)).up (show 1 + 8 + 1 ≤ 20 by decide))
        have HAD1 := Lib.hid fun W u v hu hv => Lib.hid (Add_any (boolZ 6 x y) (boolZ 8 x y) u v W (by omega) (by omega) hu hv)
        have HAD2 := Lib.hid fun W u v hu hv => Lib.hid (Add_any (boolZ 6 x y + boolZ 8 x y) (boolZ 8 x y) u v W hl68 (by omega) hu hv)
        have HAD3 := Lib.hid fun W u v hu hv => Lib.hid (Add_any x y u v W (by omega) (by omega) hu hv)
        have HSM := Lib.hid fun W u v hu hv => Lib.hid (same_eq (boolZ 6 x y + boolZ 8 x y + boolZ 8 x y) (x + y) (add_bits x y) u v W hu hv)
        have HLO := Lib.hid fun W u hu => Lib.hid (Length_any (-1 - x) u W hlo hu)
        have HLA := Lib.hid fun W u hu => Lib.hid (Length_any x u W (by omega) hu)
        have HCO := Lib.hid fun W u hu => Lib.hid (Count_any (-1 - x) u W hlo hu)
        have HCA := Lib.hid fun W u hu => Lib.hid (Count_any x u W (by omega) hu)
        rw [lenZ_compl] at HLO
        rw [countZ_compl] at HCO
        clear hl6 hl8 hl68 hlo HLXX
        generalize lenZ x = lx at *
        generalize countZ x = cx at *
        obtain ⟨ga0, gb0⟩ := KA8.out.cells
        have HKA : Hid (∀ W, Below wc.heap.size wc W → BX (pA) (.bool bA) (.slice dA nA eA) x W) := Lib.hid fun W hb => KA8.out.keep hb
        obtain ⟨ga1, gb1⟩ := KB8.out.cells
        have HKB : Hid (∀ W, Below wc.heap.size wc W → BX (pB) (.bool bB) (.slice dB nB eB) y W) := Lib.hid fun W hb => KB8.out.keep hb
        obtain ⟨ga2, gb2⟩ := KX8.out.cells
        have HKX : Hid (∀ W, Below wc.heap.size wc W → BX (w4.heap.size) (.bool bX) (.slice dX nX eX) (boolZ 6 x y) W) := Lib.hid fun W hb => KX8.out.keep hb
        obtain ⟨ga3, gb3⟩ := KN8.out.cells
        have HKN : Hid (∀ W, Below wc.heap.size wc W → BX (w6.heap.size) (.bool bN) (.slice dN nN eN) (boolZ 8 x y) W) := Lib.hid fun W hb => KN8.out.keep hb
        obtain ⟨ga4, gb4⟩ := KO8.out.cells
        have HKO : Hid (∀ W, Below wc.heap.size wc W → BX (pO) (.bool bO) (.slice dO nO eO) (-1 - x) W) := Lib.hid fun W hb => KO8.out.keep hb
        have HSS : Hid (∀ w', Below wc.heap.size wc w' → w'.cell? ⟨pA, 0, none⟩ = some (.bool bA) ∧ w'.cell? ⟨pA, 1, none⟩ = some (.slice dA nA eA) ∧ w'.cell? ⟨pB, 0, none⟩ = some (.bool bB) ∧ w'.cell? ⟨pB, 1, none⟩ = some (.slice dB nB eB) ∧ w'.cell? ⟨w4.heap.size, 0, none⟩ = some (.bool bX) ∧ w'.cell? ⟨w4.heap.size, 1, none⟩ = some (.slice dX nX eX) ∧ w'.cell? ⟨w6.heap.size, 0, none⟩ = some (.bool bN) ∧ w'.cell? ⟨w6.heap.size, 1, none⟩ = some (.slice dN nN eN) ∧ w'.cell? ⟨pO, 0, none⟩ = some (.bool bO) ∧ w'.cell? ⟨pO, 1, none⟩ = some (.slice dO nO eO)) := Lib.hid fun W hb => ⟨(KA8.out.keep hb).c0, (KA8.out.keep hb).c1, (KB8.out.keep hb).c0, (KB8.out.keep hb).c1, (KX8.out.keep hb).c0, (KX8.out.keep hb).c1, (KN8.out.keep hb).c0, (KN8.out.keep hb).c1, (KO8.out.keep hb).c0, (KO8.out.keep hb).c1⟩
        have hc0 : Below wc.heap.size wc wc.drew := (Below.refl _ _).drew
        have en1 : ((lx : Int) != (lx : Int)) = false := by simp
        have en2 : ((cx : Int) != (cx : Int)) = false := by simp
        have en3 : ((lx : Int) == (lx : Int)) = true := by simp
        have en4 : ((cx : Int) == (cx : Int)) = true := by simp
        go_upto_region 9 with fail
        go_region_held3 (fun w' => w'.cell? ⟨pA, 0, none⟩ = some (.bool bA) ∧ w'.cell? ⟨pA, 1, none⟩ = some (.slice dA nA eA) ∧ w'.cell? ⟨pB, 0, none⟩ = some (.bool bB) ∧ w'.cell? ⟨pB, 1, none⟩ = some (.slice dB nB eB) ∧ w'.cell? ⟨w4.heap.size, 0, none⟩ = some (.bool bX) ∧ w'.cell? ⟨w4.heap.size, 1, none⟩ = some (.slice dX nX eX) ∧ w'.cell? ⟨w6.heap.size, 0, none⟩ = some (.bool bN) ∧ w'.cell? ⟨w6.heap.size, 1, none⟩ = some (.slice dN nN eN) ∧ w'.cell? ⟨pO, 0, none⟩ = some (.bool bO) ∧ w'.cell? ⟨pO, 1, none⟩ = some (.slice dO nO eO))
          (first | exact hs8 | exact hs7 | exact hs6 | exact hs5 | exact hs4 | exact hs3 | exact hs2 | exact hs1 | go_keep)
          (go_loud (first
            | (go_at_call 38; (with_reducible refine (HAD1.out _ _ _ (HKX.out _ hc0).iv (HKN.out _ hc0).iv).out.mono ?_); rintro e v1 ⟨u1, rfl, hi1, hb1⟩; have hc1 := hc0.trans (hb1.mono hc0.size); have hs1 := HSS.out _ hc1)
            | (go_at_call 38; (with_reducible refine (HAD2.out _ _ _ hi1 (HKN.out _ hc1).iv).out.mono ?_); rintro e v2 ⟨u2, rfl, hi2, hb2⟩; have hc2 := hc1.trans (hb2.mono hc1.size); have hs2 := HSS.out _ hc2)
            | (go_at_call 38; (with_reducible refine (HAD3.out _ _ _ (HKA.out _ hc2).iv (HKB.out _ hc2).iv).out.mono ?_); rintro e v3 ⟨u3, rfl, hi3, hb3⟩; have hc3 := hc2.trans (hb3.mono hc2.size); have hs3 := HSS.out _ hc3)
            | (go_at_call 65; (with_reducible refine (HSM.out _ _ _ (hi2.keep hb3) hi3).out.mono ?_); rintro e v4 ⟨rfl, hb4⟩; have hc4 := hc3.trans (hb4.mono hc3.size); have hs4 := HSS.out _ hc4)
            | (go_at_call 26; (with_reducible refine (HLO.out _ _ (HKO.out _ hc4).iv).out.mono ?_); rintro e v5 ⟨rfl, hb5⟩; have hc5 := hc4.trans (hb5.mono hc4.size); have hs5 := HSS.out _ hc5)
            | (go_at_call 26; (with_reducible refine (HLA.out _ _ (HKA.out _ hc5).iv).out.mono ?_); rintro e v6 ⟨rfl, hb6⟩; have hc6 := hc5.trans (hb6.mono hc5.size); have hs6 := HSS.out _ hc6)
            | (go_at_call 28; (with_reducible refine (HCO.out _ _ (HKO.out _ hc6).iv).out.mono ?_); rintro e v7 ⟨rfl, hb7⟩; have hc7 := hc6.trans (hb7.mono hc6.size); have hs7 := HSS.out _ hc7)
            | (go_at_call 28; (with_reducible refine (HCA.out _ _ (HKA.out _ hc7).iv).out.mono ?_); rintro e v8 ⟨rfl, hb8⟩; have hc8 := hc7.trans (hb8.mono hc7.size); have hs8 := HSS.out _ hc8)))
        have HE9 := Lib.hid (HE8.out.trans (hc8.mono HE8.out.size))
        have KA9 := Lib.hid (KA8.out.keep hc8)
        have KB9 := Lib.hid (KB8.out.keep hc8)
        have KX9 := Lib.hid (KX8.out.keep hc8)
        have KN9 := Lib.hid (KN8.out.keep hc8)
        have KO9 := Lib.hid (KO8.out.keep hc8)
        clear KA8 KB8 KX8 KN8 KO8
        clear hs1 hs2 hs3 hs4 hs5 hs6 hs7 hs8 hc0 hc1 hc2 hc3 hc4 hc5 hc6 hc7 hc8 hb1 hb2 hb3 hb4 hb5 hb6 hb7 hb8 hi1 hi2 hi3 HSS HKA HKB HKX HKN HKO ga0 gb0 ga1 gb1 ga2 gb2 ga3 gb3 ga4 gb4 en1 en2 en3 en4 HAD1 HAD2 HAD3 HSM HLO HLA HCO HCA
        have HLXX := HLX.out
        have hf1 : len (fieldZ x s p) ≤ 101 := fieldZ_len s p (by omega) (by omega)
        have hd1 : len (depositZ x y s p) ≤ 300001 := depositZ_len s p (by omega) (by omega) (by omega) (by omega)
        have HDP := Lib.hid fun W u v hu hv => Lib.hid (Deposit_any x y s p u v W (by omega) (by omega) (by omega) (by omega) hu hv)
        have HFD := Lib.hid fun W u hu => Lib.hid (Field_any (depositZ x y s p) s p u W (by omega) (by omega) (by omega) hu)
        rw [field_deposit] at HFD
        have HFB := Lib.hid fun W u hu => Lib.hid (show Calls Try.prog 56 #[u, .int .i64 (s : Int), .int .i64 0] W (IntOK W (fieldZ y s 0)) from Field_any y s 0 u W (by omega) (by decide) (by omega) hu)
        have HFA := Lib.hid fun W u hu => Lib.hid (Field_any x s p u W (by omega) (by omega) (by omega) hu)
        have HDB := Lib.hid fun W u v hu hv => Lib.hid (Deposit_any x (fieldZ x s p) s p u v W (by omega) (by omega) (by omega) (by omega) hu hv)
        rw [deposit_field] at HDB
        have HBZ := Lib.hid fun W u v hu hv => Lib.hid (Boole_ok q x y u v W hq15 (by omega) (by omega) hu hv)
        have HSF := Lib.hid fun W u v hu hv => Lib.hid (same_eq (fieldZ y s 0) (fieldZ y s 0) rfl u v W hu hv)
        have HSX := Lib.hid fun W u v hu hv => Lib.hid (same_eq x x rfl u v W hu hv)
        clear HLXX hf1 hd1
        obtain ⟨ga0, gb0⟩ := KA9.out.cells
        obtain ⟨ga1, gb1⟩ := KB9.out.cells
        go_wp2_with fail
        (with_reducible refine ((HDP.out _ _ _ KA9.out.iv KB9.out.iv).out).mono ?_)
        rintro e w10 ⟨vD, rfl, ⟨dD, nD, eD, rfl, hrD⟩, hb10⟩
        have HID : Hid (IntV w10 (.agg #[.bool (decide ((depositZ x y s p) < 0)), .slice dD nD eD]) (depositZ x y s p)) := Lib.hid ⟨_, _, _, rfl, hrD⟩
        have HD10 := Lib.hid (HE9.out.trans (hb10.mono HE9.out.size))
        have KA10 := Lib.hid (KA9.out.keep hb10)
        have KB10 := Lib.hid (KB9.out.keep hb10)
        have KX10 := Lib.hid (KX9.out.keep hb10)
        have KN10 := Lib.hid (KN9.out.keep hb10)
        have KO10 := Lib.hid (KO9.out.keep hb10)
        clear KA9 KB9 KX9 KN9 KO9
        clear hb10 HE9 hrD ga0 gb0 ga1 gb1
        generalize decide ((depositZ x y s p) < 0) = bD at *
        have hal : Below w10.heap.size w10 (w10.alloc (.cells #[.bool bD, .slice dD nD eD] 28)) := (Below.refl _ _).alloc (Nat.le_refl _) _
        have HD11 := Lib.hid (HD10.out.trans (hal.mono HD10.out.size))
        have KA11 := Lib.hid (KA10.out.keep hal)
        have KB11 := Lib.hid (KB10.out.keep hal)
        have KX11 := Lib.hid (KX10.out.keep hal)
        have KN11 := Lib.hid (KN10.out.keep hal)
        have KO11 := Lib.hid (KO10.out.keep hal)
        clear KA10 KB10 KX10 KN10 KO10
        have KD11 : Hid (BX (w10.heap.size) (.bool bD) (.slice dD nD eD) (depositZ x y s p) (w10.alloc (.cells #[.bool bD, .slice dD nD eD] 28))) := Lib.hid (BX.made HID.out)
        clear hal HD10 HID
        obtain ⟨ga0, gb0⟩ := KD11.out.cells
        go_wp2_with fail
        (with_reducible refine ((HFD.out _ _ KD11.out.iv).out).mono ?_)
        rintro e w12 ⟨vU, rfl, ⟨dU, nU, eU, rfl, hrU⟩, hb12⟩
        have HIU : Hid (IntV w12 (.agg #[.bool (decide ((fieldZ y s 0) < 0)), .slice dU nU eU]) (fieldZ y s 0)) := Lib.hid ⟨_, _, _, rfl, hrU⟩
        have HD12 := Lib.hid (HD11.out.trans (hb12.mono HD11.out.size))
        have KA12 := Lib.hid (KA11.out.keep hb12)
        have KB12 := Lib.hid (KB11.out.keep hb12)
        have KX12 := Lib.hid (KX11.out.keep hb12)
        have KN12 := Lib.hid (KN11.out.keep hb12)
        have KO12 := Lib.hid (KO11.out.keep hb12)
        have KD12 := Lib.hid (KD11.out.keep hb12)
        clear KA11 KB11 KX11 KN11 KO11 KD11
        clear hb12 HD11 hrU ga0 gb0
        generalize decide ((fieldZ y s 0) < 0) = bU at *
        have hal : Below w12.heap.size w12 (w12.alloc (.cells #[.bool bU, .slice dU nU eU] 28)) := (Below.refl _ _).alloc (Nat.le_refl _) _
        have HD13 := Lib.hid (HD12.out.trans (hal.mono HD12.out.size))
        have KA13 := Lib.hid (KA12.out.keep hal)
        have KB13 := Lib.hid (KB12.out.keep hal)
        have KX13 := Lib.hid (KX12.out.keep hal)
        have KN13 := Lib.hid (KN12.out.keep hal)
        have KO13 := Lib.hid (KO12.out.keep hal)
        have KD13 := Lib.hid (KD12.out.keep hal)
        clear KA12 KB12 KX12 KN12 KO12 KD12
        have KU13 : Hid (BX (w12.heap.size) (.bool bU) (.slice dU nU eU) (fieldZ y s 0) (w12.alloc (.cells #[.bool bU, .slice dU nU eU] 28))) := Lib.hid (BX.made HIU.out)
        clear hal HD12 HIU
        obtain ⟨ga0, gb0⟩ := KB13.out.cells
        go_wp2_with fail
        (with_reducible refine ((HFB.out _ _ KB13.out.iv).out).mono ?_)
        rintro e w14 ⟨vV, rfl, ⟨dV, nV, eV, rfl, hrV⟩, hb14⟩
        have HIV : Hid (IntV w14 (.agg #[.bool (decide ((fieldZ y s 0) < 0)), .slice dV nV eV]) (fieldZ y s 0)) := Lib.hid ⟨_, _, _, rfl, hrV⟩
        have HD14 := Lib.hid (HD13.out.trans (hb14.mono HD13.out.size))
        have KA14 := Lib.hid (KA13.out.keep hb14)
        have KB14 := Lib.hid (KB13.out.keep hb14)
        have KX14 := Lib.hid (KX13.out.keep hb14)
        have KN14 := Lib.hid (KN13.out.keep hb14)
        have KO14 := Lib.hid (KO13.out.keep hb14)
        have KD14 := Lib.hid (KD13.out.keep hb14)
        have KU14 := Lib.hid (KU13.out.keep hb14)
        clear KA13 KB13 KX13 KN13 KO13 KD13 KU13
        clear hb14 HD13 hrV ga0 gb0
        generalize decide ((fieldZ y s 0) < 0) = bV at *
        have hal : Below w14.heap.size w14 (w14.alloc (.cells #[.bool bV, .slice dV nV eV] 28)) := (Below.refl _ _).alloc (Nat.le_refl _) _
        have HD15 := Lib.hid (HD14.out.trans (hal.mono HD14.out.size))
        have KA15 := Lib.hid (KA14.out.keep hal)
        have KB15 := Lib.hid (KB14.out.keep hal)
        have KX15 := Lib.hid (KX14.out.keep hal)
        have KN15 := Lib.hid (KN14.out.keep hal)
        have KO15 := Lib.hid (KO14.out.keep hal)
        have KD15 := Lib.hid (KD14.out.keep hal)
        have KU15 := Lib.hid (KU14.out.keep hal)
        clear KA14 KB14 KX14 KN14 KO14 KD14 KU14
        have KV15 : Hid (BX (w14.heap.size) (.bool bV) (.slice dV nV eV) (fieldZ y s 0) (w14.alloc (.cells #[.bool bV, .slice dV nV eV] 28))) := Lib.hid (BX.made HIV.out)
        clear hal HD14 HIV
        obtain ⟨ga0, gb0⟩ := KA15.out.cells
        go_wp2_with fail
        (with_reducible refine ((HFA.out _ _ KA15.out.iv).out).mono ?_)
        rintro e w16 ⟨vF, rfl, ⟨dF, nF, eF, rfl, hrF⟩, hb16⟩
        have HIF : Hid (IntV w16 (.agg #[.bool (decide ((fieldZ x s p) < 0)), .slice dF nF eF]) (fieldZ x s p)) := Lib.hid ⟨_, _, _, rfl, hrF⟩
        have HD16 := Lib.hid (HD15.out.trans (hb16.mono HD15.out.size))
        have KA16 := Lib.hid (KA15.out.keep hb16)
        have KB16 := Lib.hid (KB15.out.keep hb16)
        have KX16 := Lib.hid (KX15.out.keep hb16)
        have KN16 := Lib.hid (KN15.out.keep hb16)
        have KO16 := Lib.hid (KO15.out.keep hb16)
        have KD16 := Lib.hid (KD15.out.keep hb16)
        have KU16 := Lib.hid (KU15.out.keep hb16)
        have KV16 := Lib.hid (KV15.out.keep hb16)
        clear KA15 KB15 KX15 KN15 KO15 KD15 KU15 KV15
        clear hb16 HD15 hrF ga0 gb0
        generalize decide ((fieldZ x s p) < 0) = bF at *
        have hal : Below w16.heap.size w16 (w16.alloc (.cells #[.bool bF, .slice dF nF eF] 28)) := (Below.refl _ _).alloc (Nat.le_refl _) _
        have HD17 := Lib.hid (HD16.out.trans (hal.mono HD16.out.size))
        have KA17 := Lib.hid (KA16.out.keep hal)
        have KB17 := Lib.hid (KB16.out.keep hal)
        have KX17 := Lib.hid (KX16.out.keep hal)
        have KN17 := Lib.hid (KN16.out.keep hal)
        have KO17 := Lib.hid (KO16.out.keep hal)
        have KD17 := Lib.hid (KD16.out.keep hal)
        have KU17 := Lib.hid (KU16.out.keep hal)
        have KV17 := Lib.hid (KV16.out.keep hal)
        clear KA16 KB16 KX16 KN16 KO16 KD16 KU16 KV16
        have KF17 : Hid (BX (w16.heap.size) (.bool bF) (.slice dF nF eF) (fieldZ x s p) (w16.alloc (.cells #[.bool bF, .slice dF nF eF] 28))) := Lib.hid (BX.made HIF.out)
        clear hal HD16 HIF
        obtain ⟨ga0, gb0⟩ := KA17.out.cells
        obtain ⟨ga1, gb1⟩ := KF17.out.cells
        go_wp2_with fail
        (with_reducible refine ((HDB.out _ _ _ KA17.out.iv KF17.out.iv).out).mono ?_)
        rintro e w18 ⟨vR, rfl, ⟨dR, nR, eR, rfl, hrR⟩, hb18⟩
        have HIR : Hid (IntV w18 (.agg #[.bool (decide (x < 0)), .slice dR nR eR]) x) := Lib.hid ⟨_, _, _, rfl, hrR⟩
        have HD18 := Lib.hid (HD17.out.trans (hb18.mono HD17.out.size))
        have KA18 := Lib.hid (KA17.out.keep hb18)
        have KB18 := Lib.hid (KB17.out.keep hb18)
        have KX18 := Lib.hid (KX17.out.keep hb18)
        have KN18 := Lib.hid (KN17.out.keep hb18)
        have KO18 := Lib.hid (KO17.out.keep hb18)
        have KD18 := Lib.hid (KD17.out.keep hb18)
        have KU18 := Lib.hid (KU17.out.keep hb18)
        have KV18 := Lib.hid (KV17.out.keep hb18)
        have KF18 := Lib.hid (KF17.out.keep hb18)
        clear KA17 KB17 KX17 KN17 KO17 KD17 KU17 KV17 KF17
        clear hb18 HD17 hrR ga0 gb0 ga1 gb1
        generalize decide (x < 0) = bR at *
        have hal : Below w18.heap.size w18 (w18.alloc (.cells #[.bool bR, .slice dR nR eR] 28)) := (Below.refl _ _).alloc (Nat.le_refl _) _
        have HD19 := Lib.hid (HD18.out.trans (hal.mono HD18.out.size))
        have KA19 := Lib.hid (KA18.out.keep hal)
        have KB19 := Lib.hid (KB18.out.keep hal)
        have KX19 := Lib.hid (KX18.out.keep hal)
        have KN19 := Lib.hid (KN18.out.keep hal)
        have KO19 := Lib.hid (KO18.out.keep hal)
        have KD19 := Lib.hid (KD18.out.keep hal)
        have KU19 := Lib.hid (KU18.out.keep hal)
        have KV19 := Lib.hid (KV18.out.keep hal)
        have KF19 := Lib.hid (KF18.out.keep hal)
        clear KA18 KB18 KX18 KN18 KO18 KD18 KU18 KV18 KF18
        have KR19 : Hid (BX (w18.heap.size) (.bool bR) (.slice dR nR eR) x (w18.alloc (.cells #[.bool bR, .slice dR nR eR] 28))) := Lib.hid (BX.made HIR.out)
        clear hal HD18 HIR
        obtain ⟨ga0, gb0⟩ := KA19.out.cells
        obtain ⟨ga1, gb1⟩ := KB19.out.cells
        go_wp2_with fail
        (with_reducible refine ((HBZ.out _ _ _ KA19.out.iv KB19.out.iv).out).mono ?_)
        rintro e w20 ⟨vZ, rfl, ⟨dZ, nZ, eZ, rfl, hrZ⟩, hb20⟩
        have HIZ : Hid (IntV w20 (.agg #[.bool (decide ((boolZ q x y) < 0)), .slice dZ nZ eZ]) (boolZ q x y)) := Lib.hid ⟨_, _, _, rfl, hrZ⟩
        have HD20 := Lib.hid (HD19.out.trans (hb20.mono HD19.out.size))
        have KA20 := Lib.hid (KA19.out.keep hb20)
        have KB20 := Lib.hid (KB19.out.keep hb20)
        have KX20 := Lib.hid (KX19.out.keep hb20)
        have KN20 := Lib.hid (KN19.out.keep hb20)
        have KO20 := Lib.hid (KO19.out.keep hb20)
        have KD20 := Lib.hid (KD19.out.keep hb20)
        have KU20 := Lib.hid (KU19.out.keep hb20)
        have KV20 := Lib.hid (KV19.out.keep hb20)
        have KF20 := Lib.hid (KF19.out.keep hb20)
        have KR20 := Lib.hid (KR19.out.keep hb20)
        clear KA19 KB19 KX19 KN19 KO19 KD19 KU19 KV19 KF19 KR19
        clear hb20 HD19 hrZ ga0 gb0 ga1 gb1
        generalize decide ((boolZ q x y) < 0) = bZ at *
        have hal : Below w20.heap.size w20 (w20.alloc (.cells #[.bool bZ, .slice dZ nZ eZ] 28)) := (Below.refl _ _).alloc (Nat.le_refl _) _
        have HD21 := Lib.hid (HD20.out.trans (hal.mono HD20.out.size))
        have KA21 := Lib.hid (KA20.out.keep hal)
        have KB21 := Lib.hid (KB20.out.keep hal)
        have KX21 := Lib.hid (KX20.out.keep hal)
        have KN21 := Lib.hid (KN20.out.keep hal)
        have KO21 := Lib.hid (KO20.out.keep hal)
        have KD21 := Lib.hid (KD20.out.keep hal)
        have KU21 := Lib.hid (KU20.out.keep hal)
        have KV21 := Lib.hid (KV20.out.keep hal)
        have KF21 := Lib.hid (KF20.out.keep hal)
        have KR21 := Lib.hid (KR20.out.keep hal)
        clear KA20 KB20 KX20 KN20 KO20 KD20 KU20 KV20 KF20 KR20
        have KZ21 : Hid (BX (w20.heap.size) (.bool bZ) (.slice dZ nZ eZ) (boolZ q x y) (w20.alloc (.cells #[.bool bZ, .slice dZ nZ eZ] 28))) := Lib.hid (BX.made HIZ.out)
        clear hal HD20 HIZ
        have hmax6 := run_max_zero6
        obtain ⟨ga0, gb0⟩ := KU21.out.cells
        obtain ⟨ga1, gb1⟩ := KV21.out.cells
        go_wp2_with fail
        (with_reducible refine ((HSF.out _ _ _ KU21.out.iv KV21.out.iv).out).mono ?_)
        rintro e w22 ⟨rfl, hb22⟩
        have HD22 := Lib.hid (HD21.out.trans (hb22.mono HD21.out.size))
        have KA22 := Lib.hid (KA21.out.keep hb22)
        have KB22 := Lib.hid (KB21.out.keep hb22)
        have KX22 := Lib.hid (KX21.out.keep hb22)
        have KN22 := Lib.hid (KN21.out.keep hb22)
        have KO22 := Lib.hid (KO21.out.keep hb22)
        have KD22 := Lib.hid (KD21.out.keep hb22)
        have KU22 := Lib.hid (KU21.out.keep hb22)
        have KV22 := Lib.hid (KV21.out.keep hb22)
        have KF22 := Lib.hid (KF21.out.keep hb22)
        have KR22 := Lib.hid (KR21.out.keep hb22)
        have KZ22 := Lib.hid (KZ21.out.keep hb22)
        clear KA21 KB21 KX21 KN21 KO21 KD21 KU21 KV21 KF21 KR21 KZ21
        clear hb22 HD21  ga0 gb0 ga1 gb1
        obtain ⟨ga0, gb0⟩ := KR22.out.cells
        obtain ⟨ga1, gb1⟩ := KA22.out.cells
        go_wp2_with fail
        (with_reducible refine ((HSX.out _ _ _ KR22.out.iv KA22.out.iv).out).mono ?_)
        rintro e w23 ⟨rfl, hb23⟩
        have HD23 := Lib.hid (HD22.out.trans (hb23.mono HD22.out.size))
        have KA23 := Lib.hid (KA22.out.keep hb23)
        have KB23 := Lib.hid (KB22.out.keep hb23)
        have KX23 := Lib.hid (KX22.out.keep hb23)
        have KN23 := Lib.hid (KN22.out.keep hb23)
        have KO23 := Lib.hid (KO22.out.keep hb23)
        have KD23 := Lib.hid (KD22.out.keep hb23)
        have KU23 := Lib.hid (KU22.out.keep hb23)
        have KV23 := Lib.hid (KV22.out.keep hb23)
        have KF23 := Lib.hid (KF22.out.keep hb23)
        have KR23 := Lib.hid (KR22.out.keep hb23)
        have KZ23 := Lib.hid (KZ22.out.keep hb23)
        clear KA22 KB22 KX22 KN22 KO22 KD22 KU22 KV22 KF22 KR22 KZ22
        clear hb23 HD22  ga0 gb0 ga1 gb1
        have HTX := Lib.hid fun W u hu => Lib.hid (Bit_any x u m W (by have := HLX.out; omega) (by omega) hu)
        have HTY := Lib.hid fun W u hu => Lib.hid (Bit_any y u m W (by have := HLX.out; omega) (by omega) hu)
        have HTD := Lib.hid fun W u hu => Lib.hid (Bit_any (depositZ x y s p) u m W (by have := HLX.out; have h9 := depositZ_len (x := x) (y := y) s p (by omega) (by omega) (by omega) (by omega); omega) (by omega) hu)
        have HTZ := Lib.hid fun W u hu => Lib.hid (Bit_any (boolZ q x y) u m W (by have := HLX.out; have h9 := boolZ_len q (x := x) (y := y) (k := 8) (by omega) (by omega); omega) (by omega) hu)
        rw [boolZ_bit] at HTZ
        have HDB2 := Lib.hid (depositZ_bit x y s p m)
        generalize bitZ (depositZ x y s p) m = td at *
        generalize bitZ x m = tx at *
        generalize bitZ y m = ty at *
        obtain ⟨pr, hpr⟩ : ∃ pr : Nat, pr = (if tx then 2 else 0) + (if ty then 1 else 0) := ⟨_, rfl⟩
        obtain ⟨ga0, gb0⟩ := KA23.out.cells
        go_wp2_with fail
        (with_reducible refine ((HTX.out _ _ KA23.out.iv).out).mono ?_)
        rintro e w24 ⟨rfl, hb24⟩
        have HD24 := Lib.hid (HD23.out.trans (hb24.mono HD23.out.size))
        have KA24 := Lib.hid (KA23.out.keep hb24)
        have KB24 := Lib.hid (KB23.out.keep hb24)
        have KX24 := Lib.hid (KX23.out.keep hb24)
        have KN24 := Lib.hid (KN23.out.keep hb24)
        have KO24 := Lib.hid (KO23.out.keep hb24)
        have KD24 := Lib.hid (KD23.out.keep hb24)
        have KU24 := Lib.hid (KU23.out.keep hb24)
        have KV24 := Lib.hid (KV23.out.keep hb24)
        have KF24 := Lib.hid (KF23.out.keep hb24)
        have KR24 := Lib.hid (KR23.out.keep hb24)
        have KZ24 := Lib.hid (KZ23.out.keep hb24)
        clear KA23 KB23 KX23 KN23 KO23 KD23 KU23 KV23 KF23 KR23 KZ23
        clear hb24 HD23  ga0 gb0
        go_upto_if 174 with fail
        go_cut [34] from 172 to 174 (fun s34 wx => s34 = .int .i64 (if tx then 2 else 0) ∧ w24 = wx)
        case first =>
          cases tx
          all_goals
            go_wp2_with fail
            go_meet
            exact ⟨rfl, rfl⟩
        case rest =>
          obtain ⟨rfl, rfl⟩ := hcut
          obtain ⟨pa, hpa⟩ : ∃ pa : Nat, (if tx then 2 else 0 : Int) = (pa : Int) := ⟨if tx then 2 else 0, by cases tx <;> rfl⟩
          have hpa2 : pa ≤ 2 := by cases tx <;> simp at hpa <;> omega
          rw [hpa]
          obtain ⟨ga0, gb0⟩ := KB24.out.cells
          go_wp2_with fail
          (with_reducible refine ((HTY.out _ _ KB24.out.iv).out).mono ?_)
          rintro e w25 ⟨rfl, hb25⟩
          have HD25 := Lib.hid (HD24.out.trans (hb25.mono HD24.out.size))
          have KA25 := Lib.hid (KA24.out.keep hb25)
          have KB25 := Lib.hid (KB24.out.keep hb25)
          have KX25 := Lib.hid (KX24.out.keep hb25)
          have KN25 := Lib.hid (KN24.out.keep hb25)
          have KO25 := Lib.hid (KO24.out.keep hb25)
          have KD25 := Lib.hid (KD24.out.keep hb25)
          have KU25 := Lib.hid (KU24.out.keep hb25)
          have KV25 := Lib.hid (KV24.out.keep hb25)
          have KF25 := Lib.hid (KF24.out.keep hb25)
          have KR25 := Lib.hid (KR24.out.keep hb25)
          have KZ25 := Lib.hid (KZ24.out.keep hb25)
          clear KA24 KB24 KX24 KN24 KO24 KD24 KU24 KV24 KF24 KR24 KZ24
          clear hb25 HD24  ga0 gb0
          go_upto_if 177 with fail
          go_cut [34] from 175 to 179 (fun s34 wx => s34 = .int .i64 (pr : Int) ∧ w25 = wx)
          case first =>
            cases ty
            · have e0 : pr = pa := by rw [hpr]; cases tx <;> simp at hpa ⊢ <;> omega
              subst e0
              go_wp2_with fail
              go_meet
              exact ⟨rfl, rfl⟩
            · have e0 : pr = pa + 1 := by rw [hpr]; cases tx <;> simp at hpa ⊢ <;> omega
              go_wp2_with fail
              go_meet
              exact ⟨by rw [e0]; go_num, rfl⟩
          case rest =>
            obtain ⟨rfl, rfl⟩ := hcut
            clear hpa hpa2 pa
            have hpr3 : pr ≤ 3 := by rw [hpr]; cases tx <;> cases ty <;> decide
            have HOPB : Hid (opB q tx ty = decide (q / 2 ^ pr % 2 = 1)) := Lib.hid (opB_at q pr tx ty hpr.symm)
            clear hpr
            generalize opB q tx ty = r at *
            clear HDP HFD HFB HFA HDB HBZ HSF HB6 HB8 HN1 HSB HQ HI hmax6 HMD HS8 HB0 HA HC
            have hand := i64_and_one (q / 2 ^ pr) (by have := Nat.div_le_self q (2 ^ pr); omega)
            have hdv : ((q / 2 ^ pr : Nat) : Int) = (q : Int) / 2 ^ pr := by rw [Int.natCast_ediv, Int.natCast_pow]; rfl
            rw [hdv] at hand
            clear hdv
            go_upto_region 25 with fail
            go_cut [211] from 180 to 211 (fun s211 wx => s211 = .bool false ∧ Below w25.heap.size w25 wx)
            case first =>
              obtain ⟨gl0D, gr0D⟩ := KD25.out.cells
              obtain ⟨gl0A, gr0A⟩ := KA25.out.cells
              obtain ⟨gl0Z, gr0Z⟩ := KZ25.out.cells
              have HSS : Hid (∀ w', Below w25.heap.size w25 w' → w'.cell? ⟨pA, 0, none⟩ = some (.bool bA) ∧ w'.cell? ⟨pA, 1, none⟩ = some (.slice dA nA eA) ∧ w'.cell? ⟨w10.heap.size, 0, none⟩ = some (.bool bD) ∧ w'.cell? ⟨w10.heap.size, 1, none⟩ = some (.slice dD nD eD) ∧ w'.cell? ⟨w20.heap.size, 0, none⟩ = some (.bool bZ) ∧ w'.cell? ⟨w20.heap.size, 1, none⟩ = some (.slice dZ nZ eZ)) := Lib.hid fun W hb => ⟨(KA25.out.keep hb).c0, (KA25.out.keep hb).c1, (KD25.out.keep hb).c0, (KD25.out.keep hb).c1, (KZ25.out.keep hb).c0, (KZ25.out.keep hb).c1⟩
              have hc0 : Below w25.heap.size w25 w25.drew := (Below.refl _ _).drew
              have hu2 : q / 2 ^ pr % 2 = 0 ∨ q / 2 ^ pr % 2 = 1 := by omega
              have hwq : IntKind.i64.wrap (q : Int) = (q : Int) := by rw [IntKind.wrap_i64]; omega
              have hfin : (!(r == (bits BinOp.and IntKind.i64 (IntKind.i64.wrap (q : Int) / 2 ^ pr) 1 == 1))) = false := by
                rw [hwq, hand, HOPB.out]
                rcases hu2 with h9 | h9 <;> rw [h9] <;> rfl
              have HFIN := Lib.hid hfin
              clear hfin hwq hu2 hand
              have hps : IntKind.i64.wrap ((p : Int) + (s : Int)) = (p : Int) + (s : Int) := by rw [IntKind.wrap_i64]; omega
              by_cases h1 : m < p
              · have e1 : td = tx := by rw [HDB2.out, if_neg (by omega)]
                subst e1
                have hd1 : decide ((m : Int) < (p : Int)) = true := decide_eq_true (by omega)
                have en : (td != td) = false := by simp
                have en2 : (td == td) = true := by simp
                refine wp_region_held_drew (S := fun w' => w'.cell? ⟨pA, 0, none⟩ = some (.bool bA) ∧ w'.cell? ⟨pA, 1, none⟩ = some (.slice dA nA eA) ∧ w'.cell? ⟨w10.heap.size, 0, none⟩ = some (.bool bD) ∧ w'.cell? ⟨w10.heap.size, 1, none⟩ = some (.slice dD nD eD) ∧ w'.cell? ⟨w20.heap.size, 0, none⟩ = some (.bool bZ) ∧ w'.cell? ⟨w20.heap.size, 1, none⟩ = some (.slice dZ nZ eZ)) (by kernel_rfl) (HSS.out _ hc0) (fun hHeld => ?_)
                refine' wpAnyH_take (i := 0) (oi := { dst := some 180, op := Op.move (Operand.tmp 33), type := 3, pos := "more.go:124", after := #[], guard := none }) (v := _) rfl (by kernel_rfl) (by kernel_rfl) (by kernel_rfl) (fun _ _ _ h => h) (Or.inl ⟨by rfl, ?hya_0⟩) (by assumption) ?resta_0
                case hya_0 => (intro w' hSw; (try dsimp only at hSw); go_simp <;> (try with_reducible rfl))
                try simp only [Act.put, List.setIfInBounds_toArray, List.set_cons_zero, List.set_cons_succ]
                refine' wpAnyH_take (i := 1) (oi := { dst := some 181, op := Op.move (Operand.tmp 17), type := 3, pos := "more.go:124", after := #[], guard := none }) (v := _) rfl (by kernel_rfl) (by kernel_rfl) (by kernel_rfl) (fun _ _ _ h => h) (Or.inl ⟨by rfl, ?hya_1⟩) (by assumption) ?resta_1
                case hya_1 => (intro w' hSw; (try dsimp only at hSw); go_simp <;> (try with_reducible rfl))
                try simp only [Act.put, List.setIfInBounds_toArray, List.set_cons_zero, List.set_cons_succ]
                refine' wpAnyH_take (i := 2) (oi := { dst := some 182, op := Op.binOp BinOp.lss 3 (Operand.tmp 180) (Operand.tmp 181) 3, type := 4, pos := "more.go:124", after := #[{ on := 0, ground := Ground.data }, { on := 1, ground := Ground.data }], guard := none }) (v := _) rfl (by kernel_rfl) (by kernel_rfl) (by kernel_rfl) (fun _ _ _ h => h) (Or.inl ⟨by rfl, ?hya_2⟩) (by assumption) ?resta_2
                case hya_2 => (intro w' hSw; (try dsimp only at hSw); go_simp <;> (try with_reducible rfl))
                try simp only [Act.put, List.setIfInBounds_toArray, List.set_cons_zero, List.set_cons_succ]
                refine' wpAnyH_take (i := 3) (oi := { dst := some 183, op := Op.move (Operand.tmp 182), type := 4, pos := "more.go:124", after := #[{ on := 2, ground := Ground.data }], guard := none }) (v := _) rfl (by kernel_rfl) (by kernel_rfl) (by kernel_rfl) (fun _ _ _ h => h) (Or.inl ⟨by rfl, ?hya_3⟩) (by assumption) ?resta_3
                case hya_3 => (intro w' hSw; (try dsimp only at hSw); go_simp <;> (try with_reducible rfl))
                try simp only [Act.put, List.setIfInBounds_toArray, List.set_cons_zero, List.set_cons_succ]
                refine wpAnyH_take (i := 4) (oi := { dst := some 184, op := Op.move (Operand.tmp 33), type := 3, pos := "more.go:124", after := #[{ on := 3, ground := Ground.guard }], guard := some (3, false) }) (v := undef) rfl (by kernel_rfl) (by kernel_rfl) (by kernel_rfl) (fun _ _ _ h => h) (Or.inr ⟨by rfl, rfl⟩) (by assumption) ?_
                try simp only [Act.put, List.setIfInBounds_toArray, List.set_cons_zero, List.set_cons_succ]
                refine wpAnyH_take (i := 5) (oi := { dst := some 185, op := Op.move (Operand.tmp 17), type := 3, pos := "more.go:124", after := #[{ on := 3, ground := Ground.guard }], guard := some (3, false) }) (v := undef) rfl (by kernel_rfl) (by kernel_rfl) (by kernel_rfl) (fun _ _ _ h => h) (Or.inr ⟨by rfl, rfl⟩) (by assumption) ?_
                try simp only [Act.put, List.setIfInBounds_toArray, List.set_cons_zero, List.set_cons_succ]
                refine wpAnyH_take (i := 6) (oi := { dst := some 186, op := Op.move (Operand.tmp 16), type := 3, pos := "more.go:124", after := #[{ on := 3, ground := Ground.guard }], guard := some (3, false) }) (v := undef) rfl (by kernel_rfl) (by kernel_rfl) (by kernel_rfl) (fun _ _ _ h => h) (Or.inr ⟨by rfl, rfl⟩) (by assumption) ?_
                try simp only [Act.put, List.setIfInBounds_toArray, List.set_cons_zero, List.set_cons_succ]
                refine wpAnyH_take (i := 7) (oi := { dst := some 187, op := Op.binOp BinOp.add 3 (Operand.tmp 185) (Operand.tmp 186) 3, type := 3, pos := "more.go:124", after := #[{ on := 5, ground := Ground.data }, { on := 6, ground := Ground.data }, { on := 3, ground := Ground.guard }], guard := some (3, false) }) (v := undef) rfl (by kernel_rfl) (by kernel_rfl) (by kernel_rfl) (fun _ _ _ h => h) (Or.inr ⟨by rfl, rfl⟩) (by assumption) ?_
                try simp only [Act.put, List.setIfInBounds_toArray, List.set_cons_zero, List.set_cons_succ]
                refine wpAnyH_take (i := 8) (oi := { dst := some 188, op := Op.binOp BinOp.geq 3 (Operand.tmp 184) (Operand.tmp 187) 3, type := 4, pos := "more.go:124", after := #[{ on := 4, ground := Ground.data }, { on := 7, ground := Ground.data }, { on := 3, ground := Ground.guard }], guard := some (3, false) }) (v := undef) rfl (by kernel_rfl) (by kernel_rfl) (by kernel_rfl) (fun _ _ _ h => h) (Or.inr ⟨by rfl, rfl⟩) (by assumption) ?_
                try simp only [Act.put, List.setIfInBounds_toArray, List.set_cons_zero, List.set_cons_succ]
                refine' wpAnyH_take (i := 9) (oi := { dst := some 189, op := Op.pick (Operand.tmp 183) (Operand.const (Value.bool true)) (Operand.tmp 188), type := 4, pos := "more.go:124", after := #[{ on := 3, ground := Ground.data }, { on := 8, ground := Ground.data }], guard := none }) (v := _) rfl (by kernel_rfl) (by kernel_rfl) (by kernel_rfl) (fun _ _ _ h => h) (Or.inl ⟨by rfl, ?hya_9⟩) (by assumption) ?resta_9
                case hya_9 => (intro w' hSw; (try dsimp only at hSw); go_simp <;> (try with_reducible rfl))
                try simp only [Act.put, List.setIfInBounds_toArray, List.set_cons_zero, List.set_cons_succ]
                refine' wpAnyH_take (i := 10) (oi := { dst := some 190, op := Op.move (Operand.tmp 189), type := 4, pos := "more.go:124", after := #[{ on := 9, ground := Ground.data }, { on := 3, ground := Ground.chain }], guard := none }) (v := _) rfl (by kernel_rfl) (by kernel_rfl) (by kernel_rfl) (fun _ _ _ h => h) (Or.inl ⟨by rfl, ?hya_10⟩) (by assumption) ?resta_10
                case hya_10 => (intro w' hSw; (try dsimp only at hSw); go_simp <;> (try with_reducible rfl))
                try simp only [Act.put, List.setIfInBounds_toArray, List.set_cons_zero, List.set_cons_succ]
                refine' wpAnyH_take (i := 11) (oi := { dst := some 191, op := Op.load 28 (Operand.tmp 23), type := 28, pos := "more.go:124", after := #[{ on := 10, ground := Ground.guard }], guard := some (10, true) }) (v := _) rfl (by kernel_rfl) (by kernel_rfl) (by kernel_rfl) (fun _ _ _ h => h) (Or.inl ⟨by rfl, ?hya_11⟩) (by assumption) ?resta_11
                case hya_11 => (intro w' hSw; (try dsimp only at hSw); go_simp <;> (try with_reducible rfl))
                try simp only [Act.put, List.setIfInBounds_toArray, List.set_cons_zero, List.set_cons_succ]
                refine' wpAnyH_take (i := 12) (oi := { dst := some 192, op := Op.move (Operand.tmp 33), type := 3, pos := "more.go:124", after := #[{ on := 10, ground := Ground.guard }], guard := some (10, true) }) (v := _) rfl (by kernel_rfl) (by kernel_rfl) (by kernel_rfl) (fun _ _ _ h => h) (Or.inl ⟨by rfl, ?hya_12⟩) (by assumption) ?resta_12
                case hya_12 => (intro w' hSw; (try dsimp only at hSw); go_simp <;> (try with_reducible rfl))
                try simp only [Act.put, List.setIfInBounds_toArray, List.set_cons_zero, List.set_cons_succ]
                refine' wpAnyH_take (i := 14) (oi := { dst := some 194, op := Op.load 28 (Operand.tmp 14), type := 28, pos := "more.go:124", after := #[{ on := 10, ground := Ground.guard }], guard := some (10, true) }) (v := _) rfl (by kernel_rfl) (by kernel_rfl) (by kernel_rfl) (fun _ _ _ h => h) (Or.inl ⟨by rfl, ?hya_14⟩) (by assumption) ?resta_14
                case hya_14 => (intro w' hSw; (try dsimp only at hSw); go_simp <;> (try with_reducible rfl))
                try simp only [Act.put, List.setIfInBounds_toArray, List.set_cons_zero, List.set_cons_succ]
                refine' wpAnyH_take (i := 15) (oi := { dst := some 195, op := Op.move (Operand.tmp 33), type := 3, pos := "more.go:124", after := #[{ on := 10, ground := Ground.guard }], guard := some (10, true) }) (v := _) rfl (by kernel_rfl) (by kernel_rfl) (by kernel_rfl) (fun _ _ _ h => h) (Or.inl ⟨by rfl, ?hya_15⟩) (by assumption) ?resta_15
                case hya_15 => (intro w' hSw; (try dsimp only at hSw); go_simp <;> (try with_reducible rfl))
                try simp only [Act.put, List.setIfInBounds_toArray, List.set_cons_zero, List.set_cons_succ]
                refine wpAnyH_ready (rs := [13]) (by kernel_rfl) (by simp) ?_
                refine AllReadyH.cons (o := { dst := some 193, op := Op.call { callee := Callee.value (.func 53), args := #[Operand.tmp 191, Operand.tmp 192], argTypes := #[28, 3] }, type := 4, pos := "more.go:124", after := #[{ on := 11, ground := Ground.data }, { on := 12, ground := Ground.data }, { on := 10, ground := Ground.chain }, { on := 10, ground := Ground.guard }], guard := some (10, true) }) rfl (fun K hK => ?_) AllReadyH.nil
                go_simp
                (with_reducible refine (HTD.out _ _ (KD25.out.keep hc0).iv).out.mono ?_)
                rintro e v1 ⟨rfl, hb1⟩
                have hc1 := hc0.trans (hb1.mono hc0.size)
                refine hK.out _ _ (HSS.out _ hc1) (fun hHeld => ?_)
                clear hK K
                try simp only [Act.put, List.setIfInBounds_toArray, List.set_cons_zero, List.set_cons_succ]
                refine wpAnyH_ready (rs := [16]) (by kernel_rfl) (by simp) ?_
                refine AllReadyH.cons (o := { dst := some 196, op := Op.call { callee := Callee.value (.func 53), args := #[Operand.tmp 194, Operand.tmp 195], argTypes := #[28, 3] }, type := 4, pos := "more.go:124", after := #[{ on := 14, ground := Ground.data }, { on := 15, ground := Ground.data }, { on := 13, ground := Ground.chain }, { on := 10, ground := Ground.guard }], guard := some (10, true) }) rfl (fun K hK => ?_) AllReadyH.nil
                go_simp
                (with_reducible refine (HTX.out _ _ (KA25.out.keep hc1).iv).out.mono ?_)
                rintro e v2 ⟨rfl, hb2⟩
                have hc2 := hc1.trans (hb2.mono hc1.size)
                refine hK.out _ _ (HSS.out _ hc2) (fun hHeld => ?_)
                clear hK K
                try simp only [Act.put, List.setIfInBounds_toArray, List.set_cons_zero, List.set_cons_succ]
                refine' wpAnyH_take (i := 17) (oi := { dst := some 197, op := Op.binOp BinOp.neq 4 (Operand.tmp 193) (Operand.tmp 196) 4, type := 4, pos := "more.go:124", after := #[{ on := 13, ground := Ground.data }, { on := 16, ground := Ground.data }, { on := 10, ground := Ground.guard }], guard := some (10, true) }) (v := _) rfl (by kernel_rfl) (by kernel_rfl) (by kernel_rfl) (fun _ _ _ h => h) (Or.inl ⟨by rfl, ?hya_17⟩) (by assumption) ?resta_17
                case hya_17 => (intro w' hSw; (try dsimp only at hSw); go_simp <;> (try with_reducible rfl))
                try simp only [Act.put, List.setIfInBounds_toArray, List.set_cons_zero, List.set_cons_succ]
                refine' wpAnyH_take (i := 18) (oi := { dst := some 198, op := Op.pick (Operand.tmp 190) (Operand.tmp 197) (Operand.const (Value.bool false)), type := 4, pos := "more.go:124", after := #[{ on := 10, ground := Ground.data }, { on := 17, ground := Ground.data }], guard := none }) (v := _) rfl (by kernel_rfl) (by kernel_rfl) (by kernel_rfl) (fun _ _ _ h => h) (Or.inl ⟨by rfl, ?hya_18⟩) (by assumption) ?resta_18
                case hya_18 => (intro w' hSw; (try dsimp only at hSw); go_simp <;> (try with_reducible rfl))
                try simp only [Act.put, List.setIfInBounds_toArray, List.set_cons_zero, List.set_cons_succ]
                refine' wpAnyH_take (i := 19) (oi := { dst := some 199, op := Op.move (Operand.tmp 198), type := 4, pos := "more.go:124", after := #[{ on := 18, ground := Ground.data }, { on := 16, ground := Ground.chain }], guard := none }) (v := _) rfl (by kernel_rfl) (by kernel_rfl) (by kernel_rfl) (fun _ _ _ h => h) (Or.inl ⟨by rfl, ?hya_19⟩) (by assumption) ?resta_19
                case hya_19 => (intro w' hSw; (try dsimp only at hSw); go_simp <;> (try with_reducible rfl))
                try simp only [Act.put, List.setIfInBounds_toArray, List.set_cons_zero, List.set_cons_succ]
                refine' wpAnyH_take (i := 20) (oi := { dst := some 200, op := Op.load 28 (Operand.tmp 31), type := 28, pos := "more.go:124", after := #[{ on := 19, ground := Ground.guard }], guard := some (19, false) }) (v := _) rfl (by kernel_rfl) (by kernel_rfl) (by kernel_rfl) (fun _ _ _ h => h) (Or.inl ⟨by rfl, ?hya_20⟩) (by assumption) ?resta_20
                case hya_20 => (intro w' hSw; (try dsimp only at hSw); go_simp <;> (try with_reducible rfl))
                try simp only [Act.put, List.setIfInBounds_toArray, List.set_cons_zero, List.set_cons_succ]
                refine' wpAnyH_take (i := 21) (oi := { dst := some 201, op := Op.move (Operand.tmp 33), type := 3, pos := "more.go:124", after := #[{ on := 19, ground := Ground.guard }], guard := some (19, false) }) (v := _) rfl (by kernel_rfl) (by kernel_rfl) (by kernel_rfl) (fun _ _ _ h => h) (Or.inl ⟨by rfl, ?hya_21⟩) (by assumption) ?resta_21
                case hya_21 => (intro w' hSw; (try dsimp only at hSw); go_simp <;> (try with_reducible rfl))
                try simp only [Act.put, List.setIfInBounds_toArray, List.set_cons_zero, List.set_cons_succ]
                refine' wpAnyH_take (i := 23) (oi := { dst := some 203, op := Op.move (Operand.tmp 2), type := 5, pos := "more.go:124", after := #[{ on := 19, ground := Ground.guard }], guard := some (19, false) }) (v := _) rfl (by kernel_rfl) (by kernel_rfl) (by kernel_rfl) (fun _ _ _ h => h) (Or.inl ⟨by rfl, ?hya_23⟩) (by assumption) ?resta_23
                case hya_23 => (intro w' hSw; (try dsimp only at hSw); go_simp <;> (try with_reducible rfl))
                try simp only [Act.put, List.setIfInBounds_toArray, List.set_cons_zero, List.set_cons_succ]
                refine' wpAnyH_take (i := 24) (oi := { dst := some 204, op := Op.binOp BinOp.rem 5 (Operand.tmp 203) (Operand.const (Value.int IntKind.u8 16)) 5, type := 5, pos := "more.go:124", after := #[{ on := 23, ground := Ground.data }, { on := 19, ground := Ground.guard }], guard := some (19, false) }) (v := _) rfl (by kernel_rfl) (by kernel_rfl) (by kernel_rfl) (fun _ _ _ h => h) (Or.inl ⟨by rfl, ?hya_24⟩) (by assumption) ?resta_24
                case hya_24 => (intro w' hSw; (try dsimp only at hSw); go_simp <;> (try with_reducible rfl))
                try simp only [Act.put, List.setIfInBounds_toArray, List.set_cons_zero, List.set_cons_succ]
                refine' wpAnyH_take (i := 25) (oi := { dst := some 205, op := Op.convert 5 3 (Operand.tmp 204), type := 3, pos := "more.go:124", after := #[{ on := 24, ground := Ground.data }, { on := 19, ground := Ground.guard }], guard := some (19, false) }) (v := _) rfl (by kernel_rfl) (by kernel_rfl) (by kernel_rfl) (fun _ _ _ h => h) (Or.inl ⟨by rfl, ?hya_25⟩) (by assumption) ?resta_25
                case hya_25 => (intro w' hSw; (try dsimp only at hSw); go_simp <;> (try with_reducible rfl))
                try simp only [Act.put, List.setIfInBounds_toArray, List.set_cons_zero, List.set_cons_succ]
                refine' wpAnyH_take (i := 26) (oi := { dst := some 206, op := Op.move (Operand.tmp 34), type := 3, pos := "more.go:124", after := #[{ on := 19, ground := Ground.guard }], guard := some (19, false) }) (v := _) rfl (by kernel_rfl) (by kernel_rfl) (by kernel_rfl) (fun _ _ _ h => h) (Or.inl ⟨by rfl, ?hya_26⟩) (by assumption) ?resta_26
                case hya_26 => (intro w' hSw; (try dsimp only at hSw); go_simp <;> (try with_reducible rfl))
                try simp only [Act.put, List.setIfInBounds_toArray, List.set_cons_zero, List.set_cons_succ]
                refine' wpAnyH_take (i := 27) (oi := { dst := some 207, op := Op.binOp BinOp.shr 3 (Operand.tmp 205) (Operand.tmp 206) 3, type := 3, pos := "more.go:124", after := #[{ on := 25, ground := Ground.data }, { on := 26, ground := Ground.data }, { on := 19, ground := Ground.guard }], guard := some (19, false) }) (v := _) rfl (by kernel_rfl) (by kernel_rfl) (by kernel_rfl) (fun _ _ _ h => h) (Or.inl ⟨by rfl, ?hya_27⟩) (by assumption) ?resta_27
                case hya_27 => (intro w' hSw; (try dsimp only at hSw); go_simp <;> (try with_reducible rfl))
                try simp only [Act.put, List.setIfInBounds_toArray, List.set_cons_zero, List.set_cons_succ]
                refine' wpAnyH_take (i := 28) (oi := { dst := some 208, op := Op.binOp BinOp.and 3 (Operand.tmp 207) (Operand.const (Value.int IntKind.i64 1)) 3, type := 3, pos := "more.go:124", after := #[{ on := 27, ground := Ground.data }, { on := 19, ground := Ground.guard }], guard := some (19, false) }) (v := _) rfl (by kernel_rfl) (by kernel_rfl) (by kernel_rfl) (fun _ _ _ h => h) (Or.inl ⟨by rfl, ?hya_28⟩) (by assumption) ?resta_28
                case hya_28 => (intro w' hSw; (try dsimp only at hSw); go_simp <;> (try with_reducible rfl))
                try simp only [Act.put, List.setIfInBounds_toArray, List.set_cons_zero, List.set_cons_succ]
                refine' wpAnyH_take (i := 29) (oi := { dst := some 209, op := Op.binOp BinOp.eql 3 (Operand.tmp 208) (Operand.const (Value.int IntKind.i64 1)) 3, type := 4, pos := "more.go:124", after := #[{ on := 28, ground := Ground.data }, { on := 19, ground := Ground.guard }], guard := some (19, false) }) (v := _) rfl (by kernel_rfl) (by kernel_rfl) (by kernel_rfl) (fun _ _ _ h => h) (Or.inl ⟨by rfl, ?hya_29⟩) (by assumption) ?resta_29
                case hya_29 => (intro w' hSw; (try dsimp only at hSw); go_simp <;> (try with_reducible rfl))
                try simp only [Act.put, List.setIfInBounds_toArray, List.set_cons_zero, List.set_cons_succ]
                refine wpAnyH_ready (rs := [22]) (by kernel_rfl) (by simp) ?_
                refine AllReadyH.cons (o := { dst := some 202, op := Op.call { callee := Callee.value (.func 53), args := #[Operand.tmp 200, Operand.tmp 201], argTypes := #[28, 3] }, type := 4, pos := "more.go:124", after := #[{ on := 20, ground := Ground.data }, { on := 21, ground := Ground.data }, { on := 19, ground := Ground.chain }, { on := 19, ground := Ground.guard }], guard := some (19, false) }) rfl (fun K hK => ?_) AllReadyH.nil
                go_simp
                (with_reducible refine (HTZ.out _ _ (KZ25.out.keep hc2).iv).out.mono ?_)
                rintro e v3 ⟨rfl, hb3⟩
                have hc3 := hc2.trans (hb3.mono hc2.size)
                refine hK.out _ _ (HSS.out _ hc3) (fun hHeld => ?_)
                clear hK K
                try simp only [Act.put, List.setIfInBounds_toArray, List.set_cons_zero, List.set_cons_succ]
                refine' wpAnyH_take (i := 30) (oi := { dst := some 210, op := Op.binOp BinOp.neq 4 (Operand.tmp 202) (Operand.tmp 209) 4, type := 4, pos := "more.go:124", after := #[{ on := 22, ground := Ground.data }, { on := 29, ground := Ground.data }, { on := 19, ground := Ground.guard }], guard := some (19, false) }) (v := _) rfl (by kernel_rfl) (by kernel_rfl) (by kernel_rfl) (fun _ _ _ h => h) (Or.inl ⟨by rfl, ?hya_30⟩) (by assumption) ?resta_30
                case hya_30 => (intro w' hSw; (try dsimp only at hSw); go_simp <;> (try with_reducible rfl))
                try simp only [Act.put, List.setIfInBounds_toArray, List.set_cons_zero, List.set_cons_succ]
                refine' wpAnyH_take (i := 31) (oi := { dst := some 211, op := Op.pick (Operand.tmp 199) (Operand.const (Value.bool true)) (Operand.tmp 210), type := 4, pos := "more.go:124", after := #[{ on := 19, ground := Ground.data }, { on := 30, ground := Ground.data }], guard := none }) (v := _) rfl (by kernel_rfl) (by kernel_rfl) (by kernel_rfl) (fun _ _ _ h => h) (Or.inl ⟨by rfl, ?hya_31⟩) (by assumption) ?resta_31
                case hya_31 => (intro w' hSw; (try dsimp only at hSw); go_simp <;> (try with_reducible rfl))
                try simp only [Act.put, List.setIfInBounds_toArray, List.set_cons_zero, List.set_cons_succ]
                refine wpAnyH_done (by kernel_rfl) ?_ _
                go_wp2_with fail
                go_meet
                exact ⟨congrArg Value.bool HFIN.out, hc3⟩
              · have hd1 : decide ((m : Int) < (p : Int)) = false := decide_eq_false (by omega)
                by_cases h2 : p + s ≤ m
                · have e1 : td = tx := by rw [HDB2.out, if_neg (by omega)]
                  subst e1
                  have hd2 : decide ((p : Int) + (s : Int) ≤ (m : Int)) = true := decide_eq_true (by omega)
                  have hd2w : decide (IntKind.i64.wrap ((p : Int) + (s : Int)) ≤ (m : Int)) = true := by rw [hps]; exact hd2
                  have hd2v : decide ((m : Int) ≥ IntKind.i64.wrap ((p : Int) + (s : Int))) = true := hd2w
                  have en : (td != td) = false := by simp
                  have en2 : (td == td) = true := by simp
                  refine wp_region_held_drew (S := fun w' => w'.cell? ⟨pA, 0, none⟩ = some (.bool bA) ∧ w'.cell? ⟨pA, 1, none⟩ = some (.slice dA nA eA) ∧ w'.cell? ⟨w10.heap.size, 0, none⟩ = some (.bool bD) ∧ w'.cell? ⟨w10.heap.size, 1, none⟩ = some (.slice dD nD eD) ∧ w'.cell? ⟨w20.heap.size, 0, none⟩ = some (.bool bZ) ∧ w'.cell? ⟨w20.heap.size, 1, none⟩ = some (.slice dZ nZ eZ)) (by kernel_rfl) (HSS.out _ hc0) (fun hHeld => ?_)
                  refine' wpAnyH_take (i := 0) (oi := { dst := some 180, op := Op.move (Operand.tmp 33), type := 3, pos := "more.go:124", after := #[], guard := none }) (v := _) rfl (by kernel_rfl) (by kernel_rfl) (by kernel_rfl) (fun _ _ _ h => h) (Or.inl ⟨by rfl, ?hyb_0⟩) (by assumption) ?restb_0
                  case hyb_0 => (intro w' hSw; (try dsimp only at hSw); go_simp <;> (try with_reducible rfl))
                  try simp only [Act.put, List.setIfInBounds_toArray, List.set_cons_zero, List.set_cons_succ]
                  refine' wpAnyH_take (i := 1) (oi := { dst := some 181, op := Op.move (Operand.tmp 17), type := 3, pos := "more.go:124", after := #[], guard := none }) (v := _) rfl (by kernel_rfl) (by kernel_rfl) (by kernel_rfl) (fun _ _ _ h => h) (Or.inl ⟨by rfl, ?hyb_1⟩) (by assumption) ?restb_1
                  case hyb_1 => (intro w' hSw; (try dsimp only at hSw); go_simp <;> (try with_reducible rfl))
                  try simp only [Act.put, List.setIfInBounds_toArray, List.set_cons_zero, List.set_cons_succ]
                  refine' wpAnyH_take (i := 2) (oi := { dst := some 182, op := Op.binOp BinOp.lss 3 (Operand.tmp 180) (Operand.tmp 181) 3, type := 4, pos := "more.go:124", after := #[{ on := 0, ground := Ground.data }, { on := 1, ground := Ground.data }], guard := none }) (v := _) rfl (by kernel_rfl) (by kernel_rfl) (by kernel_rfl) (fun _ _ _ h => h) (Or.inl ⟨by rfl, ?hyb_2⟩) (by assumption) ?restb_2
                  case hyb_2 => (intro w' hSw; (try dsimp only at hSw); go_simp <;> (try with_reducible rfl))
                  try simp only [Act.put, List.setIfInBounds_toArray, List.set_cons_zero, List.set_cons_succ]
                  refine' wpAnyH_take (i := 3) (oi := { dst := some 183, op := Op.move (Operand.tmp 182), type := 4, pos := "more.go:124", after := #[{ on := 2, ground := Ground.data }], guard := none }) (v := _) rfl (by kernel_rfl) (by kernel_rfl) (by kernel_rfl) (fun _ _ _ h => h) (Or.inl ⟨by rfl, ?hyb_3⟩) (by assumption) ?restb_3
                  case hyb_3 => (intro w' hSw; (try dsimp only at hSw); go_simp <;> (try with_reducible rfl))
                  try simp only [Act.put, List.setIfInBounds_toArray, List.set_cons_zero, List.set_cons_succ]
                  refine' wpAnyH_take (i := 4) (oi := { dst := some 184, op := Op.move (Operand.tmp 33), type := 3, pos := "more.go:124", after := #[{ on := 3, ground := Ground.guard }], guard := some (3, false) }) (v := _) rfl (by kernel_rfl) (by kernel_rfl) (by kernel_rfl) (fun _ _ _ h => h) (Or.inl ⟨by rfl, ?hyb_4⟩) (by assumption) ?restb_4
                  case hyb_4 => (intro w' hSw; (try dsimp only at hSw); go_simp <;> (try with_reducible rfl))
                  try simp only [Act.put, List.setIfInBounds_toArray, List.set_cons_zero, List.set_cons_succ]
                  refine' wpAnyH_take (i := 5) (oi := { dst := some 185, op := Op.move (Operand.tmp 17), type := 3, pos := "more.go:124", after := #[{ on := 3, ground := Ground.guard }], guard := some (3, false) }) (v := _) rfl (by kernel_rfl) (by kernel_rfl) (by kernel_rfl) (fun _ _ _ h => h) (Or.inl ⟨by rfl, ?hyb_5⟩) (by assumption) ?restb_5
                  case hyb_5 => (intro w' hSw; (try dsimp only at hSw); go_simp <;> (try with_reducible rfl))
                  try simp only [Act.put, List.setIfInBounds_toArray, List.set_cons_zero, List.set_cons_succ]
                  refine' wpAnyH_take (i := 6) (oi := { dst := some 186, op := Op.move (Operand.tmp 16), type := 3, pos := "more.go:124", after := #[{ on := 3, ground := Ground.guard }], guard := some (3, false) }) (v := _) rfl (by kernel_rfl) (by kernel_rfl) (by kernel_rfl) (fun _ _ _ h => h) (Or.inl ⟨by rfl, ?hyb_6⟩) (by assumption) ?restb_6
                  case hyb_6 => (intro w' hSw; (try dsimp only at hSw); go_simp <;> (try with_reducible rfl))
                  try simp only [Act.put, List.setIfInBounds_toArray, List.set_cons_zero, List.set_cons_succ]
                  refine' wpAnyH_take (i := 7) (oi := { dst := some 187, op := Op.binOp BinOp.add 3 (Operand.tmp 185) (Operand.tmp 186) 3, type := 3, pos := "more.go:124", after := #[{ on := 5, ground := Ground.data }, { on := 6, ground := Ground.data }, { on := 3, ground := Ground.guard }], guard := some (3, false) }) (v := _) rfl (by kernel_rfl) (by kernel_rfl) (by kernel_rfl) (fun _ _ _ h => h) (Or.inl ⟨by rfl, ?hyb_7⟩) (by assumption) ?restb_7
                  case hyb_7 => (intro w' hSw; (try dsimp only at hSw); go_simp <;> (try with_reducible rfl))
                  try simp only [Act.put, List.setIfInBounds_toArray, List.set_cons_zero, List.set_cons_succ]
                  refine' wpAnyH_take (i := 8) (oi := { dst := some 188, op := Op.binOp BinOp.geq 3 (Operand.tmp 184) (Operand.tmp 187) 3, type := 4, pos := "more.go:124", after := #[{ on := 4, ground := Ground.data }, { on := 7, ground := Ground.data }, { on := 3, ground := Ground.guard }], guard := some (3, false) }) (v := _) rfl (by kernel_rfl) (by kernel_rfl) (by kernel_rfl) (fun _ _ _ h => h) (Or.inl ⟨by rfl, ?hyb_8⟩) (by assumption) ?restb_8
                  case hyb_8 => (intro w' hSw; (try dsimp only at hSw); go_simp <;> (try with_reducible rfl))
                  try simp only [Act.put, List.setIfInBounds_toArray, List.set_cons_zero, List.set_cons_succ]
                  refine' wpAnyH_take (i := 9) (oi := { dst := some 189, op := Op.pick (Operand.tmp 183) (Operand.const (Value.bool true)) (Operand.tmp 188), type := 4, pos := "more.go:124", after := #[{ on := 3, ground := Ground.data }, { on := 8, ground := Ground.data }], guard := none }) (v := _) rfl (by kernel_rfl) (by kernel_rfl) (by kernel_rfl) (fun _ _ _ h => h) (Or.inl ⟨by rfl, ?hyb_9⟩) (by assumption) ?restb_9
                  case hyb_9 => (intro w' hSw; (try dsimp only at hSw); go_simp <;> (try with_reducible rfl))
                  try simp only [Act.put, List.setIfInBounds_toArray, List.set_cons_zero, List.set_cons_succ]
                  refine' wpAnyH_take (i := 10) (oi := { dst := some 190, op := Op.move (Operand.tmp 189), type := 4, pos := "more.go:124", after := #[{ on := 9, ground := Ground.data }, { on := 3, ground := Ground.chain }], guard := none }) (v := _) rfl (by kernel_rfl) (by kernel_rfl) (by kernel_rfl) (fun _ _ _ h => h) (Or.inl ⟨by rfl, ?hyb_10⟩) (by assumption) ?restb_10
                  case hyb_10 => (intro w' hSw; (try dsimp only at hSw); go_simp <;> (try with_reducible rfl))
                  try simp only [Act.put, List.setIfInBounds_toArray, List.set_cons_zero, List.set_cons_succ]
                  refine' wpAnyH_take (i := 11) (oi := { dst := some 191, op := Op.load 28 (Operand.tmp 23), type := 28, pos := "more.go:124", after := #[{ on := 10, ground := Ground.guard }], guard := some (10, true) }) (v := _) rfl (by kernel_rfl) (by kernel_rfl) (by kernel_rfl) (fun _ _ _ h => h) (Or.inl ⟨by rfl, ?hyb_11⟩) (by assumption) ?restb_11
                  case hyb_11 => (intro w' hSw; (try dsimp only at hSw); go_simp <;> (try with_reducible rfl))
                  try simp only [Act.put, List.setIfInBounds_toArray, List.set_cons_zero, List.set_cons_succ]
                  refine' wpAnyH_take (i := 12) (oi := { dst := some 192, op := Op.move (Operand.tmp 33), type := 3, pos := "more.go:124", after := #[{ on := 10, ground := Ground.guard }], guard := some (10, true) }) (v := _) rfl (by kernel_rfl) (by kernel_rfl) (by kernel_rfl) (fun _ _ _ h => h) (Or.inl ⟨by rfl, ?hyb_12⟩) (by assumption) ?restb_12
                  case hyb_12 => (intro w' hSw; (try dsimp only at hSw); go_simp <;> (try with_reducible rfl))
                  try simp only [Act.put, List.setIfInBounds_toArray, List.set_cons_zero, List.set_cons_succ]
                  refine' wpAnyH_take (i := 14) (oi := { dst := some 194, op := Op.load 28 (Operand.tmp 14), type := 28, pos := "more.go:124", after := #[{ on := 10, ground := Ground.guard }], guard := some (10, true) }) (v := _) rfl (by kernel_rfl) (by kernel_rfl) (by kernel_rfl) (fun _ _ _ h => h) (Or.inl ⟨by rfl, ?hyb_14⟩) (by assumption) ?restb_14
                  case hyb_14 => (intro w' hSw; (try dsimp only at hSw); go_simp <;> (try with_reducible rfl))
                  try simp only [Act.put, List.setIfInBounds_toArray, List.set_cons_zero, List.set_cons_succ]
                  refine' wpAnyH_take (i := 15) (oi := { dst := some 195, op := Op.move (Operand.tmp 33), type := 3, pos := "more.go:124", after := #[{ on := 10, ground := Ground.guard }], guard := some (10, true) }) (v := _) rfl (by kernel_rfl) (by kernel_rfl) (by kernel_rfl) (fun _ _ _ h => h) (Or.inl ⟨by rfl, ?hyb_15⟩) (by assumption) ?restb_15
                  case hyb_15 => (intro w' hSw; (try dsimp only at hSw); go_simp <;> (try with_reducible rfl))
                  try simp only [Act.put, List.setIfInBounds_toArray, List.set_cons_zero, List.set_cons_succ]
                  refine wpAnyH_ready (rs := [13]) (by kernel_rfl) (by simp) ?_
                  refine AllReadyH.cons (o := { dst := some 193, op := Op.call { callee := Callee.value (.func 53), args := #[Operand.tmp 191, Operand.tmp 192], argTypes := #[28, 3] }, type := 4, pos := "more.go:124", after := #[{ on := 11, ground := Ground.data }, { on := 12, ground := Ground.data }, { on := 10, ground := Ground.chain }, { on := 10, ground := Ground.guard }], guard := some (10, true) }) rfl (fun K hK => ?_) AllReadyH.nil
                  go_simp
                  (with_reducible refine (HTD.out _ _ (KD25.out.keep hc0).iv).out.mono ?_)
                  rintro e v1 ⟨rfl, hb1⟩
                  have hc1 := hc0.trans (hb1.mono hc0.size)
                  refine hK.out _ _ (HSS.out _ hc1) (fun hHeld => ?_)
                  clear hK K
                  try simp only [Act.put, List.setIfInBounds_toArray, List.set_cons_zero, List.set_cons_succ]
                  refine wpAnyH_ready (rs := [16]) (by kernel_rfl) (by simp) ?_
                  refine AllReadyH.cons (o := { dst := some 196, op := Op.call { callee := Callee.value (.func 53), args := #[Operand.tmp 194, Operand.tmp 195], argTypes := #[28, 3] }, type := 4, pos := "more.go:124", after := #[{ on := 14, ground := Ground.data }, { on := 15, ground := Ground.data }, { on := 13, ground := Ground.chain }, { on := 10, ground := Ground.guard }], guard := some (10, true) }) rfl (fun K hK => ?_) AllReadyH.nil
                  go_simp
                  (with_reducible refine (HTX.out _ _ (KA25.out.keep hc1).iv).out.mono ?_)
                  rintro e v2 ⟨rfl, hb2⟩
                  have hc2 := hc1.trans (hb2.mono hc1.size)
                  refine hK.out _ _ (HSS.out _ hc2) (fun hHeld => ?_)
                  clear hK K
                  try simp only [Act.put, List.setIfInBounds_toArray, List.set_cons_zero, List.set_cons_succ]
                  refine' wpAnyH_take (i := 17) (oi := { dst := some 197, op := Op.binOp BinOp.neq 4 (Operand.tmp 193) (Operand.tmp 196) 4, type := 4, pos := "more.go:124", after := #[{ on := 13, ground := Ground.data }, { on := 16, ground := Ground.data }, { on := 10, ground := Ground.guard }], guard := some (10, true) }) (v := _) rfl (by kernel_rfl) (by kernel_rfl) (by kernel_rfl) (fun _ _ _ h => h) (Or.inl ⟨by rfl, ?hyb_17⟩) (by assumption) ?restb_17
                  case hyb_17 => (intro w' hSw; (try dsimp only at hSw); go_simp <;> (try with_reducible rfl))
                  try simp only [Act.put, List.setIfInBounds_toArray, List.set_cons_zero, List.set_cons_succ]
                  refine' wpAnyH_take (i := 18) (oi := { dst := some 198, op := Op.pick (Operand.tmp 190) (Operand.tmp 197) (Operand.const (Value.bool false)), type := 4, pos := "more.go:124", after := #[{ on := 10, ground := Ground.data }, { on := 17, ground := Ground.data }], guard := none }) (v := _) rfl (by kernel_rfl) (by kernel_rfl) (by kernel_rfl) (fun _ _ _ h => h) (Or.inl ⟨by rfl, ?hyb_18⟩) (by assumption) ?restb_18
                  case hyb_18 => (intro w' hSw; (try dsimp only at hSw); go_simp <;> (try with_reducible rfl))
                  try simp only [Act.put, List.setIfInBounds_toArray, List.set_cons_zero, List.set_cons_succ]
                  refine' wpAnyH_take (i := 19) (oi := { dst := some 199, op := Op.move (Operand.tmp 198), type := 4, pos := "more.go:124", after := #[{ on := 18, ground := Ground.data }, { on := 16, ground := Ground.chain }], guard := none }) (v := _) rfl (by kernel_rfl) (by kernel_rfl) (by kernel_rfl) (fun _ _ _ h => h) (Or.inl ⟨by rfl, ?hyb_19⟩) (by assumption) ?restb_19
                  case hyb_19 => (intro w' hSw; (try dsimp only at hSw); go_simp <;> (try with_reducible rfl))
                  try simp only [Act.put, List.setIfInBounds_toArray, List.set_cons_zero, List.set_cons_succ]
                  refine' wpAnyH_take (i := 20) (oi := { dst := some 200, op := Op.load 28 (Operand.tmp 31), type := 28, pos := "more.go:124", after := #[{ on := 19, ground := Ground.guard }], guard := some (19, false) }) (v := _) rfl (by kernel_rfl) (by kernel_rfl) (by kernel_rfl) (fun _ _ _ h => h) (Or.inl ⟨by rfl, ?hyb_20⟩) (by assumption) ?restb_20
                  case hyb_20 => (intro w' hSw; (try dsimp only at hSw); go_simp <;> (try with_reducible rfl))
                  try simp only [Act.put, List.setIfInBounds_toArray, List.set_cons_zero, List.set_cons_succ]
                  refine' wpAnyH_take (i := 21) (oi := { dst := some 201, op := Op.move (Operand.tmp 33), type := 3, pos := "more.go:124", after := #[{ on := 19, ground := Ground.guard }], guard := some (19, false) }) (v := _) rfl (by kernel_rfl) (by kernel_rfl) (by kernel_rfl) (fun _ _ _ h => h) (Or.inl ⟨by rfl, ?hyb_21⟩) (by assumption) ?restb_21
                  case hyb_21 => (intro w' hSw; (try dsimp only at hSw); go_simp <;> (try with_reducible rfl))
                  try simp only [Act.put, List.setIfInBounds_toArray, List.set_cons_zero, List.set_cons_succ]
                  refine' wpAnyH_take (i := 23) (oi := { dst := some 203, op := Op.move (Operand.tmp 2), type := 5, pos := "more.go:124", after := #[{ on := 19, ground := Ground.guard }], guard := some (19, false) }) (v := _) rfl (by kernel_rfl) (by kernel_rfl) (by kernel_rfl) (fun _ _ _ h => h) (Or.inl ⟨by rfl, ?hyb_23⟩) (by assumption) ?restb_23
                  case hyb_23 => (intro w' hSw; (try dsimp only at hSw); go_simp <;> (try with_reducible rfl))
                  try simp only [Act.put, List.setIfInBounds_toArray, List.set_cons_zero, List.set_cons_succ]
                  refine' wpAnyH_take (i := 24) (oi := { dst := some 204, op := Op.binOp BinOp.rem 5 (Operand.tmp 203) (Operand.const (Value.int IntKind.u8 16)) 5, type := 5, pos := "more.go:124", after := #[{ on := 23, ground := Ground.data }, { on := 19, ground := Ground.guard }], guard := some (19, false) }) (v := _) rfl (by kernel_rfl) (by kernel_rfl) (by kernel_rfl) (fun _ _ _ h => h) (Or.inl ⟨by rfl, ?hyb_24⟩) (by assumption) ?restb_24
                  case hyb_24 => (intro w' hSw; (try dsimp only at hSw); go_simp <;> (try with_reducible rfl))
                  try simp only [Act.put, List.setIfInBounds_toArray, List.set_cons_zero, List.set_cons_succ]
                  refine' wpAnyH_take (i := 25) (oi := { dst := some 205, op := Op.convert 5 3 (Operand.tmp 204), type := 3, pos := "more.go:124", after := #[{ on := 24, ground := Ground.data }, { on := 19, ground := Ground.guard }], guard := some (19, false) }) (v := _) rfl (by kernel_rfl) (by kernel_rfl) (by kernel_rfl) (fun _ _ _ h => h) (Or.inl ⟨by rfl, ?hyb_25⟩) (by assumption) ?restb_25
                  case hyb_25 => (intro w' hSw; (try dsimp only at hSw); go_simp <;> (try with_reducible rfl))
                  try simp only [Act.put, List.setIfInBounds_toArray, List.set_cons_zero, List.set_cons_succ]
                  refine' wpAnyH_take (i := 26) (oi := { dst := some 206, op := Op.move (Operand.tmp 34), type := 3, pos := "more.go:124", after := #[{ on := 19, ground := Ground.guard }], guard := some (19, false) }) (v := _) rfl (by kernel_rfl) (by kernel_rfl) (by kernel_rfl) (fun _ _ _ h => h) (Or.inl ⟨by rfl, ?hyb_26⟩) (by assumption) ?restb_26
                  case hyb_26 => (intro w' hSw; (try dsimp only at hSw); go_simp <;> (try with_reducible rfl))
                  try simp only [Act.put, List.setIfInBounds_toArray, List.set_cons_zero, List.set_cons_succ]
                  refine' wpAnyH_take (i := 27) (oi := { dst := some 207, op := Op.binOp BinOp.shr 3 (Operand.tmp 205) (Operand.tmp 206) 3, type := 3, pos := "more.go:124", after := #[{ on := 25, ground := Ground.data }, { on := 26, ground := Ground.data }, { on := 19, ground := Ground.guard }], guard := some (19, false) }) (v := _) rfl (by kernel_rfl) (by kernel_rfl) (by kernel_rfl) (fun _ _ _ h => h) (Or.inl ⟨by rfl, ?hyb_27⟩) (by assumption) ?restb_27
                  case hyb_27 => (intro w' hSw; (try dsimp only at hSw); go_simp <;> (try with_reducible rfl))
                  try simp only [Act.put, List.setIfInBounds_toArray, List.set_cons_zero, List.set_cons_succ]
                  refine' wpAnyH_take (i := 28) (oi := { dst := some 208, op := Op.binOp BinOp.and 3 (Operand.tmp 207) (Operand.const (Value.int IntKind.i64 1)) 3, type := 3, pos := "more.go:124", after := #[{ on := 27, ground := Ground.data }, { on := 19, ground := Ground.guard }], guard := some (19, false) }) (v := _) rfl (by kernel_rfl) (by kernel_rfl) (by kernel_rfl) (fun _ _ _ h => h) (Or.inl ⟨by rfl, ?hyb_28⟩) (by assumption) ?restb_28
                  case hyb_28 => (intro w' hSw; (try dsimp only at hSw); go_simp <;> (try with_reducible rfl))
                  try simp only [Act.put, List.setIfInBounds_toArray, List.set_cons_zero, List.set_cons_succ]
                  refine' wpAnyH_take (i := 29) (oi := { dst := some 209, op := Op.binOp BinOp.eql 3 (Operand.tmp 208) (Operand.const (Value.int IntKind.i64 1)) 3, type := 4, pos := "more.go:124", after := #[{ on := 28, ground := Ground.data }, { on := 19, ground := Ground.guard }], guard := some (19, false) }) (v := _) rfl (by kernel_rfl) (by kernel_rfl) (by kernel_rfl) (fun _ _ _ h => h) (Or.inl ⟨by rfl, ?hyb_29⟩) (by assumption) ?restb_29
                  case hyb_29 => (intro w' hSw; (try dsimp only at hSw); go_simp <;> (try with_reducible rfl))
                  try simp only [Act.put, List.setIfInBounds_toArray, List.set_cons_zero, List.set_cons_succ]
                  refine wpAnyH_ready (rs := [22]) (by kernel_rfl) (by simp) ?_
                  refine AllReadyH.cons (o := { dst := some 202, op := Op.call { callee := Callee.value (.func 53), args := #[Operand.tmp 200, Operand.tmp 201], argTypes := #[28, 3] }, type := 4, pos := "more.go:124", after := #[{ on := 20, ground := Ground.data }, { on := 21, ground := Ground.data }, { on := 19, ground := Ground.chain }, { on := 19, ground := Ground.guard }], guard := some (19, false) }) rfl (fun K hK => ?_) AllReadyH.nil
                  go_simp
                  (with_reducible refine (HTZ.out _ _ (KZ25.out.keep hc2).iv).out.mono ?_)
                  rintro e v3 ⟨rfl, hb3⟩
                  have hc3 := hc2.trans (hb3.mono hc2.size)
                  refine hK.out _ _ (HSS.out _ hc3) (fun hHeld => ?_)
                  clear hK K
                  try simp only [Act.put, List.setIfInBounds_toArray, List.set_cons_zero, List.set_cons_succ]
                  refine' wpAnyH_take (i := 30) (oi := { dst := some 210, op := Op.binOp BinOp.neq 4 (Operand.tmp 202) (Operand.tmp 209) 4, type := 4, pos := "more.go:124", after := #[{ on := 22, ground := Ground.data }, { on := 29, ground := Ground.data }, { on := 19, ground := Ground.guard }], guard := some (19, false) }) (v := _) rfl (by kernel_rfl) (by kernel_rfl) (by kernel_rfl) (fun _ _ _ h => h) (Or.inl ⟨by rfl, ?hyb_30⟩) (by assumption) ?restb_30
                  case hyb_30 => (intro w' hSw; (try dsimp only at hSw); go_simp <;> (try with_reducible rfl))
                  try simp only [Act.put, List.setIfInBounds_toArray, List.set_cons_zero, List.set_cons_succ]
                  refine' wpAnyH_take (i := 31) (oi := { dst := some 211, op := Op.pick (Operand.tmp 199) (Operand.const (Value.bool true)) (Operand.tmp 210), type := 4, pos := "more.go:124", after := #[{ on := 19, ground := Ground.data }, { on := 30, ground := Ground.data }], guard := none }) (v := _) rfl (by kernel_rfl) (by kernel_rfl) (by kernel_rfl) (fun _ _ _ h => h) (Or.inl ⟨by rfl, ?hyb_31⟩) (by assumption) ?restb_31
                  case hyb_31 => (intro w' hSw; (try dsimp only at hSw); go_simp <;> (try with_reducible rfl))
                  try simp only [Act.put, List.setIfInBounds_toArray, List.set_cons_zero, List.set_cons_succ]
                  refine wpAnyH_done (by kernel_rfl) ?_ _
                  go_wp2_with fail
                  go_meet
                  exact ⟨congrArg Value.bool HFIN.out, hc3⟩
                · have hd2 : decide ((p : Int) + (s : Int) ≤ (m : Int)) = false := decide_eq_false (by omega)
                  have hd2w : decide (IntKind.i64.wrap ((p : Int) + (s : Int)) ≤ (m : Int)) = false := by rw [hps]; exact hd2
                  have hd2v : decide ((m : Int) ≥ IntKind.i64.wrap ((p : Int) + (s : Int))) = false := hd2w
                  refine wp_region_held_drew (S := fun w' => w'.cell? ⟨pA, 0, none⟩ = some (.bool bA) ∧ w'.cell? ⟨pA, 1, none⟩ = some (.slice dA nA eA) ∧ w'.cell? ⟨w10.heap.size, 0, none⟩ = some (.bool bD) ∧ w'.cell? ⟨w10.heap.size, 1, none⟩ = some (.slice dD nD eD) ∧ w'.cell? ⟨w20.heap.size, 0, none⟩ = some (.bool bZ) ∧ w'.cell? ⟨w20.heap.size, 1, none⟩ = some (.slice dZ nZ eZ)) (by kernel_rfl) (HSS.out _ hc0) (fun hHeld => ?_)
                  refine' wpAnyH_take (i := 0) (oi := { dst := some 180, op := Op.move (Operand.tmp 33), type := 3, pos := "more.go:124", after := #[], guard := none }) (v := _) rfl (by kernel_rfl) (by kernel_rfl) (by kernel_rfl) (fun _ _ _ h => h) (Or.inl ⟨by rfl, ?hyc_0⟩) (by assumption) ?restc_0
                  case hyc_0 => (intro w' hSw; (try dsimp only at hSw); go_simp <;> (try with_reducible rfl))
                  try simp only [Act.put, List.setIfInBounds_toArray, List.set_cons_zero, List.set_cons_succ]
                  refine' wpAnyH_take (i := 1) (oi := { dst := some 181, op := Op.move (Operand.tmp 17), type := 3, pos := "more.go:124", after := #[], guard := none }) (v := _) rfl (by kernel_rfl) (by kernel_rfl) (by kernel_rfl) (fun _ _ _ h => h) (Or.inl ⟨by rfl, ?hyc_1⟩) (by assumption) ?restc_1
                  case hyc_1 => (intro w' hSw; (try dsimp only at hSw); go_simp <;> (try with_reducible rfl))
                  try simp only [Act.put, List.setIfInBounds_toArray, List.set_cons_zero, List.set_cons_succ]
                  refine' wpAnyH_take (i := 2) (oi := { dst := some 182, op := Op.binOp BinOp.lss 3 (Operand.tmp 180) (Operand.tmp 181) 3, type := 4, pos := "more.go:124", after := #[{ on := 0, ground := Ground.data }, { on := 1, ground := Ground.data }], guard := none }) (v := _) rfl (by kernel_rfl) (by kernel_rfl) (by kernel_rfl) (fun _ _ _ h => h) (Or.inl ⟨by rfl, ?hyc_2⟩) (by assumption) ?restc_2
                  case hyc_2 => (intro w' hSw; (try dsimp only at hSw); go_simp <;> (try with_reducible rfl))
                  try simp only [Act.put, List.setIfInBounds_toArray, List.set_cons_zero, List.set_cons_succ]
                  refine' wpAnyH_take (i := 3) (oi := { dst := some 183, op := Op.move (Operand.tmp 182), type := 4, pos := "more.go:124", after := #[{ on := 2, ground := Ground.data }], guard := none }) (v := _) rfl (by kernel_rfl) (by kernel_rfl) (by kernel_rfl) (fun _ _ _ h => h) (Or.inl ⟨by rfl, ?hyc_3⟩) (by assumption) ?restc_3
                  case hyc_3 => (intro w' hSw; (try dsimp only at hSw); go_simp <;> (try with_reducible rfl))
                  try simp only [Act.put, List.setIfInBounds_toArray, List.set_cons_zero, List.set_cons_succ]
                  refine' wpAnyH_take (i := 4) (oi := { dst := some 184, op := Op.move (Operand.tmp 33), type := 3, pos := "more.go:124", after := #[{ on := 3, ground := Ground.guard }], guard := some (3, false) }) (v := _) rfl (by kernel_rfl) (by kernel_rfl) (by kernel_rfl) (fun _ _ _ h => h) (Or.inl ⟨by rfl, ?hyc_4⟩) (by assumption) ?restc_4
                  case hyc_4 => (intro w' hSw; (try dsimp only at hSw); go_simp <;> (try with_reducible rfl))
                  try simp only [Act.put, List.setIfInBounds_toArray, List.set_cons_zero, List.set_cons_succ]
                  refine' wpAnyH_take (i := 5) (oi := { dst := some 185, op := Op.move (Operand.tmp 17), type := 3, pos := "more.go:124", after := #[{ on := 3, ground := Ground.guard }], guard := some (3, false) }) (v := _) rfl (by kernel_rfl) (by kernel_rfl) (by kernel_rfl) (fun _ _ _ h => h) (Or.inl ⟨by rfl, ?hyc_5⟩) (by assumption) ?restc_5
                  case hyc_5 => (intro w' hSw; (try dsimp only at hSw); go_simp <;> (try with_reducible rfl))
                  try simp only [Act.put, List.setIfInBounds_toArray, List.set_cons_zero, List.set_cons_succ]
                  refine' wpAnyH_take (i := 6) (oi := { dst := some 186, op := Op.move (Operand.tmp 16), type := 3, pos := "more.go:124", after := #[{ on := 3, ground := Ground.guard }], guard := some (3, false) }) (v := _) rfl (by kernel_rfl) (by kernel_rfl) (by kernel_rfl) (fun _ _ _ h => h) (Or.inl ⟨by rfl, ?hyc_6⟩) (by assumption) ?restc_6
                  case hyc_6 => (intro w' hSw; (try dsimp only at hSw); go_simp <;> (try with_reducible rfl))
                  try simp only [Act.put, List.setIfInBounds_toArray, List.set_cons_zero, List.set_cons_succ]
                  refine' wpAnyH_take (i := 7) (oi := { dst := some 187, op := Op.binOp BinOp.add 3 (Operand.tmp 185) (Operand.tmp 186) 3, type := 3, pos := "more.go:124", after := #[{ on := 5, ground := Ground.data }, { on := 6, ground := Ground.data }, { on := 3, ground := Ground.guard }], guard := some (3, false) }) (v := _) rfl (by kernel_rfl) (by kernel_rfl) (by kernel_rfl) (fun _ _ _ h => h) (Or.inl ⟨by rfl, ?hyc_7⟩) (by assumption) ?restc_7
                  case hyc_7 => (intro w' hSw; (try dsimp only at hSw); go_simp <;> (try with_reducible rfl))
                  try simp only [Act.put, List.setIfInBounds_toArray, List.set_cons_zero, List.set_cons_succ]
                  refine' wpAnyH_take (i := 8) (oi := { dst := some 188, op := Op.binOp BinOp.geq 3 (Operand.tmp 184) (Operand.tmp 187) 3, type := 4, pos := "more.go:124", after := #[{ on := 4, ground := Ground.data }, { on := 7, ground := Ground.data }, { on := 3, ground := Ground.guard }], guard := some (3, false) }) (v := _) rfl (by kernel_rfl) (by kernel_rfl) (by kernel_rfl) (fun _ _ _ h => h) (Or.inl ⟨by rfl, ?hyc_8⟩) (by assumption) ?restc_8
                  case hyc_8 => (intro w' hSw; (try dsimp only at hSw); go_simp <;> (try with_reducible rfl))
                  try simp only [Act.put, List.setIfInBounds_toArray, List.set_cons_zero, List.set_cons_succ]
                  refine' wpAnyH_take (i := 9) (oi := { dst := some 189, op := Op.pick (Operand.tmp 183) (Operand.const (Value.bool true)) (Operand.tmp 188), type := 4, pos := "more.go:124", after := #[{ on := 3, ground := Ground.data }, { on := 8, ground := Ground.data }], guard := none }) (v := _) rfl (by kernel_rfl) (by kernel_rfl) (by kernel_rfl) (fun _ _ _ h => h) (Or.inl ⟨by rfl, ?hyc_9⟩) (by assumption) ?restc_9
                  case hyc_9 => (intro w' hSw; (try dsimp only at hSw); go_simp <;> (try with_reducible rfl))
                  try simp only [Act.put, List.setIfInBounds_toArray, List.set_cons_zero, List.set_cons_succ]
                  refine' wpAnyH_take (i := 10) (oi := { dst := some 190, op := Op.move (Operand.tmp 189), type := 4, pos := "more.go:124", after := #[{ on := 9, ground := Ground.data }, { on := 3, ground := Ground.chain }], guard := none }) (v := _) rfl (by kernel_rfl) (by kernel_rfl) (by kernel_rfl) (fun _ _ _ h => h) (Or.inl ⟨by rfl, ?hyc_10⟩) (by assumption) ?restc_10
                  case hyc_10 => (intro w' hSw; (try dsimp only at hSw); go_simp <;> (try with_reducible rfl))
                  try simp only [Act.put, List.setIfInBounds_toArray, List.set_cons_zero, List.set_cons_succ]
                  refine wpAnyH_take (i := 11) (oi := { dst := some 191, op := Op.load 28 (Operand.tmp 23), type := 28, pos := "more.go:124", after := #[{ on := 10, ground := Ground.guard }], guard := some (10, true) }) (v := undef) rfl (by kernel_rfl) (by kernel_rfl) (by kernel_rfl) (fun _ _ _ h => h) (Or.inr ⟨by rfl, rfl⟩) (by assumption) ?_
                  try simp only [Act.put, List.setIfInBounds_toArray, List.set_cons_zero, List.set_cons_succ]
                  refine wpAnyH_take (i := 12) (oi := { dst := some 192, op := Op.move (Operand.tmp 33), type := 3, pos := "more.go:124", after := #[{ on := 10, ground := Ground.guard }], guard := some (10, true) }) (v := undef) rfl (by kernel_rfl) (by kernel_rfl) (by kernel_rfl) (fun _ _ _ h => h) (Or.inr ⟨by rfl, rfl⟩) (by assumption) ?_
                  try simp only [Act.put, List.setIfInBounds_toArray, List.set_cons_zero, List.set_cons_succ]
                  refine wpAnyH_take (i := 14) (oi := { dst := some 194, op := Op.load 28 (Operand.tmp 14), type := 28, pos := "more.go:124", after := #[{ on := 10, ground := Ground.guard }], guard := some (10, true) }) (v := undef) rfl (by kernel_rfl) (by kernel_rfl) (by kernel_rfl) (fun _ _ _ h => h) (Or.inr ⟨by rfl, rfl⟩) (by assumption) ?_
                  try simp only [Act.put, List.setIfInBounds_toArray, List.set_cons_zero, List.set_cons_succ]
                  refine wpAnyH_take (i := 15) (oi := { dst := some 195, op := Op.move (Operand.tmp 33), type := 3, pos := "more.go:124", after := #[{ on := 10, ground := Ground.guard }], guard := some (10, true) }) (v := undef) rfl (by kernel_rfl) (by kernel_rfl) (by kernel_rfl) (fun _ _ _ h => h) (Or.inr ⟨by rfl, rfl⟩) (by assumption) ?_
                  try simp only [Act.put, List.setIfInBounds_toArray, List.set_cons_zero, List.set_cons_succ]
                  refine wpAnyH_take (i := 13) (oi := { dst := some 193, op := Op.call { callee := Callee.value (.func 53), args := #[Operand.tmp 191, Operand.tmp 192], argTypes := #[28, 3] }, type := 4, pos := "more.go:124", after := #[{ on := 11, ground := Ground.data }, { on := 12, ground := Ground.data }, { on := 10, ground := Ground.chain }, { on := 10, ground := Ground.guard }], guard := some (10, true) }) (v := undef) rfl (by kernel_rfl) (by kernel_rfl) (by kernel_rfl) (fun _ _ _ h => h) (Or.inr ⟨by rfl, rfl⟩) (by assumption) ?_
                  try simp only [Act.put, List.setIfInBounds_toArray, List.set_cons_zero, List.set_cons_succ]
                  refine wpAnyH_take (i := 16) (oi := { dst := some 196, op := Op.call { callee := Callee.value (.func 53), args := #[Operand.tmp 194, Operand.tmp 195], argTypes := #[28, 3] }, type := 4, pos := "more.go:124", after := #[{ on := 14, ground := Ground.data }, { on := 15, ground := Ground.data }, { on := 13, ground := Ground.chain }, { on := 10, ground := Ground.guard }], guard := some (10, true) }) (v := undef) rfl (by kernel_rfl) (by kernel_rfl) (by kernel_rfl) (fun _ _ _ h => h) (Or.inr ⟨by rfl, rfl⟩) (by assumption) ?_
                  try simp only [Act.put, List.setIfInBounds_toArray, List.set_cons_zero, List.set_cons_succ]
                  refine wpAnyH_take (i := 17) (oi := { dst := some 197, op := Op.binOp BinOp.neq 4 (Operand.tmp 193) (Operand.tmp 196) 4, type := 4, pos := "more.go:124", after := #[{ on := 13, ground := Ground.data }, { on := 16, ground := Ground.data }, { on := 10, ground := Ground.guard }], guard := some (10, true) }) (v := undef) rfl (by kernel_rfl) (by kernel_rfl) (by kernel_rfl) (fun _ _ _ h => h) (Or.inr ⟨by rfl, rfl⟩) (by assumption) ?_
                  try simp only [Act.put, List.setIfInBounds_toArray, List.set_cons_zero, List.set_cons_succ]
                  refine' wpAnyH_take (i := 18) (oi := { dst := some 198, op := Op.pick (Operand.tmp 190) (Operand.tmp 197) (Operand.const (Value.bool false)), type := 4, pos := "more.go:124", after := #[{ on := 10, ground := Ground.data }, { on := 17, ground := Ground.data }], guard := none }) (v := _) rfl (by kernel_rfl) (by kernel_rfl) (by kernel_rfl) (fun _ _ _ h => h) (Or.inl ⟨by rfl, ?hyc_18⟩) (by assumption) ?restc_18
                  case hyc_18 => (intro w' hSw; (try dsimp only at hSw); go_simp <;> (try with_reducible rfl))
                  try simp only [Act.put, List.setIfInBounds_toArray, List.set_cons_zero, List.set_cons_succ]
                  refine' wpAnyH_take (i := 19) (oi := { dst := some 199, op := Op.move (Operand.tmp 198), type := 4, pos := "more.go:124", after := #[{ on := 18, ground := Ground.data }, { on := 16, ground := Ground.chain }], guard := none }) (v := _) rfl (by kernel_rfl) (by kernel_rfl) (by kernel_rfl) (fun _ _ _ h => h) (Or.inl ⟨by rfl, ?hyc_19⟩) (by assumption) ?restc_19
                  case hyc_19 => (intro w' hSw; (try dsimp only at hSw); go_simp <;> (try with_reducible rfl))
                  try simp only [Act.put, List.setIfInBounds_toArray, List.set_cons_zero, List.set_cons_succ]
                  refine' wpAnyH_take (i := 20) (oi := { dst := some 200, op := Op.load 28 (Operand.tmp 31), type := 28, pos := "more.go:124", after := #[{ on := 19, ground := Ground.guard }], guard := some (19, false) }) (v := _) rfl (by kernel_rfl) (by kernel_rfl) (by kernel_rfl) (fun _ _ _ h => h) (Or.inl ⟨by rfl, ?hyc_20⟩) (by assumption) ?restc_20
                  case hyc_20 => (intro w' hSw; (try dsimp only at hSw); go_simp <;> (try with_reducible rfl))
                  try simp only [Act.put, List.setIfInBounds_toArray, List.set_cons_zero, List.set_cons_succ]
                  refine' wpAnyH_take (i := 21) (oi := { dst := some 201, op := Op.move (Operand.tmp 33), type := 3, pos := "more.go:124", after := #[{ on := 19, ground := Ground.guard }], guard := some (19, false) }) (v := _) rfl (by kernel_rfl) (by kernel_rfl) (by kernel_rfl) (fun _ _ _ h => h) (Or.inl ⟨by rfl, ?hyc_21⟩) (by assumption) ?restc_21
                  case hyc_21 => (intro w' hSw; (try dsimp only at hSw); go_simp <;> (try with_reducible rfl))
                  try simp only [Act.put, List.setIfInBounds_toArray, List.set_cons_zero, List.set_cons_succ]
                  refine' wpAnyH_take (i := 23) (oi := { dst := some 203, op := Op.move (Operand.tmp 2), type := 5, pos := "more.go:124", after := #[{ on := 19, ground := Ground.guard }], guard := some (19, false) }) (v := _) rfl (by kernel_rfl) (by kernel_rfl) (by kernel_rfl) (fun _ _ _ h => h) (Or.inl ⟨by rfl, ?hyc_23⟩) (by assumption) ?restc_23
                  case hyc_23 => (intro w' hSw; (try dsimp only at hSw); go_simp <;> (try with_reducible rfl))
                  try simp only [Act.put, List.setIfInBounds_toArray, List.set_cons_zero, List.set_cons_succ]
                  refine' wpAnyH_take (i := 24) (oi := { dst := some 204, op := Op.binOp BinOp.rem 5 (Operand.tmp 203) (Operand.const (Value.int IntKind.u8 16)) 5, type := 5, pos := "more.go:124", after := #[{ on := 23, ground := Ground.data }, { on := 19, ground := Ground.guard }], guard := some (19, false) }) (v := _) rfl (by kernel_rfl) (by kernel_rfl) (by kernel_rfl) (fun _ _ _ h => h) (Or.inl ⟨by rfl, ?hyc_24⟩) (by assumption) ?restc_24
                  case hyc_24 => (intro w' hSw; (try dsimp only at hSw); go_simp <;> (try with_reducible rfl))
                  try simp only [Act.put, List.setIfInBounds_toArray, List.set_cons_zero, List.set_cons_succ]
                  refine' wpAnyH_take (i := 25) (oi := { dst := some 205, op := Op.convert 5 3 (Operand.tmp 204), type := 3, pos := "more.go:124", after := #[{ on := 24, ground := Ground.data }, { on := 19, ground := Ground.guard }], guard := some (19, false) }) (v := _) rfl (by kernel_rfl) (by kernel_rfl) (by kernel_rfl) (fun _ _ _ h => h) (Or.inl ⟨by rfl, ?hyc_25⟩) (by assumption) ?restc_25
                  case hyc_25 => (intro w' hSw; (try dsimp only at hSw); go_simp <;> (try with_reducible rfl))
                  try simp only [Act.put, List.setIfInBounds_toArray, List.set_cons_zero, List.set_cons_succ]
                  refine' wpAnyH_take (i := 26) (oi := { dst := some 206, op := Op.move (Operand.tmp 34), type := 3, pos := "more.go:124", after := #[{ on := 19, ground := Ground.guard }], guard := some (19, false) }) (v := _) rfl (by kernel_rfl) (by kernel_rfl) (by kernel_rfl) (fun _ _ _ h => h) (Or.inl ⟨by rfl, ?hyc_26⟩) (by assumption) ?restc_26
                  case hyc_26 => (intro w' hSw; (try dsimp only at hSw); go_simp <;> (try with_reducible rfl))
                  try simp only [Act.put, List.setIfInBounds_toArray, List.set_cons_zero, List.set_cons_succ]
                  refine' wpAnyH_take (i := 27) (oi := { dst := some 207, op := Op.binOp BinOp.shr 3 (Operand.tmp 205) (Operand.tmp 206) 3, type := 3, pos := "more.go:124", after := #[{ on := 25, ground := Ground.data }, { on := 26, ground := Ground.data }, { on := 19, ground := Ground.guard }], guard := some (19, false) }) (v := _) rfl (by kernel_rfl) (by kernel_rfl) (by kernel_rfl) (fun _ _ _ h => h) (Or.inl ⟨by rfl, ?hyc_27⟩) (by assumption) ?restc_27
                  case hyc_27 => (intro w' hSw; (try dsimp only at hSw); go_simp <;> (try with_reducible rfl))
                  try simp only [Act.put, List.setIfInBounds_toArray, List.set_cons_zero, List.set_cons_succ]
                  refine' wpAnyH_take (i := 28) (oi := { dst := some 208, op := Op.binOp BinOp.and 3 (Operand.tmp 207) (Operand.const (Value.int IntKind.i64 1)) 3, type := 3, pos := "more.go:124", after := #[{ on := 27, ground := Ground.data }, { on := 19, ground := Ground.guard }], guard := some (19, false) }) (v := _) rfl (by kernel_rfl) (by kernel_rfl) (by kernel_rfl) (fun _ _ _ h => h) (Or.inl ⟨by rfl, ?hyc_28⟩) (by assumption) ?restc_28
                  case hyc_28 => (intro w' hSw; (try dsimp only at hSw); go_simp <;> (try with_reducible rfl))
                  try simp only [Act.put, List.setIfInBounds_toArray, List.set_cons_zero, List.set_cons_succ]
                  refine' wpAnyH_take (i := 29) (oi := { dst := some 209, op := Op.binOp BinOp.eql 3 (Operand.tmp 208) (Operand.const (Value.int IntKind.i64 1)) 3, type := 4, pos := "more.go:124", after := #[{ on := 28, ground := Ground.data }, { on := 19, ground := Ground.guard }], guard := some (19, false) }) (v := _) rfl (by kernel_rfl) (by kernel_rfl) (by kernel_rfl) (fun _ _ _ h => h) (Or.inl ⟨by rfl, ?hyc_29⟩) (by assumption) ?restc_29
                  case hyc_29 => (intro w' hSw; (try dsimp only at hSw); go_simp <;> (try with_reducible rfl))
                  try simp only [Act.put, List.setIfInBounds_toArray, List.set_cons_zero, List.set_cons_succ]
                  refine wpAnyH_ready (rs := [22]) (by kernel_rfl) (by simp) ?_
                  refine AllReadyH.cons (o := { dst := some 202, op := Op.call { callee := Callee.value (.func 53), args := #[Operand.tmp 200, Operand.tmp 201], argTypes := #[28, 3] }, type := 4, pos := "more.go:124", after := #[{ on := 20, ground := Ground.data }, { on := 21, ground := Ground.data }, { on := 19, ground := Ground.chain }, { on := 19, ground := Ground.guard }], guard := some (19, false) }) rfl (fun K hK => ?_) AllReadyH.nil
                  go_simp
                  (with_reducible refine (HTZ.out _ _ (KZ25.out.keep hc0).iv).out.mono ?_)
                  rintro e v1 ⟨rfl, hb1⟩
                  have hc1 := hc0.trans (hb1.mono hc0.size)
                  refine hK.out _ _ (HSS.out _ hc1) (fun hHeld => ?_)
                  clear hK K
                  try simp only [Act.put, List.setIfInBounds_toArray, List.set_cons_zero, List.set_cons_succ]
                  refine' wpAnyH_take (i := 30) (oi := { dst := some 210, op := Op.binOp BinOp.neq 4 (Operand.tmp 202) (Operand.tmp 209) 4, type := 4, pos := "more.go:124", after := #[{ on := 22, ground := Ground.data }, { on := 29, ground := Ground.data }, { on := 19, ground := Ground.guard }], guard := some (19, false) }) (v := _) rfl (by kernel_rfl) (by kernel_rfl) (by kernel_rfl) (fun _ _ _ h => h) (Or.inl ⟨by rfl, ?hyc_30⟩) (by assumption) ?restc_30
                  case hyc_30 => (intro w' hSw; (try dsimp only at hSw); go_simp <;> (try with_reducible rfl))
                  try simp only [Act.put, List.setIfInBounds_toArray, List.set_cons_zero, List.set_cons_succ]
                  refine' wpAnyH_take (i := 31) (oi := { dst := some 211, op := Op.pick (Operand.tmp 199) (Operand.const (Value.bool true)) (Operand.tmp 210), type := 4, pos := "more.go:124", after := #[{ on := 19, ground := Ground.data }, { on := 30, ground := Ground.data }], guard := none }) (v := _) rfl (by kernel_rfl) (by kernel_rfl) (by kernel_rfl) (fun _ _ _ h => h) (Or.inl ⟨by rfl, ?hyc_31⟩) (by assumption) ?restc_31
                  case hyc_31 => (intro w' hSw; (try dsimp only at hSw); go_simp <;> (try with_reducible rfl))
                  try simp only [Act.put, List.setIfInBounds_toArray, List.set_cons_zero, List.set_cons_succ]
                  refine wpAnyH_done (by kernel_rfl) ?_ _
                  go_wp2_with fail
                  go_meet
                  exact ⟨congrArg Value.bool HFIN.out, hc1⟩
            case rest =>
              obtain ⟨rfl, hwQ⟩ := hcut
              have HE26 := Lib.hid (HD25.out.trans (hwQ.mono HD25.out.size))
              have KA26 := Lib.hid (KA25.out.keep hwQ)
              have KB26 := Lib.hid (KB25.out.keep hwQ)
              have KX26 := Lib.hid (KX25.out.keep hwQ)
              have KN26 := Lib.hid (KN25.out.keep hwQ)
              have KO26 := Lib.hid (KO25.out.keep hwQ)
              have KD26 := Lib.hid (KD25.out.keep hwQ)
              have KU26 := Lib.hid (KU25.out.keep hwQ)
              have KV26 := Lib.hid (KV25.out.keep hwQ)
              have KF26 := Lib.hid (KF25.out.keep hwQ)
              have KR26 := Lib.hid (KR25.out.keep hwQ)
              have KZ26 := Lib.hid (KZ25.out.keep hwQ)
              clear KA25 KB25 KX25 KN25 KO25 KD25 KU25 KV25 KF25 KR25 KZ25
              clear hwQ
              have HSU := Lib.hid fun W u hu => Lib.hid (Shift_upto x u s W (len_bd' HLX.out.1) (by omega) hu)
              have HSD := Lib.hid fun W u hu => Lib.hid (Shift_down (x * 2 ^ s) u s W (len_le (show 18 ≤ 1000000 by decide) (((len_bd' HLX.out.1).mul (pow_bd' (k := s) (m := 10) (by omega))).up (show 8 + 10 ≤ 18 by decide))) (by omega) hu)
              rw [up_down] at HSD
              obtain ⟨ga0, gb0⟩ := KA26.out.cells
              go_wp2_with fail
              (with_reducible refine ((HSU.out _ _ KA26.out.iv).out).mono ?_)
              rintro e w27 ⟨vP, rfl, ⟨dP, nP, eP, rfl, hrP⟩, hb27⟩
              have HIP : Hid (IntV w27 (.agg #[.bool (decide ((x * 2 ^ s) < 0)), .slice dP nP eP]) (x * 2 ^ s)) := Lib.hid ⟨_, _, _, rfl, hrP⟩
              have HD27 := Lib.hid (HE26.out.trans (hb27.mono HE26.out.size))
              have KA27 := Lib.hid (KA26.out.keep hb27)
              have KB27 := Lib.hid (KB26.out.keep hb27)
              have KX27 := Lib.hid (KX26.out.keep hb27)
              have KN27 := Lib.hid (KN26.out.keep hb27)
              have KO27 := Lib.hid (KO26.out.keep hb27)
              have KD27 := Lib.hid (KD26.out.keep hb27)
              have KU27 := Lib.hid (KU26.out.keep hb27)
              have KV27 := Lib.hid (KV26.out.keep hb27)
              have KF27 := Lib.hid (KF26.out.keep hb27)
              have KR27 := Lib.hid (KR26.out.keep hb27)
              have KZ27 := Lib.hid (KZ26.out.keep hb27)
              clear KA26 KB26 KX26 KN26 KO26 KD26 KU26 KV26 KF26 KR26 KZ26
              clear hb27 HE26 hrP ga0 gb0
              generalize decide ((x * 2 ^ s) < 0) = bP at *
              have hal : Below w27.heap.size w27 (w27.alloc (.cells #[.bool bP, .slice dP nP eP] 28)) := (Below.refl _ _).alloc (Nat.le_refl _) _
              have HD28 := Lib.hid (HD27.out.trans (hal.mono HD27.out.size))
              have KA28 := Lib.hid (KA27.out.keep hal)
              have KB28 := Lib.hid (KB27.out.keep hal)
              have KX28 := Lib.hid (KX27.out.keep hal)
              have KN28 := Lib.hid (KN27.out.keep hal)
              have KO28 := Lib.hid (KO27.out.keep hal)
              have KD28 := Lib.hid (KD27.out.keep hal)
              have KU28 := Lib.hid (KU27.out.keep hal)
              have KV28 := Lib.hid (KV27.out.keep hal)
              have KF28 := Lib.hid (KF27.out.keep hal)
              have KR28 := Lib.hid (KR27.out.keep hal)
              have KZ28 := Lib.hid (KZ27.out.keep hal)
              clear KA27 KB27 KX27 KN27 KO27 KD27 KU27 KV27 KF27 KR27 KZ27
              have KP28 : Hid (BX (w27.heap.size) (.bool bP) (.slice dP nP eP) (x * 2 ^ s) (w27.alloc (.cells #[.bool bP, .slice dP nP eP] 28))) := Lib.hid (BX.made HIP.out)
              clear hal HD27 HIP
              obtain ⟨ga0, gb0⟩ := KP28.out.cells
              go_wp2_with fail
              (with_reducible refine ((HSD.out _ _ KP28.out.iv).out).mono ?_)
              rintro e w29 ⟨vQ, rfl, ⟨dQ, nQ, eQ, rfl, hrQ⟩, hb29⟩
              have HIQ : Hid (IntV w29 (.agg #[.bool (decide (x < 0)), .slice dQ nQ eQ]) x) := Lib.hid ⟨_, _, _, rfl, hrQ⟩
              have HD29 := Lib.hid (HD28.out.trans (hb29.mono HD28.out.size))
              have KA29 := Lib.hid (KA28.out.keep hb29)
              have KB29 := Lib.hid (KB28.out.keep hb29)
              have KX29 := Lib.hid (KX28.out.keep hb29)
              have KN29 := Lib.hid (KN28.out.keep hb29)
              have KO29 := Lib.hid (KO28.out.keep hb29)
              have KD29 := Lib.hid (KD28.out.keep hb29)
              have KU29 := Lib.hid (KU28.out.keep hb29)
              have KV29 := Lib.hid (KV28.out.keep hb29)
              have KF29 := Lib.hid (KF28.out.keep hb29)
              have KR29 := Lib.hid (KR28.out.keep hb29)
              have KZ29 := Lib.hid (KZ28.out.keep hb29)
              have KP29 := Lib.hid (KP28.out.keep hb29)
              clear KA28 KB28 KX28 KN28 KO28 KD28 KU28 KV28 KF28 KR28 KZ28 KP28
              clear hb29 HD28 hrQ ga0 gb0
              generalize decide (x < 0) = bQ at *
              have hal : Below w29.heap.size w29 (w29.alloc (.cells #[.bool bQ, .slice dQ nQ eQ] 28)) := (Below.refl _ _).alloc (Nat.le_refl _) _
              have HD30 := Lib.hid (HD29.out.trans (hal.mono HD29.out.size))
              have KA30 := Lib.hid (KA29.out.keep hal)
              have KB30 := Lib.hid (KB29.out.keep hal)
              have KX30 := Lib.hid (KX29.out.keep hal)
              have KN30 := Lib.hid (KN29.out.keep hal)
              have KO30 := Lib.hid (KO29.out.keep hal)
              have KD30 := Lib.hid (KD29.out.keep hal)
              have KU30 := Lib.hid (KU29.out.keep hal)
              have KV30 := Lib.hid (KV29.out.keep hal)
              have KF30 := Lib.hid (KF29.out.keep hal)
              have KR30 := Lib.hid (KR29.out.keep hal)
              have KZ30 := Lib.hid (KZ29.out.keep hal)
              have KP30 := Lib.hid (KP29.out.keep hal)
              clear KA29 KB29 KX29 KN29 KO29 KD29 KU29 KV29 KF29 KR29 KZ29 KP29
              have KQ30 : Hid (BX (w29.heap.size) (.bool bQ) (.slice dQ nQ eQ) x (w29.alloc (.cells #[.bool bQ, .slice dQ nQ eQ] 28))) := Lib.hid (BX.made HIQ.out)
              clear hal HD29 HIQ
              obtain ⟨ga0, gb0⟩ := KQ30.out.cells
              obtain ⟨ga1, gb1⟩ := KA30.out.cells
              go_wp2_with fail
              (with_reducible refine ((HSX.out _ _ _ KQ30.out.iv KA30.out.iv).out).mono ?_)
              rintro e w31 ⟨rfl, hb31⟩
              have HD31 := Lib.hid (HD30.out.trans (hb31.mono HD30.out.size))
              have KA31 := Lib.hid (KA30.out.keep hb31)
              have KB31 := Lib.hid (KB30.out.keep hb31)
              have KX31 := Lib.hid (KX30.out.keep hb31)
              have KN31 := Lib.hid (KN30.out.keep hb31)
              have KO31 := Lib.hid (KO30.out.keep hb31)
              have KD31 := Lib.hid (KD30.out.keep hb31)
              have KU31 := Lib.hid (KU30.out.keep hb31)
              have KV31 := Lib.hid (KV30.out.keep hb31)
              have KF31 := Lib.hid (KF30.out.keep hb31)
              have KR31 := Lib.hid (KR30.out.keep hb31)
              have KZ31 := Lib.hid (KZ30.out.keep hb31)
              have KP31 := Lib.hid (KP30.out.keep hb31)
              have KQ31 := Lib.hid (KQ30.out.keep hb31)
              clear KA30 KB30 KX30 KN30 KO30 KD30 KU30 KV30 KF30 KR30 KZ30 KP30 KQ30
              clear hb31 HD30  ga0 gb0 ga1 gb1
              go_wp2_with fail
              (with_reducible refine ((HAW.out _).out).mono ?_)
              rintro e w32 ⟨rfl, hb32⟩
              have HD32 := Lib.hid (HD31.out.trans (hb32.mono HD31.out.size))
              have KA32 := Lib.hid (KA31.out.keep hb32)
              have KB32 := Lib.hid (KB31.out.keep hb32)
              have KX32 := Lib.hid (KX31.out.keep hb32)
              have KN32 := Lib.hid (KN31.out.keep hb32)
              have KO32 := Lib.hid (KO31.out.keep hb32)
              have KD32 := Lib.hid (KD31.out.keep hb32)
              have KU32 := Lib.hid (KU31.out.keep hb32)
              have KV32 := Lib.hid (KV31.out.keep hb32)
              have KF32 := Lib.hid (KF31.out.keep hb32)
              have KR32 := Lib.hid (KR31.out.keep hb32)
              have KZ32 := Lib.hid (KZ31.out.keep hb32)
              have KP32 := Lib.hid (KP31.out.keep hb32)
              have KQ32 := Lib.hid (KQ31.out.keep hb32)
              clear KA31 KB31 KX31 KN31 KO31 KD31 KU31 KV31 KF31 KR31 KZ31 KP31 KQ31
              clear hb32 HD31  
              go_wp2
              go_ret
              exact ⟨rfl, HD3.out.trans (HD32.out.mono HD3.out.size)⟩

end Go.Proofs.Ytnbnbjgdplpemaa
