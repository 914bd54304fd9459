/- add: a new object behind all others. -/
import Derived.Test.YtpkhmgbkalhilaaBg
import Derived.Deep.RegionLaw
import Derived.Deep.CutRange
namespace Go.Proofs.Ytpkhmgbkalhilaa
section
open Go.RowKit

theorem row_keep {w w' : World} {b e s n : Nat} {v : Value} {xs : List Value} (h : w.ownsRow b e s v n xs) (hb : Below w.heap.size w w') : w'.ownsRow b e s v n xs := by
  refine ⟨h.1, ?_⟩
  rcases h.2 with hn | ⟨g, cap, cur, rfl, hg, hgg, rest⟩
  · exact .inl hn
  · exact .inr ⟨g, cap, cur, rfl, hg, by rw [hb.block g (Array.getElem?_eq_some_iff.1 hgg).1]; exact hgg, rest⟩

set_option maxHeartbeats 1000000 in
set_option maxRecDepth 100000 in
theorem add_any (k n base p lim yng : Nat) (ws bs : List Nat) (old mv : Nat) (vr : Value) (nr : Nat) (w : World) (h : HeapAt w base p lim yng ws bs old mv vr nr) (hk : k < 32) (hn : n ≤ 20000) (hw : ws.length ≤ 70000) (hbl : bs.length ≤ 100000) (hbase : base ≤ w.heap.size) :
    Calls Try.prog 21 #[.pointer (some ⟨p, 0, none⟩), .agg #[.int .i64 k, .int .i64 n, .bool false]] w fun e w' =>
      e = .returned (.int .u64 ((ws.length * 8 + 3 : Nat) : Int)) ∧ HeapAt w' base p lim yng (ws ++ (n * 64 + k) :: List.replicate n 3) (markB ws.length (growB (ws.length + (n + 1)) bs)) old mv vr nr ∧ Below base w w' := by
  obtain ⟨i0, hi, hz0, hz1, hz2⟩ := info_parts Try.infoWord
  obtain ⟨vw, vb, hb, hbp, hrw, hrb⟩ := h
  have HB0 := Lib.hid hb
  have HRW := Lib.hid hrw
  have HRB := Lib.hid hrb
  clear hb hrw hrb
  obtain ⟨L, hL⟩ : ∃ L, L = ws.length := ⟨_, rfl⟩
  rw [← hL] at hw HRW ⊢
  have HL := Lib.hid hL
  clear hL
  have c2 : w.cell? ⟨p, 2, none⟩ = some vw := HB0.out.cell 2 rfl
  have hp := HB0.out.lt
  have hbl0 := hbl
  obtain ⟨adw, capw, rfl⟩ : ∃ ad cap, vw = .slice ad L cap := by
    rcases HRW.out.2 with ⟨rfl, rfl⟩ | ⟨g, cap, cur, rfl, _⟩
    · exact ⟨_, _, rfl⟩
    · exact ⟨_, _, rfl⟩
  have hpk := fun W => pack_any k n W hk (by omega)
  obtain ⟨hd, hhd⟩ : ∃ hd, hd = n * 64 + k := ⟨_, rfl⟩
  rw [← hhd] at hpk ⊢
  have HP := Lib.hid hpk
  clear hpk hhd
  have hsz' := fun W => size_any k n W (by omega)
  obtain ⟨m, hm⟩ : ∃ m, m = n + 1 := ⟨_, rfl⟩
  rw [← hm] at hsz' ⊢
  have HSZ := Lib.hid hsz'
  have HM := Lib.hid hm
  clear hsz' hm
  have f2 := fun W (h : HB W p _) => HB.frozen (cs := #[.int .i64 lim, .int .i64 yng, .slice adw L capw, vb, .int .i64 old, .int .i64 mv, vr, .int .i64 nr]) h 2
  have F2 := Lib.hid f2
  clear f2
  go_enter Try.func21, Try.ntmps21
  go_wp2_with fail
  have hbx : Below w.heap.size w (w.alloc (.cells #[.int .i64 k, .int .i64 n, .bool false] 56)) := (Below.refl _ _).alloc (Nat.le_refl _) _
  have a0 : (w.alloc (.cells #[.int .i64 k, .int .i64 n, .bool false] 56)).cell? ⟨w.heap.size, 0, none⟩ = some (.int .i64 k) := by rw [World.cell?_alloc_at _ _ _ _ rfl]; rfl
  have a1 : (w.alloc (.cells #[.int .i64 k, .int .i64 n, .bool false] 56)).cell? ⟨w.heap.size, 1, none⟩ = some (.int .i64 n) := by rw [World.cell?_alloc_at _ _ _ _ rfl]; rfl
  have a2 : (w.alloc (.cells #[.int .i64 k, .int .i64 n, .bool false] 56)).cell? ⟨w.heap.size, 2, none⟩ = some (.bool false) := by rw [World.cell?_alloc_at _ _ _ _ rfl]; rfl
  have a3 : (w.alloc (.cells #[.int .i64 k, .int .i64 n, .bool false] 56)).cell? ⟨p, 2, none⟩ = some (.slice adw L capw) := (hbx.cell (p := ⟨p, 2, none⟩) hp).trans c2
  have hsz : (w.alloc (.cells #[.int .i64 k, .int .i64 n, .bool false] 56)).heap.size = w.heap.size + 1 := by simp
  have HRX := Lib.hid (row_keep HRW.out hbx)
  have HBX := Lib.hid (HB0.out.keep hbx hp)
  have HRBX := Lib.hid (row_keep HRB.out hbx)
  have hne2 := row_ne HRX.out HRBX.out (by decide)
  have hne3 := row_ne HRBX.out HRX.out (by decide)
  have hn1 : some w.heap.size ≠ (Value.slice adw L capw).ownBlock := fun h => by have := (HRW.out.lt _ h.symm).2; omega
  have hn2 : some p ≠ (Value.slice adw L capw).ownBlock := fun h => (HB0.out.ne HRW.out (by decide)) h.symm
  generalize hX : (w.alloc (.cells #[.int .i64 k, .int .i64 n, .bool false] 56)) = X at *
  have h1w : w.heap.size < X.heap.size := by omega
  have h2w : p < X.heap.size := by omega
  have HBX1 := Lib.hid hbx
  clear hbx hX c2
  go_upto_region 2 with fail
  go_cut [] from 11 to 21 (fun wx => ∃ g cap, HB wx p #[.int .i64 lim, .int .i64 yng, .slice (some ⟨g, 0, none⟩) (L + 1) cap, vb, .int .i64 old, .int .i64 mv, vr, .int .i64 nr] ∧ wx.ownsRow base 23 1 (.slice (some ⟨g, 0, none⟩) (L + 1) cap) (L + 1) (dw (ws ++ [hd])) ∧ wx.ownsRow base 22 1 vb bs.length (dw bs) ∧
    wx.cell? ⟨w.heap.size, 0, none⟩ = some (.int .i64 k) ∧ wx.cell? ⟨w.heap.size, 1, none⟩ = some (.int .i64 n) ∧ wx.cell? ⟨w.heap.size, 2, none⟩ = some (.bool false) ∧ Below base w wx ∧ w.heap.size < wx.heap.size)
  case first =>
    go_region_law
        (first
          | (go_simp; go_at_call 23; refine (HP.out _).mono ?_; rintro e w2 ⟨rfl, hb2'⟩; have hb2 := (Below.refl X.heap.size X).drew.trans hb2'; have hle2 := hb2.size; have cA2 := (hb2.cell (p := ⟨w.heap.size, 0, none⟩) h1w).trans a0; have cB2 := (hb2.cell (p := ⟨w.heap.size, 1, none⟩) h1w).trans a1; have cC2 := (hb2.cell (p := ⟨w.heap.size, 2, none⟩) h1w).trans a2; have cD2 := (hb2.cell (p := ⟨p, 2, none⟩) h2w).trans a3; have hr2 := row_keep HRX.out hb2; have h2w2 := Nat.lt_of_lt_of_le h2w hle2)
          | (refine step_append_lies _ (by rfl) _ _ _ (by rfl) base 23 i0 (.int .u64 0) 1 8 Try.underlying32 hi hz0 hz1 hz2 rfl (by decide) (.slice adw L capw) L (dw ws) (by rfl) (World.ownsRow.alloc hr2 _) ⟨w2.heap.size, 0, none⟩ 1 1 [.int .u64 (hd : Int)] (by rfl) (by rfl) (news_one (heap_alloc_new w2 _)) (by simp [Value.oneCell']) (by decide) (by unfold maxLen; omega) (by omega) (by simp; omega) (w2.heap.size + 1) (by simp) ?_; intro gg cap w3 hown hgrow hat hlt; have hb3 : Below w2.heap.size w2 (w2.alloc (.cells #[.int .u64 (hd : Int)] 23)) := (Below.refl _ _).alloc (Nat.le_refl _) _; have cA4 := (hgrow.cell_far ⟨w.heap.size, 0, none⟩ (by simp; omega) hn1).trans ((hb3.cell (p := ⟨w.heap.size, 0, none⟩) (Nat.lt_of_lt_of_le h1w hle2)).trans cA2); have cB4 := (hgrow.cell_far ⟨w.heap.size, 1, none⟩ (by simp; omega) hn1).trans ((hb3.cell (p := ⟨w.heap.size, 1, none⟩) (Nat.lt_of_lt_of_le h1w hle2)).trans cB2); have cC4 := (hgrow.cell_far ⟨w.heap.size, 2, none⟩ (by simp; omega) hn1).trans ((hb3.cell (p := ⟨w.heap.size, 2, none⟩) (Nat.lt_of_lt_of_le h1w hle2)).trans cC2); have cD4 := (hgrow.cell_far ⟨p, 2, none⟩ (by simp; omega) hn2).trans ((hb3.cell (p := ⟨p, 2, none⟩) (Nat.lt_of_lt_of_le h2w hle2)).trans cD2); have hB4 := ((HBX.out.keep hb2 h2w).alloc (.cells #[.int .u64 (hd : Int)] 23)).grown hgrow (fun h => hn2 h.symm); have fD4 := hB4.frozen 2))
    all_goals
      go_wp2_with fail
      have hgp : p ≠ gg := fun h => (hB4.ne hown (by decide)) (by rw [h]; rfl)
      have hr4 := World.ownsRow.kept (World.ownsRow.alloc (row_keep HRBX.out hb2) (.cells #[.int .u64 (hd : Int)] 23)) hgrow hne3
      have hne4 := hB4.ne hr4 (by decide)
      have hwp : (⟨p, 2, none⟩ : Addr) ≠ ⟨w.heap.size, 0, none⟩ := by intro h; injection h with h1; omega
      have hwp1 : (⟨p, 2, none⟩ : Addr) ≠ ⟨w.heap.size, 1, none⟩ := by intro h; injection h with h1; omega
      have hwp2 : (⟨p, 2, none⟩ : Addr) ≠ ⟨w.heap.size, 2, none⟩ := by intro h; injection h with h1; omega
      have hall : Below base w w3 := (HBX1.out.mono hbase).trans ((hb2.mono (by omega)).trans (((Below.refl base w2).alloc (by omega) (.cells #[.int .u64 (hd : Int)] 23)).grown hgrow (by simp; omega) (fun q hq => (HRX.out.lt q hq).1)))
      have hs3 := hgrow.size
      go_meet
      refine ⟨gg, cap, hB4.set 2 _, row_far (by rw [dw_append]; exact hown) _ (hB4.ne hown (by decide)), row_far hr4 _ hne4, ?_, ?_, ?_, hall.setCell hbp _, by simp at hs3 ⊢; omega⟩
      · rw [World.cell?_setCell_other _ _ _ _ hwp]; exact cA4
      · rw [World.cell?_setCell_other _ _ _ _ hwp1]; exact cB4
      · rw [World.cell?_setCell_other _ _ _ _ hwp2]; exact cC4
  case rest =>
    obtain ⟨g, cap, hb, hrw, hrb, cA, cB, cC, hbel, hsize⟩ := hcut
    have HB1 := Lib.hid hb
    have HR1 := Lib.hid hrw
    have HV1 := Lib.hid hrb
    have HE1 := Lib.hid hbel
    clear hb hrw hrb hbel a0 a1 a2 a3
    have hmn : (m : Int) - 1 = (n : Int) := by have := HM.out; omega
    go_wp2_with fail
    refine (HSZ.out _).mono ?_
    rintro e w5 ⟨rfl, hb5⟩
    have HB5 := Lib.hid (HB1.out.keep hb5 HB1.out.lt)
    have HR5 := Lib.hid (row_keep HR1.out hb5)
    have HV5 := Lib.hid (row_keep HV1.out hb5)
    have HE5 := Lib.hid (HE1.out.trans (hb5.mono (by have := HE1.out.size; omega)))
    have hs5 := hb5.size
    clear hb5 cA cB cC
    go_wp2
    go_loopw [25] (fun i wr => ∃ (j g cap : Nat), j ≤ n ∧ i = .int .i64 j ∧ HB wr p #[.int .i64 lim, .int .i64 yng, .slice (some ⟨g, 0, none⟩) (L + 1 + j) cap, vb, .int .i64 old, .int .i64 mv, vr, .int .i64 nr] ∧ wr.ownsRow base 23 1 (.slice (some ⟨g, 0, none⟩) (L + 1 + j) cap) (L + 1 + j) (dw (ws ++ hd :: List.replicate j 3)) ∧ wr.ownsRow base 22 1 vb bs.length (dw bs) ∧ Below base w wr) (fun i _ => n - (intOf i).toNat)
    case atStart => exact ⟨0, g, cap, Nat.zero_le _, rfl, HB5.out, HR5.out, HV5.out, HE5.out⟩
    case round =>
      obtain ⟨j, g, cap, hj, rfl, hb, hrw, hrb, hbel⟩ := hrel
      have c2 : wr.cell? ⟨p, 2, none⟩ = some (.slice (some ⟨g, 0, none⟩) (L + 1 + j) cap) := hb.cell 2 rfl
      have HB6 := Lib.hid hb
      have HR6 := Lib.hid hrw
      have HV6 := Lib.hid hrb
      have HE6 := Lib.hid hbel
      have hp6 := hb.lt
      clear hb hrw hrb hbel
      by_cases hjn : j < n
      · have HOA := Lib.hid fun o => World.ownsRow.alloc HR6.out o
        go_wp2_with (at_builtin; refine wpList_append_lies _ rfl (.tmp 31) (.tmp 32) 32 rfl base 23 i0 (.int .u64 0) 1 8 Try.underlying32 hi hz0 hz1 hz2 rfl (by decide) _ (L + 1 + j) _ rfl (HOA.out _) ⟨wr.heap.size, 0, none⟩ 1 1 [.int .u64 3] rfl rfl ?c1 (by simp [Value.oneCell']) (by decide) ?c2 ?c3 ?c4 _ rfl ?_)
        case c1 => exact news_one (heap_alloc_new wr _)
        case c2 => unfold maxLen; omega
        case c3 => omega
        case c4 => have := HE6.out.size; simp at this ⊢; omega
        intro gb capb' w1 hown' hgrow hat hgl
        have hne := HB6.out.ne HR6.out (by decide)
        have hb1 : HB w1 p _ := (HB6.out.alloc (.cells #[.int .u64 3] 23)).grown hgrow hne
        have g3 : w1.cell? ⟨p, 2, none⟩ = some (.slice (some ⟨g, 0, none⟩) (L + 1 + j) cap) := hb1.cell 2 rfl
        have f3 := hb1.frozen 2
        have HB7 := Lib.hid hb1
        have HO7 := Lib.hid hown'
        have HG7 := Lib.hid hgrow
        clear hb1 hown' hgrow hne
        go_wp2
        go_roundw
        case rel =>
          have hr7 := World.ownsRow.kept (World.ownsRow.alloc HV6.out (.cells #[.int .u64 3] 23)) HG7.out (row_ne HV6.out HR6.out (by decide))
          refine ⟨j + 1, gb, capb', by omega, by go_num, HB7.out.set 2 _, ?_, row_far hr7 _ (HB7.out.ne hr7 (by decide)), ?_⟩
          · have e : ws ++ hd :: List.replicate (j + 1) 3 = (ws ++ hd :: List.replicate j 3) ++ [3] := by rw [List.replicate_succ', List.append_assoc, List.cons_append]
            rw [e, dw_append]
            exact row_far HO7.out _ (HB7.out.ne HO7.out (by decide))
          · exact ((HE6.out.alloc (by have := HE6.out.size; omega) _).grown HG7.out (by have := HE6.out.size; simp at this ⊢; omega) (fun q hq => (HR6.out.lt q hq).1)).setCell hbp _
        case measure => simp [intOf]; omega
      · obtain rfl : j = n := by omega
        have hlen : (ws ++ hd :: List.replicate j 3).length = L + 1 + j := by rw [List.length_append, List.length_cons, List.length_replicate, HL.out]; omega
        have hH : HeapAt wr base p lim yng (ws ++ hd :: List.replicate j 3) bs old mv vr nr := ⟨_, vb, HB6.out, hbp, by rw [hlen]; exact HR6.out, HV6.out⟩
        have HBG := Lib.hid (begin_any L base p lim yng _ bs old mv vr nr wr hH (by rw [hlen]; omega) (by rw [hlen]; omega) hbl0)
        rw [hlen] at HBG
        have HRF := Lib.hid fun W => reference_any L W (by omega)
        have HMM := Lib.hid (show L + 1 + j = L + m by have := HM.out; omega)
        clear hlen hH hmn c2
        go_wp2_with fail
        refine HBG.out.mono ?_
        rintro e w8 ⟨rfl, hH8, hb8⟩
        have HH8 := Lib.hid hH8
        have HE8 := Lib.hid (HE6.out.trans hb8)
        clear hH8 hb8
        go_wp2_with (go_at_call 26; refine (HRF.out _).mono ?_; rintro e w' ⟨rfl, rfl⟩)
        go_ret
        rw [HMM.out] at HH8
        exact ⟨rfl, HH8.out, HE8.out⟩

end
end Go.Proofs.Ytpkhmgbkalhilaa
