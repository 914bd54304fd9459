/- make, New and the law's last line (awake). -/
import Derived.Test.YtpkhmgbkalhilaaAdd
namespace Go.Proofs.Ytpkhmgbkalhilaa
section
open Go.RowKit

set_option maxHeartbeats 1000000 in
set_option maxRecDepth 100000 in
theorem make_ok (k n base p lim yng : Nat) (ws bs : List Nat) (old mv : Nat) (vr : Value) (nr : Nat) (w : World) (h : HeapAt w base p lim yng ws bs old mv vr nr) (hk0 : 1 ≤ k) (hk : k ≤ 31) (hn : n ≤ 16384) (h0 : ws ≠ []) (hw : ws.length ≤ 70000) (hbl : bs.length ≤ 100000) (hbase : base ≤ w.heap.size) (hlim : ws.length + (n + 1) ≤ lim) (hlim2 : lim ≤ 70000) :
    Calls Try.prog 22 #[.pointer (some ⟨p, 0, none⟩), .agg #[.int .i64 k, .int .i64 n, .bool false]] w fun e w' =>
      e = .returned (.tuple #[.int .u64 ((ws.length * 8 + 3 : Nat) : Int), .int .i64 0]) ∧ HeapAt w' base p lim yng (ws ++ (n * 64 + k) :: List.replicate n 3) (markB ws.length (growB (ws.length + (n + 1)) bs)) old mv vr nr ∧ Below base w w' := by
  have hbx : Below w.heap.size w (w.alloc (.cells #[.int .i64 k, .int .i64 n, .bool false] 56)) := (Below.refl _ _).alloc (Nat.le_refl _) _
  have hkeep : ∀ W, Below w.heap.size w W → HeapAt W base p lim yng ws bs old mv vr nr := fun W hW => by
    obtain ⟨vw, vb, hb, hbp, hrw, hrb⟩ := h
    exact ⟨vw, vb, hb.keep hW hb.lt, hbp, row_keep hrw hW, row_keep hrb hW⟩
  have HN := Lib.hid fun W hW => isNone_no base p lim yng ws bs old mv vr nr W (hkeep W hW) h0
  have HC := Lib.hid fun W => check_ok k n W hk0 hk hn
  have hsz' := fun W => size_any k n W (by omega)
  have HA := Lib.hid fun W hW (hB : base ≤ W.heap.size) => add_any k n base p lim yng ws bs old mv vr nr W (hkeep W hW) (by omega) (by omega) hw hbl hB
  obtain ⟨m, hm⟩ : ∃ m, m = n + 1 := ⟨_, rfl⟩
  rw [← hm] at hsz' hlim ⊢
  rw [← hm] at HA
  have HSZ := Lib.hid hsz'
  have a0 : (w.alloc (.cells #[.int .i64 k, .int .i64 n, .bool false] 56)).cell? ⟨w.heap.size, 0, none⟩ = some (.int .i64 k) := by rw [World.cell?_alloc_at _ _ _ _ rfl]; rfl
  have a1 : (w.alloc (.cells #[.int .i64 k, .int .i64 n, .bool false] 56)).cell? ⟨w.heap.size, 1, none⟩ = some (.int .i64 n) := by rw [World.cell?_alloc_at _ _ _ _ rfl]; rfl
  have a2 : (w.alloc (.cells #[.int .i64 k, .int .i64 n, .bool false] 56)).cell? ⟨w.heap.size, 2, none⟩ = some (.bool false) := by rw [World.cell?_alloc_at _ _ _ _ rfl]; rfl
  obtain ⟨vw, vb, hb, hbp, hrw, hrb⟩ := h
  obtain ⟨g, cap, rfl, hg1, hg2⟩ := hrw.form (List.length_pos_iff.2 h0)
  have HB0 := Lib.hid hb
  have hp := hb.lt
  have hml : m ≤ 70000 := by omega
  clear hb hrw hrb hkeep hsz' h0 hm
  generalize hL : ws.length = L at *
  have HLL := Lib.hid hL
  clear hL
  go_enter Try.func22, Try.ntmps22
  go_wp2_with fail
  generalize hX : (w.alloc (.cells #[.int .i64 k, .int .i64 n, .bool false] 56)) = X at *
  have hsX : X.heap.size = w.heap.size + 1 := by rw [← hX]; simp
  have HBX := Lib.hid hbx
  clear hX hbx
  refine (HN.out X HBX.out).mono ?_
  rintro e w' ⟨rfl, rfl⟩
  go_wp2_with fail
  refine (HC.out _).mono ?_
  rintro e w2 ⟨rfl, hb2⟩
  have HB2 := Lib.hid (HBX.out.trans (hb2.mono (by omega)))
  have hs2 := hb2.size
  have b0 := (hb2.cell (p := ⟨w.heap.size, 0, none⟩) (by show w.heap.size < X.heap.size; omega)).trans a0
  have b1 := (hb2.cell (p := ⟨w.heap.size, 1, none⟩) (by show w.heap.size < X.heap.size; omega)).trans a1
  have b2 := (hb2.cell (p := ⟨w.heap.size, 2, none⟩) (by show w.heap.size < X.heap.size; omega)).trans a2
  have hB2 := HB0.out.keep HB2.out hp
  have b3 : w2.cell? ⟨p, 2, none⟩ = some (.slice (some ⟨g, 0, none⟩) L cap) := hB2.cell 2 rfl
  have b4 : w2.cell? ⟨p, 0, none⟩ = some (.int .i64 lim) := hB2.cell 0 rfl
  have h1w : w.heap.size < w2.heap.size := by omega
  have h2w : p < w2.heap.size := by omega
  clear hb2 hB2 a0 a1 a2
  go_wp2_with fail
  have hwr : IntKind.i64.wrap ((L : Int) + (m : Int)) = (L : Int) + (m : Int) := by rw [IntKind.wrap_i64]; omega
  have hlm : decide ((lim : Int) < (L : Int) + (m : Int)) = false := decide_eq_false (by omega)
  go_region_held3 (fun w' => w'.cell? ⟨w.heap.size, 0, none⟩ = some (.int .i64 k) ∧ w'.cell? ⟨w.heap.size, 1, none⟩ = some (.int .i64 n) ∧ w'.cell? ⟨w.heap.size, 2, none⟩ = some (.bool false) ∧ w'.cell? ⟨p, 2, none⟩ = some (.slice (some ⟨g, 0, none⟩) L cap) ∧ w'.cell? ⟨p, 0, none⟩ = some (.int .i64 lim))
    (first | exact ⟨d0, d1, d2, d3, d4⟩ | go_keep)
    (first
      | (go_at_call 24; refine (HSZ.out _).mono ?_; rintro e w3 ⟨rfl, hb3'⟩; have hb3 := (Below.refl w2.heap.size w2).drew.trans hb3'; have d0 := (hb3.cell (p := ⟨w.heap.size, 0, none⟩) h1w).trans b0; have d1 := (hb3.cell (p := ⟨w.heap.size, 1, none⟩) h1w).trans b1; have d2 := (hb3.cell (p := ⟨w.heap.size, 2, none⟩) h1w).trans b2; have d3 := (hb3.cell (p := ⟨p, 2, none⟩) h2w).trans b3; have d4 := (hb3.cell (p := ⟨p, 0, none⟩) h2w).trans b4))
  have HB3 := Lib.hid (HB2.out.trans (hb3.mono (by omega)))
  clear hb3 hb3'
  go_wp2_with fail
  refine (HA.out _ HB3.out (Nat.le_trans hbase HB3.out.size)).mono ?_
  rintro e w4 ⟨rfl, hH4, hb4⟩
  have HH4 := Lib.hid hH4
  have HB4 := Lib.hid ((HB3.out.mono hbase).trans hb4)
  clear hH4 hb4
  go_wp2
  go_ret2
  exact ⟨rfl, HH4.out, HB4.out⟩

set_option maxHeartbeats 1000000 in
set_option maxRecDepth 100000 in
theorem newObj_ok (k n base p lim yng : Nat) (ws bs : List Nat) (old mv : Nat) (vr : Value) (nr : Nat) (w : World) (h : HeapAt w base p lim yng ws bs old mv vr nr) (hk0 : 1 ≤ k) (hk : k ≤ 31) (hn : n ≤ 16384) (h0 : ws ≠ []) (hw : ws.length ≤ 70000) (hbl : bs.length ≤ 100000) (hbase : base ≤ w.heap.size) (hlim : ws.length + (n + 1) ≤ lim) (hlim2 : lim ≤ 70000) :
    Calls Try.prog 19 #[.pointer (some ⟨p, 0, none⟩), .int .i64 k, .int .i64 n] w fun e w' =>
      e = .returned (.tuple #[.int .u64 ((ws.length * 8 + 3 : Nat) : Int), .int .i64 0]) ∧ HeapAt w' base p lim yng (ws ++ (n * 64 + k) :: List.replicate n 3) (markB ws.length (growB (ws.length + (n + 1)) bs)) old mv vr nr ∧ Below base w w' := by
  have HM := Lib.hid (make_ok k n base p lim yng ws bs old mv vr nr w h hk0 hk hn h0 hw hbl hbase hlim hlim2)
  obtain ⟨r, hr⟩ : ∃ r, r = ws.length * 8 + 3 := ⟨_, rfl⟩
  rw [← hr] at HM ⊢
  clear h h0 hw hbl hbase hlim hlim2 hr
  go_enter Try.func19, Try.ntmps19
  go_wp2_with fail
  refine HM.out.mono ?_
  rintro e w4 ⟨rfl, hH4, hb4⟩
  have HH4 := Lib.hid hH4
  have HB4 := Lib.hid hb4
  clear hH4 hb4
  go_wp2
  go_ret2
  exact ⟨rfl, HH4.out, HB4.out⟩

theorem mark_first : markB 0 (growB (0 + (5 + 1)) []) = [1] := by
  show [orW 0 1] = [1]
  rfl

set_option maxHeartbeats 1000000 in
set_option maxRecDepth 100000 in
/-- New, of a limit and a number of young words that are permitted. -/
theorem newHeap_ok (lim yng : Nat) (w : World) (h1 : 64 ≤ lim) (h2 : lim ≤ 65536) (h3 : 1 ≤ yng) (h4 : yng ≤ lim) :
    Calls Try.prog 18 #[.int .i64 lim, .int .i64 yng] w fun e w' =>
      e = .returned (.tuple #[.pointer (some ⟨w.heap.size, 0, none⟩), .int .i64 0]) ∧ HeapAt w' w.heap.size w.heap.size lim yng [321, 3, 3, 3, 3, 3] [1] 6 0 (.slice none 0 0) 0 ∧ Below w.heap.size w w' := by
  go_enter Try.func18, Try.ntmps18
  go_wp2_with fail
  have hH0 : HeapAt (w.alloc (.cells #[.int .i64 lim, .int .i64 yng, .slice none 0 0, .slice none 0 0, .int .i64 0, .int .i64 0, .slice none 0 0, .int .i64 0] 53)) w.heap.size w.heap.size lim yng [] [] 0 0 (.slice none 0 0) 0 :=
    ⟨.slice none 0 0, .slice none 0 0, heap_alloc_new w _, Nat.le_refl _, World.ownsRow_nil _ _ _ _, World.ownsRow_nil _ _ _ _⟩
  refine (add_any 1 5 w.heap.size w.heap.size lim yng [] [] 0 0 (.slice none 0 0) 0 _ hH0 (by decide) (by decide) (by decide) (by decide) (by simp)).mono ?_
  rintro e w2 ⟨rfl, hH2, hb2⟩
  rw [show ([] ++ (5 * 64 + 1) :: List.replicate 5 3 : List Nat) = [321, 3, 3, 3, 3, 3] from rfl, show markB ([] : List Nat).length (growB (([] : List Nat).length + (5 + 1)) []) = [1] from mark_first] at hH2
  obtain ⟨vw, vb, hb, hbp, hrw, hrb⟩ := hH2
  obtain ⟨g, cap, rfl, hg1, hg2⟩ := hrw.form (by decide)
  have c2 : w2.cell? ⟨w.heap.size, 2, none⟩ = some (.slice (some ⟨g, 0, none⟩) 6 cap) := hb.cell 2 rfl
  have c4 : w2.cell? ⟨w.heap.size, 4, none⟩ = some (.int .i64 0) := hb.cell 4 rfl
  have f4 := hb.frozen 4
  have HB2 := Lib.hid hb
  have HR2 := Lib.hid hrw
  have HV2 := Lib.hid hrb
  have HE2 := Lib.hid (((Below.refl w.heap.size w).alloc (Nat.le_refl _) (.cells #[.int .i64 lim, .int .i64 yng, .slice none 0 0, .slice none 0 0, .int .i64 0, .int .i64 0, .slice none 0 0, .int .i64 0] 53)).trans hb2)
  clear hb hrw hrb hb2 hH0
  go_wp2
  go_ret2
  refine ⟨rfl, ⟨_, vb, HB2.out.set 4 _, Nat.le_refl _, row_far HR2.out _ (HB2.out.ne HR2.out (by decide)), row_far HV2.out _ (HB2.out.ne HV2.out (by decide))⟩, HE2.out.setCell (Nat.le_refl _) _⟩

end
end Go.Proofs.Ytpkhmgbkalhilaa
