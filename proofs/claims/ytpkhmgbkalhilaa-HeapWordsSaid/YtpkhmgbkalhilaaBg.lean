/- begin: the bit of the last object. -/
import Derived.Test.YtpkhmgbkalhilaaHp
namespace Go.Proofs.Ytpkhmgbkalhilaa
section
open Go.RowKit

theorem Try.infoU64 : (Try.prog.info? 22).map (fun i => (i.zero, i.size, i.bytes)) = some (some (.int .u64 0), 1, 8) := by kernel_rfl
theorem Try.infoWord : (Try.prog.info? 23).map (fun i => (i.zero, i.size, i.bytes)) = some (some (.int .u64 0), 1, 8) := by kernel_rfl

/-- So many words of bits as a heap of L words needs. -/
def growB (L : Nat) (bs : List Nat) : List Nat := bs ++ List.replicate ((L + 63) / 64 - bs.length) 0
theorem growB_length (L : Nat) (bs : List Nat) : L ≤ (growB L bs).length * 64 := by
  unfold growB; rw [List.length_append, List.length_replicate]; omega
def orW (a b : Nat) : Nat := (bits BinOp.or IntKind.u64 (a : Int) (b : Int)).toNat
theorem orW_eq (a b : Nat) : bits BinOp.or IntKind.u64 (a : Int) (b : Int) = (orW a b : Int) ∧ orW a b < 18446744073709551616 := by
  have h1 := bits_lo_u64 .or (a : Int) (b : Int)
  have h2 := bits_hi_u64 .or (a : Int) (b : Int)
  unfold orW
  omega
def markB (k : Nat) (bs : List Nat) : List Nat := bs.set (k / 64) (orW (bs[k / 64]?.getD 0) (2 ^ (k % 64)))

theorem below_drewN' {B : Nat} {a w : World} (h : Below B a w) (n : Nat) : Below B a (w.drewN n) := ⟨h.os, h.tape, h.output, h.size, h.block⟩
def lenAt (w : World) (a : Addr) : Nat := match w.cell? a with | some (.slice _ n _) => n | _ => 0

theorem news_one {w : World} {B : Nat} {u : Value} {t : TypeId} {fr : Nat × Nat} (hb : w.heap[B]? = some (.cells #[u] t fr)) : ∀ (j : Nat) (v : Value), [u][j]? = some v → w.cell? ((⟨B, 0, none⟩ : Addr).add j) = some v :=
  World.news_of_block (cs := #[u]) hb

set_option maxHeartbeats 1000000 in
set_option maxRecDepth 100000 in
theorem begin_any (at' base p lim yng : Nat) (ws bs : List Nat) (old mv : Nat) (vr : Value) (nr : Nat) (w : World) (h : HeapAt w base p lim yng ws bs old mv vr nr) (ha : at' < ws.length) (hw : ws.length ≤ 100000) (hbl : bs.length ≤ 100000) :
    Calls Try.prog 25 #[.pointer (some ⟨p, 0, none⟩), .int .i64 at'] w fun e w' => e = .returned (.tuple #[]) ∧ HeapAt w' base p lim yng ws (markB at' (growB ws.length bs)) old mv vr nr ∧ Below base w w' := by
  obtain ⟨i0, hi, hz0, hz1, hz2⟩ := info_parts Try.infoU64
  obtain ⟨vw, vb, hb, hbp, hrw, hrb⟩ := h
  obtain ⟨gw, capw, rfl, hgw1, hgw2⟩ := hrw.form (by omega)
  have HB0 := Lib.hid hb
  have HRW := Lib.hid hrw
  have HRB := Lib.hid hrb
  clear hb hrw hrb
  obtain ⟨L, hL⟩ : ∃ L, L = ws.length := ⟨_, rfl⟩
  rw [← hL] at ha hw HRW HB0 ⊢
  have HL := Lib.hid hL
  clear hL
  go_enter Try.func25, Try.ntmps25
  go_wp2
  go_loopw [] (fun wr => ∃ (k : Nat) (vb : Value), k ≤ (L + 63) / 64 - bs.length ∧ HB wr p #[.int .i64 lim, .int .i64 yng, .slice (some ⟨gw, 0, none⟩) L capw, vb, .int .i64 old, .int .i64 mv, vr, .int .i64 nr] ∧
    wr.ownsRow base 23 1 (.slice (some ⟨gw, 0, none⟩) L capw) L (dw ws) ∧ wr.ownsRow base 22 1 vb (bs ++ List.replicate k 0).length (dw (bs ++ List.replicate k 0)) ∧ Below base w wr) (fun wr => L - lenAt wr ⟨p, 3, none⟩)
  case atStart => exact ⟨0, vb, Nat.zero_le _, HB0.out, HRW.out, by simpa using HRB.out, Below.refl _ _⟩
  case round =>
    obtain ⟨k, vb, hk, hb, hrw, hrb, hbl'⟩ := hrel
    have HBK := Lib.hid hb
    have HRW1 := Lib.hid hrw
    have HRB1 := Lib.hid hrb
    have HBL := Lib.hid hbl'
    have HK := Lib.hid hk
    obtain ⟨n, hn⟩ : ∃ n, n = (bs ++ List.replicate k 0).length := ⟨_, rfl⟩
    have hnk : n = bs.length + k := by rw [hn, List.length_append, List.length_replicate]
    have hn1 : n ≤ 200000 := by omega
    rw [← hn] at HRB1
    have HN := Lib.hid hn
    have HNK := Lib.hid hnk
    clear hb hrw hrb hbl' hk hn hnk
    obtain ⟨adb, capb, rfl⟩ : ∃ ad cap, vb = .slice ad n cap := by
      rcases HRB1.out.2 with ⟨rfl, rfl⟩ | ⟨g, cap, cur, rfl, _⟩
      · exact ⟨_, _, rfl⟩
      · exact ⟨_, _, rfl⟩
    have c2 : wr.cell? ⟨p, 2, none⟩ = some (.slice (some ⟨gw, 0, none⟩) L capw) := HBK.out.cell 2 rfl
    have c3 : wr.cell? ⟨p, 3, none⟩ = some (.slice adb n capb) := HBK.out.cell 3 rfl
    have hp := HBK.out.lt
    by_cases hlt : n * 64 < L
    · have hlt' : (n : Int) * 64 < (L : Int) := by omega
      have HOA := Lib.hid fun m o => World.ownsRow.alloc (row_drewN HRB1.out m) o
      go_wp2_with fail
      go_quiet (fail)
      go_wp2_with (at_builtin; refine wpList_append_lies _ rfl (.tmp 20) (.tmp 21) 50 rfl base 22 i0 (.int .u64 0) 1 8 Try.underlying50 hi hz0 hz1 hz2 rfl (by decide) _ n _ rfl (HOA.out _ _) ⟨wr.heap.size, 0, none⟩ 1 1 [.int .u64 0] rfl rfl ?c1 (by simp [Value.oneCell']) (by decide) ?c2 ?c3 ?c4 _ rfl ?_)
      case c1 => exact news_one (heap_alloc_new (wr.drewN nq) _)
      case c2 => unfold maxLen; omega
      case c3 => omega
      case c4 => have := HBL.out.size; simp at this ⊢; omega
      intro gb capb' w1 hown' hgrow hat hgl
      have hne := HBK.out.ne HRB1.out (by decide)
      have hb1 : HB w1 p _ := ((HBK.out.drewN nq).alloc (.cells #[.int .u64 0] 22)).grown hgrow hne
      have g3 : w1.cell? ⟨p, 3, none⟩ = some (.slice adb n capb) := hb1.cell 3 rfl
      have f3 := hb1.frozen 3
      have HB1 := Lib.hid hb1
      have HO1 := Lib.hid hown'
      have HG1 := Lib.hid hgrow
      clear hb1 hown' hgrow hne
      go_wp2
      have hgp : gb ≠ p := fun h => (HB1.out.ne HO1.out (by decide)) (by rw [h]; rfl)
      go_roundw
      case rel =>
        refine ⟨k + 1, .slice (some ⟨gb, 0, none⟩) (n + 1) capb', by have := HNK.out; have := HK.out; omega, HB1.out.set 3 _, ?_, ?_, ?_⟩
        · refine row_far (World.ownsRow.kept (World.ownsRow.alloc (row_drewN HRW1.out nq) _) HG1.out ?_) _ ((HB1.out.ne (World.ownsRow.kept (World.ownsRow.alloc (row_drewN HRW1.out nq) _) HG1.out ?_) (by decide)))
          · exact row_ne HRW1.out HRB1.out (by decide)
          · exact row_ne HRW1.out HRB1.out (by decide)
        · have e : bs ++ List.replicate (k + 1) 0 = (bs ++ List.replicate k 0) ++ [0] := by rw [List.append_assoc, ← List.replicate_succ']
          rw [e, dw_append, List.length_append, ← HN.out]
          exact row_far HO1.out _ (HB1.out.ne HO1.out (by decide))
        · exact (((below_drewN' HBL.out nq).alloc (by have := HBL.out.size; simp at this ⊢; omega) _).grown HG1.out (by have := HBL.out.size; simp at this ⊢; omega) (fun q hq => (HRB1.out.lt q hq).1)).setCell hbp _
      case measure =>
        have e1 : lenAt wr ⟨p, 3, none⟩ = n := by unfold lenAt; rw [c3]
        have e2 : lenAt (w1.setCell ⟨p, 3, none⟩ (.slice (some ⟨gb, 0, none⟩) (n + 1) capb')) ⟨p, 3, none⟩ = n + 1 := by unfold lenAt; rw [(HB1.out.set 3 (.slice (some ⟨gb, 0, none⟩) (n + 1) capb')).cell 3 rfl]; rfl
        rw [e1, e2]
        omega
    · have hlt' : decide ((n : Int) * 64 < (L : Int)) = false := decide_eq_false (by omega)
      have hn0 : 0 < n := by omega
      have HNL := Lib.hid (show L ≤ n * 64 by omega)
      obtain ⟨gb, capb', hbv, hgb1, hgb2⟩ := HRB1.out.form hn0
      cases hbv
      obtain ⟨q, hq⟩ : ∃ q, q = at' / 64 := ⟨_, rfl⟩
      obtain ⟨r, hr⟩ : ∃ r, r = at' % 64 := ⟨_, rfl⟩
      have hqi : (at' : Int) / 64 = (q : Int) := by omega
      have hri : (at' : Int) % 64 = (r : Int) := by omega
      have hqn : q < n := by omega
      have hr64 : r < 64 := by omega
      obtain ⟨x, hx⟩ : ∃ x, x = (bs ++ List.replicate k 0)[q]?.getD 0 := ⟨_, rfl⟩
      have cx : wr.cell? ⟨gb, q, none⟩ = some (.int .u64 (x : Int)) := by
        rw [HRB1.out.cellAt q (by omega), hx]
        have h9 : q < (bs ++ List.replicate k 0).length := by rw [← HN.out]; exact hqn
        unfold dw
        rw [List.getElem?_map, List.getElem?_eq_getElem h9]
        rfl
      have fx := HRB1.out.frozenAt q
      have hsh : IntKind.u64.wrap (2 ^ r) = ((2 ^ r : Nat) : Int) := by
        have h1 : (2 : Nat) ^ r < 2 ^ 64 := Nat.pow_lt_pow_right (by decide) hr64
        have h2 : (2 : Int) ^ r = ((2 ^ r : Nat) : Int) := by rw [Int.natCast_pow]; rfl
        rw [h2]
        generalize (2 : Nat) ^ r = y at h1 ⊢
        rw [IntKind.wrap_u64]
        omega
      obtain ⟨e1, e2⟩ := orW_eq x (2 ^ r)
      have HQ := Lib.hid hq
      have HR := Lib.hid hr
      have HX := Lib.hid hx
      clear hq hr hx hlt
      go_wp2_with fail
      go_quiet (fail)
      go_wp2_with fail
      go_region
      go_end0
      have hg : growB L bs = bs ++ List.replicate k 0 := by
        unfold growB
        have := HNK.out
        have := HK.out
        have := HNL.out
        rw [show (L + 63) / 64 - bs.length = k by omega]
      have hlen : (markB at' (growB L bs)).length = n := by rw [hg]; unfold markB; rw [List.length_set, ← HN.out]
      have hp2 : ((2 : Int) ^ r) = ((2 ^ r : Nat) : Int) := by rw [Int.natCast_pow]; rfl
      have hgp : p ≠ gb := fun h => (HBK.out.ne HRB1.out (by decide)) (by rw [h]; rfl)
      have hgw : (Value.slice (some ⟨gw, 0, none⟩) L capw).ownBlock ≠ some gb := by
        rcases row_ne HRW1.out HRB1.out (by decide) with h | h
        · cases h
        · exact h
      refine ⟨rfl, ⟨.slice (some ⟨gw, 0, none⟩) L capw, .slice (some ⟨gb, 0, none⟩) n capb, (HBK.out.drewN _).far _ hgp, hbp, ?_, ?_⟩, ?_⟩
      · rw [← HL.out]
        exact row_far (row_drewN HRW1.out _) _ hgw
      · rw [hlen, hg]
        have h1 := (World.ownsRow.stored (row_drewN HRB1.out (nq + 1)) q (.int .u64 (orW x (2 ^ r) : Int))).1
        have h2 : dw (markB at' (bs ++ List.replicate k 0)) = (dw (bs ++ List.replicate k 0)).set q (.int .u64 (orW x (2 ^ r) : Int)) := by
          unfold markB dw
          rw [List.map_set, ← HQ.out, ← HR.out, ← HX.out]
        rw [h2, hp2, e1]
        exact h1
      · exact (below_drewN' HBL.out _).setCell hgb1 _

end
end Go.Proofs.Ytpkhmgbkalhilaa
