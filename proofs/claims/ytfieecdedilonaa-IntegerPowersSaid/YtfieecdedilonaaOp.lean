/-  The sixteen operations of bits.  -/
import Derived.Test.YtfieecdedilonaaWords
namespace Go.Proofs.Ytfieecdedilonaa
open Go.RowKit Digs

def opT (t0 t1 t2 t3 a b : Nat) : Nat :=
  (((t0 &&& (4294967295 - a)) &&& (4294967295 - b)) ||| ((t1 &&& (4294967295 - a)) &&& b)) ||| ((t2 &&& a) &&& (4294967295 - b)) ||| ((t3 &&& a) &&& b)

theorem and_lt32 {a : Nat} (b : Nat) (h : a < 4294967296) : a &&& b < 4294967296 := Nat.lt_of_le_of_lt Nat.and_le_left h
theorem or_lt32 {a b : Nat} (h : a < 4294967296) (h2 : b < 4294967296) : a ||| b < 4294967296 := Nat.or_lt_two_pow (n := 32) h h2

theorem opT_lt {t0 t1 t2 t3 a b : Nat} (h0 : t0 < 4294967296) (h1 : t1 < 4294967296) (h2 : t2 < 4294967296) (h3 : t3 < 4294967296) : opT t0 t1 t2 t3 a b < 4294967296 :=
  or_lt32 (or_lt32 (or_lt32 (and_lt32 _ (and_lt32 _ h0)) (and_lt32 _ (and_lt32 _ h1))) (and_lt32 _ (and_lt32 _ h2))) (and_lt32 _ (and_lt32 _ h3))

set_option maxHeartbeats 1000000 in
set_option maxRecDepth 100000 in
theorem op_any (T : Nat) (t0 t1 t2 t3 a b : Nat) (w : World) (c0 : w.cell? ⟨T, 0, none⟩ = some (.int .u32 t0)) (c1 : w.cell? ⟨T, 1, none⟩ = some (.int .u32 t1)) (c2 : w.cell? ⟨T, 2, none⟩ = some (.int .u32 t2)) (c3 : w.cell? ⟨T, 3, none⟩ = some (.int .u32 t3))
    (h0 : t0 < 4294967296) (h1 : t1 < 4294967296) (h2 : t2 < 4294967296) (h3 : t3 < 4294967296) (ha : a < 4294967296) (hb : b < 4294967296) :
    Calls Try.prog 125 #[.int .u32 a, .int .u32 b, .pointer (some ⟨T, 0, none⟩)] w fun e w' => e = .returned (.int .u32 ((opT t0 t1 t2 t3 a b : Nat) : Int)) ∧ w' = w := by
  go_enter Try.func125, Try.ntmps125
  go_wp2
  go_ret
  refine ⟨?_, rfl⟩
  show Ending.returned (.int .u32 _) = _
  refine ret_int ?_
  unfold opT
  rw [u32_andNot_nat _ _ h0 ha, u32_andNot_nat _ _ (and_lt32 _ h0) hb, u32_andNot_nat _ _ h1 ha, u32_and_nat _ _ (and_lt32 _ h1) hb, u32_and_nat _ _ h2 ha, u32_andNot_nat _ _ (and_lt32 _ h2) hb, u32_and_nat _ _ h3 ha, u32_and_nat _ _ (and_lt32 _ h3) hb,
    u32_or_nat _ _ (and_lt32 _ (and_lt32 _ h0)) (and_lt32 _ (and_lt32 _ h1)), u32_or_nat _ _ (or_lt32 (and_lt32 _ (and_lt32 _ h0)) (and_lt32 _ (and_lt32 _ h1))) (and_lt32 _ (and_lt32 _ h2)),
    u32_or_nat _ _ (or_lt32 (or_lt32 (and_lt32 _ (and_lt32 _ h0)) (and_lt32 _ (and_lt32 _ h1))) (and_lt32 _ (and_lt32 _ h2))) (and_lt32 _ (and_lt32 _ h3))]

/-- The limb of all ones, or none, that an operation has for a pair of bits. -/
def tb (op i : Nat) : Nat := if op / 2 ^ i % 2 = 1 then 4294967295 else 0

def OperationPost (op : Nat) (w : World) (e : Ending) (w' : World) : Prop :=
  e = .returned (.func (.func 125) #[] #[.pointer (some ⟨w.heap.size, 0, none⟩)]) ∧ w' = w.alloc (.cells #[.int .u32 (tb op 0 : Nat), .int .u32 (tb op 1 : Nat), .int .u32 (tb op 2 : Nat), .int .u32 (tb op 3 : Nat)] 143)

set_option maxHeartbeats 1000000 in
set_option maxRecDepth 100000 in
theorem operation_0 (w : World) : Calls Try.prog 100 #[.int .i64 0] w (OperationPost 0 w) := by
  have hmf : ∀ (fn : Fn) (first cap : Array Value) (w : World), (Instr.makeFunc fn first cap).run Try.prog w = .ok (.func fn first cap) w := fun _ _ _ _ => rfl
  go_enter Try.func100, Try.ntmps100
  go_wp2
  refine wp_loop_rounds 5 ?_
  iterate 5 (rw [rounds_succ]; go_wp2)
  go_ret
  exact ⟨rfl, rfl⟩

set_option maxHeartbeats 1000000 in
set_option maxRecDepth 100000 in
theorem operation_1 (w : World) : Calls Try.prog 100 #[.int .i64 1] w (OperationPost 1 w) := by
  have hmf : ∀ (fn : Fn) (first cap : Array Value) (w : World), (Instr.makeFunc fn first cap).run Try.prog w = .ok (.func fn first cap) w := fun _ _ _ _ => rfl
  go_enter Try.func100, Try.ntmps100
  go_wp2
  refine wp_loop_rounds 5 ?_
  iterate 5 (rw [rounds_succ]; go_wp2)
  go_ret
  exact ⟨rfl, rfl⟩

set_option maxHeartbeats 1000000 in
set_option maxRecDepth 100000 in
theorem operation_2 (w : World) : Calls Try.prog 100 #[.int .i64 2] w (OperationPost 2 w) := by
  have hmf : ∀ (fn : Fn) (first cap : Array Value) (w : World), (Instr.makeFunc fn first cap).run Try.prog w = .ok (.func fn first cap) w := fun _ _ _ _ => rfl
  go_enter Try.func100, Try.ntmps100
  go_wp2
  refine wp_loop_rounds 5 ?_
  iterate 5 (rw [rounds_succ]; go_wp2)
  go_ret
  exact ⟨rfl, rfl⟩

set_option maxHeartbeats 1000000 in
set_option maxRecDepth 100000 in
theorem operation_3 (w : World) : Calls Try.prog 100 #[.int .i64 3] w (OperationPost 3 w) := by
  have hmf : ∀ (fn : Fn) (first cap : Array Value) (w : World), (Instr.makeFunc fn first cap).run Try.prog w = .ok (.func fn first cap) w := fun _ _ _ _ => rfl
  go_enter Try.func100, Try.ntmps100
  go_wp2
  refine wp_loop_rounds 5 ?_
  iterate 5 (rw [rounds_succ]; go_wp2)
  go_ret
  exact ⟨rfl, rfl⟩

set_option maxHeartbeats 1000000 in
set_option maxRecDepth 100000 in
theorem operation_4 (w : World) : Calls Try.prog 100 #[.int .i64 4] w (OperationPost 4 w) := by
  have hmf : ∀ (fn : Fn) (first cap : Array Value) (w : World), (Instr.makeFunc fn first cap).run Try.prog w = .ok (.func fn first cap) w := fun _ _ _ _ => rfl
  go_enter Try.func100, Try.ntmps100
  go_wp2
  refine wp_loop_rounds 5 ?_
  iterate 5 (rw [rounds_succ]; go_wp2)
  go_ret
  exact ⟨rfl, rfl⟩

set_option maxHeartbeats 1000000 in
set_option maxRecDepth 100000 in
theorem operation_5 (w : World) : Calls Try.prog 100 #[.int .i64 5] w (OperationPost 5 w) := by
  have hmf : ∀ (fn : Fn) (first cap : Array Value) (w : World), (Instr.makeFunc fn first cap).run Try.prog w = .ok (.func fn first cap) w := fun _ _ _ _ => rfl
  go_enter Try.func100, Try.ntmps100
  go_wp2
  refine wp_loop_rounds 5 ?_
  iterate 5 (rw [rounds_succ]; go_wp2)
  go_ret
  exact ⟨rfl, rfl⟩

set_option maxHeartbeats 1000000 in
set_option maxRecDepth 100000 in
theorem operation_6 (w : World) : Calls Try.prog 100 #[.int .i64 6] w (OperationPost 6 w) := by
  have hmf : ∀ (fn : Fn) (first cap : Array Value) (w : World), (Instr.makeFunc fn first cap).run Try.prog w = .ok (.func fn first cap) w := fun _ _ _ _ => rfl
  go_enter Try.func100, Try.ntmps100
  go_wp2
  refine wp_loop_rounds 5 ?_
  iterate 5 (rw [rounds_succ]; go_wp2)
  go_ret
  exact ⟨rfl, rfl⟩

set_option maxHeartbeats 1000000 in
set_option maxRecDepth 100000 in
theorem operation_7 (w : World) : Calls Try.prog 100 #[.int .i64 7] w (OperationPost 7 w) := by
  have hmf : ∀ (fn : Fn) (first cap : Array Value) (w : World), (Instr.makeFunc fn first cap).run Try.prog w = .ok (.func fn first cap) w := fun _ _ _ _ => rfl
  go_enter Try.func100, Try.ntmps100
  go_wp2
  refine wp_loop_rounds 5 ?_
  iterate 5 (rw [rounds_succ]; go_wp2)
  go_ret
  exact ⟨rfl, rfl⟩

set_option maxHeartbeats 1000000 in
set_option maxRecDepth 100000 in
theorem operation_8 (w : World) : Calls Try.prog 100 #[.int .i64 8] w (OperationPost 8 w) := by
  have hmf : ∀ (fn : Fn) (first cap : Array Value) (w : World), (Instr.makeFunc fn first cap).run Try.prog w = .ok (.func fn first cap) w := fun _ _ _ _ => rfl
  go_enter Try.func100, Try.ntmps100
  go_wp2
  refine wp_loop_rounds 5 ?_
  iterate 5 (rw [rounds_succ]; go_wp2)
  go_ret
  exact ⟨rfl, rfl⟩

set_option maxHeartbeats 1000000 in
set_option maxRecDepth 100000 in
theorem operation_9 (w : World) : Calls Try.prog 100 #[.int .i64 9] w (OperationPost 9 w) := by
  have hmf : ∀ (fn : Fn) (first cap : Array Value) (w : World), (Instr.makeFunc fn first cap).run Try.prog w = .ok (.func fn first cap) w := fun _ _ _ _ => rfl
  go_enter Try.func100, Try.ntmps100
  go_wp2
  refine wp_loop_rounds 5 ?_
  iterate 5 (rw [rounds_succ]; go_wp2)
  go_ret
  exact ⟨rfl, rfl⟩

set_option maxHeartbeats 1000000 in
set_option maxRecDepth 100000 in
theorem operation_10 (w : World) : Calls Try.prog 100 #[.int .i64 10] w (OperationPost 10 w) := by
  have hmf : ∀ (fn : Fn) (first cap : Array Value) (w : World), (Instr.makeFunc fn first cap).run Try.prog w = .ok (.func fn first cap) w := fun _ _ _ _ => rfl
  go_enter Try.func100, Try.ntmps100
  go_wp2
  refine wp_loop_rounds 5 ?_
  iterate 5 (rw [rounds_succ]; go_wp2)
  go_ret
  exact ⟨rfl, rfl⟩

set_option maxHeartbeats 1000000 in
set_option maxRecDepth 100000 in
theorem operation_11 (w : World) : Calls Try.prog 100 #[.int .i64 11] w (OperationPost 11 w) := by
  have hmf : ∀ (fn : Fn) (first cap : Array Value) (w : World), (Instr.makeFunc fn first cap).run Try.prog w = .ok (.func fn first cap) w := fun _ _ _ _ => rfl
  go_enter Try.func100, Try.ntmps100
  go_wp2
  refine wp_loop_rounds 5 ?_
  iterate 5 (rw [rounds_succ]; go_wp2)
  go_ret
  exact ⟨rfl, rfl⟩

set_option maxHeartbeats 1000000 in
set_option maxRecDepth 100000 in
theorem operation_12 (w : World) : Calls Try.prog 100 #[.int .i64 12] w (OperationPost 12 w) := by
  have hmf : ∀ (fn : Fn) (first cap : Array Value) (w : World), (Instr.makeFunc fn first cap).run Try.prog w = .ok (.func fn first cap) w := fun _ _ _ _ => rfl
  go_enter Try.func100, Try.ntmps100
  go_wp2
  refine wp_loop_rounds 5 ?_
  iterate 5 (rw [rounds_succ]; go_wp2)
  go_ret
  exact ⟨rfl, rfl⟩

set_option maxHeartbeats 1000000 in
set_option maxRecDepth 100000 in
theorem operation_13 (w : World) : Calls Try.prog 100 #[.int .i64 13] w (OperationPost 13 w) := by
  have hmf : ∀ (fn : Fn) (first cap : Array Value) (w : World), (Instr.makeFunc fn first cap).run Try.prog w = .ok (.func fn first cap) w := fun _ _ _ _ => rfl
  go_enter Try.func100, Try.ntmps100
  go_wp2
  refine wp_loop_rounds 5 ?_
  iterate 5 (rw [rounds_succ]; go_wp2)
  go_ret
  exact ⟨rfl, rfl⟩

set_option maxHeartbeats 1000000 in
set_option maxRecDepth 100000 in
theorem operation_14 (w : World) : Calls Try.prog 100 #[.int .i64 14] w (OperationPost 14 w) := by
  have hmf : ∀ (fn : Fn) (first cap : Array Value) (w : World), (Instr.makeFunc fn first cap).run Try.prog w = .ok (.func fn first cap) w := fun _ _ _ _ => rfl
  go_enter Try.func100, Try.ntmps100
  go_wp2
  refine wp_loop_rounds 5 ?_
  iterate 5 (rw [rounds_succ]; go_wp2)
  go_ret
  exact ⟨rfl, rfl⟩

set_option maxHeartbeats 1000000 in
set_option maxRecDepth 100000 in
theorem operation_15 (w : World) : Calls Try.prog 100 #[.int .i64 15] w (OperationPost 15 w) := by
  have hmf : ∀ (fn : Fn) (first cap : Array Value) (w : World), (Instr.makeFunc fn first cap).run Try.prog w = .ok (.func fn first cap) w := fun _ _ _ _ => rfl
  go_enter Try.func100, Try.ntmps100
  go_wp2
  refine wp_loop_rounds 5 ?_
  iterate 5 (rw [rounds_succ]; go_wp2)
  go_ret
  exact ⟨rfl, rfl⟩

theorem operation_any (op : Nat) (w : World) (hop : op ≤ 15) : Calls Try.prog 100 #[.int .i64 op] w (OperationPost op w) := by
  rcases (show op = 0 ∨ op = 1 ∨ op = 2 ∨ op = 3 ∨ op = 4 ∨ op = 5 ∨ op = 6 ∨ op = 7 ∨ op = 8 ∨ op = 9 ∨ op = 10 ∨ op = 11 ∨ op = 12 ∨ op = 13 ∨ op = 14 ∨ op = 15 by omega) with rfl | rfl | rfl | rfl | rfl | rfl | rfl | rfl | rfl | rfl | rfl | rfl | rfl | rfl | rfl | rfl
  · exact operation_0 w
  · exact operation_1 w
  · exact operation_2 w
  · exact operation_3 w
  · exact operation_4 w
  · exact operation_5 w
  · exact operation_6 w
  · exact operation_7 w
  · exact operation_8 w
  · exact operation_9 w
  · exact operation_10 w
  · exact operation_11 w
  · exact operation_12 w
  · exact operation_13 w
  · exact operation_14 w
  · exact operation_15 w

end Go.Proofs.Ytfieecdedilonaa
