/-  IntegerRoots' walk.  -/
import Derived.Test.YtiegkjfpdiohkaaGreatMore
import Derived.Test.YtiegkjfpdiohkaaGreatLarge
import Derived.Deep.RegionHeld3
import Derived.Deep.CutRange
namespace Go.Proofs.YtiegkjfpdiohkaaGreat
open Go.RowKit Digs

theorem run_max_zero4 (w : World) (ts : Array TypeId) (t : TypeId) : (Builtin.max_ ts t #[.int .i64 0, .int .i64 0, .int .i64 0, .int .i64 0]).run Tryz.prog w = .ok (.int .i64 0) w := rfl
theorem below_dt {W w' : World} (h : Below W.drew.heap.size W.drew w') : Below W.heap.size W w' := (Below.refl W.heap.size W).drew.trans h
theorem zbox2 {W w' : World} {a b : Value} {t : TypeId} (h : Below (W.alloc (.cells #[a, b] t)).heap.size (W.alloc (.cells #[a, b] t)) w') :
    w'.cell? ⟨W.heap.size, 0, none⟩ = some a ∧ w'.cell? ⟨W.heap.size, 1, none⟩ = some b ∧ w'.frozen? ⟨W.heap.size, 0, none⟩ = false ∧ w'.frozen? ⟨W.heap.size, 1, none⟩ = false := by
  obtain ⟨h1, h2, h3, h4, _⟩ := box2 h
  exact ⟨h1, h2, h3, h4⟩
theorem zbox1 {W w' : World} {a b : Value} {t : TypeId} (h : Below (W.alloc (.cells #[a, b] t)).drew.heap.size (W.alloc (.cells #[a, b] t)).drew w') :
    w'.cell? ⟨W.heap.size, 0, none⟩ = some a ∧ w'.cell? ⟨W.heap.size, 1, none⟩ = some b ∧ w'.frozen? ⟨W.heap.size, 0, none⟩ = false ∧ w'.frozen? ⟨W.heap.size, 1, none⟩ = false := zbox2 (below_dt h)
theorem zbox3 {W w' w'' : World} {a b : Value} {t : TypeId} (h : Below (W.alloc (.cells #[a, b] t)).drew.heap.size (W.alloc (.cells #[a, b] t)).drew w') (h2 : Below w'.heap.size w' w'') :
    w''.cell? ⟨W.heap.size, 0, none⟩ = some a ∧ w''.cell? ⟨W.heap.size, 1, none⟩ = some b ∧ w''.frozen? ⟨W.heap.size, 0, none⟩ = false ∧ w''.frozen? ⟨W.heap.size, 1, none⟩ = false := zbox2 ((below_dt h).trans (h2.mono (below_dt h).size))
theorem allLe1 {a k : Nat} (h : allLe [a] k = true) : a ≤ k := by simpa [allLe] using h
theorem BX.cellA {p : Nat} {u v : Value} {z : Int} {w : World} (h : BX p u v z w) : ∀ o : Obj, (w.alloc o).cell? ⟨p, 0, none⟩ = some u ∧ (w.alloc o).cell? ⟨p, 1, none⟩ = some v := fun o =>
  (h.keep ((Below.refl _ _).alloc (Nat.le_refl _) o)).cells
theorem Bd.pow {k : Nat} {x : Int} (h : Bd k x) (n : Nat) : Bd (k * n + 1) (x ^ n) := by
  induction n with
  | zero => unfold Bd; rw [Int.pow_zero, Nat.mul_zero]; decide
  | succ n ih => rw [Int.pow_succ, Nat.mul_succ, Nat.add_right_comm]; exact Bd.mul ih h
theorem short16 (b1 : Bool) (a1 : Option Addr) (c1 : Nat) (l1 : List Nat) (w : World) (N : Nat) (hN : w.heap.size = N) (h1 : NArg w a1 c1 l1) :
    Calls Tryz.prog 12 #[.int .i64 6, .slice (some ⟨N, 0, none⟩) 1 1] (w.alloc (.cells #[.bool b1, .slice a1 l1.length c1] 24)) (BoolPost (w.alloc (.cells #[.bool b1, .slice a1 l1.length c1] 24)) (allLe [l1.length] 6)) :=
  short1a b1 a1 c1 l1 w N 6 hN h1
theorem lenZ_bd {k M : Nat} {z : Int} (h : Bd k z) (hk : 32 * k ≤ M) : lenZ z ≤ M := by
  unfold Bd at h
  rw [pow32] at h
  have h2 : (2 : Nat) ^ (32 * k) ≤ 2 ^ M := Nat.pow_le_pow_right (by decide) hk
  unfold lenZ
  split
  · exact bl_le_iff.2 (by omega)
  · exact bl_le_iff.2 (by omega)
theorem pow_ok {x : Int} {n : Nat} {v : Value} {w : World} (hx : Bd 8 x) (hn : n ≤ 14) (h : IntV w v x) : Calls Tryz.prog 92 #[v, .int .i64 n] w (IntOK w (x ^ n)) :=
  (Power_any x v n w (by omega) (len_le (by decide) hx) h).mono fun _ _ hp => hp.2 (lenZ_bd (hx.pow n) (by omega))

end Go.Proofs.YtiegkjfpdiohkaaGreat
