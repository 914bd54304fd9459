/-  Math Base  -/
import Derived.Test.YtghgcbedajaldaaGreatRows
import Derived.WalkKit
import Derived.WalkSpells
import Derived.WalkLawsBesides
import Derived.Lib.Hide
import Derived.Deep.QuietTactic
import Derived.BigQuiet
import Derived.Outline
/-  PLAIN MATHEMATICS of digits to a base and of arithmetic by hand: nothing of a program.  -/
namespace Digs
def digs (b n : Nat) : List Nat := if _h : n = 0 ∨ b < 2 then [] else n % b :: digs b (n / b)
termination_by n
decreasing_by exact Nat.div_lt_self (by omega) (by omega)
def vl (b : Nat) : List Nat → Nat
 | [] => 0
 | x :: xs => x + b * vl b xs
theorem digs_zero (b : Nat) : digs b 0 = [] := by rw [digs]; simp
theorem digs_pos {b n : Nat} (hb : 2 ≤ b) (hn : n ≠ 0) : digs b n = n % b :: digs b (n / b) := by
 rw [digs]; rw [dif_neg (by omega)]
theorem vl_digs {b : Nat} (hb : 2 ≤ b) (n : Nat) : vl b (digs b n) = n := by
 induction n using Nat.strongRecOn with
 | ind n ih =>
  by_cases h : n = 0
  ·subst h; rw [digs_zero]; rfl
  ·rw [digs_pos hb h, vl, ih (n / b) (Nat.div_lt_self (by omega) (by omega))]
   exact Nat.mod_add_div n b
theorem digs_lt {b : Nat} (hb : 2 ≤ b) (n : Nat) : ∀ x ∈ digs b n, x < b := by
 induction n using Nat.strongRecOn with
 | ind n ih =>
  by_cases h : n = 0
  ·subst h; rw [digs_zero]; intro x hx; cases hx
  ·rw [digs_pos hb h]
   intro x hx
   rcases List.mem_cons.1 hx with rfl | hx
   ·exact Nat.mod_lt _ (by omega)
   ·exact ih (n / b) (Nat.div_lt_self (by omega) (by omega)) x hx
theorem vl_append (b : Nat) (l m : List Nat) : vl b (l ++ m) = vl b l + b ^ l.length * vl b m := by
 induction l with
 | nil => simp [vl]
 | cons x xs ih => simp [vl, ih, Nat.pow_succ, Nat.mul_add, Nat.mul_left_comm, Nat.mul_comm, Nat.add_assoc]
theorem vl_snoc (b : Nat) (l : List Nat) (x : Nat) : vl b (l ++ [x]) = vl b l + b ^ l.length * x := by
 rw [vl_append]; simp [vl]
theorem vl_lt {b : Nat} (l : List Nat) (h : ∀ x ∈ l, x < b) : vl b l < b ^ l.length := by
 induction l with
 | nil => simp [vl]
 | cons x xs ih =>
  have h1 := h x (List.mem_cons_self ..)
  have h2 := ih (fun y hy => h y (List.mem_cons_of_mem _ hy))
  have h3 : b * (vl b xs + 1) ≤ b * b ^ xs.length := Nat.mul_le_mul_left b h2
  rw [vl, List.length_cons, Nat.pow_succ, Nat.mul_comm (b ^ xs.length) b]
  rw [Nat.mul_add] at h3
  omega
theorem vl_take_succ (b : Nat) (l : List Nat) (k : Nat) (h : k < l.length) : vl b (l.take (k + 1)) = vl b (l.take k) + b ^ k * l[k]?.getD 0 := by
 rw [List.take_add_one, List.getElem?_eq_getElem h]
 simp only [Option.toList_some, Option.getD_some]
 rw [vl_snoc, List.length_take, Nat.min_eq_left (by omega)]
theorem vl_replicate_zero (b n : Nat) : vl b (List.replicate n 0) = 0 := by
 induction n with
 | zero => rfl
 | succ n ih => simp [List.replicate_succ, vl, ih]
theorem vl_zeros (b : Nat) (l : List Nat) (h : ∀ x ∈ l, x = 0) : vl b l = 0 := by
 induction l with
 | nil => rfl
 | cons x xs ih => simp [vl, h x (List.mem_cons_self ..), ih (fun y hy => h y (List.mem_cons_of_mem _ hy))]
theorem all_zero {b : Nat} (hb : 2 ≤ b) (l : List Nat) (h0 : vl b l = 0) : ∀ z ∈ l, z = 0 := by
 induction l with
 | nil => intro z hz; cases hz
 | cons u us ih =>
  rw [vl] at h0
  have hu : u = 0 := by omega
  have h2 : vl b us = 0 := by
   rcases Nat.mul_eq_zero.1 (show b * vl b us = 0 by omega) with h3 | h3
   ·omega
   ·exact h3
  intro z hz
  rcases List.mem_cons.1 hz with rfl | hz
  ·exact hu
  ·exact ih h2 z hz
theorem digs_vl {b : Nat} (hb : 2 ≤ b) (l : List Nat) (h : ∀ x ∈ l, x < b) (hn : l = [] ∨ ∃ x, l.getLast? = some x ∧ x ≠ 0) : digs b (vl b l) = l := by
 induction l with
 | nil => rw [vl, digs_zero]
 | cons x xs ih =>
  have hx := h x (List.mem_cons_self ..)
  have hxs : ∀ y ∈ xs, y < b := fun y hy => h y (List.mem_cons_of_mem _ hy)
  have hne : vl b (x :: xs) ≠ 0 := by
   rcases hn with hn | ⟨y, hy, hy0⟩
   ·cases hn
   ·intro h0
    have h1 := all_zero hb (x :: xs) h0
    exact hy0 (h1 y (List.mem_of_getLast? hy))
  have e1 : vl b (x :: xs) % b = x := by rw [vl, Nat.add_mul_mod_self_left, Nat.mod_eq_of_lt hx]
  have e2 : vl b (x :: xs) / b = vl b xs := by rw [vl, Nat.add_mul_div_left _ _ (by omega), Nat.div_eq_of_lt hx]; omega
  rw [digs_pos hb hne, e1, e2, ih hxs]
  cases xs with
  | nil => exact .inl rfl
  | cons u us =>
   rcases hn with hn | ⟨y, hy, hy0⟩
   ·cases hn
   ·exact .inr ⟨y, by simpa using hy, hy0⟩
theorem digs_trim {b : Nat} (hb : 2 ≤ b) (l : List Nat) (k : Nat) (h : ∀ x ∈ l, x < b) (hk : k ≤ l.length) (hz : ∀ j, k ≤ j → l[j]?.getD 0 = 0) (hn : k = 0 ∨ l[k - 1]?.getD 0 ≠ 0) : l.take k = digs b (vl b l) := by
 have e : vl b l = vl b (l.take k) := by
  have h1 : vl b l = vl b (l.take k ++ l.drop k) := by rw [List.take_append_drop]
  rw [h1, vl_append, vl_zeros b (l.drop k)]
  ·omega
  ·intro x hx
   obtain ⟨j, hj, rfl⟩ := List.getElem_of_mem hx
   have := hz (k + j) (by omega)
   simp only [List.length_drop] at hj
   rw [List.getElem?_eq_getElem (by omega)] at this
   simpa using this
 rw [e, digs_vl hb]
 ·intro x hx; exact h x (List.mem_of_mem_take hx)
 ·rcases hn with rfl | hn
  ·left; simp
  ·right
   have hk0 : 0 < k := by
    rcases Nat.eq_zero_or_pos k with rfl | h0
    ·exact absurd (hz 0 (by omega)) hn
    ·exact h0
   refine ⟨l[k-1]?.getD 0, ?_, hn⟩
   rw [List.getLast?_eq_getElem?, List.length_take, Nat.min_eq_left hk, List.getElem?_take, if_pos (by omega), List.getElem?_eq_getElem (by omega)]
   rfl
theorem digs_length_le {b : Nat} (hb : 2 ≤ b) (n k : Nat) (h : n < b ^ k) : (digs b n).length ≤ k := by
  induction k generalizing n with
  | zero => have : n = 0 := by simpa using h
            subst this; rw [digs_zero]; simp
  | succ k ih =>
    by_cases h0 : n = 0
    · subst h0; rw [digs_zero]; simp
    · rw [digs_pos hb h0, List.length_cons]
      have := ih (n / b) (by rw [Nat.div_lt_iff_lt_mul (by omega), ← Nat.pow_succ]; exact h)
      omega

theorem digs_lt_pow {b : Nat} (hb : 2 ≤ b) (n : Nat) : n < b ^ (digs b n).length := by
 have := vl_lt (digs b n) (digs_lt hb n)
 rwa [vl_digs hb] at this
theorem digs_getLast {b : Nat} (hb : 2 ≤ b) (n : Nat) (h0 : n ≠ 0) : ∃ x, (digs b n).getLast? = some x ∧ x ≠ 0 := by
 induction n using Nat.strongRecOn with
 | ind n ih =>
  rw [digs_pos hb h0]
  by_cases h : n / b = 0
  ·rw [h, digs_zero]
   refine ⟨n % b, rfl, ?_⟩
   have : n < b := (Nat.div_eq_zero_iff_lt (by omega)).1 h
   rw [Nat.mod_eq_of_lt this]; exact h0
  ·obtain ⟨x, hx, hx0⟩ := ih (n / b) (Nat.div_lt_self (by omega) (by omega)) h
   refine ⟨x, ?_, hx0⟩
   cases hd : digs b (n / b) with
   | nil => rw [hd] at hx; cases hx
   | cons u us => rw [hd] at hx; simpa using hx
theorem digs_length_mono {b : Nat} (hb : 2 ≤ b) {m n : Nat} (h : m ≤ n) : (digs b m).length ≤ (digs b n).length :=
 digs_length_le hb m _ (Nat.lt_of_le_of_lt h (digs_lt_pow hb n))
theorem digs_inj {b : Nat} (hb : 2 ≤ b) {m n : Nat} (h : digs b m = digs b n) : m = n := by
 rw [← vl_digs hb m, h, vl_digs hb]
theorem lt_of_length_lt {b : Nat} (hb : 2 ≤ b) {m n : Nat} (h : (digs b m).length < (digs b n).length) : m < n := by
 rcases Nat.lt_or_ge m n with h1 | h1
 ·exact h1
 ·have := digs_length_mono hb h1; omega
theorem digs_length_zero {b : Nat} (hb : 2 ≤ b) (n : Nat) : (digs b n).length = 0 ↔ n = 0 := by
 constructor
 ·intro h
  by_cases h0 : n = 0
  ·exact h0
  ·rw [digs_pos hb h0] at h; simp at h
 ·rintro rfl; rw [digs_zero]; rfl
theorem vl_lt_of_top {b : Nat} (l m : List Nat) (k : Nat) (hlm : l.length = m.length) (hl : ∀ x ∈ l, x < b) (hk : k < l.length) (hhi : ∀ j, k < j → l[j]?.getD 0 = m[j]?.getD 0) (hlt : l[k]?.getD 0 < m[k]?.getD 0) : vl b l < vl b m := by
 induction l generalizing m k with
 | nil => simp at hk
 | cons x xs ih =>
  cases m with
  | nil => simp at hlm
  | cons y ys =>
   cases k with
   | zero =>
    have e : xs = ys := by
     apply List.ext_getElem?
     intro j
     have := hhi (j + 1) (by omega)
     simp only [List.getElem?_cons_succ] at this
     simp only [List.length_cons] at hlm
     by_cases hj : j < xs.length
     ·rw [List.getElem?_eq_getElem hj, List.getElem?_eq_getElem (by omega)] at this ⊢
      simpa using this
     ·rw [List.getElem?_eq_none (by omega), List.getElem?_eq_none (by omega)]
    subst e
    simp at hlt
    simp [vl]; omega
   | succ k =>
    have h1 := ih ys k (by simpa using hlm) (fun z hz => hl z (List.mem_cons_of_mem _ hz)) (by simpa using hk) (fun j hj => by simpa using hhi (j + 1) (by omega)) (by simpa using hlt)
    have hx := hl x (List.mem_cons_self ..)
    have h2 : b * (vl b xs + 1) ≤ b * vl b ys := Nat.mul_le_mul_left b h1
    rw [Nat.mul_add] at h2
    simp only [vl]
    omega
end Digs
namespace Digs
theorem split_mod (P b t : Nat) : P * (t % b) + P * b * (t / b) = P * t := by
 rw [Nat.mul_assoc, ← Nat.mul_add, Nat.mod_add_div]
theorem add_step {b i : Nat} (s : List Nat) (c x y A A' D D' : Nat) (hs : s.length = i) (h : vl b s + b ^ i * c = A + D) (hA : A' = A + b ^ i * x) (hD : D' = D + b ^ i * y) :
  vl b (s ++ [(c + x + y) % b]) + b ^ (i + 1) * ((c + x + y) / b) = A' + D' := by
 rw [vl_snoc, hs, Nat.pow_succ, hA, hD]
 have h1 := split_mod (b ^ i) b (c + x + y)
 rw [Nat.mul_add, Nat.mul_add] at h1
 omega
theorem sub_step {b i : Nat} (s : List Nat) (r x y d r' A A' D D' : Nat) (hs : s.length = i) (h : A + b ^ i * r = vl b s + D) (hA : A' = A + b ^ i * x) (hD : D' = D + b ^ i * y) (hd : x + b * r' = d + y + r) :
  A' + b ^ (i + 1) * r' = vl b (s ++ [d]) + D' := by
 rw [vl_snoc, hs, Nat.pow_succ, hA, hD]
 have h1 : b ^ i * (x + b * r') = b ^ i * (d + y + r) := by rw [hd]
 rw [Nat.mul_add, Nat.mul_add, Nat.mul_add, ← Nat.mul_assoc] at h1
 omega
theorem vl_set (b : Nat) (l : List Nat) (k x : Nat) (h : k < l.length) : vl b (l.set k x) + b ^ k * l[k]?.getD 0 = vl b l + b ^ k * x := by
 induction l generalizing k with
 | nil => simp at h
 | cons y ys ih =>
  cases k with
  | zero => simp [vl]; omega
  | succ k =>
   have h1 := ih k (by simpa using h)
   simp only [List.set_cons_succ, vl, List.getElem?_cons_succ, Nat.pow_succ]
   have h2 : b * (vl b (ys.set k x) + b ^ k * ys[k]?.getD 0) = b * (vl b ys + b ^ k * x) := by rw [h1]
   rw [Nat.mul_add, Nat.mul_add] at h2
   have e1 : b * (b ^ k * ys[k]?.getD 0) = b ^ k * b * ys[k]?.getD 0 := by rw [← Nat.mul_assoc, Nat.mul_comm b]
   have e2 : b * (b ^ k * x) = b ^ k * b * x := by rw [← Nat.mul_assoc, Nat.mul_comm b]
   rw [e1, e2] at h2
   omega
theorem mul_step {b : Nat} (p : List Nat) (i k c x y V W : Nat) (hk : i + k < p.length) (h : vl b p + b ^ (i + k) * c = V + b ^ i * (x * W)) :
  vl b (p.set (i + k) ((c + x * y + p[i + k]?.getD 0) % b)) + b ^ (i + (k + 1)) * ((c + x * y + p[i + k]?.getD 0) / b) = V + b ^ i * (x * (W + b ^ k * y)) := by
 have h1 := vl_set b p (i + k) ((c + x * y + p[i + k]?.getD 0) % b) hk
 have h2 := split_mod (b ^ (i + k)) b (c + x * y + p[i + k]?.getD 0)
 rw [← Nat.add_assoc, Nat.pow_succ]
 have e : b ^ i * (x * (W + b ^ k * y)) = b ^ i * (x * W) + b ^ (i + k) * (x * y) := by
  rw [Nat.mul_add, Nat.mul_add, Nat.pow_add]
  congr 1
  rw [Nat.mul_left_comm x, Nat.mul_assoc]
 rw [e]
 rw [Nat.mul_add, Nat.mul_add] at h2
 omega
theorem mul_row {b : Nat} (p : List Nat) (j c V Z : Nat) (hj : j < p.length) (h0 : p[j]?.getD 0 = 0) (h : vl b p + b ^ j * c = V + Z) : vl b (p.set j c) = V + Z := by
 have h1 := vl_set b p j c hj
 rw [h0] at h1
 omega
theorem carry_lt {b x y c z : Nat} (hb : 0 < b) (hx : x < b) (hy : y < b) (hc : c < b) (hz : z < b) : c + x * y + z < b * b := by
 have h1 : x * y ≤ (b - 1) * (b - 1) := Nat.mul_le_mul (by omega) (by omega)
 obtain ⟨n, rfl⟩ : ∃ n, b = n + 1 := ⟨b - 1, by omega⟩
 have : (n + 1) * (n + 1) = n * n + n + n + 1 := by rw [Nat.mul_add, Nat.add_mul]; omega
 simp only [Nat.add_sub_cancel] at h1
 omega
theorem vl_drop_step (b : Nat) (l : List Nat) (i : Nat) (h : i < l.length) : vl b (l.drop i) = l[i]?.getD 0 + b * vl b (l.drop (i + 1)) := by
 rw [List.drop_eq_getElem_cons h, vl, List.getElem?_eq_getElem h]; rfl
theorem div_step {b d : Nat} (x r Q A : Nat) (h : A = d * Q + r) : x + b * A = d * ((x + b * r) / d + b * Q) + (x + b * r) % d := by
 have h1 := Nat.div_add_mod (x + b * r) d
 rw [Nat.mul_add d, h, Nat.mul_add b]
 have e : b * (d * Q) = d * (b * Q) := Nat.mul_left_comm b d Q
 omega
def cmpN (m n : Nat) : Int := if m < n then -1 else if n < m then 1 else 0
def cmpZ (x y : Int) : Int := if x < y then -1 else if y < x then 1 else 0
theorem cmpN_self (n : Nat) : cmpN n n = 0 := by simp [cmpN]
end Digs
/-  What a slice of words reads as; small facts on worlds.  -/
namespace Go.Proofs.YtghgcbedajaldaaGreat
open Go.RowKit Digs
def Rd (k : IntKind) (w : World) (v : Value) (l : List Nat) : Prop :=
 (v = .slice none 0 0 ∧ l = []) ∨ ∃ b off cap, v = .slice (some ⟨b, off, none⟩) l.length cap ∧ b < w.heap.size ∧ l.length ≤ cap ∧ cap ≤ maxLen ∧ ∀ j, j < l.length → w.cell? ⟨b, off + j, none⟩ = some (.int k ((l[j]?.getD 0 : Nat) : Int))
theorem Rd.keep {k : IntKind} {w w' : World} {v : Value} {l : List Nat} (h : Rd k w v l) (hb : Below w.heap.size w w') : Rd k w' v l := by
 rcases h with h | ⟨b, off, cap, rfl, h1, h2, h3, h4⟩
 ·exact .inl h
 ·exact .inr ⟨b, off, cap, rfl, Nat.lt_of_lt_of_le h1 hb.size, h2, h3, fun j hj => (hb.cell (p := ⟨b, off + j, none⟩) h1).trans (h4 j hj)⟩
theorem quiet_add_same {P : Program} {f : FuncId} {args : Array Value} {w : World} {a n : Nat} {v : Value}
  (h : Calls P f args (w.drewN (a + n)) fun e w' => e = .returned v ∧ w' = w.drewN (a + n)) :
  Calls P f args (w.drewN (a + n)) fun e w'' => e = .returned v ∧ ∃ m, w'' = w.drewN (a + m) :=
 h.mono fun _ _ ⟨he, hm⟩ => ⟨he, n, hm⟩
theorem below_drewN' {B : Nat} {a w : World} (h : Below B a w) (n : Nat) : Below B a (w.drewN n) := ⟨h.os, h.tape, h.output, h.size, h.block⟩
theorem drewN3 (w : World) (a b c : Nat) : ∃ n, ((w.drewN a).drewN b).drewN c = w.drewN n := ⟨a + (b + c), by rw [World.drewN_drewN, World.drewN_drewN]⟩
theorem ret_int {k : IntKind} {a b : Int} (h : a = b) : Ending.returned (.int k a) = .returned (.int k b) := by rw [h]
theorem ret_bool {a b : Bool} (h : a = b) : Ending.returned (.bool a) = .returned (.bool b) := by rw [h]
theorem Tryz.infoU32 : (Tryz.prog.info? 137).map (fun i => (i.zero, i.size, i.bytes)) = some (some (.int .u32 0), 1, 4) := by kernel_rfl
def uw (l : List Nat) : List Value := l.map fun n : Nat => Value.int .u32 (n : Int)
theorem uw_length (l : List Nat) : (uw l).length = l.length := by simp [uw]
theorem uw_append (l m : List Nat) : uw (l ++ m) = uw l ++ uw m := by simp [uw]
theorem uw_oneCell (l : List Nat) : ∀ u ∈ uw l, u.oneCell' = true := by
 intro u hu
 simp only [uw, List.mem_map] at hu
 obtain ⟨n, _, rfl⟩ := hu
 rfl
theorem uw_getElem? (l : List Nat) (j : Nat) (h : j < l.length) : (uw l)[j]? = some (.int .u32 ((l[j]?.getD 0 : Nat) : Int)) := by
 simp [uw, List.getElem?_map, List.getElem?_eq_getElem h]
def Ow (w : World) (base : Nat) (v : Value) (l : List Nat) : Prop := w.ownsRow base 137 1 v l.length (uw l)
theorem Ow.rd {w : World} {base : Nat} {v : Value} {l : List Nat} (h : Ow w base v l) : Rd .u32 w v l := by
 have h0 := h
 obtain ⟨_, ⟨rfl, hn⟩ | ⟨g, cap, cur, rfl, _, hg, hc, hm, _, ht⟩⟩ := h
 ·exact .inl ⟨rfl, List.eq_nil_of_length_eq_zero hn⟩
 ·refine .inr ⟨g, 0, cap, rfl, (Array.getElem?_eq_some_iff.1 hg).1, hc, hm, fun j hj => ?_⟩
  rw [Nat.zero_add, World.cell?]
  simp only [hg]
  have h1 := uw_getElem? l j hj
  rw [← ht, List.getElem?_take, if_pos (by omega)] at h1
  simpa using h1
theorem Ow.keep {w w' : World} {base : Nat} {v : Value} {l : List Nat} (h : Ow w base v l) (hb : Below w.heap.size w w') : Ow w' base v l := by
 refine ⟨h.1, ?_⟩
 rcases h.2 with hn | ⟨g, cap, cur, rfl, hg, hgg, rest⟩
 ·exact .inl hn
 ·exact .inr ⟨g, cap, cur, rfl, hg, by rw [hb.block g (Array.getElem?_eq_some_iff.1 hgg).1]; exact hgg, rest⟩
theorem Rd.news {k : IntKind} {w : World} {b off : Nat} {l : List Nat} (h : ∀ j, j < l.length → w.cell? ⟨b, off + j, none⟩ = some (.int k ((l[j]?.getD 0 : Nat) : Int))) :
  ∀ (j : Nat) (u : Value), (l.map fun n : Nat => Value.int k (n : Int))[j]? = some u → w.cell? ((⟨b, off, none⟩ : Addr).add j) = some u := by
 intro j u hu
 rw [Addr.add_lit]
 by_cases hj : j < l.length
 ·rw [h j hj]
  rw [List.getElem?_map, List.getElem?_eq_getElem hj] at hu
  rw [List.getElem?_eq_getElem hj]
  simpa using hu
 ·rw [List.getElem?_map, List.getElem?_eq_none (by omega)] at hu
  cases hu
theorem Rd.take {k : IntKind} {w : World} {b off cap n : Nat} {l d : List Nat} (hlc : l.length ≤ cap) (hcm : cap ≤ maxLen) (hb : b < w.heap.size)
  (hc : ∀ j, j < l.length → w.cell? ⟨b, off + j, none⟩ = some (.int k ((l[j]?.getD 0 : Nat) : Int))) (hn : n ≤ l.length) (hd : l.take n = d) : Rd k w (.slice (some ⟨b, off, none⟩) n cap) d := by
 subst hd
 have hlen : (l.take n).length = n := by rw [List.length_take]; omega
 refine .inr ⟨b, off, cap, by rw [hlen], hb, by rw [hlen]; omega, hcm, fun j hj => ?_⟩
 rw [hlen] at hj
 rw [hc j (by omega), List.getElem?_take, if_pos hj]
theorem cells_alloc {k : IntKind} {w : World} {b off n : Nat} {f : Nat → Nat} (o : Obj) (hb : b < w.heap.size) (hc : ∀ j, j < n → w.cell? ⟨b, off + j, none⟩ = some (.int k ((f j : Nat) : Int))) :
  ∀ j, j < n → (w.alloc o).cell? ⟨b, off + j, none⟩ = some (.int k ((f j : Nat) : Int)) := fun j hj => by
 rw [World.cell?_alloc_past _ _ _ hb]; exact hc j hj
theorem box2 {w w2 : World} {a b : Value} {t : TypeId} (h : Below (w.alloc (.cells #[a, b] t)).heap.size (w.alloc (.cells #[a, b] t)) w2) :
  w2.cell? ⟨w.heap.size, 0, none⟩ = some a ∧ w2.cell? ⟨w.heap.size, 1, none⟩ = some b ∧ w2.frozen? ⟨w.heap.size, 0, none⟩ = false ∧ w2.frozen? ⟨w.heap.size, 1, none⟩ = false ∧ w.heap.size < w2.heap.size := by
 have hs := h.size
 simp only [World.size_alloc] at hs
 refine ⟨?_, ?_, ?_, ?_, by omega⟩
 ·rw [h.cell (p := ⟨w.heap.size, 0, none⟩) (by simp), World.cell?_alloc_at _ _ _ _ rfl]; rfl
 ·rw [h.cell (p := ⟨w.heap.size, 1, none⟩) (by simp), World.cell?_alloc_at _ _ _ _ rfl]; rfl
 ·rw [h.frozen (p := ⟨w.heap.size, 0, none⟩) (by simp), World.frozen?_alloc_at _ _ _ _ rfl]
 ·rw [h.frozen (p := ⟨w.heap.size, 1, none⟩) (by simp), World.frozen?_alloc_at _ _ _ _ rfl]
theorem Rd.store {k : IntKind} {w : World} {v : Value} {l : List Nat} (h : Rd k w v l) {a : Addr} {u : Value} (hu : w.cell? a = some u) (hne : ∀ n, u ≠ .int k n) (x : Value) : Rd k (w.setCell a x) v l := by
 rcases h with h | ⟨b, off, cap, rfl, h1, h2, h3, h4⟩
 ·exact .inl h
 ·refine .inr ⟨b, off, cap, rfl, by simpa using h1, h2, h3, fun j hj => ?_⟩
  have h5 := h4 j hj
  rw [World.cell?_setCell_other _ _ _ _ ?_]
  ·exact h5
  ·rintro rfl
   rw [hu] at h5
   exact hne _ (Option.some.inj h5)
theorem Rd.store2 {k : IntKind} {w : World} {v : Value} {l : List Nat} (h : Rd k w v l) {R : Nat} {a b : Value} (h0 : w.cell? ⟨R, 0, none⟩ = some a) (h1 : w.cell? ⟨R, 1, none⟩ = some b)
  (n0 : ∀ n, a ≠ .int k n) (n1 : ∀ n, b ≠ .int k n) (x y : Value) : Rd k ((w.setCell ⟨R, 0, none⟩ x).setCell ⟨R, 1, none⟩ y) v l :=
 (h.store h0 n0 x).store (u := b) (by rw [World.cell?_setCell_other _ _ _ _ (by simp)]; exact h1) n1 y
theorem Rd.shape {k : IntKind} {w : World} {v : Value} {l : List Nat} (h : Rd k w v l) : ∃ ad n c, v = .slice ad n c := by
 rcases h with ⟨rfl, _⟩ | ⟨_, _, _, rfl, _⟩
 ·exact ⟨_, _, _, rfl⟩
 ·exact ⟨_, _, _, rfl⟩
theorem Rd.shape' {k : IntKind} {w : World} {v : Value} {l : List Nat} (h : Rd k w v l) : ∃ ad c, v = .slice ad l.length c := by
 rcases h with ⟨rfl, rfl⟩ | ⟨_, _, _, rfl, _⟩
 ·exact ⟨_, _, rfl⟩
 ·exact ⟨_, _, rfl⟩
theorem new_one (w : World) (t : TypeId) (n : Nat) (z : Int) (h : z = n) : ∀ (j : Nat) (u : Value), (uw [n])[j]? = some u → (w.alloc (.cells #[.int .u32 z] t)).cell? ((⟨w.heap.size, 0, none⟩ : Addr).add j) = some u := by
 subst h
 intro j u hu
 match j, hu with
 | 0, hu =>
  simp [uw] at hu
  subst hu
  rw [Addr.add_lit, World.cell?_alloc_at _ _ _ _ rfl]
  rfl
theorem all_snoc {b : Nat} {s : List Nat} {x : Nat} (h : ∀ y ∈ s, y < b) (hx : x < b) : ∀ y ∈ s ++ [x], y < b := by
 intro y hy
 rcases List.mem_append.1 hy with h1 | h1
 ·exact h y h1
 ·rw [List.mem_singleton.1 h1]; exact hx
theorem Ow.snoc {w : World} {base : Nat} {v : Value} {s : List Nat} {x : Nat} (h : w.ownsRow base 137 1 v (s.length + 1) (uw s ++ uw [x])) : Ow w base v (s ++ [x]) := by
 unfold Ow
 rw [uw_append, List.length_append]
 exact h
theorem vl_take_le (b : Nat) (l : List Nat) (k : Nat) (h : l.length ≤ k) : vl b (l.take (k + 1)) = vl b (l.take k) := by
 rw [List.take_of_length_le h, List.take_of_length_le (by omega)]
def RdA (k : IntKind) (w : World) (ad : Option Addr) (l : List Nat) : Prop :=
 ∀ j : Nat, j < l.length → ∃ b off, ad = some ⟨b, off, none⟩ ∧ b < w.heap.size ∧ w.cell? ⟨b, off + j, none⟩ = some (.int k ((l[j]?.getD 0 : Nat) : Int))
theorem Rd.opt {k : IntKind} {w : World} {v : Value} {l : List Nat} (h : Rd k w v l) : ∃ ad cap, v = .slice ad l.length cap ∧ RdA k w ad l := by
 rcases h with ⟨rfl, rfl⟩ | ⟨b, off, cap, rfl, h1, _, _, h4⟩
 ·exact ⟨none, 0, rfl, fun j hj => absurd hj (Nat.not_lt_zero _)⟩
 ·exact ⟨_, cap, rfl, fun j hj => ⟨b, off, rfl, h1, h4 j hj⟩⟩
end Go.Proofs.YtghgcbedajaldaaGreat
