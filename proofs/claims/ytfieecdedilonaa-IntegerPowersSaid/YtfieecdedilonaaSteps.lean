/-  The steps of a region's operations, by kinds.  -/
import Derived.Test.YtfieecdedilonaaFacts
namespace Go.Proofs.Ytfieecdedilonaa
open Go.RowKit Digs

section
variable {ops : Array Oper} {Q : Exit → Act → World → Prop} {md : Region.Mode} {F : Nat → Value → World → Prop} {S : World → Prop} {a0 : Act} {i : Nat} {o : Oper}

/-- The operation waits for number j. -/
def waits (md : Region.Mode) (o : Oper) (j : Nat) : Bool := o.after.any fun e => e.on == j && Region.binds md e

theorem Know.get {j : Nat} {d : Tmp} {a : Act} {w : World} (h : Know ops md F o a w) (hj : waits md o j = true) (hd : dstOf ops j = some d) : ∃ v, a.tmps[d]? = some v ∧ F j v w := by
  unfold waits at hj
  rw [Array.any_eq_true'] at hj
  obtain ⟨e, he, h2⟩ := hj
  simp only [Bool.and_eq_true, beq_iff_eq] at h2
  obtain ⟨rfl, hb⟩ := h2
  exact h e he hb d hd

/-- The guard is decided by a fact. -/
def Gd (ops : Array Oper) (md : Region.Mode) (F : Nat → Value → World → Prop) (o : Oper) : Prop :=
  o.guard = none ∨ ∃ g b d, o.guard = some (g, b) ∧ dstOf ops g = some d ∧ waits md o g = true ∧ ∀ v w, F g v w → v = .bool b
theorem Gd.wanted {a : Act} {w : World} (hg : Gd ops md F o) (h : Know ops md F o a w) : Region.wanted o (yielded ops a.tmps) = true := by
  rcases hg with hg | ⟨g, b, d, hg, hd, hw, hf⟩
  · unfold Region.wanted; rw [hg]
  · obtain ⟨v, hv, hfv⟩ := h.get hw hd
    have hv' := hf _ _ hfv
    subst hv'
    unfold Region.wanted
    rw [hg]
    have : yielded ops a.tmps g = some b := by
      unfold yielded
      have hd' : (ops[g]?).bind (·.dst) = some d := hd
      rw [hd']
      simp only [Option.bind_some, hv]
    simp [this]
theorem step_of (hg : Gd ops md F o) (h : ∀ a w, S w → Same ops a0 a → Know ops md F o a w → o.wp Try.prog a w (fun a' w' => ∃ v, a' = a.put o.dst v ∧ F i v w' ∧ Below w.heap.size w w') Q) :
    StepOK Try.prog ops md F S a0 Q i o := fun a w hs hsm hk => by
  rw [if_pos (hg.wanted hk)]
  exact h a w hs hsm hk

/-- An operation that isn't wanted. -/
theorem step_un {g : Nat} {b : Bool} {d : Tmp} (hg : o.guard = some (g, b)) (hd : dstOf ops g = some d) (hw : waits md o g = true) (hf : ∀ v w, F g v w → v = .bool (!b)) (hu : ∀ w, F i undef w) :
    StepOK Try.prog ops md F S a0 Q i o := fun a w hs hsm hk => by
  obtain ⟨v, hv, hfv⟩ := hk.get hw hd
  have hv' := hf _ _ hfv
  subst hv'
  have : Region.wanted o (yielded ops a.tmps) = false := by
    unfold Region.wanted
    rw [hg]
    have : yielded ops a.tmps g = some (!b) := by
      unfold yielded
      have hd' : (ops[g]?).bind (·.dst) = some d := hd
      rw [hd']
      simp only [Option.bind_some, hv]
    cases b <;> simp [this]
  rw [this]
  exact hu w

/-- What is known of an operand. -/
def Arg (ops : Array Oper) (md : Region.Mode) (F : Nat → Value → World → Prop) (S : World → Prop) (a0 : Act) (o : Oper) (x : Operand) (R : Value → World → Prop) : Prop :=
  ∀ a w, S w → Same ops a0 a → Know ops md F o a w → R (a.eval x) w
theorem Arg.tmp {j : Nat} {d : Tmp} (hj : waits md o j = true) (hd : dstOf ops j = some d) : Arg ops md F S a0 o (.tmp d) (F j) := fun a w _ _ hk => by
  obtain ⟨v, h1, h2⟩ := hk.get hj hd
  have : a.eval (.tmp d) = v := by simp [Act.eval, h1]
  rw [this]
  exact h2
theorem Arg.const (u : Value) : Arg ops md F S a0 o (.const u) (fun v _ => v = u) := fun _ _ _ _ _ => rfl
def oldB (ops : Array Oper) (t : Tmp) : Bool := (List.range ops.size).all fun i => dstOf ops i != some t
theorem Arg.old {t : Tmp} (ht : oldB ops t = true) : Arg ops md F S a0 o (.tmp t) (fun v _ => v = a0.eval (.tmp t)) := fun a w _ hsm _ => by
  have : a.tmps[t]? = a0.tmps[t]? := hsm.2.2 t fun i hi => by
    unfold oldB at ht
    rw [List.all_eq_true] at ht
    have := ht i (List.mem_range.2 (dstOf_lt hi))
    rw [bne_iff_ne] at this
    exact this hi
  simp [Act.eval, this]

theorem step_move {x : Operand} {R : Value → World → Prop} (hop : o.op = .move x) (hg : Gd ops md F o) (hx : Arg ops md F S a0 o x R) (hf : ∀ v w, R v w → F i v w) : StepOK Try.prog ops md F S a0 Q i o :=
  step_of hg fun a w hs hsm hk => by
    unfold Oper.wp execOp
    rw [hop]
    exact ⟨_, rfl, hf _ _ (hx a w hs hsm hk), Below.refl _ _⟩
theorem step_not {x : Operand} {R : Value → World → Prop} {t : TypeId} {b : Bool} (hop : o.op = .unOp .not t x) (hg : Gd ops md F o) (hx : Arg ops md F S a0 o x R) (hr : ∀ v w, R v w → v = .bool b) (hf : ∀ w, F i (.bool (!b)) w) : StepOK Try.prog ops md F S a0 Q i o :=
  step_of hg fun a w hs hsm hk => by
    have h1 := hr _ _ (hx a w hs hsm hk)
    unfold Oper.wp execOp
    rw [hop]
    simp only [h1]
    cases b <;> exact ⟨_, rfl, hf _, Below.refl _ _⟩
theorem step_pickT {c x y : Operand} {R R2 : Value → World → Prop} (hop : o.op = .pick c x y) (hg : Gd ops md F o) (hc : Arg ops md F S a0 o c R) (hr : ∀ v w, R v w → v = .bool true) (hx : Arg ops md F S a0 o x R2) (hf : ∀ v w, R2 v w → F i v w) : StepOK Try.prog ops md F S a0 Q i o :=
  step_of hg fun a w hs hsm hk => by
    have h1 := hr _ _ (hc a w hs hsm hk)
    unfold Oper.wp execOp
    rw [hop]
    simp only [h1]
    exact ⟨_, rfl, hf _ _ (hx a w hs hsm hk), Below.refl _ _⟩
theorem step_pickF {c x y : Operand} {R R2 : Value → World → Prop} (hop : o.op = .pick c x y) (hg : Gd ops md F o) (hc : Arg ops md F S a0 o c R) (hr : ∀ v w, R v w → v = .bool false) (hy : Arg ops md F S a0 o y R2) (hf : ∀ v w, R2 v w → F i v w) : StepOK Try.prog ops md F S a0 Q i o :=
  step_of hg fun a w hs hsm hk => by
    have h1 := hr _ _ (hc a w hs hsm hk)
    unfold Oper.wp execOp
    rw [hop]
    simp only [h1]
    exact ⟨_, rfl, hf _ _ (hy a w hs hsm hk), Below.refl _ _⟩
theorem step_load {x : Operand} {b : Nat} {u v : Value} (hop : o.op = .load 28 x) (hg : Gd ops md F o) (hx : Arg ops md F S a0 o x (fun p _ => p = .pointer (some ⟨b, 0, none⟩)))
    (hc : ∀ w, S w → w.cell? ⟨b, 0, none⟩ = some u ∧ w.cell? ⟨b, 1, none⟩ = some v) (hf : ∀ w, S w → F i (.agg #[u, v]) w) : StepOK Try.prog ops md F S a0 Q i o :=
  step_of hg fun a w hs hsm hk => by
    have h1 := hx a w hs hsm hk
    obtain ⟨c0, c1⟩ := hc w hs
    have h2 := hf w hs
    unfold Oper.wp execOp
    rw [hop]
    simp only [h1]
    go_simp
    exact ⟨_, rfl, h2, Below.refl _ _⟩
/-- A call of this function is entered. -/
def Enters (f : FuncId) : Prop := ∀ (args : Array Value) (w : World), (callFunc f args).run Try.prog w = .ok (.enter f args) w
theorem enters_of {f : FuncId} {fn : Func} (hf : Try.prog.funcs[f]? = some fn) (h : (fn.name != "runtime.NumGoroutine" && fn.body.isSome) = true) : Enters f := fun args w => by
  simp only [Bool.and_eq_true, bne_iff_ne, Option.isSome_iff_exists] at h
  obtain ⟨h1, c, h2⟩ := h
  simp [callFunc, hf, h1, h2]

set_option maxRecDepth 100000 in
theorem step_call2 {f : FuncId} (hen : Enters f) {x y : Operand} {ts : Array TypeId} {R1 R2 : Value → World → Prop} (hop : o.op = .call { callee := .value (.func f), args := #[x, y], argTypes := ts }) (hg : Gd ops md F o) (hx : Arg ops md F S a0 o x R1) (hy : Arg ops md F S a0 o y R2)
    (hc : ∀ u v w, S w → R1 u w → R2 v w → Calls Try.prog f #[u, v] w fun e w' => ∃ r, e = .returned r ∧ F i r w' ∧ Below w.heap.size w w') : StepOK Try.prog ops md F S a0 Q i o :=
  step_of hg fun a w hs hsm hk => by
    have he : (execOp a.eval o).run Try.prog w = .ok (.enter f #[a.eval x, a.eval y]) w := by
      obtain ⟨dst, op, ty, pos, after, guard⟩ := o
      subst hop
      rw [execOp_call_go, hen]
      simp
    unfold Oper.wp
    rw [he]
    refine (hc _ _ w hs (hx a w hs hsm hk) (hy a w hs hsm hk)).mono ?_
    rintro e w' ⟨r, rfl, h1, h2⟩
    exact ⟨_, rfl, h1, h2⟩
set_option maxRecDepth 100000 in
theorem step_call1 {f : FuncId} (hen : Enters f) {x : Operand} {ts : Array TypeId} {R1 : Value → World → Prop} (hop : o.op = .call { callee := .value (.func f), args := #[x], argTypes := ts }) (hg : Gd ops md F o) (hx : Arg ops md F S a0 o x R1)
    (hc : ∀ u w, S w → R1 u w → Calls Try.prog f #[u] w fun e w' => ∃ r, e = .returned r ∧ F i r w' ∧ Below w.heap.size w w') : StepOK Try.prog ops md F S a0 Q i o :=
  step_of hg fun a w hs hsm hk => by
    have he : (execOp a.eval o).run Try.prog w = .ok (.enter f #[a.eval x]) w := by
      obtain ⟨dst, op, ty, pos, after, guard⟩ := o
      subst hop
      rw [execOp_call_go, hen]
      simp
    unfold Oper.wp
    rw [he]
    refine (hc _ w hs (hx a w hs hsm hk)).mono ?_
    rintro e w' ⟨r, rfl, h1, h2⟩
    exact ⟨_, rfl, h1, h2⟩
theorem step_neg {x : Operand} {R : Value → World → Prop} {z : Int} (hz : -9223372036854775808 < z ∧ z < 9223372036854775808) (hop : o.op = .unOp .neg 3 x) (hg : Gd ops md F o) (hx : Arg ops md F S a0 o x R) (hr : ∀ v w, R v w → v = .int .i64 z) (hf : ∀ w, F i (.int .i64 (-z)) w) : StepOK Try.prog ops md F S a0 Q i o :=
  step_of hg fun a w hs hsm hk => by
    have h1 := hr _ _ (hx a w hs hsm hk)
    have h2 := hf w
    have h3 : IntKind.i64.wrap (-z) = -z := by rw [IntKind.wrap_i64]; omega
    rw [← h3] at h2
    clear h3
    unfold Oper.wp execOp
    rw [hop]
    simp only [h1]
    go_simp
    exact ⟨_, rfl, h2, Below.refl _ _⟩
theorem step_neq {x y : Operand} {R1 R2 : Value → World → Prop} {z1 z2 : Int} {b : Bool} (hb : b = !(z1 == z2)) (hop : o.op = .binOp .neq 3 x y 3) (hg : Gd ops md F o) (hx : Arg ops md F S a0 o x R1) (hr1 : ∀ v w, R1 v w → v = .int .i64 z1) (hy : Arg ops md F S a0 o y R2) (hr2 : ∀ v w, R2 v w → v = .int .i64 z2) (hf : ∀ w, F i (.bool b) w) : StepOK Try.prog ops md F S a0 Q i o :=
  step_of hg fun a w hs hsm hk => by
    subst hb
    have h1 := hr1 _ _ (hx a w hs hsm hk)
    have h2 := hr2 _ _ (hy a w hs hsm hk)
    have h3 := hf w
    unfold Oper.wp execOp
    rw [hop]
    simp only [h1, h2]
    go_simp
    exact ⟨_, rfl, h3, Below.refl _ _⟩
theorem step_leq {x y : Operand} {R1 R2 : Value → World → Prop} {z1 z2 : Int} {b : Bool} (hb : b = decide (z1 ≤ z2)) (hop : o.op = .binOp .leq 3 x y 3) (hg : Gd ops md F o) (hx : Arg ops md F S a0 o x R1) (hr1 : ∀ v w, R1 v w → v = .int .i64 z1) (hy : Arg ops md F S a0 o y R2) (hr2 : ∀ v w, R2 v w → v = .int .i64 z2) (hf : ∀ w, F i (.bool b) w) : StepOK Try.prog ops md F S a0 Q i o :=
  step_of hg fun a w hs hsm hk => by
    subst hb
    have h1 := hr1 _ _ (hx a w hs hsm hk)
    have h2 := hr2 _ _ (hy a w hs hsm hk)
    have h3 := hf w
    unfold Oper.wp execOp
    rw [hop]
    simp only [h1, h2]
    go_simp
    exact ⟨_, rfl, h3, Below.refl _ _⟩
theorem step_gtr {x y : Operand} {R1 R2 : Value → World → Prop} {z1 z2 : Int} {b : Bool} (hb : b = decide (z1 > z2)) (hop : o.op = .binOp .gtr 3 x y 3) (hg : Gd ops md F o) (hx : Arg ops md F S a0 o x R1) (hr1 : ∀ v w, R1 v w → v = .int .i64 z1) (hy : Arg ops md F S a0 o y R2) (hr2 : ∀ v w, R2 v w → v = .int .i64 z2) (hf : ∀ w, F i (.bool b) w) : StepOK Try.prog ops md F S a0 Q i o :=
  step_of hg fun a w hs hsm hk => by
    subst hb
    have h1 := hr1 _ _ (hx a w hs hsm hk)
    have h2 := hr2 _ _ (hy a w hs hsm hk)
    have h3 := hf w
    unfold Oper.wp execOp
    rw [hop]
    simp only [h1, h2]
    go_simp
    exact ⟨_, rfl, h3, Below.refl _ _⟩
theorem step_zero (hop : o.op = .build 28 #[]) (hg : Gd ops md F o) (hf : ∀ w, F i (.agg #[.bool false, .slice none 0 0]) w) : StepOK Try.prog ops md F S a0 Q i o :=
  step_of hg fun a w hs hsm hk => by
    have h3 := hf w
    unfold Oper.wp execOp
    rw [hop]
    go_simp
    exact ⟨_, rfl, h3, Below.refl _ _⟩

end
end Go.Proofs.Ytfieecdedilonaa
