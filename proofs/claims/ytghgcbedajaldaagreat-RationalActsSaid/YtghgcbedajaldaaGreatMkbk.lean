/-  Fx3  -/
import Derived.Test.YtghgcbedajaldaaGreatMkbj
/-  Steps of operations, and of what comes behind them.  -/
namespace Go.Proofs.YtghgcbedajaldaaGreat
section
open Go.RowKit Digs
section
variable {ops : Array Oper} {Q : Exit → Act → World → Prop} {md : Region.Mode} {F : Nat → Value → World → Prop} {S : World → Prop} {D : Nat → Bool} {a0 : Act} {i : Nat} {o : Oper}
theorem Arg.t (j : Nat) {d : Tmp} (hd : dstOf ops j = some d) (hj : waits md o j = true := by kernel_rfl) : Arg ops md F S a0 o (.tmp d) (F j) := Arg.tmp hj hd
theorem Arg.od {t : Tmp} (ht : oldB ops t = true := by kernel_rfl) : Arg ops md F S a0 o (.tmp t) (fun v _ => v = a0.eval (.tmp t)) := Arg.old ht
theorem step_ldZ0 {x : Operand} {b : Nat} {u v : Value} (hop : o.op = .load 31 x) (hg : Gd ops md F o) (hx : Arg ops md F S a0 o x (fun p _ => p = .pointer (some ⟨b, 0, none⟩)))
  (hc : ∀ w, S w → w.cell? ⟨b, 0, none⟩ = some u ∧ w.cell? ⟨b, 1, none⟩ = some v) (hf : ∀ w, S w → F i (.agg #[u, v]) w) : StepOK Tryz.prog ops md F S a0 Q i o :=
 step_of hg fun a w hs hsm hk => by
  have h1 := hx a w hs hsm hk
  obtain ⟨c0, c1⟩ := hc w hs
  have h2 := hf w hs
  unfold Oper.wp execOp
  rw [hop]
  simp only [h1]
  go_simp
  exact ⟨_, rfl, h2, Below.refl _ _⟩
theorem step_ldR0 {x : Operand} {b : Nat} {u v : Value} (hop : o.op = .load 34 x) (hg : Gd ops md F o) (hx : Arg ops md F S a0 o x (fun p _ => p = .pointer (some ⟨b, 0, none⟩)))
  (hc : ∀ w, S w → w.cell? ⟨b, 0, none⟩ = some u ∧ w.cell? ⟨b, 1, none⟩ = some v) (hf : ∀ w, S w → F i (.agg #[u, v]) w) : StepOK Tryz.prog ops md F S a0 Q i o :=
 step_of hg fun a w hs hsm hk => by
  have h1 := hx a w hs hsm hk
  obtain ⟨c0, c1⟩ := hc w hs
  have h2 := hf w hs
  unfold Oper.wp execOp
  rw [hop]
  simp only [h1]
  go_simp
  exact ⟨_, rfl, h2, Below.refl _ _⟩
theorem step_ldR2 {x : Operand} {b : Nat} {u v : Value} (hop : o.op = .load 34 x) (hg : Gd ops md F o) (hx : Arg ops md F S a0 o x (fun p _ => p = .pointer (some ⟨b, 2, none⟩)))
  (hc : ∀ w, S w → w.cell? ⟨b, 2, none⟩ = some u ∧ w.cell? ⟨b, 3, none⟩ = some v) (hf : ∀ w, S w → F i (.agg #[u, v]) w) : StepOK Tryz.prog ops md F S a0 Q i o :=
 step_of hg fun a w hs hsm hk => by
  have h1 := hx a w hs hsm hk
  obtain ⟨c0, c1⟩ := hc w hs
  have h2 := hf w hs
  unfold Oper.wp execOp
  rw [hop]
  simp only [h1]
  go_simp
  exact ⟨_, rfl, h2, Below.refl _ _⟩
theorem step_ldP {x : Operand} {p : Nat} {a b c e : Value} (hop : o.op = .load 38 x) (hg : Gd ops md F o) (hx : Arg ops md F S a0 o x (fun y _ => y = .pointer (some ⟨p, 0, none⟩)))
  (hc : ∀ w, S w → w.cell? ⟨p, 0, none⟩ = some a ∧ w.cell? ⟨p, 1, none⟩ = some b ∧ w.cell? ⟨p, 2, none⟩ = some c ∧ w.cell? ⟨p, 3, none⟩ = some e) (hf : ∀ w, S w → F i (.agg #[a, b, c, e]) w) : StepOK Tryz.prog ops md F S a0 Q i o :=
 step_of hg fun a' w hs hsm hk => by
  have h1 := hx a' w hs hsm hk
  obtain ⟨c0, c1, c2, c3⟩ := hc w hs
  have h2 := hf w hs
  unfold Oper.wp execOp
  rw [hop]
  simp only [h1]
  go_simp
  exact ⟨_, rfl, h2, Below.refl _ _⟩
theorem step_ldQ {x : Operand} {p : Nat} {a b c e : Value} (hop : o.op = .load 43 x) (hg : Gd ops md F o) (hx : Arg ops md F S a0 o x (fun y _ => y = .pointer (some ⟨p, 0, none⟩)))
  (hc : ∀ w, S w → w.cell? ⟨p, 0, none⟩ = some a ∧ w.cell? ⟨p, 1, none⟩ = some b ∧ w.cell? ⟨p, 2, none⟩ = some c ∧ w.cell? ⟨p, 3, none⟩ = some e) (hf : ∀ w, S w → F i (.agg #[a, b, c, e]) w) : StepOK Tryz.prog ops md F S a0 Q i o :=
 step_of hg fun a' w hs hsm hk => by
  have h1 := hx a' w hs hsm hk
  obtain ⟨c0, c1, c2, c3⟩ := hc w hs
  have h2 := hf w hs
  unfold Oper.wp execOp
  rw [hop]
  simp only [h1]
  go_simp
  exact ⟨_, rfl, h2, Below.refl _ _⟩
theorem step_alZ {B : Nat} (hop : o.op = .alloc 31) (hg : Gd ops md F o) (hB : ∀ w, S w → B ≤ w.heap.size) (hf : ∀ v w, (∃ q, v = .pointer (some ⟨q, 0, none⟩) ∧ B ≤ q ∧ BX q (.bool false) (.slice none 0 0) 0 w) → F i v w) : StepD Tryz.prog ops md F S D a0 Q i o := fun a w hs hsm hk => by
 rw [if_pos (hg.wanted hk)]
 have hb := hB w hs
 have h2 := hf (.pointer (some ⟨w.heap.size, 0, none⟩)) (w.alloc (.cells #[.bool false, .slice none 0 0] 31)) ⟨_, rfl, hb, BX.made (IntV.nil0 w)⟩
 unfold Oper.wp execOp
 rw [hop]
 go_simp
 exact ⟨_, rfl, h2, (Below.refl _ _).alloc (Nat.le_refl _) _, fun _ => rfl⟩
theorem rv_nil0 (w : World) : RefV w (.agg #[.bool false, .slice none 0 0]) 0 := ⟨none, 0, 0, rfl, .inl ⟨rfl, by rw [show Int.natAbs 0 = 0 from rfl, digs_zero]⟩⟩
theorem step_alR {B : Nat} (hop : o.op = .alloc 34) (hg : Gd ops md F o) (hB : ∀ w, S w → B ≤ w.heap.size) (hf : ∀ v w, (∃ q, v = .pointer (some ⟨q, 0, none⟩) ∧ B ≤ q ∧ RX q (.bool false) (.slice none 0 0) 0 w) → F i v w) : StepD Tryz.prog ops md F S D a0 Q i o := fun a w hs hsm hk => by
 rw [if_pos (hg.wanted hk)]
 have hb := hB w hs
 have h2 := hf (.pointer (some ⟨w.heap.size, 0, none⟩)) (w.alloc (.cells #[.bool false, .slice none 0 0] 34)) ⟨_, rfl, hb, RX.made (rv_nil0 w)⟩
 unfold Oper.wp execOp
 rw [hop]
 go_simp
 exact ⟨_, rfl, h2, (Below.refl _ _).alloc (Nat.le_refl _) _, fun _ => rfl⟩
theorem step_alP {B : Nat} (hop : o.op = .alloc 38) (hg : Gd ops md F o) (hB : ∀ w, S w → B ≤ w.heap.size) (hf : ∀ v w, (∃ q, v = .pointer (some ⟨q, 0, none⟩) ∧ B ≤ q ∧ PX q (.bool false) (.slice none 0 0) (.bool false) (.slice none 0 0) 0 1 w) → F i v w) : StepD Tryz.prog ops md F S D a0 Q i o := fun a w hs hsm hk => by
 rw [if_pos (hg.wanted hk)]
 have hb := hB w hs
 have h2 := hf (.pointer (some ⟨w.heap.size, 0, none⟩)) (w.alloc (.cells #[.bool false, .slice none 0 0, .bool false, .slice none 0 0] 38)) ⟨_, rfl, hb, PX.made ⟨_, _, _, _, rfl, IntV.nil0 w, IntV.nil0 w⟩⟩
 unfold Oper.wp execOp
 rw [hop]
 go_simp
 exact ⟨_, rfl, h2, (Below.refl _ _).alloc (Nat.le_refl _) _, fun _ => rfl⟩
theorem step_alQ {B : Nat} (hop : o.op = .alloc 43) (hg : Gd ops md F o) (hB : ∀ w, S w → B ≤ w.heap.size) (hf : ∀ v w, (∃ q, v = .pointer (some ⟨q, 0, none⟩) ∧ B ≤ q ∧ QX q (.bool false) (.slice none 0 0) (.bool false) (.slice none 0 0) 0 0 w) → F i v w) : StepD Tryz.prog ops md F S D a0 Q i o := fun a w hs hsm hk => by
 rw [if_pos (hg.wanted hk)]
 have hb := hB w hs
 have h2 := hf (.pointer (some ⟨w.heap.size, 0, none⟩)) (w.alloc (.cells #[.bool false, .slice none 0 0, .bool false, .slice none 0 0] 43)) ⟨_, rfl, hb, QX.made (rv_nil0 w) (rv_nil0 w)⟩
 unfold Oper.wp execOp
 rw [hop]
 go_simp
 exact ⟨_, rfl, h2, (Below.refl _ _).alloc (Nat.le_refl _) _, fun _ => rfl⟩
theorem step_zero4 (hop : o.op = .build 38 #[]) (hg : Gd ops md F o) (hf : ∀ w, F i (.agg #[.bool false, .slice none 0 0, .bool false, .slice none 0 0]) w) : StepOK Tryz.prog ops md F S a0 Q i o :=
 step_of hg fun a w hs hsm hk => by
  have h3 := hf w
  unfold Oper.wp execOp
  rw [hop]
  go_simp
  exact ⟨_, rfl, h3, Below.refl _ _⟩
theorem stp_call0 {f : FuncId} (hen : Enters f) {ts : Array TypeId} (hop : o.op = .call { callee := .value (.func f), args := #[], argTypes := ts }) (hg : Gd ops md F o)
  (hc : ∀ w, S w → Calls Tryz.prog f #[] w fun e w' => ∃ r, e = .returned r ∧ F i r w' ∧ Below w.heap.size w w') : StepOK Tryz.prog ops md F S a0 Q i o :=
 step_of hg fun a w hs hsm hk => by
  have he : (execOp a.eval o).run Tryz.prog w = .ok (.enter f #[]) w := by
   obtain ⟨dst, op, ty, pos, after, guard⟩ := o
   subst hop
   rw [execOp_call_go, hen]
   simp
  unfold Oper.wp
  rw [he]
  refine (hc w hs).mono ?_
  rintro e w' ⟨r, rfl, h1, h2⟩
  exact ⟨_, rfl, h1, h2⟩
end
section
variable {ops : Array Oper} {K : Nat} {md : Region.Mode} {F : Nat → Value → World → Prop} {S : World → Prop} {a0 : Act} {i : Nat} {o : Oper}
theorem sty_of (hg : Gd ops md F o) (h : ∀ a w, S w → Same ops a0 a → Know ops md F o a w → ∃ v, (∀ w', (execOp a.eval o).run Tryz.prog w' = .ok (.value v) w') ∧ F i v w) : StepY Tryz.prog ops K md F S a0 i o := fun a w hs hsm _ hk =>
 let ⟨v, h1, h2⟩ := h a w hs hsm hk
 ⟨v, .inl ⟨hg.wanted hk, h1⟩, h2⟩
theorem sty_un {g : Nat} {b : Bool} {d : Tmp} (hg : o.guard = some (g, b)) (hd : dstOf ops g = some d) (hw : waits md o g = true) (hf : ∀ v w, F g v w → v = .bool (!b)) (hu : ∀ w, F i undef w) : StepY Tryz.prog ops K md F S a0 i o := fun a w _ _ _ hk => by
 obtain ⟨v, hv, hfv⟩ := hk.get hw hd
 have hv' := hf _ _ hfv
 subst hv'
 refine ⟨undef, .inr ⟨?_, rfl⟩, hu w⟩
 unfold Region.wanted
 rw [hg]
 have : yielded ops a.tmps g = some (!b) := by
  unfold yielded
  have hd' : (ops[g]?).bind (·.dst) = some d := hd
  rw [hd']
  simp only [Option.bind_some, hv]
 cases b <;> simp [this]
theorem sty_move {x : Operand} {R : Value → World → Prop} (hop : o.op = .move x) (hg : Gd ops md F o) (hx : Arg ops md F S a0 o x R) (hf : ∀ v w, R v w → F i v w := by exact fun _ _ h => h) : StepY Tryz.prog ops K md F S a0 i o :=
 sty_of hg fun a w hs hsm hk => ⟨a.eval x, fun w' => by unfold execOp; rw [hop]; rfl, hf _ _ (hx a w hs hsm hk)⟩
theorem sty_assign {x : Operand} {R : Value → World → Prop} (hop : o.op = .assign x) (hg : Gd ops md F o) (hx : Arg ops md F S a0 o x R) (hf : ∀ v w, R v w → F i v w := by exact fun _ _ h => h) : StepY Tryz.prog ops K md F S a0 i o :=
 sty_of hg fun a w hs hsm hk => ⟨a.eval x, fun w' => by unfold execOp; rw [hop]; rfl, hf _ _ (hx a w hs hsm hk)⟩
theorem sty_not {x : Operand} {R : Value → World → Prop} {t : TypeId} {b : Bool} (hop : o.op = .unOp .not t x) (hg : Gd ops md F o) (hx : Arg ops md F S a0 o x R) (hr : ∀ v w, R v w → v = .bool b := by exact fun _ _ h => h) (hf : ∀ w, F i (.bool (!b)) w := by exact fun _ => rfl) : StepY Tryz.prog ops K md F S a0 i o :=
 sty_of hg fun a w hs hsm hk => ⟨.bool (!b), fun w' => by
  have h1 := hr _ _ (hx a w hs hsm hk)
  unfold execOp
  rw [hop]
  simp only [h1]
  cases b <;> rfl, hf w⟩
theorem sty_neg {x : Operand} {R : Value → World → Prop} {z : Int} (hz : -9223372036854775808 < z ∧ z < 9223372036854775808) (hop : o.op = .unOp .neg 3 x) (hg : Gd ops md F o) (hx : Arg ops md F S a0 o x R) (hr : ∀ v w, R v w → v = .int .i64 z := by exact fun _ _ h => h) (hf : ∀ w, F i (.int .i64 (-z)) w := by exact fun _ => rfl) : StepY Tryz.prog ops K md F S a0 i o :=
 sty_of hg fun a w hs hsm hk => ⟨.int .i64 (-z), fun w' => by
  have h1 := hr _ _ (hx a w hs hsm hk)
  have h3 : IntKind.i64.wrap (-z) = -z := by rw [IntKind.wrap_i64]; omega
  unfold execOp
  rw [hop]
  simp only [h1]
  go_simp, hf w⟩
theorem sty_pickT {c x y : Operand} {R R2 : Value → World → Prop} (hop : o.op = .pick c x y) (hg : Gd ops md F o) (hc : Arg ops md F S a0 o c R) (hx : Arg ops md F S a0 o x R2) (hr : ∀ v w, R v w → v = .bool true := by exact fun _ _ h => h) (hf : ∀ v w, R2 v w → F i v w := by exact fun _ _ h => h) : StepY Tryz.prog ops K md F S a0 i o :=
 sty_of hg fun a w hs hsm hk => ⟨a.eval x, fun w' => by
  have h1 := hr _ _ (hc a w hs hsm hk)
  unfold execOp
  rw [hop]
  simp only [h1]
  rfl, hf _ _ (hx a w hs hsm hk)⟩
theorem sty_pickF {c x y : Operand} {R R2 : Value → World → Prop} (hop : o.op = .pick c x y) (hg : Gd ops md F o) (hc : Arg ops md F S a0 o c R) (hy : Arg ops md F S a0 o y R2) (hr : ∀ v w, R v w → v = .bool false := by exact fun _ _ h => h) (hf : ∀ v w, R2 v w → F i v w := by exact fun _ _ h => h) : StepY Tryz.prog ops K md F S a0 i o :=
 sty_of hg fun a w hs hsm hk => ⟨a.eval y, fun w' => by
  have h1 := hr _ _ (hc a w hs hsm hk)
  unfold execOp
  rw [hop]
  simp only [h1]
  rfl, hf _ _ (hy a w hs hsm hk)⟩
theorem sty_faP0 {x : Operand} {p : Nat} (hop : o.op = .fieldAddr 38 x 0) (hg : Gd ops md F o) (hx : Arg ops md F S a0 o x (fun y _ => y = .pointer (some ⟨p, 0, none⟩)))
  (hf : ∀ w, F i (.pointer (some ⟨p, 0, none⟩)) w := by exact fun _ => rfl) : StepY Tryz.prog ops K md F S a0 i o :=
 sty_of hg fun a' w hs hsm hk => ⟨.pointer (some ⟨p, 0, none⟩), fun w' => by
  have h1 := hx a' w hs hsm hk
  unfold execOp
  rw [hop]
  simp only [h1]
  go_simp, hf w⟩
theorem sty_faQ0 {x : Operand} {p : Nat} (hop : o.op = .fieldAddr 43 x 0) (hg : Gd ops md F o) (hx : Arg ops md F S a0 o x (fun y _ => y = .pointer (some ⟨p, 0, none⟩)))
  (hf : ∀ w, F i (.pointer (some ⟨p, 0, none⟩)) w := by exact fun _ => rfl) : StepY Tryz.prog ops K md F S a0 i o :=
 sty_of hg fun a' w hs hsm hk => ⟨.pointer (some ⟨p, 0, none⟩), fun w' => by
  have h1 := hx a' w hs hsm hk
  unfold execOp
  rw [hop]
  simp only [h1]
  go_simp, hf w⟩
theorem sty_faQ1 {x : Operand} {p : Nat} (hop : o.op = .fieldAddr 43 x 1) (hg : Gd ops md F o) (hx : Arg ops md F S a0 o x (fun y _ => y = .pointer (some ⟨p, 0, none⟩)))
  (hf : ∀ w, F i (.pointer (some ⟨p, 2, none⟩)) w := by exact fun _ => rfl) : StepY Tryz.prog ops K md F S a0 i o :=
 sty_of hg fun a' w hs hsm hk => ⟨.pointer (some ⟨p, 2, none⟩), fun w' => by
  have h1 := hx a' w hs hsm hk
  unfold execOp
  rw [hop]
  simp only [h1]
  go_simp, hf w⟩
theorem sty_ex20 {x : Operand} {f g : Fct} (hop : o.op = .extract x 0) (hg : Gd ops md F o) (hx : Arg ops md F S a0 o x (Fct.t2 f g).R) (hf : ∀ v w, f.R v w → F i v w := by exact fun _ _ h => h) : StepY Tryz.prog ops K md F S a0 i o :=
 sty_of hg fun a' w hs hsm hk => by
  obtain ⟨a, b, h1, k0, _⟩ := hx a' w hs hsm hk
  refine ⟨a, fun w' => ?_, hf _ _ k0⟩
  unfold execOp
  rw [hop]
  simp only [h1]
  go_simp
theorem sty_ex21 {x : Operand} {f g : Fct} (hop : o.op = .extract x 1) (hg : Gd ops md F o) (hx : Arg ops md F S a0 o x (Fct.t2 f g).R) (hf : ∀ v w, g.R v w → F i v w := by exact fun _ _ h => h) : StepY Tryz.prog ops K md F S a0 i o :=
 sty_of hg fun a' w hs hsm hk => by
  obtain ⟨a, b, h1, _, k1⟩ := hx a' w hs hsm hk
  refine ⟨b, fun w' => ?_, hf _ _ k1⟩
  unfold execOp
  rw [hop]
  simp only [h1]
  go_simp
theorem sty_lss {x y : Operand} {R1 R2 : Value → World → Prop} {z1 z2 : Int} {b : Bool} (hb : b = decide (z1 < z2)) (hop : o.op = .binOp .lss 3 x y 3) (hg : Gd ops md F o) (hx : Arg ops md F S a0 o x R1) (hy : Arg ops md F S a0 o y R2) (hr1 : ∀ v w, R1 v w → v = .int .i64 z1 := by exact fun _ _ h => h) (hr2 : ∀ v w, R2 v w → v = .int .i64 z2 := by exact fun _ _ h => h) (hf : ∀ w, F i (.bool b) w := by exact fun _ => rfl) : StepY Tryz.prog ops K md F S a0 i o :=
 sty_of hg fun a w hs hsm hk => ⟨.bool b, fun w' => by
  subst hb
  have h1 := hr1 _ _ (hx a w hs hsm hk)
  have h2 := hr2 _ _ (hy a w hs hsm hk)
  unfold execOp
  rw [hop]
  simp only [h1, h2]
  go_simp, hf w⟩
theorem sty_gtr {x y : Operand} {R1 R2 : Value → World → Prop} {z1 z2 : Int} {b : Bool} (hb : b = decide (z1 > z2)) (hop : o.op = .binOp .gtr 3 x y 3) (hg : Gd ops md F o) (hx : Arg ops md F S a0 o x R1) (hy : Arg ops md F S a0 o y R2) (hr1 : ∀ v w, R1 v w → v = .int .i64 z1 := by exact fun _ _ h => h) (hr2 : ∀ v w, R2 v w → v = .int .i64 z2 := by exact fun _ _ h => h) (hf : ∀ w, F i (.bool b) w := by exact fun _ => rfl) : StepY Tryz.prog ops K md F S a0 i o :=
 sty_of hg fun a w hs hsm hk => ⟨.bool b, fun w' => by
  subst hb
  have h1 := hr1 _ _ (hx a w hs hsm hk)
  have h2 := hr2 _ _ (hy a w hs hsm hk)
  unfold execOp
  rw [hop]
  simp only [h1, h2]
  go_simp, hf w⟩
theorem sty_eql {x y : Operand} {R1 R2 : Value → World → Prop} {z1 z2 : Int} {b : Bool} (hb : b = (z1 == z2)) (hop : o.op = .binOp .eql 3 x y 3) (hg : Gd ops md F o) (hx : Arg ops md F S a0 o x R1) (hy : Arg ops md F S a0 o y R2) (hr1 : ∀ v w, R1 v w → v = .int .i64 z1 := by exact fun _ _ h => h) (hr2 : ∀ v w, R2 v w → v = .int .i64 z2 := by exact fun _ _ h => h) (hf : ∀ w, F i (.bool b) w := by exact fun _ => rfl) : StepY Tryz.prog ops K md F S a0 i o :=
 sty_of hg fun a w hs hsm hk => ⟨.bool b, fun w' => by
  subst hb
  have h1 := hr1 _ _ (hx a w hs hsm hk)
  have h2 := hr2 _ _ (hy a w hs hsm hk)
  unfold execOp
  rw [hop]
  simp only [h1, h2]
  go_simp, hf w⟩
theorem sty_eqlE {x y : Operand} {R1 R2 : Value → World → Prop} {z1 z2 : Int} {b : Bool} (hb : b = (z1 == z2)) (hop : o.op = .binOp .eql 39 x y 39) (hg : Gd ops md F o) (hx : Arg ops md F S a0 o x R1) (hy : Arg ops md F S a0 o y R2) (hr1 : ∀ v w, R1 v w → v = .int .i64 z1 := by exact fun _ _ h => h) (hr2 : ∀ v w, R2 v w → v = .int .i64 z2 := by exact fun _ _ h => h) (hf : ∀ w, F i (.bool b) w := by exact fun _ => rfl) : StepY Tryz.prog ops K md F S a0 i o :=
 sty_of hg fun a w hs hsm hk => ⟨.bool b, fun w' => by
  subst hb
  have h1 := hr1 _ _ (hx a w hs hsm hk)
  have h2 := hr2 _ _ (hy a w hs hsm hk)
  unfold execOp
  rw [hop]
  simp only [h1, h2]
  go_simp, hf w⟩
theorem sty_neq {x y : Operand} {R1 R2 : Value → World → Prop} {z1 z2 : Int} {b : Bool} (hb : b = !(z1 == z2)) (hop : o.op = .binOp .neq 3 x y 3) (hg : Gd ops md F o) (hx : Arg ops md F S a0 o x R1) (hy : Arg ops md F S a0 o y R2) (hr1 : ∀ v w, R1 v w → v = .int .i64 z1 := by exact fun _ _ h => h) (hr2 : ∀ v w, R2 v w → v = .int .i64 z2 := by exact fun _ _ h => h) (hf : ∀ w, F i (.bool b) w := by exact fun _ => rfl) : StepY Tryz.prog ops K md F S a0 i o :=
 sty_of hg fun a w hs hsm hk => ⟨.bool b, fun w' => by
  subst hb
  have h1 := hr1 _ _ (hx a w hs hsm hk)
  have h2 := hr2 _ _ (hy a w hs hsm hk)
  unfold execOp
  rw [hop]
  simp only [h1, h2]
  go_simp
  rfl, hf w⟩
theorem sty_neqE {x y : Operand} {R1 R2 : Value → World → Prop} {z1 z2 : Int} {b : Bool} (hb : b = !(z1 == z2)) (hop : o.op = .binOp .neq 39 x y 39) (hg : Gd ops md F o) (hx : Arg ops md F S a0 o x R1) (hy : Arg ops md F S a0 o y R2) (hr1 : ∀ v w, R1 v w → v = .int .i64 z1 := by exact fun _ _ h => h) (hr2 : ∀ v w, R2 v w → v = .int .i64 z2 := by exact fun _ _ h => h) (hf : ∀ w, F i (.bool b) w := by exact fun _ => rfl) : StepY Tryz.prog ops K md F S a0 i o :=
 sty_of hg fun a w hs hsm hk => ⟨.bool b, fun w' => by
  subst hb
  have h1 := hr1 _ _ (hx a w hs hsm hk)
  have h2 := hr2 _ _ (hy a w hs hsm hk)
  unfold execOp
  rw [hop]
  simp only [h1, h2]
  go_simp
  rfl, hf w⟩
def oldK (ops : Array Oper) (K : Nat) (t : Tmp) : Bool := (List.range K).all fun i => dstOf ops i != some t
theorem sty_moveL {t : Tmp} (hop : o.op = .move (.tmp t)) (hg : Gd ops md F o) (ht : oldK ops K t = true) (hf : ∀ w, F i (a0.eval (.tmp t)) w) : StepY Tryz.prog ops K md F S a0 i o := fun a w _ _ hun hk => by
 have he : a.tmps[t]? = a0.tmps[t]? := hun t fun j hj hd => by
  unfold oldK at ht
  rw [List.all_eq_true] at ht
  have := ht j (List.mem_range.2 hj)
  rw [bne_iff_ne] at this
  exact this hd
 have e2 : a.eval (.tmp t) = a0.eval (.tmp t) := by simp [Act.eval, he]
 refine ⟨a0.eval (.tmp t), .inl ⟨hg.wanted hk, fun w' => ?_⟩, hf w⟩
 unfold execOp
 rw [hop]
 simp only [e2]
 rfl
end
section
variable {Q : Exit → Act → World → Prop} {a : Act} {w : World} {o : Oper} {r : List Oper}
theorem tail_nil (h : Q .normal a w) : tailWp Tryz.prog Q [] a w := h
theorem tail_assign {x : Operand} {u : Value} (hop : o.op = .assign x) (hx : a.eval x = u) (h : tailWp Tryz.prog Q r (a.put o.dst u) w) : tailWp Tryz.prog Q (o :: r) a w := by
 unfold tailWp Oper.wp execOp
 rw [hop]
 subst hx
 exact h
theorem tail_stZ {q : Nat} {u0 u1 v : Value} {z z' : Int} {x y : Operand} (hop : o.op = .store 31 x y) (hd : o.dst = none) (hx : a.eval x = .pointer (some ⟨q, 0, none⟩)) (hy : a.eval y = v) (hc : BX q u0 u1 z w) (hi : IntV w v z')
  (h : ∀ w' x0 x1, BX q x0 x1 z' w' → St q w w' → tailWp Tryz.prog Q r a w') : tailWp Tryz.prog Q (o :: r) a w := by
 have hi' := hi
 obtain ⟨ad, n, c, rfl, _⟩ := hi'
 obtain ⟨s, hb⟩ := hc.put hi
 have c0 := hc.c0
 have c1 := hc.c1
 have f0 := hc.f0
 have f1 := hc.f1
 have h1 := h _ _ _ hb s
 unfold tailWp Oper.wp execOp
 rw [hop]
 simp only [hx, hy]
 go_simp
theorem tail_stR {q : Nat} {u0 u1 v : Value} {z z' : Int} {x y : Operand} (hop : o.op = .store 34 x y) (hd : o.dst = none) (hx : a.eval x = .pointer (some ⟨q, 0, none⟩)) (hy : a.eval y = v) (hc : RX q u0 u1 z w) (hi : RefV w v z')
  (h : ∀ w' x0 x1, RX q x0 x1 z' w' → St q w w' → tailWp Tryz.prog Q r a w') : tailWp Tryz.prog Q (o :: r) a w := by
 have hi' := hi
 obtain ⟨ad, n, c, rfl, _⟩ := hi'
 obtain ⟨s, hb⟩ := hc.put hi
 have c0 := hc.c0
 have c1 := hc.c1
 have f0 := hc.f0
 have f1 := hc.f1
 have h1 := h _ _ _ hb s
 unfold tailWp Oper.wp execOp
 rw [hop]
 simp only [hx, hy]
 go_simp
theorem tail_stP {q : Nat} {u0 u1 u2 u3 v : Value} {n d n' d' : Int} {x y : Operand} (hop : o.op = .store 38 x y) (hd : o.dst = none) (hx : a.eval x = .pointer (some ⟨q, 0, none⟩)) (hy : a.eval y = v) (hc : PX q u0 u1 u2 u3 n d w) (hi : RatV w v n' d')
  (h : ∀ w' x0 x1 x2 x3, PX q x0 x1 x2 x3 n' d' w' → St q w w' → tailWp Tryz.prog Q r a w') : tailWp Tryz.prog Q (o :: r) a w := by
 obtain ⟨p1, ad1, m1, k1, p2, ad2, m2, k2, rfl⟩ := ratv_shape hi
 obtain ⟨s, hb⟩ := hc.put hi
 have c0 := hc.c0
 have c1 := hc.c1
 have c2 := hc.c2
 have c3 := hc.c3
 have f0 := hc.f0
 have f1 := hc.f1
 have f2 := hc.f2
 have f3 := hc.f3
 have h1 := h _ _ _ _ _ hb s
 unfold tailWp Oper.wp execOp
 rw [hop]
 simp only [hx, hy]
 go_simp
theorem tail_stQ {q : Nat} {u0 u1 u2 u3 v : Value} {n d n' d' : Int} {x y : Operand} (hop : o.op = .store 43 x y) (hd : o.dst = none) (hx : a.eval x = .pointer (some ⟨q, 0, none⟩)) (hy : a.eval y = v) (hc : QX q u0 u1 u2 u3 n d w) (hi : RQV w v n' d')
  (h : ∀ w' x0 x1 x2 x3, QX q x0 x1 x2 x3 n' d' w' → St q w w' → tailWp Tryz.prog Q r a w') : tailWp Tryz.prog Q (o :: r) a w := by
 obtain ⟨p1, ad1, m1, k1, p2, ad2, m2, k2, rfl, i1, i2⟩ := rqv_shape hi
 obtain ⟨s, hb⟩ := hc.put i1 i2
 have c0 := hc.c0
 have c1 := hc.c1
 have c2 := hc.c2
 have c3 := hc.c3
 have f0 := hc.f0
 have f1 := hc.f1
 have f2 := hc.f2
 have f3 := hc.f3
 have h1 := h _ _ _ _ _ hb s
 unfold tailWp Oper.wp execOp
 rw [hop]
 simp only [hx, hy]
 go_simp
end
end
end Go.Proofs.YtghgcbedajaldaaGreat
