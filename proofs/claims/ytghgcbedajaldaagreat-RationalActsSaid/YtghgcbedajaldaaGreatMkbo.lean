/-  Fx4  -/
import Derived.Test.YtghgcbedajaldaaGreatMkbk
/-  More steps: arithmetic of ints, a fraction of the reference put together.  -/
namespace Go.Proofs.YtghgcbedajaldaaGreat
section
open Go.RowKit Digs
section
variable {ops : Array Oper} {K : Nat} {md : Region.Mode} {F : Nat → Value → World → Prop} {S : World → Prop} {a0 : Act} {i : Nat} {o : Oper}
theorem sty_unU {g : Nat} {b : Bool} {d : Tmp} (hg : o.guard = some (g, b)) (hd : dstOf ops g = some d) (hw : waits md o g = true) (hf : ∀ v w, F g v w → v = undef) (hu : ∀ w, F i undef w) : StepY Tryz.prog ops K md F S a0 i o := fun a w hs hsm _ hk => by
 obtain ⟨v, hv, hfv⟩ := hk.get hw hd
 have hv' := hf _ _ hfv
 subst hv'
 refine ⟨undef, .inr ⟨?_, rfl⟩, hu w⟩
 unfold Region.wanted
 rw [hg]
 have : yielded ops a.tmps g = none := by
  unfold yielded
  have hd' : (ops[g]?).bind (·.dst) = some d := hd
  rw [hd']
  simp only [Option.bind_some, hv]
  rfl
 simp [this]
theorem sty_rem {x y : Operand} {R1 R2 : Value → World → Prop} {z1 z2 z : Int} (hz : z = z1.tmod z2 ∧ z2 ≠ 0) (hop : o.op = .binOp .rem 3 x y 3) (hg : Gd ops md F o) (hx : Arg ops md F S a0 o x R1) (hy : Arg ops md F S a0 o y R2) (hr1 : ∀ v w, R1 v w → v = .int .i64 z1 := by exact fun _ _ h => h) (hr2 : ∀ v w, R2 v w → v = .int .i64 z2 := by exact fun _ _ h => h) (hf : ∀ w, F i (.int .i64 z) w := by exact fun _ => rfl) : StepY Tryz.prog ops K md F S a0 i o :=
 sty_of hg fun a w hs hsm hk => ⟨.int .i64 z, fun w' => by
  have h1 := hr1 _ _ (hx a w hs hsm hk)
  have h2 := hr2 _ _ (hy a w hs hsm hk)
  obtain ⟨hz, h3⟩ := hz
  have h4 : (z2 == 0) = false := by simp [h3]
  subst hz
  unfold execOp
  rw [hop]
  simp only [h1, h2]
  go_simp, hf w⟩
theorem sty_add {x y : Operand} {R1 R2 : Value → World → Prop} {z1 z2 z : Int} (hz : z = IntKind.i64.wrap (z1 + z2)) (hop : o.op = .binOp .add 3 x y 3) (hg : Gd ops md F o) (hx : Arg ops md F S a0 o x R1) (hy : Arg ops md F S a0 o y R2) (hr1 : ∀ v w, R1 v w → v = .int .i64 z1 := by exact fun _ _ h => h) (hr2 : ∀ v w, R2 v w → v = .int .i64 z2 := by exact fun _ _ h => h) (hf : ∀ w, F i (.int .i64 z) w := by exact fun _ => rfl) : StepY Tryz.prog ops K md F S a0 i o :=
 sty_of hg fun a w hs hsm hk => ⟨.int .i64 z, fun w' => by
  have h1 := hr1 _ _ (hx a w hs hsm hk)
  have h2 := hr2 _ _ (hy a w hs hsm hk)
  unfold execOp
  rw [hop]
  simp only [h1, h2]
  go_simp, hf w⟩
theorem sty_buildQ {x y : Operand} {n d : Int} (hop : o.op = .build 43 #[(0, x), (1, y)]) (hg : Gd ops md F o) (hx : Arg ops md F S a0 o x (fun v w => RefV w v n)) (hy : Arg ops md F S a0 o y (fun v w => RefV w v d)) (hf : ∀ v w, RQV w v n d → F i v w := by exact fun _ _ h => h) : StepY Tryz.prog ops K md F S a0 i o :=
 sty_of hg fun a w hs hsm hk => by
  have g1 := hx a w hs hsm hk
  have g2 := hy a w hs hsm hk
  obtain ⟨p1, ad1, n1, c1, e1⟩ := refv_shape g1
  obtain ⟨p2, ad2, n2, c2, e2⟩ := refv_shape g2
  refine ⟨.agg #[.bool p1, .slice ad1 n1 c1, .bool p2, .slice ad2 n2 c2], fun w' => ?_, hf _ _ ⟨_, _, _, _, rfl, by rw [← e1]; exact g1, by rw [← e2]; exact g2⟩⟩
  unfold execOp
  rw [hop]
  simp only [List.map_toArray, List.map_cons, List.map_nil, e1, e2]
  go_simp
end
end
end Go.Proofs.YtghgcbedajaldaaGreat
