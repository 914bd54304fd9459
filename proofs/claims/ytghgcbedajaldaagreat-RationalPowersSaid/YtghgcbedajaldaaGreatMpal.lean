/-  RingA  -/
import Derived.Deep.CutRange
import Derived.Test.YtghgcbedajaldaaGreatMpaf
/-  Short Facts Steps MakeO Made RingA  -/
namespace Go.Proofs.YtghgcbedajaldaaGreat
section
open Go.RowKit Digs
def NRow (w : World) (L : Nat) (ns : List Nat) : Prop := L < w.heap.size ∧ ∀ j : Nat, j < ns.length → ∃ (b : Bool) (ad : Option Addr) (c : Nat), w.cell? ⟨L, j * 2, none⟩ = some (.bool b) ∧ w.cell? ⟨L, j * 2 + 1, none⟩ = some (.slice ad (ns[j]?.getD 0) c) ∧ ns[j]?.getD 0 ≤ maxLen
theorem NRow.keep {w w' : World} {L : Nat} {ns : List Nat} (h : NRow w L ns) (hb : Below w.heap.size w w') : NRow w' L ns :=
 ⟨Nat.lt_of_lt_of_le h.1 hb.size, fun j hj => by
  obtain ⟨b, ad, c, h1, h2, h3⟩ := h.2 j hj
  exact ⟨b, ad, c, (hb.cell (p := ⟨L, j * 2, none⟩) h.1).trans h1, (hb.cell (p := ⟨L, j * 2 + 1, none⟩) h.1).trans h2, h3⟩⟩
set_option maxHeartbeats 400000 in
theorem short1_any (b : Bool) (ad : Option Addr) (n c k M : Nat) (w : World) (hM : w.cell? ⟨M, 0, none⟩ = some (.int .i64 k)) (hMl : M < w.heap.size) :
  Calls Tryz.prog 71 #[.agg #[.bool b, .slice ad n c], .pointer (some ⟨M, 0, none⟩)] w (BoolPost w (decide (k < n))) := by
 have hM' : ∀ o : Obj, (w.alloc o).cell? ⟨M, 0, none⟩ = some (.int .i64 k) := fun o => by rw [World.cell?_alloc_past _ _ _ hMl]; exact hM
 by_cases h : k < n
 ·have e : decide (k < n) = true := by simpa using h
  rw [e]
  clear e
  go_enter Tryz.func71, Tryz.ntmps71
  go_wp2
  go_ret
  exact ⟨rfl, (Below.refl _ _).alloc (Nat.le_refl _) _⟩
 ·have e : decide (k < n) = false := by simpa using h
  rw [e]
  clear e
  go_enter Tryz.func71, Tryz.ntmps71
  go_wp2
  go_ret
  exact ⟨rfl, (Below.refl _ _).alloc (Nat.le_refl _) _⟩
def IdxRel (ns : List Nat) (k : Nat) (w : World) (i : Value) (wr : World) : Prop :=
 ∃ j : Nat, i = .int .i64 j ∧ j ≤ ns.length ∧ (∀ q : Nat, q < j → ns[q]?.getD 0 ≤ k) ∧ Below w.heap.size w wr
def IdxPost (ns : List Nat) (k : Nat) (w : World) (e : Ending) (w' : World) : Prop :=
 Below w.heap.size w w' ∧ ((e = .returned (.int .i64 (-1)) ∧ ∀ q : Nat, q < ns.length → ns[q]?.getD 0 ≤ k) ∨ ∃ q : Nat, e = .returned (.int .i64 q) ∧ q < ns.length ∧ k < ns[q]?.getD 0)
set_option maxHeartbeats 1000000 in
set_option maxRecDepth 100000 in
theorem index_any (L M k c : Nat) (ns : List Nat) (w : World) (hl : ns.length ≤ 1000) (hr : NRow w L ns) (hM : w.cell? ⟨M, 0, none⟩ = some (.int .i64 k)) :
  Calls Tryz.prog 119 #[.slice (some ⟨L, 0, none⟩) ns.length c, .func (.func 71) #[] #[.pointer (some ⟨M, 0, none⟩)]] w (IdxPost ns k w) := by
 have hMl := World.block_lt_of_cell? w _ hM
 have HR := Lib.hid hr
 have HM := Lib.hid hM
 clear hr hM
 go_enter Tryz.func119, Tryz.ntmps119
 go_wp2
 go_loopw [8] (IdxRel ns k w) (fun i _ => ns.length - (intOf i).toNat)
 case atStart => exact ⟨0, rfl, Nat.zero_le _, fun q h => absurd h (Nat.not_lt_zero _), Below.refl _ _⟩
 case round =>
  obtain ⟨j, rfl, hj, hall, hnx⟩ := hrel
  have HALL := Lib.hid hall
  have HNX := Lib.hid hnx
  clear hall hnx
  by_cases hjl : j < ns.length
  ·obtain ⟨b, ad, c', g1, g2, hmx⟩ := (HR.out.keep HNX.out).2 j hjl
   obtain ⟨n, hn⟩ : ∃ n, n = ns[j]?.getD 0 := ⟨_, rfl⟩
   rw [← hn] at g2 hmx
   have HN := Lib.hid hn
   have HS := Lib.hid (short1_any b ad n c' k M wr ((HNX.out.cell (p := ⟨M, 0, none⟩) hMl).trans HM.out) (Nat.lt_of_lt_of_le hMl HNX.out.size))
   clear hn hmx
   by_cases hkn : k < n
   ·have e : decide (k < n) = true := by simpa using hkn
    rw [e] at HS
    clear e
    go_wp2_with fail
    refine HS.out.mono ?_
    rintro e w1 ⟨rfl, hb1⟩
    go_wp2
    go_ret
    exact ⟨HNX.out.trans (hb1.mono HNX.out.size), .inr ⟨j, rfl, hjl, by rw [← HN.out]; exact hkn⟩⟩
   ·have e : decide (k < n) = false := by simpa using hkn
    rw [e] at HS
    clear e
    go_wp2_with fail
    refine HS.out.mono ?_
    rintro e w1 ⟨rfl, hb1⟩
    go_wp2
    go_roundw
    case rel =>
     refine ⟨j + 1, by go_num, by omega, fun q hq => ?_, HNX.out.trans (hb1.mono HNX.out.size)⟩
     by_cases hqj : q = j
     ·rw [hqj, ← HN.out]; omega
     ·exact HALL.out q (by omega)
    case measure => simp [intOf]; omega
  ·go_wp2
   go_ret
   exact ⟨HNX.out, .inl ⟨rfl, fun q hq => HALL.out q (by omega)⟩⟩
def allLe (ns : List Nat) (k : Nat) : Bool := decide (∀ q : Nat, q < ns.length → ns[q]?.getD 0 ≤ k)
set_option maxHeartbeats 1000000 in
set_option maxRecDepth 100000 in
theorem contains_any (L M k c : Nat) (ns : List Nat) (w : World) (hl : ns.length ≤ 1000) (hr : NRow w L ns) (hM : w.cell? ⟨M, 0, none⟩ = some (.int .i64 k)) :
  Calls Tryz.prog 70 #[.slice (some ⟨L, 0, none⟩) ns.length c, .func (.func 71) #[] #[.pointer (some ⟨M, 0, none⟩)]] w (BoolPost w (!allLe ns k)) := by
 have HI := Lib.hid (index_any L M k c ns w hl hr hM)
 clear hr hM
 go_enter Tryz.func70, Tryz.ntmps70
 go_wp2_with fail
 refine HI.out.mono ?_
 rintro e w1 ⟨hb, ⟨rfl, hall⟩ | ⟨q, rfl, hq, hk⟩⟩
 ·have e : allLe ns k = true := decide_eq_true hall
  have E := Lib.hid e
  clear hall e
  go_wp2
  go_ret
  exact ⟨by rw [E.out]; rfl, hb⟩
 ·have e : allLe ns k = false := decide_eq_false (fun h => by have := h q hq; omega)
  have E := Lib.hid e
  clear hk e
  go_wp2
  go_ret
  exact ⟨by rw [E.out]; rfl, hb⟩
set_option maxHeartbeats 1000000 in
set_option maxRecDepth 100000 in
theorem Short_any (L k c : Nat) (ns : List Nat) (w : World) (hl : ns.length ≤ 1000) (hr : NRow w L ns) :
  Calls Tryz.prog 12 #[.int .i64 k, .slice (some ⟨L, 0, none⟩) ns.length c] w (BoolPost w (allLe ns k)) := by
 have hmf : ∀ (fn : Fn) (first cap : Array Value) (w : World), (Instr.makeFunc fn first cap).run Tryz.prog w = .ok (.func fn first cap) w := fun _ _ _ _ => rfl
 have HC := Lib.hid (contains_any L w.heap.size k c ns (w.alloc (.cells #[.int .i64 k] 3)) hl (hr.keep ((Below.refl _ _).alloc (Nat.le_refl _) _)) (by rw [World.cell?_alloc_at _ _ _ _ rfl]; rfl))
 clear hr
 generalize allLe ns k = b at *
 go_enter Tryz.func12, Tryz.ntmps12
 go_wp2_with fail
 refine HC.out.mono ?_
 rintro e w1 ⟨rfl, hb⟩
 cases b
 all_goals
  go_wp2
  go_ret
  exact ⟨rfl, ((Below.refl _ _).alloc (Nat.le_refl _) _).trans (hb.mono (by simp))⟩
end
section
open Go.RowKit Digs
section
variable {P : Program} {ops : Array Oper} {Q : Exit → Act → World → Prop} {md : Region.Mode} {F : Nat → Value → World → Prop} {S : World → Prop} {a0 : Act}
def dstOf (ops : Array Oper) (i : Nat) : Option Tmp := (ops[i]?).bind (·.dst)
def Same (ops : Array Oper) (a0 a : Act) : Prop := a.defers = a0.defers ∧ a.tmps.size = a0.tmps.size ∧ ∀ t, (∀ i, dstOf ops i ≠ some t) → a.tmps[t]? = a0.tmps[t]?
def Know (ops : Array Oper) (md : Region.Mode) (F : Nat → Value → World → Prop) (o : Oper) (a : Act) (w : World) : Prop :=
 ∀ e ∈ o.after, Region.binds md e = true → ∀ d, dstOf ops e.on = some d → ∃ v, a.tmps[d]? = some v ∧ F e.on v w
def StepOK (P : Program) (ops : Array Oper) (md : Region.Mode) (F : Nat → Value → World → Prop) (S : World → Prop) (a0 : Act) (Q : Exit → Act → World → Prop) (i : Nat) (o : Oper) : Prop :=
 ∀ a w, S w → Same ops a0 a → Know ops md F o a w →
  if Region.wanted o (yielded ops a.tmps) = true then o.wp P a w (fun a' w' => ∃ v, a' = a.put o.dst v ∧ F i v w' ∧ Below w.heap.size w w') Q else F i undef w
structure Inv (ops : Array Oper) (F : Nat → Value → World → Prop) (S : World → Prop) (a0 : Act) (listed : Array Bool) (a : Act) (w : World) : Prop where
 s : S w
 same : Same ops a0 a
 fact : ∀ i d, dstOf ops i = some d → listed.getD i false = true → ∃ v, a.tmps[d]? = some v ∧ F i v w
structure Shape (ops : Array Oper) (md : Region.Mode) (n : Nat) : Prop where
 inj : ∀ i j d, dstOf ops i = some d → dstOf ops j = some d → i = j
 lt : ∀ i d, dstOf ops i = some d → d < n
 back : ∀ i o, ops[i]? = some o → ∀ e ∈ o.after, Region.binds md e = true → e.on < i
theorem Inv.step {listed : Array Bool} {a : Act} {w w' : World} {i : Nat} {o : Oper} {v : Value} (hsh : Shape ops md a0.tmps.size) (hF : ∀ i v w w', F i v w → Below w.heap.size w w' → F i v w') (hS : ∀ w w', S w → Below w.heap.size w w' → S w')
  (h : Inv ops F S a0 listed a w) (ho : ops[i]? = some o) (hf : F i v w') (hb : Below w.heap.size w w') :
  Inv ops F S a0 (listed.setIfInBounds i true) (a.put o.dst v) w' := by
 have hdo : dstOf ops i = o.dst := by unfold dstOf; rw [ho]; rfl
 cases hd : o.dst with
 | none =>
  refine ⟨hS _ _ h.s hb, h.same, fun j d hj hl => ?_⟩
  have hji : i ≠ j := by rintro rfl; rw [hdo, hd] at hj; cases hj
  rw [Go.getD_set_ne false hji] at hl
  obtain ⟨u, h1, h2⟩ := h.fact j d hj hl
  exact ⟨u, h1, hF _ _ _ _ h2 hb⟩
 | some t =>
  have hit : dstOf ops i = some t := by rw [hdo, hd]
  have htl : t < a.tmps.size := by rw [h.same.2.1]; exact hsh.lt _ _ hit
  refine ⟨hS _ _ h.s hb, ⟨h.same.1, by simp [Act.put, h.same.2.1], fun u hu => ?_⟩, fun j d hj hl => ?_⟩
  ·have hut : t ≠ u := fun e => hu i (by rw [hit, e])
   simp only [Act.put, Array.getElem?_setIfInBounds_ne hut]
   exact h.same.2.2 u hu
  ·by_cases hji : i = j
   ·subst hji
    rw [hit] at hj
    cases hj
    exact ⟨v, by simp [Act.put, htl], hf⟩
   ·have htd : t ≠ d := fun e => hji (hsh.inj i j t hit (by rw [hj, e]))
    rw [Go.getD_set_ne false hji] at hl
    obtain ⟨u, h1, h2⟩ := h.fact j d hj hl
    exact ⟨u, by simp only [Act.put, Array.getElem?_setIfInBounds_ne htd]; exact h1, hF _ _ _ _ h2 hb⟩
theorem ready_nil {listed : Array Bool} (hb : ∀ i o, ops[i]? = some o → ∀ e ∈ o.after, Region.binds md e = true → e.on < i) (hs : listed.size = ops.size) (h : Region.ready md ops listed = []) :
  ∀ i : Nat, i < ops.size → listed.getD i false = true := by
 intro i
 induction i using Nat.strongRecOn with
 | _ i ih =>
  intro hi
  rcases hl : listed.getD i true with _ | _
  ·have : i ∈ Region.ready md ops listed := mem_ready.2 ⟨hl, ops[i], Array.getElem?_eq_getElem hi, fun e he hbi => by
    have hlt := hb i _ (Array.getElem?_eq_getElem hi) e he hbi
    exact ih e.on hlt (by omega)⟩
   rw [h] at this
   cases this
  ·have h2 : i < listed.size := by omega
   simp [h2] at hl ⊢
   exact hl
def shapeB (ops : Array Oper) (md : Region.Mode) (n : Nat) : Bool :=
 (List.range ops.size).all fun i => match ops[i]? with
  | none => true
  | some o => (o.after.all fun e => !Region.binds md e || decide (e.on < i)) && (match o.dst with
   | none => true
   | some d => decide (d < n) && (List.range ops.size).all fun j => j == i || dstOf ops j != some d)
theorem dstOf_lt {i : Nat} {d : Tmp} (h : dstOf ops i = some d) : i < ops.size := by
 unfold dstOf at h
 cases ho : ops[i]? with
 | none => rw [ho] at h; cases h
 | some o => exact (Array.getElem?_eq_some_iff.1 ho).1
theorem shape_of {n : Nat} (h : shapeB ops md n = true) : Shape ops md n := by
 simp only [shapeB, List.all_eq_true, List.mem_range] at h
 have key : ∀ i d, dstOf ops i = some d → d < n ∧ ∀ j, j < ops.size → j = i ∨ dstOf ops j ≠ some d := fun i d hd => by
  have hi := dstOf_lt hd
  have h1 := h i hi
  unfold dstOf at hd
  cases ho : ops[i]? with
  | none => rw [ho] at hd; cases hd
  | some o =>
   rw [ho] at hd h1
   have hd' : o.dst = some d := hd
   simp only [hd', Bool.and_eq_true, decide_eq_true_eq, List.all_eq_true, List.mem_range, Bool.or_eq_true, beq_iff_eq, bne_iff_ne] at h1
   exact ⟨h1.2.1, fun j hj => h1.2.2 j hj⟩
 refine ⟨fun i j d hi hj => ?_, fun i d hi => (key i d hi).1, fun i o ho e he hb => ?_⟩
 ·rcases (key i d hi).2 j (dstOf_lt hj) with h2 | h2
  ·exact h2.symm
  ·exact absurd hj h2
 ·have h1 := h i (Array.getElem?_eq_some_iff.1 ho).1
  rw [ho] at h1
  simp only [Bool.and_eq_true] at h1
  obtain ⟨k, hk, rfl⟩ := Array.mem_iff_getElem.1 he
  have h2 := Array.all_eq_true.1 h1.1 k hk
  simpa [hb] using h2
def AllSteps (P : Program) (ops : Array Oper) (md : Region.Mode) (F : Nat → Value → World → Prop) (S : World → Prop) (a0 : Act) (Q : Exit → Act → World → Prop) : Nat → List Oper → Prop
 | _, [] => True
 | k, o :: r => StepOK P ops md F S a0 Q k o ∧ AllSteps P ops md F S a0 Q (k + 1) r
theorem AllSteps.get : ∀ (l : List Oper) (k : Nat), AllSteps P ops md F S a0 Q k l → ∀ j o, l[j]? = some o → StepOK P ops md F S a0 Q (k + j) o
 | [], _, _, j, o, h => by cases h
 | p :: r, k, h, 0, o, ho => by cases ho; exact h.1
 | p :: r, k, h, j + 1, o, ho => by
  have := AllSteps.get r (k + 1) h.2 j o ho
  rwa [show k + (j + 1) = k + 1 + j by omega]
def putV (a : Act) (v : Nat → Value) : Nat → List (Option Tmp) → Act
 | _, [] => a
 | k, d :: r => putV (a.put d (v k)) v (k + 1) r
theorem putV_eq (a : Act) (v : Nat → Value) : ∀ (l : List (Option Tmp)) (k : Nat) (b : Act), b.tmps.size = a.tmps.size → b.defers = a.defers →
  (∀ (j : Nat) (d : Tmp), l[j]? = some (some d) → a.tmps[d]? = some (v (k + j))) → (∀ t, (∀ j : Nat, l[j]? ≠ some (some t)) → b.tmps[t]? = a.tmps[t]?) → putV b v k l = a
 | [], k, b, hs, hd, _, hr => by
  obtain ⟨bt, bd⟩ := b
  obtain ⟨at', ad⟩ := a
  cases hd
  have : bt = at' := Array.ext_getElem? fun t => hr t (fun j h => by cases h)
  rw [this]
  rfl
 | d :: r, k, b, hs, hd, hv, hr => by
  refine putV_eq a v r (k + 1) _ ?_ ?_ (fun j e he => ?_) (fun t ht => ?_)
  ·cases d <;> simp [Act.put, hs]
  ·cases d <;> simp [Act.put, hd]
  ·rw [show k + 1 + j = k + (j + 1) by omega]; exact hv (j + 1) e he
  ·cases d with
   | none => exact hr t (fun j => by cases j with | zero => simp | succ j => exact ht j)
   | some e =>
    by_cases het : e = t
    ·subst het
     have h0 := hv 0 e rfl
     have hlt : e < b.tmps.size := by rw [hs]; exact (Array.getElem?_eq_some_iff.1 h0).1
     simp only [Act.put, Array.getElem?_setIfInBounds_self_of_lt hlt, h0]
     rfl
    ·simp only [Act.put, Array.getElem?_setIfInBounds_ne het]
     exact hr t (fun j => by cases j with | zero => simp [het] | succ j => exact ht j)
end
end
section
open Go.RowKit Digs
section
variable {ops : Array Oper} {Q : Exit → Act → World → Prop} {md : Region.Mode} {F : Nat → Value → World → Prop} {S : World → Prop} {a0 : Act} {i : Nat} {o : Oper}
def waits (md : Region.Mode) (o : Oper) (j : Nat) : Bool := o.after.any fun e => e.on == j && Region.binds md e
theorem Know.get {j : Nat} {d : Tmp} {a : Act} {w : World} (h : Know ops md F o a w) (hj : waits md o j = true) (hd : dstOf ops j = some d) : ∃ v, a.tmps[d]? = some v ∧ F j v w := by
 unfold waits at hj
 rw [Array.any_eq_true'] at hj
 obtain ⟨e, he, h2⟩ := hj
 simp only [Bool.and_eq_true, beq_iff_eq] at h2
 obtain ⟨rfl, hb⟩ := h2
 exact h e he hb d hd
def Gd (ops : Array Oper) (md : Region.Mode) (F : Nat → Value → World → Prop) (o : Oper) : Prop :=
 o.guard = none ∨ ∃ g b d, o.guard = some (g, b) ∧ dstOf ops g = some d ∧ waits md o g = true ∧ ∀ v w, F g v w → v = .bool b
theorem Gd.wanted {a : Act} {w : World} (hg : Gd ops md F o) (h : Know ops md F o a w) : Region.wanted o (yielded ops a.tmps) = true := by
 rcases hg with hg | ⟨g, b, d, hg, hd, hw, hf⟩
 ·unfold Region.wanted; rw [hg]
 ·obtain ⟨v, hv, hfv⟩ := h.get hw hd
  have hv' := hf _ _ hfv
  subst hv'
  unfold Region.wanted
  rw [hg]
  have : yielded ops a.tmps g = some b := by
   unfold yielded
   have hd' : (ops[g]?).bind (·.dst) = some d := hd
   rw [hd']
   simp only [Option.bind_some, hv]
  simp [this]
theorem step_of (hg : Gd ops md F o) (h : ∀ a w, S w → Same ops a0 a → Know ops md F o a w → o.wp Tryz.prog a w (fun a' w' => ∃ v, a' = a.put o.dst v ∧ F i v w' ∧ Below w.heap.size w w') Q) :
  StepOK Tryz.prog ops md F S a0 Q i o := fun a w hs hsm hk => by
 rw [if_pos (hg.wanted hk)]
 exact h a w hs hsm hk
def Arg (ops : Array Oper) (md : Region.Mode) (F : Nat → Value → World → Prop) (S : World → Prop) (a0 : Act) (o : Oper) (x : Operand) (R : Value → World → Prop) : Prop :=
 ∀ a w, S w → Same ops a0 a → Know ops md F o a w → R (a.eval x) w
theorem Arg.tmp {j : Nat} {d : Tmp} (hj : waits md o j = true) (hd : dstOf ops j = some d) : Arg ops md F S a0 o (.tmp d) (F j) := fun a w _ _ hk => by
 obtain ⟨v, h1, h2⟩ := hk.get hj hd
 have : a.eval (.tmp d) = v := by simp [Act.eval, h1]
 rw [this]
 exact h2
theorem Arg.const (u : Value) : Arg ops md F S a0 o (.const u) (fun v _ => v = u) := fun _ _ _ _ _ => rfl
def oldB (ops : Array Oper) (t : Tmp) : Bool := (List.range ops.size).all fun i => dstOf ops i != some t
theorem Arg.old {t : Tmp} (ht : oldB ops t = true) : Arg ops md F S a0 o (.tmp t) (fun v _ => v = a0.eval (.tmp t)) := fun a w _ hsm _ => by
 have : a.tmps[t]? = a0.tmps[t]? := hsm.2.2 t fun i hi => by
  unfold oldB at ht
  rw [List.all_eq_true] at ht
  have := ht i (List.mem_range.2 (dstOf_lt hi))
  rw [bne_iff_ne] at this
  exact this hi
 simp [Act.eval, this]
def Enters (f : FuncId) : Prop := ∀ (args : Array Value) (w : World), (callFunc f args).run Tryz.prog w = .ok (.enter f args) w
theorem enters_of {f : FuncId} {fn : Func} (hf : Tryz.prog.funcs[f]? = some fn) (h : (fn.name != "runtime.NumGoroutine" && fn.body.isSome) = true) : Enters f := fun args w => by
 simp only [Bool.and_eq_true, bne_iff_ne, Option.isSome_iff_exists] at h
 obtain ⟨h1, c, h2⟩ := h
 simp [callFunc, hf, h1, h2]
set_option maxRecDepth 100000 in
theorem step_call2 {f : FuncId} (hen : Enters f) {x y : Operand} {ts : Array TypeId} {R1 R2 : Value → World → Prop} (hop : o.op = .call { callee := .value (.func f), args := #[x, y], argTypes := ts }) (hg : Gd ops md F o) (hx : Arg ops md F S a0 o x R1) (hy : Arg ops md F S a0 o y R2)
  (hc : ∀ u v w, S w → R1 u w → R2 v w → Calls Tryz.prog f #[u, v] w fun e w' => ∃ r, e = .returned r ∧ F i r w' ∧ Below w.heap.size w w') : StepOK Tryz.prog ops md F S a0 Q i o :=
 step_of hg fun a w hs hsm hk => by
  have he : (execOp a.eval o).run Tryz.prog w = .ok (.enter f #[a.eval x, a.eval y]) w := by
   obtain ⟨dst, op, ty, pos, after, guard⟩ := o
   subst hop
   rw [execOp_call_go, hen]
   simp
  unfold Oper.wp
  rw [he]
  refine (hc _ _ w hs (hx a w hs hsm hk) (hy a w hs hsm hk)).mono ?_
  rintro e w' ⟨r, rfl, h1, h2⟩
  exact ⟨_, rfl, h1, h2⟩
set_option maxRecDepth 100000 in
theorem step_call1 {f : FuncId} (hen : Enters f) {x : Operand} {ts : Array TypeId} {R1 : Value → World → Prop} (hop : o.op = .call { callee := .value (.func f), args := #[x], argTypes := ts }) (hg : Gd ops md F o) (hx : Arg ops md F S a0 o x R1)
  (hc : ∀ u w, S w → R1 u w → Calls Tryz.prog f #[u] w fun e w' => ∃ r, e = .returned r ∧ F i r w' ∧ Below w.heap.size w w') : StepOK Tryz.prog ops md F S a0 Q i o :=
 step_of hg fun a w hs hsm hk => by
  have he : (execOp a.eval o).run Tryz.prog w = .ok (.enter f #[a.eval x]) w := by
   obtain ⟨dst, op, ty, pos, after, guard⟩ := o
   subst hop
   rw [execOp_call_go, hen]
   simp
  unfold Oper.wp
  rw [he]
  refine (hc _ w hs (hx a w hs hsm hk)).mono ?_
  rintro e w' ⟨r, rfl, h1, h2⟩
  exact ⟨_, rfl, h1, h2⟩
end
end
section
open Go.RowKit Digs
def U32At (w : World) (b : Nat) : Prop := ∃ cur f, w.heap[b]? = some (.cells cur 137 f)
theorem U32At.lt {w : World} {b : Nat} (h : U32At w b) : b < w.heap.size := by
 obtain ⟨cur, f, h⟩ := h
 exact (Array.getElem?_eq_some_iff.1 h).1
theorem U32At.keep {w w' : World} {b : Nat} (h : U32At w b) (hb : b < w.heap.size) (hw : Below w.heap.size w w') : U32At w' b := by
 obtain ⟨cur, f, h⟩ := h
 exact ⟨cur, f, (hw.block b hb).trans h⟩
theorem U32At.setCell {w : World} {b : Nat} (h : U32At w b) (a : Addr) (u : Value) : U32At (w.setCell a u) b := by
 obtain ⟨cur, f, h⟩ := h
 by_cases e : b = a.block
 ·subst e
  refine ⟨if a.spot.isSome then cur else cur.setIfInBounds a.off u, f, ?_⟩
  simp [World.setCell, Array.getElem?_modify, h]
 ·exact ⟨cur, f, by rw [Below.heap_setCell _ _ _ _ e]; exact h⟩
def Typed (w : World) (v : Value) : Prop := ∀ b a n c, v = .agg #[b, .slice (some a) n c] → U32At w a.block
theorem Typed.zero (w : World) : Typed w (.agg #[.bool false, .slice none 0 0]) := fun b a n c h => by cases h
theorem Typed.some {w : World} {b off k cap : Nat} {x : Value} (h : U32At w b) : Typed w (.agg #[x, .slice (some ⟨b, off, none⟩) k cap]) := fun b a n c h => by cases h; assumption
theorem Typed.keep {w w' : World} {v : Value} (h : Typed w v) (hw : Below w.heap.size w w') : Typed w' v := fun b a n c he => (h b a n c he).keep (h b a n c he).lt hw
theorem Typed.setCell {w : World} {v : Value} (h : Typed w v) (a : Addr) (u : Value) : Typed (w.setCell a u) v := fun b a' n c he => (h b a' n c he).setCell a u
theorem u32_of_ow {w : World} {base : Nat} {v : Value} {l : List Nat} (h : Ow w base v l) : ∀ g, v.ownBlock = some g → U32At w g := fun g hg => by
 obtain ⟨_, ⟨rfl, _⟩ | ⟨g', cap, cur, rfl, _, hgg, _⟩⟩ := h
 ·cases hg
 ·cases hg
  exact ⟨cur, (0, 0), hgg⟩
def IntPostO (w : World) (z : Int) (e : Ending) (w' : World) : Prop := ∃ v, e = .returned v ∧ IntV w' v z ∧ Typed w' v ∧ Below w.heap.size w w'
set_option maxHeartbeats 400000 in
theorem own_someO (neg : Bool) (b off cap : Nat) (l : List Nat) (w : World) (hlc : l.length ≤ cap) (hcm : cap ≤ maxLen) (hb : b < w.heap.size)
  (hc : ∀ j, j < l.length → w.cell? ⟨b, off + j, none⟩ = some (.int .u32 ((l[j]?.getD 0 : Nat) : Int))) (hlt : ∀ x ∈ l, x < 4294967296) (hty : U32At w b) :
  Calls Tryz.prog 118 #[.bool neg, .slice (some ⟨b, off, none⟩) l.length cap] w (IntPostO w (sg neg (vl 4294967296 l))) := by
 have HTY := Lib.hid hty
 clear hty
 have HT : ∀ o : Obj, Calls Tryz.prog 163 #[.slice (some ⟨b, off, none⟩) l.length cap] (w.alloc o) (TrimPost b off cap l (w.alloc o)) := fun o =>
  trim_some b off cap l _ hlc hcm (fun j hj => by rw [World.cell?_alloc_past _ _ _ hb]; exact hc j hj)
 have H := Lib.hid HT
 have HC := Lib.hid hc
 clear HT hc
 go_enter Tryz.func118, Tryz.ntmps118
 go_wp2_with fail
 refine (H.out _).mono ?_
 rintro e w' ⟨k, rfl, h1, h2, h3, rfl⟩
 have ht := trim_digs hlt h1 h2 h3
 have HTD := Lib.hid ht
 have H2 := Lib.hid h2
 have H3 := Lib.hid h3
 have HLT := Lib.hid hlt
 clear ht h2 h3 hlt
 by_cases hk : k = 0
 ·subst hk
  go_wp2_with fail
  refine bodyPost_ret (v := .agg #[.bool false, .slice none 0 0]) (by simp [results, Tryz.results118, go_sem]) rfl ⟨_, rfl, IntV.zero _ _ _ ?_, Typed.zero _, (Below.refl _ _).alloc (Nat.le_refl _) _⟩
  rw [← vl_digs (b := 4294967296) (by decide) (vl 4294967296 l), ← HTD.out]
  rfl
 ·have hk0 : ((k : Int) == 0) = false := by rw [beq_eq_false_iff_ne]; omega
  go_wp2_with fail
  have hv0 : vl 4294967296 l ≠ 0 := by
   intro h0
   have h4 := HTD.out
   rw [h0, digs_zero] at h4
   have h5 : (l.take k).length = 0 := by rw [h4]; rfl
   rw [List.length_take] at h5
   omega
  refine bodyPost_ret (v := .agg #[.bool neg, .slice (some ⟨b, off, none⟩) k cap]) (by simp [results, Tryz.results118, go_sem]) rfl ⟨_, rfl, ⟨_, _, _, by rw [sg_neg _ _ hv0], ?_⟩, Typed.some (HTY.out.keep hb ((Below.refl _ _).alloc (Nat.le_refl _) _)), (Below.refl _ _).alloc (Nat.le_refl _) _⟩
  rw [sg_natAbs]
  exact Rd.take (l := l) hlc hcm (by simp; omega) (cells_alloc _ hb HC.out) h1 HTD.out
theorem own_anyO (neg : Bool) (v : Value) (l : List Nat) (w : World) (h : Rd .u32 w v l) (hlt : ∀ x ∈ l, x < 4294967296) (hty : ∀ g, v.ownBlock = some g → U32At w g) :
  Calls Tryz.prog 118 #[.bool neg, v] w (IntPostO w (sg neg (vl 4294967296 l))) := by
 rcases h with ⟨rfl, rfl⟩ | ⟨b, off, cap, rfl, hb, hlc, hcm, hc⟩
 ·exact (own_nil neg w).mono fun _ _ ⟨he, hw⟩ => ⟨_, he, IntV.zero _ _ _ rfl, Typed.zero _, hw⟩
 ·exact own_someO neg b off cap l w hlc hcm hb hc hlt (hty b rfl)
def RdE (w : World) (v : Value) (l : List Nat) : Prop := Rd .u32 w v l ∨ (l = [] ∧ ∃ a c, v = .slice (some a) 0 c)
theorem RdE.keep {w w' : World} {v : Value} {l : List Nat} (h : RdE w v l) (hb : Below w.heap.size w w') : RdE w' v l := h.elim (fun h => .inl (h.keep hb)) .inr
set_option maxRecDepth 100000 in
theorem clone_odd (ad : Addr) (cap : Nat) (w : World) :
  Calls Tryz.prog 121 #[.slice (some ad) 0 cap] w (OwPost w []) := by
 have hq := fun (a : Option Addr) (n c : Nat) (w : World) => Lib.run_eql_slice_nil (P := Tryz.prog) w 22 137 a n c 0 0 Tryz.underlying22
 obtain ⟨i0, hi, hz0, hz1, hz2⟩ := info_parts Tryz.infoU32
 go_enter Tryz.func121, Tryz.ntmps121
 have hown : (w.alloc (.cells #[] 137)).ownsRow w.heap.size 137 1 (.slice (some ⟨w.heap.size, 0, none⟩) 0 0) 0 [] := World.ownsRow_made w #[] 0 (Nat.le_refl _) (by unfold maxLen; omega) rfl
 have HO := Lib.hid hown
 clear hown
 go_wp2_with (at_builtin; refine wpList_append_own _ rfl (.tmp 5) (.tmp 6) 22 rfl w.heap.size 137 i0 (.int .u32 0) 1 4 Tryz.underlying22 hi hz0 hz1 hz2 rfl (by decide) _ 0 [] rfl HO.out ad 0 cap [] rfl rfl ?c1 ?c2 ?c3 ?c4 ?c5 ?_)
 case c1 => intro j u h; cases h
 case c2 => intro u h; cases h
 case c3 => unfold maxLen; omega
 case c4 => omega
 case c5 => simp
 intro v' w1 hown' hgrow _
 go_wp2
 go_ret
 refine ⟨v', rfl, ?_, (((Below.refl _ _).alloc (Nat.le_refl _) _).grown hgrow (by simp) (fun k hk => by simp [Value.ownBlock] at hk; omega))⟩
 exact hown'
theorem clone_e (v : Value) (l : List Nat) (w : World) (hl : l.length * 4 ≤ 140737488355328) (h : RdE w v l) :
  Calls Tryz.prog 121 #[v] w (OwPost w l) := by
 rcases h with h | ⟨rfl, a, c, rfl⟩
 ·exact clone_any v l w hl h
 ·exact clone_odd a c w
set_option maxHeartbeats 400000 in
theorem make_anyO (neg : Bool) (v : Value) (l : List Nat) (w : World) (hl : l.length * 4 ≤ 140737488355328) (h : RdE w v l) (hlt : ∀ x ∈ l, x < 4294967296) :
  Calls Tryz.prog 74 #[.bool neg, v] w (IntPostO w (sg neg (vl 4294967296 l))) := by
 have H := fun W hw => Lib.hid (clone_e v l W hl (h.keep hw))
 have H2 := fun v1 w1 h1 hf => Lib.hid (own_anyO neg v1 l w1 h1 hlt hf)
 clear hl h hlt
 go_enter Tryz.func74, Tryz.ntmps74
 go_wp2_with fail
 refine (H _ ((Below.refl _ _).alloc (Nat.le_refl _) _)).out.mono ?_
 rintro e w1 ⟨v1, rfl, ho, hb1⟩
 have hsz := hb1.size
 go_wp2_with fail
 refine (H2 _ _ ho.rd (u32_of_ow ho)).out.mono ?_
 rintro e w2 ⟨v2, rfl, hv2, hfr, hb2⟩
 obtain ⟨ad, n, c, rfl, hr2⟩ := hv2
 have hB := hb1.trans (hb2.mono hsz)
 obtain ⟨c0, c1, f0, f1, hlt⟩ := box2 hB
 have HR := Lib.hid (hr2.store2 c0 c1 (by intro n h; cases h) (by intro n h; cases h))
 have HBB := Lib.hid hB
 have HFR := Lib.hid hfr
 clear hB hb1 hb2 hr2 ho hfr
 go_wp2_with fail
 refine bodyPost_ret (v := .agg #[.bool (decide (sg neg (vl 4294967296 l) < 0)), .slice ad n c]) (by simp [results, Tryz.results74, go_sem, c0, c1]) rfl ⟨_, rfl, ⟨_, _, _, rfl, HR.out _ _⟩, (HFR.out.setCell _ _).setCell _ _, ?_⟩
 exact ((((Below.refl _ _).alloc (Nat.le_refl _) _).trans (HBB.out.mono (by simp))).setCell (by simp) _).setCell (by simp) _
end
section
open Go.RowKit Digs
def NRd (w : World) (L : Nat) (ns : List (Bool × List Nat)) : Prop :=
 L < w.heap.size ∧ ∀ j : Nat, j < ns.length → ∃ (b : Bool) (l : List Nat) (ad : Option Addr) (c : Nat), ns[j]? = some (b, l) ∧ w.cell? ⟨L, j * 2, none⟩ = some (.bool b) ∧ w.cell? ⟨L, j * 2 + 1, none⟩ = some (.slice ad l.length c) ∧ RdE w (.slice ad l.length c) l ∧ (∀ x ∈ l, x < 4294967296) ∧ l.length * 4 ≤ 140737488355328
theorem NRd.keep {w w' : World} {L : Nat} {ns : List (Bool × List Nat)} (h : NRd w L ns) (hb : Below w.heap.size w w') : NRd w' L ns :=
 ⟨Nat.lt_of_lt_of_le h.1 hb.size, fun j hj => by
  obtain ⟨b, l, ad, c, h1, h2, h3, h4, h5, h6⟩ := h.2 j hj
  exact ⟨b, l, ad, c, h1, (hb.cell (p := ⟨L, j * 2, none⟩) h.1).trans h2, (hb.cell (p := ⟨L, j * 2 + 1, none⟩) h.1).trans h3, h4.keep hb, h5, h6⟩⟩
theorem ownsRow_keep {w w' : World} {base e size n : Nat} {v : Value} {xs : List Value} (h : w.ownsRow base e size v n xs) (hb : Below w.heap.size w w') : w'.ownsRow base e size v n xs := by
 refine ⟨h.1, ?_⟩
 rcases h.2 with hn | ⟨g, cap, cur, rfl, hg, hgg, rest⟩
 ·exact .inl hn
 ·exact .inr ⟨g, cap, cur, rfl, hg, by rw [hb.block g (Array.getElem?_eq_some_iff.1 hgg).1]; exact hgg, rest⟩
def IElem (w : World) (xs : List Value) (z : Int) (j : Nat) : Prop :=
 ∃ ad n c, xs[j * 2]? = some (.bool (decide (z < 0))) ∧ xs[j * 2 + 1]? = some (.slice ad n c) ∧ IntV w (.agg #[.bool (decide (z < 0)), .slice ad n c]) z ∧ Typed w (.agg #[.bool (decide (z < 0)), .slice ad n c])
def IRow (w : World) (base : Nat) (v : Value) (zs : List Int) : Prop :=
 ∃ xs : List Value, w.ownsRow base 31 2 v zs.length xs ∧ ∀ j : Nat, j < zs.length → IElem w xs (zs[j]?.getD 0) j
theorem IElem.keep {w w' : World} {xs : List Value} {z : Int} {j : Nat} (h : IElem w xs z j) (hb : Below w.heap.size w w') : IElem w' xs z j := by
 obtain ⟨ad, n, c, g1, g2, g3, g4⟩ := h
 exact ⟨ad, n, c, g1, g2, g3.keep hb, g4.keep hb⟩
theorem IRow.keep {w w' : World} {base : Nat} {v : Value} {zs : List Int} (h : IRow w base v zs) (hb : Below w.heap.size w w') : IRow w' base v zs := by
 obtain ⟨xs, h1, h2⟩ := h
 exact ⟨xs, ownsRow_keep h1 hb, fun j hj => (h2 j hj).keep hb⟩
theorem u32_ne {w : World} {base n : Nat} {v : Value} {xs : List Value} {b : Nat} (h : w.ownsRow base 31 2 v n xs) (hb : U32At w b) : some b ≠ v.ownBlock := by
 obtain ⟨cur, f, hc⟩ := hb
 obtain ⟨_, ⟨rfl, _⟩ | ⟨g', cap, cur', rfl, _, hgg, _⟩⟩ := h
 ·intro h; cases h
 ·intro h
  cases h
  rw [hgg] at hc
  cases hc
theorem IElem.grown {w w1 : World} {base n : Nat} {v : Value} {xs0 xs xs' : List Value} {z : Int} {j : Nat} (h : IElem w xs z j) (ho : w.ownsRow base 31 2 v n xs0) (hg : w.grownBy w1 v.ownBlock)
  (h0 : xs[j * 2]? = xs'[j * 2]?) (h1 : xs[j * 2 + 1]? = xs'[j * 2 + 1]?) : IElem w1 xs' z j := by
 obtain ⟨ad, m, c, g1, g2, g3, g4⟩ := h
 have hty : ∀ a, ad = some a → w1.heap[a.block]? = w.heap[a.block]? := fun a ha => by
  have := g4 _ a m c (by rw [ha])
  exact hg.block _ this.lt (u32_ne ho this)
 refine ⟨ad, m, c, h0 ▸ g1, h1 ▸ g2, ?_, fun b a m' c' he => ?_⟩
 ·obtain ⟨ad', n', c', he, hr⟩ := g3
  cases he
  refine ⟨_, _, _, rfl, ?_⟩
  rcases hr with hr | ⟨b, off, cap, he, h2, h3, h4, h5⟩
  ·exact .inl hr
  ·refine .inr ⟨b, off, cap, he, Nat.lt_of_lt_of_le h2 hg.size, h3, h4, fun q hq => ?_⟩
   cases he
   rw [← h5 q hq]
   exact World.cell?_of_block (a := ⟨b, off + q, none⟩) (hty ⟨b, off, none⟩ rfl)
 ·cases he
  obtain ⟨cur, f, hc⟩ := g4 _ a m c rfl
  exact ⟨cur, f, by rw [hty a rfl]; exact hc⟩
theorem IRow.snoc {w w1 : World} {base : Nat} {v v' : Value} {zs : List Int} {xs : List Value} {z : Int} {ad : Option Addr} {n c : Nat}
  (ho : w.ownsRow base 31 2 v zs.length xs) (he : ∀ j : Nat, j < zs.length → IElem w xs (zs[j]?.getD 0) j)
  (hz : IntV w (.agg #[.bool (decide (z < 0)), .slice ad n c]) z) (ht : Typed w (.agg #[.bool (decide (z < 0)), .slice ad n c]))
  (hown : w1.ownsRow base 31 2 v' (zs.length + 1) (xs ++ [.bool (decide (z < 0)), .slice ad n c])) (hg : w.grownBy w1 v.ownBlock) : IRow w1 base v' (zs ++ [z]) := by
 have hxl := ho.1
 refine ⟨xs ++ [.bool (decide (z < 0)), .slice ad n c], by rw [List.length_append]; exact hown, fun j hj => ?_⟩
 rw [List.length_append, List.length_singleton] at hj
 by_cases hjl : j < zs.length
 ·rw [List.getElem?_append_left hjl]
  refine (he j hjl).grown ho hg ?_ ?_
  ·rw [List.getElem?_append_left (by omega)]
  ·rw [List.getElem?_append_left (by omega)]
 ·obtain rfl : j = zs.length := by omega
  rw [List.getElem?_append_right (Nat.le_refl _), Nat.sub_self]
  show IElem w1 _ z zs.length
  have h0 : IElem w ((List.replicate xs.length undef) ++ [.bool (decide (z < 0)), .slice ad n c]) z zs.length := by
   refine ⟨ad, n, c, ?_, ?_, hz, ht⟩
   ·rw [List.getElem?_append_right (by simp; omega)]; simp [hxl]
   ·rw [List.getElem?_append_right (by simp; omega)]; simp [hxl]
  refine h0.grown ho hg ?_ ?_
  ·rw [List.getElem?_append_right (by simp; omega), List.getElem?_append_right (by omega)]; simp
  ·rw [List.getElem?_append_right (by simp; omega), List.getElem?_append_right (by omega)]; simp
def nz (p : Bool × List Nat) : Int := sg p.1 (vl 4294967296 p.2)
end
section
open Go.RowKit Digs
structure NArg (w : World) (ad : Option Addr) (c : Nat) (l : List Nat) : Prop where
 rd : RdE w (.slice ad l.length c) l
 lt : ∀ x ∈ l, x < 4294967296
 mx : l.length ≤ maxLen
theorem NArg.keep {w w' : World} {ad : Option Addr} {c : Nat} {l : List Nat} (h : NArg w ad c l) (hb : Below w.heap.size w w') : NArg w' ad c l := ⟨h.rd.keep hb, h.lt, h.mx⟩
def Six (g : Nat) (u1 v1 u2 v2 u3 v3 : Value) (w : World) : Prop :=
 w.cell? ⟨g, 0, none⟩ = some u1 ∧ w.cell? ⟨g, 1, none⟩ = some v1 ∧ w.cell? ⟨g, 2, none⟩ = some u2 ∧ w.cell? ⟨g, 3, none⟩ = some v2 ∧ w.cell? ⟨g, 4, none⟩ = some u3 ∧ w.cell? ⟨g, 5, none⟩ = some v3
theorem Six.keep {g : Nat} {u1 v1 u2 v2 u3 v3 : Value} {a b : World} (h : Six g u1 v1 u2 v2 u3 v3 a) (hb : Below a.heap.size a b) : Six g u1 v1 u2 v2 u3 v3 b := by
 obtain ⟨h1, h2, h3, h4, h5, h6⟩ := h
 have hg := World.block_lt_of_cell? a _ h1
 exact ⟨(hb.cell (p := ⟨g, 0, none⟩) hg).trans h1, (hb.cell (p := ⟨g, 1, none⟩) hg).trans h2, (hb.cell (p := ⟨g, 2, none⟩) hg).trans h3, (hb.cell (p := ⟨g, 3, none⟩) hg).trans h4, (hb.cell (p := ⟨g, 4, none⟩) hg).trans h5, (hb.cell (p := ⟨g, 5, none⟩) hg).trans h6⟩
theorem Six.a0 {g : Nat} {u1 v1 u2 v2 u3 v3 : Value} {a : World} (h : Six g u1 v1 u2 v2 u3 v3 a) : Six g u1 v1 u2 v2 u3 v3 a.drew := h.keep ((Below.refl _ _).drew)
theorem Six.a1 {g : Nat} {u1 v1 u2 v2 u3 v3 : Value} {a : World} (h : Six g u1 v1 u2 v2 u3 v3 a) (o1 : Obj) : Six g u1 v1 u2 v2 u3 v3 (a.alloc o1).drew := h.keep (((Below.refl _ _).alloc (by simp) _).drew)
theorem Six.a2 {g : Nat} {u1 v1 u2 v2 u3 v3 : Value} {a : World} (h : Six g u1 v1 u2 v2 u3 v3 a) (o1 o2 : Obj) : Six g u1 v1 u2 v2 u3 v3 ((a.alloc o1).alloc o2).drew := h.keep ((((Below.refl _ _).alloc (by simp) _).alloc (by simp) _).drew)
theorem Six.a3 {g : Nat} {u1 v1 u2 v2 u3 v3 : Value} {a : World} (h : Six g u1 v1 u2 v2 u3 v3 a) (o1 o2 o3 : Obj) : Six g u1 v1 u2 v2 u3 v3 (((a.alloc o1).alloc o2).alloc o3).drew := h.keep (((((Below.refl _ _).alloc (by simp) _).alloc (by simp) _).alloc (by simp; omega) _).drew)
def XS (w : World) (p q r : Nat) (u1 v1 u2 v2 u3 v3 : Value) (x y z : Int) (wx : World) : Prop :=
 wx.cell? ⟨p, 0, none⟩ = some u1 ∧ wx.cell? ⟨p, 1, none⟩ = some v1 ∧ wx.cell? ⟨q, 0, none⟩ = some u2 ∧ wx.cell? ⟨q, 1, none⟩ = some v2 ∧ wx.cell? ⟨r, 0, none⟩ = some u3 ∧ wx.cell? ⟨r, 1, none⟩ = some v3 ∧
  IntV wx (.agg #[u1, v1]) x ∧ IntV wx (.agg #[u2, v2]) y ∧ IntV wx (.agg #[u3, v3]) z ∧ Below w.heap.size w wx
theorem XS.keep {w : World} {p q r : Nat} {u1 v1 u2 v2 u3 v3 : Value} {x y z : Int} {a b : World} (h : XS w p q r u1 v1 u2 v2 u3 v3 x y z a) (hb : Below a.heap.size a b) : XS w p q r u1 v1 u2 v2 u3 v3 x y z b := by
 obtain ⟨h1, h2, h3, h4, h5, h6, h7, h8, h9, h10⟩ := h
 have hp := World.block_lt_of_cell? a _ h1
 have hq := World.block_lt_of_cell? a _ h3
 have hr := World.block_lt_of_cell? a _ h5
 exact ⟨(hb.cell (p := ⟨p, 0, none⟩) hp).trans h1, (hb.cell (p := ⟨p, 1, none⟩) hp).trans h2, (hb.cell (p := ⟨q, 0, none⟩) hq).trans h3, (hb.cell (p := ⟨q, 1, none⟩) hq).trans h4, (hb.cell (p := ⟨r, 0, none⟩) hr).trans h5, (hb.cell (p := ⟨r, 1, none⟩) hr).trans h6,
  h7.keep hb, h8.keep hb, h9.keep hb, h10.trans (hb.mono h10.size)⟩
def Bd (k : Nat) (z : Int) : Prop := z.natAbs < 4294967296 ^ k
theorem Bd.up {k m : Nat} {z : Int} (h : Bd k z) (hk : k ≤ m) : Bd m z := Nat.lt_of_lt_of_le h (Nat.pow_le_pow_right (by decide) hk)
theorem Bd.zero : Bd 0 0 := by unfold Bd; decide
theorem Bd.two {k m : Nat} {a b : Nat} (ha : a < 4294967296 ^ k) (hb : b < 4294967296 ^ m) : a + b < 4294967296 ^ (k + m + 1) := by
 have h1 : 4294967296 ^ k ≤ 4294967296 ^ (k + m) := Nat.pow_le_pow_right (by decide) (by omega)
 have h2 : 4294967296 ^ m ≤ 4294967296 ^ (k + m) := Nat.pow_le_pow_right (by decide) (by omega)
 rw [Nat.pow_succ]
 omega
theorem Bd.add {k m : Nat} {x y : Int} (hx : Bd k x) (hy : Bd m y) : Bd (k + m + 1) (x + y) := Nat.lt_of_le_of_lt (Int.natAbs_add_le x y) (Bd.two hx hy)
theorem Bd.mul {k m : Nat} {x y : Int} (hx : Bd k x) (hy : Bd m y) : Bd (k + m) (x * y) := by
 unfold Bd
 rw [Int.natAbs_mul, Nat.pow_add]
 exact Nat.mul_lt_mul'' hx hy
theorem len_le {k : Nat} {z : Int} (hk : k ≤ 1000000) (h : Bd k z) : len z ≤ 1000000 := Nat.le_trans (digs_length_le (by decide) _ k h) hk
inductive Fa where
 | z (x : Int)
 | v (u : Value)
def Fa.ok : Fa → Value → World → Prop
 | .z x, y, w => IntV w y x
 | .v u, y, _ => y = u
theorem cmpZ_le (x y : Int) : cmpZ x y ≤ 0 ↔ x ≤ y := by unfold cmpZ; repeat' split <;> omega
end
end Go.Proofs.YtghgcbedajaldaaGreat
