/-  A region that draws its order, by facts: each operation is walked once, whatever came before it.  -/
import Derived.Test.YtfieecdedilonaaShort
namespace Go.Proofs.Ytfieecdedilonaa
open Go.RowKit Digs

section
variable {P : Program} {ops : Array Oper} {Q : Exit → Act → World → Prop} {md : Region.Mode} {F : Nat → Value → World → Prop} {S : World → Prop} {a0 : Act}

def dstOf (ops : Array Oper) (i : Nat) : Option Tmp := (ops[i]?).bind (·.dst)

/-- The slots that the region doesn't write are as they were. -/
def Same (ops : Array Oper) (a0 a : Act) : Prop := a.defers = a0.defers ∧ a.tmps.size = a0.tmps.size ∧ ∀ t, (∀ i, dstOf ops i ≠ some t) → a.tmps[t]? = a0.tmps[t]?

/-- What is known of the operations that this one waits for. -/
def Know (ops : Array Oper) (md : Region.Mode) (F : Nat → Value → World → Prop) (o : Oper) (a : Act) (w : World) : Prop :=
  ∀ e ∈ o.after, Region.binds md e = true → ∀ d, dstOf ops e.on = some d → ∃ v, a.tmps[d]? = some v ∧ F e.on v w

/-- The step of one operation. -/
def StepOK (P : Program) (ops : Array Oper) (md : Region.Mode) (F : Nat → Value → World → Prop) (S : World → Prop) (a0 : Act) (Q : Exit → Act → World → Prop) (i : Nat) (o : Oper) : Prop :=
  ∀ a w, S w → Same ops a0 a → Know ops md F o a w →
    if Region.wanted o (yielded ops a.tmps) = true then o.wp P a w (fun a' w' => ∃ v, a' = a.put o.dst v ∧ F i v w' ∧ Below w.heap.size w w') Q else F i undef w

structure Inv (ops : Array Oper) (F : Nat → Value → World → Prop) (S : World → Prop) (a0 : Act) (listed : Array Bool) (a : Act) (w : World) : Prop where
  s : S w
  same : Same ops a0 a
  fact : ∀ i d, dstOf ops i = some d → listed.getD i false = true → ∃ v, a.tmps[d]? = some v ∧ F i v w

structure Shape (ops : Array Oper) (md : Region.Mode) (n : Nat) : Prop where
  inj : ∀ i j d, dstOf ops i = some d → dstOf ops j = some d → i = j
  lt : ∀ i d, dstOf ops i = some d → d < n
  back : ∀ i o, ops[i]? = some o → ∀ e ∈ o.after, Region.binds md e = true → e.on < i

theorem Inv.step {listed : Array Bool} {a : Act} {w w' : World} {i : Nat} {o : Oper} {v : Value} (hsh : Shape ops md a0.tmps.size) (hF : ∀ i v w w', F i v w → Below w.heap.size w w' → F i v w') (hS : ∀ w w', S w → Below w.heap.size w w' → S w')
    (h : Inv ops F S a0 listed a w) (ho : ops[i]? = some o) (hf : F i v w') (hb : Below w.heap.size w w') :
    Inv ops F S a0 (listed.setIfInBounds i true) (a.put o.dst v) w' := by
  have hdo : dstOf ops i = o.dst := by unfold dstOf; rw [ho]; rfl
  cases hd : o.dst with
  | none =>
    refine ⟨hS _ _ h.s hb, h.same, fun j d hj hl => ?_⟩
    have hji : i ≠ j := by rintro rfl; rw [hdo, hd] at hj; cases hj
    rw [Go.getD_set_ne false hji] at hl
    obtain ⟨u, h1, h2⟩ := h.fact j d hj hl
    exact ⟨u, h1, hF _ _ _ _ h2 hb⟩
  | some t =>
    have hit : dstOf ops i = some t := by rw [hdo, hd]
    have htl : t < a.tmps.size := by rw [h.same.2.1]; exact hsh.lt _ _ hit
    refine ⟨hS _ _ h.s hb, ⟨h.same.1, by simp [Act.put, h.same.2.1], fun u hu => ?_⟩, fun j d hj hl => ?_⟩
    · have hut : t ≠ u := fun e => hu i (by rw [hit, e])
      simp only [Act.put, Array.getElem?_setIfInBounds_ne hut]
      exact h.same.2.2 u hu
    · by_cases hji : i = j
      · subst hji
        rw [hit] at hj
        cases hj
        exact ⟨v, by simp [Act.put, htl], hf⟩
      · have htd : t ≠ d := fun e => hji (hsh.inj i j t hit (by rw [hj, e]))
        rw [Go.getD_set_ne false hji] at hl
        obtain ⟨u, h1, h2⟩ := h.fact j d hj hl
        exact ⟨u, by simp only [Act.put, Array.getElem?_setIfInBounds_ne htd]; exact h1, hF _ _ _ _ h2 hb⟩

theorem ready_nil {listed : Array Bool} (hb : ∀ i o, ops[i]? = some o → ∀ e ∈ o.after, Region.binds md e = true → e.on < i) (hs : listed.size = ops.size) (h : Region.ready md ops listed = []) :
    ∀ i : Nat, i < ops.size → listed.getD i false = true := by
  intro i
  induction i using Nat.strongRecOn with
  | _ i ih =>
    intro hi
    rcases hl : listed.getD i true with _ | _
    · have : i ∈ Region.ready md ops listed := mem_ready.2 ⟨hl, ops[i], Array.getElem?_eq_getElem hi, fun e he hbi => by
        have hlt := hb i _ (Array.getElem?_eq_getElem hi) e he hbi
        exact ih e.on hlt (by omega)⟩
      rw [h] at this
      cases this
    · have h2 : i < listed.size := by omega
      simp [h2] at hl ⊢
      exact hl

theorem wpAny_facts (hsh : Shape ops md a0.tmps.size) (hF : ∀ i v w w', F i v w → Below w.heap.size w w' → F i v w') (hS : ∀ w w', S w → Below w.heap.size w w' → S w')
    (hstep : ∀ i o, ops[i]? = some o → StepOK P ops md F S a0 Q i o)
    (hfin : ∀ a w, (∀ i d, dstOf ops i = some d → ∃ v, a.tmps[d]? = some v ∧ F i v w) → Same ops a0 a → S w → Q .normal a w) :
    ∀ (fuel : Nat) (listed : Array Bool) (a : Act) (w : World), listed.size = ops.size → listed.toList.countP (fun b => !b) = fuel → Inv ops F S a0 listed a w → wpAny P md ops Q fuel listed a w := by
  have fin : ∀ (listed : Array Bool) (a : Act) (w : World), listed.size = ops.size → Inv ops F S a0 listed a w → Region.ready md ops listed = [] → Q .normal a w := fun listed a w hs h hr => by
    refine hfin a w (fun i d hd => h.fact i d hd (ready_nil hsh.back hs hr i ?_)) h.same h.s
    unfold dstOf at hd
    cases ho : ops[i]? with
    | none => rw [ho] at hd; cases hd
    | some o => exact (Array.getElem?_eq_some_iff.1 ho).1
  intro fuel
  induction fuel with
  | zero =>
    intro listed a w hs hc h
    have hr : Region.ready md ops listed = [] := by
      rw [List.eq_nil_iff_forall_not_mem]
      intro i hi
      obtain ⟨h0, o, ho, _⟩ := mem_ready.1 hi
      have hil : i < listed.size := by rw [hs]; exact (Array.getElem?_eq_some_iff.1 ho).1
      rw [List.countP_eq_zero] at hc
      have := hc (listed[i]) (by simp)
      simp [hil] at h0 this
      rw [h0] at this
      cases this
    exact ⟨hr, fin _ _ _ hs h hr⟩
  | succ fuel ih =>
    intro listed a w hs hc h
    refine ⟨fin _ _ _ hs h, fun i hi => ?_⟩
    obtain ⟨h0, o, ho, hall⟩ := mem_ready.1 hi
    have hil : i < listed.size := by rw [hs]; exact (Array.getElem?_eq_some_iff.1 ho).1
    have hst := hstep i o ho a w h.s h.same (fun e he hb d hd => h.fact e.on d hd (hall e he hb))
    have hnext : ∀ v w', F i v w' → Below w.heap.size w w' → wpAny P md ops Q fuel (listed.setIfInBounds i true) (a.put o.dst v) w' := fun v w' hf hb => by
      refine ih _ _ _ (by simp [hs]) ?_ (h.step hsh hF hS ho hf hb)
      rw [Array.toList_setIfInBounds, List.countP_set (by simpa using hil)]
      have hc' : listed.countP (fun b => !b) = fuel + 1 := by simpa using hc
      simp [hil] at h0
      simp [h0]
      omega
    refine wpOp_step ho fun K hK => ?_
    by_cases hw : Region.wanted o (yielded ops a.tmps) = true
    · rw [if_pos hw] at hst ⊢
      exact Oper.wp_mono (fun a' w' ⟨v, he, hf, hb⟩ => by subst he; exact hK _ _ (hnext v w' hf hb)) hst
    · rw [if_neg hw] at hst ⊢
      exact hK _ _ (hnext _ _ hst (Below.refl _ _))

/-- The shape, as a Bool. -/
def shapeB (ops : Array Oper) (md : Region.Mode) (n : Nat) : Bool :=
  (List.range ops.size).all fun i => match ops[i]? with
    | none => true
    | some o => (o.after.all fun e => !Region.binds md e || decide (e.on < i)) && (match o.dst with
      | none => true
      | some d => decide (d < n) && (List.range ops.size).all fun j => j == i || dstOf ops j != some d)

theorem dstOf_lt {i : Nat} {d : Tmp} (h : dstOf ops i = some d) : i < ops.size := by
  unfold dstOf at h
  cases ho : ops[i]? with
  | none => rw [ho] at h; cases h
  | some o => exact (Array.getElem?_eq_some_iff.1 ho).1

theorem shape_of {n : Nat} (h : shapeB ops md n = true) : Shape ops md n := by
  simp only [shapeB, List.all_eq_true, List.mem_range] at h
  have key : ∀ i d, dstOf ops i = some d → d < n ∧ ∀ j, j < ops.size → j = i ∨ dstOf ops j ≠ some d := fun i d hd => by
    have hi := dstOf_lt hd
    have h1 := h i hi
    unfold dstOf at hd
    cases ho : ops[i]? with
    | none => rw [ho] at hd; cases hd
    | some o =>
      rw [ho] at hd h1
      have hd' : o.dst = some d := hd
      simp only [hd', Bool.and_eq_true, decide_eq_true_eq, List.all_eq_true, List.mem_range, Bool.or_eq_true, beq_iff_eq, bne_iff_ne] at h1
      exact ⟨h1.2.1, fun j hj => h1.2.2 j hj⟩
  refine ⟨fun i j d hi hj => ?_, fun i d hi => (key i d hi).1, fun i o ho e he hb => ?_⟩
  · rcases (key i d hi).2 j (dstOf_lt hj) with h2 | h2
    · exact h2.symm
    · exact absurd hj h2
  · have h1 := h i (Array.getElem?_eq_some_iff.1 ho).1
    rw [ho] at h1
    simp only [Bool.and_eq_true] at h1
    obtain ⟨k, hk, rfl⟩ := Array.mem_iff_getElem.1 he
    have h2 := Array.all_eq_true.1 h1.1 k hk
    simpa [hb] using h2

/-- The steps, one after another. -/
def AllSteps (P : Program) (ops : Array Oper) (md : Region.Mode) (F : Nat → Value → World → Prop) (S : World → Prop) (a0 : Act) (Q : Exit → Act → World → Prop) : Nat → List Oper → Prop
  | _, [] => True
  | k, o :: r => StepOK P ops md F S a0 Q k o ∧ AllSteps P ops md F S a0 Q (k + 1) r
theorem AllSteps.get : ∀ (l : List Oper) (k : Nat), AllSteps P ops md F S a0 Q k l → ∀ j o, l[j]? = some o → StepOK P ops md F S a0 Q (k + j) o
  | [], _, _, j, o, h => by cases h
  | p :: r, k, h, 0, o, ho => by cases ho; exact h.1
  | p :: r, k, h, j + 1, o, ho => by
    have := AllSteps.get r (k + 1) h.2 j o ho
    rwa [show k + (j + 1) = k + 1 + j by omega]

/-- The slots, written. -/
def putV (a : Act) (v : Nat → Value) : Nat → List (Option Tmp) → Act
  | _, [] => a
  | k, d :: r => putV (a.put d (v k)) v (k + 1) r
theorem putV_eq (a : Act) (v : Nat → Value) : ∀ (l : List (Option Tmp)) (k : Nat) (b : Act), b.tmps.size = a.tmps.size → b.defers = a.defers →
    (∀ (j : Nat) (d : Tmp), l[j]? = some (some d) → a.tmps[d]? = some (v (k + j))) → (∀ t, (∀ j : Nat, l[j]? ≠ some (some t)) → b.tmps[t]? = a.tmps[t]?) → putV b v k l = a
  | [], k, b, hs, hd, _, hr => by
    obtain ⟨bt, bd⟩ := b
    obtain ⟨at', ad⟩ := a
    cases hd
    have : bt = at' := Array.ext_getElem? fun t => hr t (fun j h => by cases h)
    rw [this]
    rfl
  | d :: r, k, b, hs, hd, hv, hr => by
    refine putV_eq a v r (k + 1) _ ?_ ?_ (fun j e he => ?_) (fun t ht => ?_)
    · cases d <;> simp [Act.put, hs]
    · cases d <;> simp [Act.put, hd]
    · rw [show k + 1 + j = k + (j + 1) by omega]; exact hv (j + 1) e he
    · cases d with
      | none => exact hr t (fun j => by cases j with | zero => simp | succ j => exact ht j)
      | some e =>
        by_cases het : e = t
        · subst het
          have h0 := hv 0 e rfl
          have hlt : e < b.tmps.size := by rw [hs]; exact (Array.getElem?_eq_some_iff.1 h0).1
          simp only [Act.put, Array.getElem?_setIfInBounds_self_of_lt hlt, h0]
          rfl
        · simp only [Act.put, Array.getElem?_setIfInBounds_ne het]
          exact hr t (fun j => by cases j with | zero => simp [het] | succ j => exact ht j)

/-- A region that draws its order: each operation once, from the facts of those that it waits for. -/
theorem wp_region_facts {id : Nat} {w : World} (F : Nat → Value → World → Prop) (S : World → Prop) (hm : P.follows .mixedOrders = true) (hsh : shapeB ops .any a0.tmps.size = true)
    (hF : ∀ i v w w', F i v w → Below w.heap.size w w' → F i v w') (hS : ∀ w w', S w → Below w.heap.size w w' → S w') (hS0 : S w.drew)
    (hstep : AllSteps P ops .any F S a0 Q 0 ops.toList) (ds : List (Option Tmp)) (hds : ops.toList.map (·.dst) = ds)
    (hfin : ∀ (v : Nat → Value) w, (∀ i d, dstOf ops i = some d → F i (v i) w) → S w → Q .normal (putV a0 v 0 ds) w) : (Code.region id ops true).wp P Q a0 w := by
  subst hds
  refine wp_region_any hm ?_
  refine wpAny_facts (a0 := a0) (F := F) (S := S) (shape_of hsh) hF hS (fun i o ho => ?_) (fun a w hk hsm hs => ?_) _ _ _ _ (by simp) ?_ ⟨hS0, ⟨rfl, rfl, fun _ _ => rfl⟩, fun i d _ hl => ?_⟩
  · have := AllSteps.get _ _ hstep i o (by simpa using ho)
    rwa [Nat.zero_add] at this
  · have hex : ∀ i, ∃ v, ∀ d, dstOf ops i = some d → a.tmps[d]? = some v ∧ F i v w := fun i => by
      cases hd : dstOf ops i with
      | none => exact ⟨undef, fun d h => by cases h⟩
      | some d => obtain ⟨v, h1, h2⟩ := hk i d hd; exact ⟨v, fun e he => by cases he; exact ⟨h1, h2⟩⟩
    obtain ⟨v, hv⟩ := Classical.axiomOfChoice hex
    have hl : ∀ j : Nat, (ops.toList.map (fun o : Oper => o.dst))[j]? = (ops[j]?).map (fun o : Oper => o.dst) := fun j => by rw [List.getElem?_map, Array.getElem?_toList]
    have e : putV a0 v 0 (ops.toList.map (·.dst)) = a := by
      refine putV_eq a v _ 0 a0 hsm.2.1.symm hsm.1.symm (fun j d hj => ?_) (fun t ht => (hsm.2.2 t fun i hi => ht i ?_).symm)
      · rw [hl] at hj
        rw [Nat.zero_add]
        refine (hv j d ?_).1
        unfold dstOf
        cases ho : ops[j]? with
        | none => rw [ho] at hj; cases hj
        | some o => rw [ho] at hj; simpa using hj
      · rw [hl]
        unfold dstOf at hi
        cases ho : ops[i]? with
        | none => rw [ho] at hi; cases hi
        | some o => rw [ho] at hi; simpa using hi
    have h9 := hfin v w (fun i d hd => (hv i d hd).2) hs
    rw [e] at h9
    exact h9
  · rw [Array.toList_replicate, List.countP_replicate]; rfl
  · simp [Array.getElem?_replicate] at hl
    split at hl <;> simp at hl

end
end Go.Proofs.Ytfieecdedilonaa
