/-  A slice of the program's integers that grows while an iterator runs: what is kept by the one and by the other.  -/
import Derived.RangeFuncNested
import Derived.RangeFuncLeaves
import Derived.Shelf.Abstract
import Derived.WalkKit
import Derived.OwnWalkIn
import Derived.TacticsInMore
import Derived.LoopNIn
import Derived.LoopIn
import Derived.Maps.AppendAt
import Derived.Maps.OwnIn
import Derived.Test.YtiegkjfpdiohkaaGreatQ1
namespace Go.Proofs.YtiegkjfpdiohkaaGreat
section
open Go.RowKit Digs

/-- A value that is no digit. -/
def NI (u : Value) : Prop := ∀ k, u ≠ .int .u32 k
/-- What the slice's own block holds is no digit. -/
def NUR (w : World) (v : Value) : Prop := ∀ g, v.ownBlock = some g → ∃ cur, w.heap[g]? = some (.cells cur 31 (0, 0)) ∧ ∀ u ∈ cur.toList, NI u

theorem NI.bool (b : Bool) : NI (.bool b) := fun _ h => by cases h
theorem NI.slice (a : Option Addr) (n c : Nat) : NI (.slice a n c) := fun _ h => by cases h
theorem zeros_ni {z : Value} (hz : z.cells = #[.bool false, .slice none 0 0]) (n : Nat) : ∀ u ∈ (Builtin.zeroCells z.cells n).toList, NI u := by
  intro u hu
  rw [hz] at hu
  unfold Builtin.zeroCells at hu
  rw [Array.mem_toList_iff, Array.mem_map] at hu
  obtain ⟨i, _, rfl⟩ := hu
  show NI (#[Value.bool false, .slice none 0 0][i % 2]!)
  rcases Nat.mod_two_eq_zero_or_one i with h | h
  · rw [h]; exact NI.bool _
  · rw [h]; exact NI.slice _ _ _

section
variable {P : Program} (w : World)
theorem run_append_nu (base : Nat) (t ty : TypeId) (i : TypeInfo) (z : Value) (ht : P.underlying t = some (.slice 31)) (hi : P.info? 31 = some i) (hz : i.zero = some z)
    (hsize : i.size = 2) (hby : i.bytes = 32) (hzc : z.cells = #[.bool false, .slice none 0 0])
    (v : Value) (n : Nat) (xs : List Value) (hown : w.ownsRow base 31 2 v n xs) (hnu : NUR w v) (hxs : ∀ u ∈ xs, NI u)
    (a : Addr) (c : Nat) (news : List Value) (hl : news.length = 2) (hnews : ∀ j u, news[j]? = some u → w.cell? (a.add j) = some u) (h1 : ∀ u ∈ news, u.oneCell' = true) (hni : ∀ u ∈ news, NI u)
    (h63 : n + 1 ≤ 1000000) (hbase : base ≤ w.heap.size) :
    ∃ v' w', (Builtin.append_ #[t, t] ty #[v, .slice (some a) 1 c]).run P w = .ok v' w' ∧ w'.ownsRow base 31 2 v' (n + 1) (xs ++ news) ∧ w.grownBy w' v.ownBlock ∧ NUR w' v' ∧ (∃ g cap, v' = .slice (some ⟨g, 0, none⟩) (n + 1) cap) := by
  have hl' : news.length = 1 * i.size := by rw [hsize]; exact hl
  have hbytes : (n + 1) * 32 ≤ 140737488355328 := by omega
  obtain ⟨v', w', hr, h2, h3, h4, _⟩ := run_append_own_at (P := P) w base t ty 31 i z 2 32 ht hi hz hsize hby (by rw [hzc]; rfl) (by decide) v n xs hown a 1 c news (by rw [hl]) hnews h1 (by unfold maxLen; omega) hbytes hbase
  refine ⟨v', w', hr, h2, h3, ?_, ?_⟩
  · rcases hown.2 with ⟨rfl, rfl⟩ | ⟨g, cap, cur, rfl, hbg, hg, hnc, hcm, hcs, htake⟩
    · have hx := run_append_nil (P := P) w t ty 31 i z ht hi hz a 1 c news hl' hnews (by omega) (by omega) (by rw [hby]; omega)
      rw [hr] at hx
      injection hx with e1 e2
      subst e1; subst e2
      intro g hg
      obtain rfl : w.heap.size = g := by simpa [Value.ownBlock] using hg
      refine ⟨_, heap_alloc_new w.drew _, fun u hu => ?_⟩
      rw [Array.toList_append, List.mem_append] at hu
      rcases hu with hu | hu
      · exact hni u (by simpa using hu)
      · exact zeros_ni hzc _ u hu
    · by_cases hroom : n + 1 ≤ cap
      · have hfit : n * i.size + news.length ≤ cur.size := by rw [hl', hcs, hsize]; omega
        have hx := run_append_room (P := P) w t ty 31 i ht hi g n cap cur hg a 1 c news hl' hnews h1 hroom hfit
        rw [hr] at hx
        injection hx with e1 e2
        subst e1; subst e2
        obtain ⟨cur', hc', hn'⟩ := hnu g rfl
        rw [hg] at hc'
        injection hc' with hc'
        injection hc' with hc'
        subst hc'
        intro g' hg'
        obtain rfl : g = g' := by simpa [Value.ownBlock] using hg'
        refine ⟨_, setRow_heap w g cur _ _ _ hg, fun u hu => ?_⟩
        simp only [List.append_assoc, List.mem_append] at hu
        rcases hu with hu | hu | hu
        · exact hn' u (List.mem_of_mem_take hu)
        · exact hni u hu
        · exact hn' u (List.mem_of_mem_drop hu)
      · have holds : ∀ j u, xs[j]? = some u → w.cell? ((⟨g, 0, none⟩ : Addr).add j) = some u := hown.cells (g := g) rfl
        have hx := run_append_grow (P := P) w t ty 31 i z ht hi hz ⟨g, 0, none⟩ n cap xs (by rw [hsize]; exact hown.1) holds a 1 c news hl' hnews (by omega) (by omega) (growslice_fits (by omega) (by rw [hby]; exact hbytes))
        rw [hr] at hx
        injection hx with e1 e2
        subst e1; subst e2
        intro g' hg'
        obtain rfl : w.heap.size = g' := by simpa [Value.ownBlock] using hg'
        refine ⟨_, heap_alloc_new w.drew _, fun u hu => ?_⟩
        simp only [Array.toList_append, List.append_assoc, List.mem_append] at hu
        rcases hu with hu | hu | hu
        · exact hxs u (by simpa using hu)
        · exact hni u (by simpa using hu)
        · exact zeros_ni hzc _ u hu
  · rcases h2.2 with ⟨_, h0⟩ | ⟨g, cap, _, rfl, _⟩
    · omega
    · exact ⟨g, cap, rfl⟩

/-- The append, within an iterator's round. -/
theorem wpListIn_append_nu {F : Fence} {nF : Nat} {ops : Array Oper} {rest : List Oper} {o : Oper} {a : Act} {Q : Exit → Act → World → Prop} (hgd : o.guard = none) (s x : Operand) (t : TypeId)
    (ho : o.op = .call { callee := .builtin .append, args := #[s, x], argTypes := #[t, t] })
    (base : Nat) (i : TypeInfo) (z : Value) (ht : P.underlying t = some (.slice 31)) (hi : P.info? 31 = some i) (hz : i.zero = some z)
    (hsize : i.size = 2) (hby : i.bytes = 32) (hzc : z.cells = #[.bool false, .slice none 0 0])
    (v : Value) (n : Nat) (xs : List Value) (hs : a.eval s = v) (hown : w.ownsRow base 31 2 v n xs) (hnu : NUR w v) (hxs : ∀ u ∈ xs, NI u)
    (ad : Addr) (c : Nat) (news : List Value) (hx : a.eval x = .slice (some ad) 1 c) (hl : news.length = 2) (hnews : ∀ j u, news[j]? = some u → w.cell? (ad.add j) = some u) (h1 : ∀ u ∈ news, u.oneCell' = true) (hni : ∀ u ∈ news, NI u)
    (h63 : n + 1 ≤ 1000000) (hbase : base ≤ w.heap.size)
    (h : ∀ g cap w', w'.ownsRow base 31 2 (.slice (some ⟨g, 0, none⟩) (n + 1) cap) (n + 1) (xs ++ news) → w.grownBy w' v.ownBlock → NUR w' (.slice (some ⟨g, 0, none⟩) (n + 1) cap) → wpListIn F nF P ops Q rest (a.put o.dst (.slice (some ⟨g, 0, none⟩) (n + 1) cap)) w') :
    wpListIn F nF P ops Q (o :: rest) a w := by
  refine wpListIn_plain hgd fun K hK => ?_
  obtain ⟨v', w', hr, h2, h3, h4, g, cap, rfl⟩ := run_append_nu (P := P) w base t o.type i z ht hi hz hsize hby hzc v n xs hown hnu hxs ad c news hl hnews h1 hni h63 hbase
  have hk := hK _ _ (h g cap w' h2 h3 h4)
  unfold Oper.wpIn
  refine ⟨by simp [Oper.about, ho, resolve, Target.leads, Sem.run_pure], ?_⟩
  rw [Oper.semAt_plain F _ _ (by rw [ho]; intro c hc'; cases hc')]
  simp [execOp, ho, resolve, invoke, builtin, hs, hx, hr, Result.andThen]
  exact hk
end

/-- The digits that lay lie as they lay. -/
def KU (A C : World) : Prop := ∀ (a : Addr) (n : Int), A.cell? a = some (.int .u32 n) → C.cell? a = some (.int .u32 n)
theorem KU.refl (A : World) : KU A A := fun _ _ h => h
theorem KU.trans {A B C : World} (h : KU A B) (k : KU B C) : KU A C := fun a n e => k a n (h a n e)
theorem KU.below {A C : World} (h : Below A.heap.size A C) : KU A C := fun a _ e => (h.cell (p := a) (World.block_lt_of_cell? A _ e)).trans e
theorem KU.setCell {A : World} {a : Addr} {u : Value} (hu : A.cell? a = some u) (hn : NI u) (x : Value) : KU A (A.setCell a x) := fun b n e => by
  rw [World.cell?_setCell_other _ _ _ _ ?_]
  · exact e
  · intro h
    subst h
    rw [hu] at e
    injection e with e
    exact hn n e
theorem KU.putObj {A : World} {l : Nat} {o o' : Obj} (hl : A.heap[l]? = some o) (ho : o.isCells = false) : KU A (A.putObj l o') := fun a n e => by
  refine (World.cell?_of_block (World.putObj_heap_other ?_)).trans e
  intro h
  obtain ⟨o2, h2, h3⟩ := cells_of_cell e
  rw [h, hl] at h2
  cases h2
  rw [ho] at h3
  cases h3
theorem KU.grown {A C : World} {v : Value} (hg : A.grownBy C v.ownBlock) (hn : NUR A v) : KU A C := fun a n e => by
  refine hg.cell e fun h => ?_
  obtain ⟨cur, hc, hi⟩ := hn a.block h.symm
  have e' := e
  unfold World.cell? at e'
  rw [hc] at e'
  simp only at e'
  split at e'
  · cases e'
  · exact hi _ (by simpa using Array.mem_of_getElem? e') n rfl
theorem IntV.ku {A C : World} {v : Value} {z : Int} (h : IntV A v z) (hk : KU A C) (hs : A.heap.size ≤ C.heap.size) : IntV C v z := by
  obtain ⟨ad, n, c, rfl, hr⟩ := h
  refine ⟨ad, n, c, rfl, ?_⟩
  rcases hr with h | ⟨b, off, cap, he, h1, h2, h3, h4⟩
  · exact .inl h
  · exact .inr ⟨b, off, cap, he, Nat.lt_of_lt_of_le h1 hs, h2, h3, fun j hj => hk _ _ (h4 j hj)⟩

/-- What a step keeps: the blocks of S, and all digits. -/
structure Kept (S : Nat → Prop) (A C : World) : Prop where
  os : C.os = A.os
  tape : C.tape = A.tape
  output : C.output = A.output
  size : A.heap.size ≤ C.heap.size
  blk : ∀ k, k < A.heap.size → S k → C.heap[k]? = A.heap[k]?
  ku : KU A C
theorem Kept.refl (S : Nat → Prop) (A : World) : Kept S A A := ⟨rfl, rfl, rfl, Nat.le_refl _, fun _ _ _ => rfl, KU.refl A⟩
theorem Kept.trans {S : Nat → Prop} {A B C : World} (h : Kept S A B) (k : Kept S B C) : Kept S A C :=
  ⟨k.os.trans h.os, k.tape.trans h.tape, k.output.trans h.output, Nat.le_trans h.size k.size, fun i hi hs => (k.blk i (Nat.lt_of_lt_of_le hi h.size) hs).trans (h.blk i hi hs), h.ku.trans k.ku⟩
theorem Kept.below {S : Nat → Prop} {A C : World} (h : Below A.heap.size A C) : Kept S A C := ⟨h.os, h.tape, h.output, h.size, fun k hk _ => h.block k hk, KU.below h⟩
theorem Kept.setCell {S : Nat → Prop} {A : World} {a : Addr} {u : Value} (hu : A.cell? a = some u) (hn : NI u) (hs : ¬ S a.block) (x : Value) : Kept S A (A.setCell a x) :=
  ⟨rfl, rfl, rfl, by simp [World.setCell], fun k _ h => Below.heap_setCell _ _ _ _ (fun e => hs (e ▸ h)), KU.setCell hu hn x⟩
theorem Kept.mono {S T : Nat → Prop} {A C : World} (h : Kept S A C) (hT : ∀ k, k < A.heap.size → T k → S k) : Kept T A C :=
  ⟨h.os, h.tape, h.output, h.size, fun k hk hs => h.blk k hk (hT k hk hs), h.ku⟩
end
end Go.Proofs.YtiegkjfpdiohkaaGreat
