/-  A loop over an iterator that yields numbers of the program, each of which reads where it comes: what the two owe one another, and the law.  -/
import Derived.Test.YtiegkjfpdiohkaaGreatQa
import Derived.RangeFuncBox
namespace Go.Proofs.YtiegkjfpdiohkaaGreat
section
open Go.RowKit Digs
variable {α β : Type}

/-- The loop's word at each element that comes. Cap: what the iterator has captured; b: the heap's size where the iterator is called; lo: behind the iterator's own first blocks; m: the heap's size behind the last round. -/
structure Host (P : Program) (key : α → β) (encs : α → Array Value) (Rd : α → World → Prop) (Cap : Nat → Prop) (l b : Nat) (T : List β) (J : List β → Nat → Nat → World → Prop) : Prop where
  keep : ∀ zs lo m A C, J zs lo m A → Kept (fun i => i < b ∨ lo ≤ i ∧ i < m) A C → J zs lo m C
  take : ∀ n zs lo m x A, J zs lo m A → zs ++ [key x] <+: T → b ≤ lo → lo ≤ A.heap.size → m ≤ A.heap.size → Rd x A →
    YieldAt Fence.wide n P l (encs x) A fun e C => e = .returned (.bool true) ∧ J (zs ++ [key x]) lo C.heap.size C ∧ Kept (fun i => Cap i ∨ b ≤ i ∧ i < lo ∨ m ≤ i) A C
/-- The iterator's word: it yields T, and returns. -/
def Gives (P : Program) (key : α → β) (encs : α → Array Value) (Rd : α → World → Prop) (Cap : Nat → Prop) (g : Nat) (lb : Array Value) (T : List β) (w : World) : Prop :=
  ∀ (W : World) (l : Nat) (J : List β → Nat → Nat → World → Prop), Below w.heap.size w W → Host P key encs Rd Cap l W.heap.size T J → (∀ lo, W.heap.size ≤ lo → J [] lo lo W) →
    CallsIn Fence.wide 20 P g (#[.func (.yield l) #[] #[]] ++ lb) W fun e C => (∃ v, e = .returned v) ∧ ∃ lo m, J T lo m C

theorem Kept.turn {A : World} {l : Nat} {o : Obj} (o' : Obj) (hl : A.heap[l]? = some o) (ho : o.isCells = false) : Kept (fun i => i ≠ l) A (A.putObj l o') :=
  ⟨rfl, rfl, rfl, by simp, fun _ _ h => World.putObj_heap_other h, KU.putObj hl ho⟩

theorem wpIn_rangeFunc_host {P : Program} {g : Operand} {ps : Array Tmp} {assign body : Code} {Q : Exit → Act → World → Prop} {a : Act} {w : World} {gf : Nat} {lb : Array Value} {T : List β} {key : α → β} {encs : α → Array Value} {Rd : α → World → Prop} {Cap : Nat → Prop}
    (hg : a.eval g = .func (.func gf) #[] lb) (eg : ∀ args w, (callFunc gf args).run P w = .ok (.enter gf args) w) (hps : ∀ x, (encs x).size = ps.size) (hCap : ∀ i, Cap i → i < w.heap.size) (hseq : Gives P key encs Rd Cap gf lb T w)
    (I : List β → Nat → Nat → World → Prop)
    (hI : ∀ zs lo m A C, I zs lo m A → Kept (fun i => i < w.heap.size ∨ lo ≤ i ∧ i < m) A C → I zs lo m C)
    (h0 : ∀ lo, w.heap.size + 2 ≤ lo → I [] lo lo w)
    (hround : ∀ (l n : Nat) (zs : List β) (lo m : Nat) (x : α) (A : World), l = w.heap.size + 1 → I zs lo m A → zs ++ [key x] <+: T → w.heap.size + 2 ≤ lo → lo ≤ A.heap.size → lo ≤ m → m ≤ A.heap.size → Rd x A →
      assign.wpIn (Fence.wide.inRound l) n P (Exit.then (fun a₁ w₁ => Kept (fun i => Cap i ∨ w.heap.size ≤ i ∧ i < lo ∨ m ≤ i) A w₁ ∧ ∀ w₂, w₂.heap.size = w₁.heap.size → Kept (fun i => i ≠ l) w₁ w₂ →
        body.wpIn (Fence.wide.inRound l) n P (fun ex _ C => ex = .normal ∧ Kept (fun i => Cap i ∨ w.heap.size ≤ i ∧ i < lo ∨ m ≤ i) w₂ C ∧ I (zs ++ [key x]) lo C.heap.size C) a₁ w₂) (fun _ _ _ => False))
        { tmps := (ps.zip (encs x)).foldl (fun t (p, v) => t.setIfInBounds p v) a.tmps, defers := [] } A)
    (hdone : ∀ (lo m : Nat) (C : World), I T lo m C → C.heap[w.heap.size]? = some (.deferred (some [])) → Q .normal { a with defers := { target := .collected w.heap.size, args := #[] } :: a.defers } C) :
    (Code.rangeFunc g ps assign body).wpIn Fence.wide 21 P Q a w := by
  refine wpIn_rangeFunc fun fn hfn => ?_
  obtain ⟨R, hR⟩ : ∃ R : LoopState → Loop, R = fun st => { state := st, pending := none, fn, tmps := a.tmps, params := ps, assign, body, defers := w.heap.size } := ⟨_, rfl⟩
  obtain ⟨V, hV⟩ : ∃ V, (w.alloc (.deferred (some []))).alloc (.loop (R .ready)) = V := ⟨_, rfl⟩
  have hsz : V.heap.size = w.heap.size + 2 := by rw [← hV]; simp
  have hVb : Below w.heap.size w V := by rw [← hV]; exact ((Below.refl _ w).alloc (Nat.le_refl _) _).alloc (by simp) _
  have hVl : V.heap[w.heap.size + 1]? = some (.loop (R .ready)) := by
    have := World.alloc_heap_new (w.alloc (.deferred (some []))) (.loop (R .ready))
    rwa [World.size_alloc, hV] at this
  have hVd : V.heap[w.heap.size]? = some (.deferred (some [])) := by
    rw [← hV, Below.heap_alloc _ _ _ (by simp)]
    exact World.alloc_heap_new w _
  have hk0 : ∀ S, Kept S w V := fun S => Kept.below hVb
  refine ⟨w.heap.size + 1, [{ target := .collected w.heap.size, args := #[] }], V, { target := .fn (.func gf) lb, args := #[.func (.yield (w.heap.size + 1)) #[] #[]] }, V, gf, #[.func (.yield (w.heap.size + 1)) #[] #[]] ++ lb, V, ?_, ?_, fun _ _ => trivial, ?_, fun _ => by omega, ?_⟩
  · rw [← hV, hR]; exact run_enterLoop_outer _ _ _ _ _
  · simp only [resolve, hg]
    simp [go_sem]
  · simp [invoke, go_sem, eg]
  refine (hseq V (w.heap.size + 1) (fun zs lo m A => I zs lo m A ∧ A.heap[w.heap.size + 1]? = some (.loop (R .ready)) ∧ A.heap[w.heap.size]? = some (.deferred (some [])) ∧ w.heap.size + 2 ≤ lo ∧ lo ≤ m) hVb ⟨?_, ?_⟩ ?_).mono ?_
  · rintro zs lo m A C ⟨hi, hl, hd, hlo, hlm⟩ hk
    rw [hsz] at hk
    have e1 := (Array.getElem?_eq_some_iff.1 hl).1
    refine ⟨hI zs lo m A C hi (hk.mono fun k _ h => ?_), (hk.blk _ e1 (.inl (by omega))).trans hl, (hk.blk _ (by omega) (.inl (by omega))).trans hd, hlo, hlm⟩
    rcases h with h | h
    · exact .inl (by omega)
    · exact .inr h
  · rintro n zs lo m x A ⟨hi, hl, hd, _, hlm⟩ hlen hlo hloA hmA hz
    rw [hsz] at hlo
    have hy := run_yield (P := P) (args := encs x) hl (by rw [hR]; exact hps x)
    rw [hR] at hy
    refine ⟨fn, _, assign, body, hy, roundIn_of_wpIn hfn (wpIn_mono (hround _ n zs lo m x A rfl hi hlen hlo hloA hlm hmA hz) ?_)⟩
    rintro ex a₁ w₁ hx
    cases ex with
    | normal =>
      obtain ⟨k1, hb⟩ := hx
      have e1 := (Array.getElem?_eq_some_iff.1 hl).1
      have hl1 : w₁.heap[w.heap.size + 1]? = some (.loop (R .ready)) := (k1.blk _ e1 (.inr (.inl ⟨by omega, by omega⟩))).trans hl
      have hd1 : w₁.heap[w.heap.size]? = some (.deferred (some [])) := (k1.blk _ (by omega) (.inr (.inl ⟨by omega, by omega⟩))).trans hd
      have e2 := (Array.getElem?_eq_some_iff.1 hl1).1
      have kt := Kept.turn (.loop (R .busy)) hl1 rfl
      refine ⟨w₁.putObj (w.heap.size + 1) (.loop (R .busy)), by have := run_beginRound (P := P) hl1 (by rw [hR]); rw [hR] at this ⊢; exact this, wpIn_mono (hb _ (by simp) kt) ?_⟩
      rintro ex a₂ C ⟨rfl, k2, hi2⟩
      have hl2 : C.heap[w.heap.size + 1]? = some (.loop (R .busy)) := (k2.blk _ (by simpa using e2) (.inr (.inl ⟨by omega, by omega⟩))).trans (World.putObj_heap_same e2)
      have hd2 : C.heap[w.heap.size]? = some (.deferred (some [])) := (k2.blk _ (by simp; omega) (.inr (.inl ⟨by omega, by omega⟩))).trans ((World.putObj_heap_other (by omega)).trans hd1)
      have e3 := (Array.getElem?_eq_some_iff.1 hl2).1
      have kt2 := Kept.turn (.loop (R .ready)) hl2 rfl
      have hre : (Instr.endRound (w.heap.size + 1) none).run P C = .ok (.bool true) (C.putObj (w.heap.size + 1) (.loop (R .ready))) := by
        have := run_endRound (P := P) none hl2
        rw [hR] at this ⊢
        exact this
      refine ⟨_, _, hre, rfl, ⟨?_, ?_, ?_, hlo, by have q1 := k1.size; have q2 := k2.size; simp only [World.putObj_size] at q2 ⊢; omega⟩, ?_⟩
      · rw [World.putObj_size]
        refine hI _ _ _ _ _ hi2 (kt2.mono fun k _ h => ?_)
        rcases h with h | h <;> omega
      · exact World.putObj_heap_same e3
      · exact (World.putObj_heap_other (by omega)).trans hd2
      · rw [hsz]
        refine ((k1.mono fun k _ h => ?_).trans ((kt.mono fun k _ h => ?_).trans (k2.mono fun k _ h => ?_))).trans (kt2.mono fun k _ h => ?_)
        all_goals (first | (rcases h with h | h | h; exact .inl h; exact .inr (by omega); exact .inr (by omega)) | (rcases h with h | h | h <;> (first | (have := hCap _ h; omega) | omega)))
    | _ => exact hx.elim
  · intro lo hlo
    rw [hsz] at hlo
    exact ⟨hI _ _ _ _ _ (h0 lo hlo) (hk0 _), hVl, hVd, hlo, Nat.le_refl _⟩
  · rintro e C ⟨⟨v, rfl⟩, lo, m, hi, hl, hd, hlo, _⟩
    have kt := Kept.turn (.loop (R .exhausted)) hl rfl
    have hre : (Instr.endLoop (w.heap.size + 1)).run P C = .ok none (C.putObj (w.heap.size + 1) (.loop (R .exhausted))) := by
      have := run_endLoop (P := P) hl (by rw [hR]; simp)
      rw [hR] at this ⊢
      exact this
    refine ⟨none, _, hre, ?_⟩
    refine hdone lo m _ (hI _ _ _ _ _ hi (kt.mono fun k hk h => ?_)) ((World.putObj_heap_other (by omega)).trans hd)
    rcases h with h | h <;> omega
end
end Go.Proofs.YtiegkjfpdiohkaaGreat

namespace Go.Proofs.YtiegkjfpdiohkaaGreat
section
open Go.RowKit Go.Shelf Digs
attribute [local go_sem] Oper.semAt_some

theorem Tryz.infoI : (Tryz.prog.info? 31).map (fun i => (i.zero, i.size, i.bytes)) = some (some (.agg #[.bool false, .slice none 0 0]), 2, 32) := by kernel_rfl

def ZEl (w : World) (xs : List Value) (z : Int) (j : Nat) : Prop :=
  ∃ ad n c, xs[j * 2]? = some (.bool (decide (z < 0))) ∧ xs[j * 2 + 1]? = some (.slice ad n c) ∧ IntV w (.agg #[.bool (decide (z < 0)), .slice ad n c]) z
/-- A slice of the program's own numbers. -/
def ZRow (w : World) (base : Nat) (v : Value) (zs : List Int) : Prop :=
  ∃ xs : List Value, w.ownsRow base 31 2 v zs.length xs ∧ NUR w v ∧ ∀ j : Nat, j < zs.length → ZEl w xs (zs[j]?.getD 0) j
theorem ZEl.ku {A C : World} {xs : List Value} {z : Int} {j : Nat} (h : ZEl A xs z j) (hk : KU A C) (hs : A.heap.size ≤ C.heap.size) : ZEl C xs z j := by
  obtain ⟨ad, n, c, h1, h2, h3⟩ := h
  exact ⟨ad, n, c, h1, h2, h3.ku hk hs⟩
theorem NUR.of_block {A C : World} {v : Value} (h : NUR A v) (e : ∀ g, v.ownBlock = some g → C.heap[g]? = A.heap[g]?) : NUR C v := fun g hg => by
  obtain ⟨cur, h1, h2⟩ := h g hg
  exact ⟨cur, (e g hg).trans h1, h2⟩
theorem ownsRow_block {A C : World} {base n : Nat} {v : Value} {xs : List Value} (h : A.ownsRow base 31 2 v n xs) (e : ∀ g, v.ownBlock = some g → C.heap[g]? = A.heap[g]?) : C.ownsRow base 31 2 v n xs := by
  refine ⟨h.1, ?_⟩
  rcases h.2 with hn | ⟨g, cap, cur, rfl, hb, hg, rest⟩
  · exact .inl hn
  · exact .inr ⟨g, cap, cur, rfl, hb, (e g rfl).trans hg, rest⟩
theorem ownsRow_base {A : World} {base base' n : Nat} {v : Value} {xs : List Value} (h : A.ownsRow base 31 2 v n xs) (e : base' ≤ base) : A.ownsRow base' 31 2 v n xs := by
  refine ⟨h.1, ?_⟩
  rcases h.2 with hn | ⟨g, cap, cur, rfl, hb, hg, rest⟩
  · exact .inl hn
  · exact .inr ⟨g, cap, cur, rfl, Nat.le_trans e hb, hg, rest⟩
theorem nur_xs {A : World} {base n : Nat} {v : Value} {xs : List Value} (h : A.ownsRow base 31 2 v n xs) (hn : NUR A v) : ∀ u ∈ xs, NI u := by
  rcases h with ⟨hl, ⟨rfl, rfl⟩ | ⟨g, cap, cur, rfl, _, hg, _, _, _, ht⟩⟩
  · obtain rfl : xs = [] := List.eq_nil_of_length_eq_zero (by simpa using hl)
    intro u hu
    cases hu
  · obtain ⟨cur', hc, hi⟩ := hn g rfl
    rw [hg] at hc
    injection hc with hc
    injection hc with hc
    subst hc
    intro u hu
    rw [← ht] at hu
    exact hi u (List.mem_of_mem_take hu)
theorem ZRow.kept {A C : World} {base : Nat} {v : Value} {zs : List Int} {S : Nat → Prop} (h : ZRow A base v zs) (hk : Kept S A C) (hS : ∀ g, v.ownBlock = some g → S g) : ZRow C base v zs := by
  obtain ⟨xs, h1, h2, h3⟩ := h
  have e : ∀ g, v.ownBlock = some g → C.heap[g]? = A.heap[g]? := fun g hg => hk.blk g (h1.lt g hg).2 (hS g hg)
  exact ⟨xs, ownsRow_block h1 e, h2.of_block e, fun j hj => (h3 j hj).ku hk.ku hk.size⟩
theorem ZRow.keep {A C : World} {base : Nat} {v : Value} {zs : List Int} (h : ZRow A base v zs) (hb : Below A.heap.size A C) : ZRow C base v zs := h.kept (S := fun _ => True) (Kept.below hb) fun _ _ => trivial
theorem Kept.grown {S : Nat → Prop} {A C : World} {v : Value} (hg : A.grownBy C v.ownBlock) (hn : NUR A v) (hS : ∀ g, v.ownBlock = some g → ¬ S g) : Kept S A C :=
  ⟨hg.os, hg.tape, hg.output, hg.size, fun k hk hs => hg.block k hk fun e => hS k e.symm hs, KU.grown hg hn⟩

theorem below_kept {n : Nat} {w A C : World} {S : Nat → Prop} (h : Below n w A) (hk : Kept S A C) (hn : n ≤ A.heap.size) (hS : ∀ k, k < n → S k) : Below n w C :=
  ⟨hk.os.trans h.os, hk.tape.trans h.tape, hk.output.trans h.output, Nat.le_trans h.size hk.size, fun k hk' => (hk.blk k (by omega) (hS k hk')).trans (h.block k hk')⟩
/-- An iterator of the program's numbers, each of which reads where it comes. -/
abbrev GivesZ (g : Nat) (lb : Array Value) (T : List Int) (w : World) : Prop := Gives Tryz.prog (fun x : Int × Value => x.1) (fun x => #[x.2]) (fun x A => IntV A x.2 x.1) (fun _ => False) g lb T w
theorem Gives.later {α β : Type} {P : Program} {key : α → β} {encs : α → Array Value} {Rd : α → World → Prop} {Cap : Nat → Prop} {g : Nat} {lb : Array Value} {T : List β} {w w' : World} (h : Gives P key encs Rd Cap g lb T w) (hb : Below w.heap.size w w') : Gives P key encs Rd Cap g lb T w' :=
  fun W l J hW hH h0 => h W l J (hb.trans (hW.mono hb.size)) hH h0

/-- What has been collected, while the iterator runs. -/
def CollI (w : World) (zs : List Int) (lo m : Nat) (A : World) : Prop :=
  ∃ v, Boxed A w.heap.size 78 v ∧ ZRow A lo v zs ∧ (∀ g, v.ownBlock = some g → lo ≤ g ∧ g < m) ∧ Below w.heap.size w A ∧ w.heap.size + 3 ≤ lo

theorem CollI.keep {w : World} {zs : List Int} {lo m : Nat} {A C : World} (h : CollI w zs lo m A) (hk : Kept (fun i => i < w.heap.size + 1 ∨ lo ≤ i ∧ i < m) A C) : CollI w zs lo m C := by
  obtain ⟨v, h1, h2, h3, h4, h5⟩ := h
  refine ⟨v, (hk.blk _ h1.lt (.inl (by omega))).trans h1, h2.kept hk fun g hg => .inr (h3 g hg), h3, ?_, h5⟩
  exact ⟨hk.os.trans h4.os, hk.tape.trans h4.tape, hk.output.trans h4.output, Nat.le_trans h4.size hk.size, fun k hk' => (hk.blk k (by have := h4.size; omega) (.inl (by omega))).trans (h4.block k hk')⟩

/-- One more number behind the append and the store. -/
theorem CollI.snoc {w A B C : World} {zs : List Int} {lo m m' g cap : Nat} {v : Value} {xs : List Value} {z : Int} {ad : Option Addr} {n c : Nat} {tmp : Obj} (hlo : w.heap.size + 3 ≤ lo) (hlm : lo ≤ m)
    (hbx : Boxed A w.heap.size 78 v) (hown : A.ownsRow lo 31 2 v zs.length xs) (hnu : NUR A v) (hel : ∀ j : Nat, j < zs.length → ZEl A xs (zs[j]?.getD 0) j)
    (hv : ∀ g, v.ownBlock = some g → lo ≤ g ∧ g < m) (hB : Below w.heap.size w A) (hz : IntV A (.agg #[.bool (decide (z < 0)), .slice ad n c]) z)
    (hown' : B.ownsRow lo 31 2 (.slice (some ⟨g, 0, none⟩) (zs.length + 1) cap) (zs.length + 1) (xs ++ [.bool (decide (z < 0)), .slice ad n c]))
    (hgrow : (A.alloc tmp).grownBy B v.ownBlock) (hnu' : NUR B (.slice (some ⟨g, 0, none⟩) (zs.length + 1) cap)) (hC : C = B.setCell ⟨w.heap.size, 0, none⟩ (.slice (some ⟨g, 0, none⟩) (zs.length + 1) cap)) (hm' : m' = C.heap.size) :
    Boxed B w.heap.size 78 v ∧ Kept (fun i => w.heap.size + 1 ≤ i ∧ i < lo ∨ m ≤ i) A C ∧ CollI w (zs ++ [z]) lo m' C := by
  subst hm'
  have hrow : A.ownsRow w.heap.size 31 2 v zs.length xs := ownsRow_base hown (by omega)
  obtain ⟨b1, b2, _, _, b5⟩ := hbx.appended (by decide) hrow hB.size (Nat.le_refl _) (ownsRow_base hown' (by omega)) hgrow
  rw [← hC] at b2 b5
  have hgB := (hown'.lt g rfl)
  have hne : g ≠ w.heap.size := by omega
  have eC : ∀ g', (Value.slice (some ⟨g, 0, none⟩) (zs.length + 1) cap).ownBlock = some g' → C.heap[g']? = B.heap[g']? := by
    intro g' hg'
    obtain rfl : g = g' := by simpa [Value.ownBlock] using hg'
    rw [hC]
    exact Below.heap_setCell _ _ _ _ hne
  have hal : Below A.heap.size A (A.alloc tmp) := (Below.refl _ _).alloc (Nat.le_refl _) _
  have hnuA : NUR (A.alloc tmp) v := hnu.of_block fun g hg => Below.heap_alloc _ _ _ (hown.lt g hg).2
  have k1 : Kept (fun i => w.heap.size + 1 ≤ i ∧ i < lo ∨ m ≤ i) A B := (Kept.below hal).trans (Kept.grown hgrow hnuA fun g hg h => by have := hv g hg; rcases h with h | h <;> omega)
  have k2 : Kept (fun i => w.heap.size + 1 ≤ i ∧ i < lo ∨ m ≤ i) B C := by
    rw [hC]
    refine Kept.setCell b1.cell ?_ (by simp only; omega) _
    rcases hown.2 with ⟨rfl, _⟩ | ⟨_, _, _, rfl, _⟩ <;> exact NI.slice _ _ _
  have hk := k1.trans k2
  have hsB : B.heap.size ≤ C.heap.size := k2.size
  refine ⟨b1, hk, _, b2, ⟨xs ++ [.bool (decide (z < 0)), .slice ad n c], ?_, hnu'.of_block eC, ?_⟩, fun g' hg' => ?_, hB.trans b5, hlo⟩
  · rw [List.length_append]
    exact ownsRow_block hown' eC
  · intro j hj
    have hxl := hown.1
    rw [List.length_append, List.length_singleton] at hj
    by_cases hjl : j < zs.length
    · rw [List.getElem?_append_left hjl]
      obtain ⟨ad, n, c, e1, e2, e3⟩ := hel j hjl
      exact ⟨ad, n, c, by rw [List.getElem?_append_left (by omega)]; exact e1, by rw [List.getElem?_append_left (by omega)]; exact e2, e3.ku hk.ku hk.size⟩
    · obtain rfl : j = zs.length := by omega
      rw [List.getElem?_append_right (Nat.le_refl _), Nat.sub_self]
      refine ⟨ad, n, c, ?_, ?_, hz.ku hk.ku hk.size⟩
      · rw [List.getElem?_append_right (by omega)]; simp [hxl]
      · rw [List.getElem?_append_right (by omega)]; simp [hxl]
  · obtain rfl : g = g' := by simpa [Value.ownBlock] using hg'
    exact ⟨hgB.1, Nat.lt_of_lt_of_le hgB.2 hsB⟩

set_option maxHeartbeats 4000000 in
set_option maxRecDepth 100000 in
theorem appendSeq_any (g : Nat) (lb : Array Value) (T : List Int) (w : World) (hT : T.length ≤ 1000000) (eg : ∀ args w, (callFunc g args).run Tryz.prog w = .ok (.enter g args) w) (h : GivesZ g lb T w) :
    Calls Tryz.prog 172 #[.slice none 0 0, .func (.func g) #[] lb] w fun e w' => ∃ v, e = .returned v ∧ ZRow w' w.heap.size v T ∧ Below w.heap.size w w' := by
  refine (callsIn_wide (n := 21)).1 ?_
  obtain ⟨i0, hi, hz0, hz1, hz2⟩ := info_parts Tryz.infoI
  refine callsIn_of_wp_marks Tryz.func172 rfl trivial ?_
  simp only [Tryz.ntmps172, List.size_toArray, List.length_cons, List.length_nil, Nat.reduceAdd, Nat.reduceSub, Array.replicate_succ, Array.replicate_zero, List.push_toArray, List.append_toArray, List.nil_append, List.cons_append]
  gi_wp2
  refine wpIn_rangeFunc_host (T := T) (gf := g) (lb := lb) rfl eg (fun _ => rfl) (fun _ h => h.elim) (h.later ((Below.refl _ _).alloc (Nat.le_refl _) _)) (CollI w) ?hI ?h0 ?round ?done
  case hI =>
    intro zs lo m A C hi hk
    rw [World.size_alloc] at hk
    exact hi.keep hk
  case h0 =>
    intro lo hlo
    rw [World.size_alloc] at hlo
    exact ⟨_, Boxed.new _ _ _, ⟨[], World.ownsRow_nil _ _ _ _, fun g hg => by simp [Value.ownBlock] at hg, fun j hj => absurd hj (Nat.not_lt_zero _)⟩, fun g hg => by simp [Value.ownBlock] at hg, (Below.refl _ _).alloc (Nat.le_refl _) _, by omega⟩
  case round =>
    rintro l n zs lo m ⟨z, v⟩ A hl ⟨u, hbx, ⟨xs, hown, hnu, hel⟩, hv, hB, _⟩ hpre hlo hloA hlm hmA hzv
    have hlen : zs.length < T.length := by have := hpre.length_le; rw [List.length_append, List.length_singleton] at this; omega
    clear hpre
    have hzv' : IntV A v z := hzv
    clear hzv
    obtain ⟨ad, n2, c2, rfl, hr⟩ := hzv'
    rw [World.size_alloc] at hl hlo
    rw [World.size_alloc]
    have hz : IntV A (.agg #[.bool (decide (z < 0)), .slice ad n2 c2]) z := ⟨_, _, _, rfl, hr⟩
    obtain ⟨p, hp⟩ : ∃ p, decide (z < 0) = p := ⟨_, rfl⟩
    rw [hp] at hz ⊢
    have HZ := Lib.hid hz
    have HP := Lib.hid hp
    have HEL := Lib.hid hel
    have HV := Lib.hid hv
    clear hz hp hel hr hv
    gi_wp2
    have hal : Below A.heap.size A (A.alloc (.cells #[.bool p, .slice ad n2 c2] 31)) := (Below.refl _ _).alloc (Nat.le_refl _) _
    refine ⟨Kept.below hal, fun w2 hw2 kw2 => ?_⟩
    rw [World.size_alloc] at hw2
    have kA : Kept (fun i => i ≠ l) A w2 := (Kept.below hal).trans kw2
    have hgl : ∀ g, u.ownBlock = some g → w2.heap[g]? = A.heap[g]? := fun g hg => kA.blk g (hown.lt g hg).2 (by have := HV.out g hg; omega)
    have hbx2 : Boxed w2 w.heap.size 78 u := (kA.blk _ hbx.lt (by omega)).trans hbx
    have hown2 := ownsRow_block hown hgl
    have hnu2 := hnu.of_block hgl
    have e2 : w2.heap[A.heap.size]? = some (.cells #[.bool p, .slice ad n2 c2] 31 (0, 0)) := (kw2.blk _ (by simp) (by omega)).trans (World.alloc_heap_new A _)
    have c0 : w2.cell? ⟨A.heap.size, 0, none⟩ = some (.bool p) := by simp [World.cell?, e2]
    have c1 : w2.cell? ⟨A.heap.size, 1, none⟩ = some (.slice ad n2 c2) := by simp [World.cell?, e2]
    have cb := hbx2.cell
    have HX := Lib.hid (nur_xs hown hnu)
    have HO := Lib.hid hown2
    have HN := Lib.hid hnu2
    have HB2 := Lib.hid hbx2
    have HK := Lib.hid kA
    have HG := Lib.hid hB
    have HW := Lib.hid hw2
    clear hown2 hnu2 hbx2 hown hnu hgl e2 hbx kw2 hal hB hw2
    gi_wp2_with (gi_at_builtin; refine wpListIn_append_nu _ rfl (.tmp 8) (.tmp 10) 78 rfl lo i0 (.agg #[.bool false, .slice none 0 0]) Tryz.underlying78 hi hz0 hz1 hz2 rfl u zs.length xs rfl (World.ownsRow.alloc HO.out _) (HN.out.of_block fun g hg => Below.heap_alloc _ _ _ (HO.out.lt g hg).2) HX.out ⟨w2.heap.size, 0, none⟩ 1 [.bool p, .slice ad n2 c2] rfl rfl ?c1 ?c2 ?c3 ?c4 ?c5 ?_)
    case c1 =>
      intro q x hx
      match q, hx with
      | 0, hx => simp at hx; subst hx; rw [Addr.add_lit, World.cell?_alloc_at _ _ _ _ rfl]; rfl
      | 1, hx => simp at hx; subst hx; rw [Addr.add_lit, World.cell?_alloc_at _ _ _ _ rfl]; rfl
    case c2 => intro x hx; simp only [List.mem_cons, List.not_mem_nil, or_false] at hx; rcases hx with rfl | rfl <;> rfl
    case c3 => intro x hx; simp only [List.mem_cons, List.not_mem_nil, or_false] at hx; rcases hx with rfl | rfl; exact NI.bool _; exact NI.slice _ _ _
    case c4 => omega
    case c5 => have := HW.out; simp only [World.size_alloc]; omega
    intro g3 cap3 w3 hown3 hgrow hnu3
    have hb3 := (HB2.out.alloc _).kept hgrow (HB2.out.not_row (by decide) (ownsRow_base HO.out (base' := w.heap.size) (by omega)))
    have cb3 := hb3.cell
    have fb3 := hb3.frozen
    have HO3 := Lib.hid hown3
    have HG3 := Lib.hid hgrow
    have HN3 := Lib.hid hnu3
    clear hb3 hown3 hgrow hnu3
    gi_wp2
    obtain rfl := HP.out
    have hs2 := HK.out.size
    have hw2 := HW.out
    obtain ⟨_, k, ci⟩ := CollI.snoc (by omega) hlm HB2.out HO.out HN.out (fun j hj => (HEL.out j hj).ku HK.out.ku HK.out.size) HV.out (below_kept HG.out HK.out HG.out.size (fun k hk => by omega)) (HZ.out.ku HK.out.ku HK.out.size) HO3.out HG3.out HN3.out rfl rfl
    refine ⟨k, ?_⟩
    exact (by rw [show w3.heap.size = (w3.setCell ⟨w.heap.size, 0, none⟩ (.slice (some ⟨g3, 0, none⟩) (zs.length + 1) cap3)).heap.size from by simp [World.setCell]]; exact ci)
  case done =>
    rintro lo m C ⟨u, hbx, hz, hv, hB, hlo⟩ hd
    have cb := hbx.cell
    have HC := Lib.hid hd
    have HZ := Lib.hid hz
    have HB := Lib.hid hB
    have HX := Lib.hid hbx
    clear hd hz hB hbx
    gi_wp2
    refine ⟨by simp, .inl ⟨_, _, rfl, run_takeDeferred HC.out, ?_⟩⟩
    have kt := Kept.turn (.deferred none) HC.out rfl
    refine ⟨_, results_tmp rfl _ _ _, u, rfl, ?_, below_kept HB.out kt HB.out.size fun k hk => ?_⟩
    · obtain ⟨xs, h1, h2, h3⟩ := HZ.out.kept kt fun g hg => (by have := hv g hg; simp; omega)
      exact ⟨xs, ownsRow_base h1 (by omega), h2, h3⟩
    · simp; omega

set_option maxHeartbeats 4000000 in
set_option maxRecDepth 100000 in
theorem collect_any (g : Nat) (lb : Array Value) (T : List Int) (w : World) (hT : T.length ≤ 1000000) (eg : ∀ args w, (callFunc g args).run Tryz.prog w = .ok (.enter g args) w) (h : GivesZ g lb T w) :
    Calls Tryz.prog 152 #[.func (.func g) #[] lb] w fun e w' => ∃ v, e = .returned v ∧ ZRow w' w.heap.size v T ∧ Below w.heap.size w w' := by
  have HA := Lib.hid (appendSeq_any g lb T w hT eg h)
  clear eg h
  go_enter Tryz.func152, Tryz.ntmps152
  go_wp2_with fail
  refine HA.out.mono ?_
  rintro e w1 ⟨v, rfl, hz, hb⟩
  go_wp2
  go_ret
  exact ⟨v, rfl, hz, hb⟩
end
end Go.Proofs.YtiegkjfpdiohkaaGreat

namespace Go.Proofs.YtiegkjfpdiohkaaGreat
section
open Go.RowKit Go.Shelf Digs
attribute [local go_sem] Oper.semAt_some

/-- Elements of a slice at block g that read as numbers. -/
def ElAt (w : World) (g : Nat) (zs : List Int) : Prop := ∀ j, j < zs.length → ∃ (p : Bool) (ad : Option Addr) (n c : Nat), w.cell? ⟨g, j * 2, none⟩ = some (.bool p) ∧ w.cell? ⟨g, j * 2 + 1, none⟩ = some (.slice ad n c) ∧ IntV w (.agg #[.bool p, .slice ad n c]) (zs[j]?.getD 0)
theorem ElAt.kept {A C : World} {S : Nat → Prop} {g : Nat} {zs : List Int} (h : ElAt A g zs) (hk : Kept S A C) (hg : g < A.heap.size) (hS : S g) : ElAt C g zs := fun j hj => by
  obtain ⟨p, ad, n, c, h1, h2, h3⟩ := h j hj
  have e := hk.blk g hg hS
  exact ⟨p, ad, n, c, (World.cell?_of_block (a := ⟨g, j * 2, none⟩) e).trans h1, (World.cell?_of_block (a := ⟨g, j * 2 + 1, none⟩) e).trans h2, h3.ku hk.ku hk.size⟩
abbrev GivesB (bx g : Nat) (T : List Int) (w : World) : Prop :=
  Gives Tryz.prog (fun x : Nat × Int × Value => x.2.1) (fun x => #[.int .i64 (x.1 : Int), x.2.2]) (fun x A => IntV A x.2.2 x.2.1) (fun i => i = bx ∨ i = g) 151 #[.pointer (some ⟨bx, 0, none⟩)] T w

theorem bw_take {zs : List Int} {q : Nat} (h1 : q < zs.length) : zs.reverse.take (zs.length - q) = zs.reverse.take (zs.length - (q + 1)) ++ [zs[q]?.getD 0] := by
  rw [show zs.length - q = zs.length - (q + 1) + 1 from by omega, List.take_add_one]
  have e2 : (zs.reverse[zs.length - (q + 1)]?).toList = [zs[q]?.getD 0] := by
    rw [List.getElem?_reverse (by omega), show zs.length - 1 - (zs.length - (q + 1)) = q from by omega, List.getElem?_eq_getElem h1]
    rfl
  rw [e2]
/-- The loop of Backward's iterator. -/
structure BWR (W : World) (J : List Int → Nat → Nat → World → Prop) (bx g : Nat) (zs : List Int) (j m : Nat) (wr : World) : Prop where
  le : j ≤ zs.length
  jj : J (zs.reverse.take (zs.length - j)) W.heap.size m wr
  lm : W.heap.size ≤ m
  mw : m ≤ wr.heap.size
  kp : Kept (fun i => i = bx ∨ i = g) W wr

set_option maxHeartbeats 4000000 in
set_option maxRecDepth 100000 in
theorem backward_gives (bx g cap : Nat) (zs : List Int) (w : World) (hn : zs.length ≤ 1000000) (hc : w.cell? ⟨bx, 0, none⟩ = some (.slice (some ⟨g, 0, none⟩) zs.length cap)) (hel : ElAt w g zs) (hg : g < w.heap.size) (hb : bx < w.heap.size) :
    GivesB bx g zs.reverse w := by
  intro W l J hW hH hJ0
  refine callsIn_wide.2 ?_
  have hWk : Kept (fun _ => True) w W := Kept.below hW
  have HE := Lib.hid (hel.kept hWk hg trivial)
  have hcW := (hW.cell (p := ⟨bx, 0, none⟩) hb).trans hc
  have HH := Lib.hid hH
  have HGW := Lib.hid (And.intro (Nat.lt_of_lt_of_le hg hW.size) (Nat.lt_of_lt_of_le hb hW.size))
  have HC := Lib.hid hcW
  obtain ⟨n, hnn⟩ : ∃ n, zs.length = n := ⟨_, rfl⟩
  have HN := Lib.hid hnn
  have HS : Hid (BWR W J bx g zs n W.heap.size W) := Lib.hid ⟨by omega, by rw [hnn, Nat.sub_self]; exact hJ0 _ (Nat.le_refl _), Nat.le_refl _, Nat.le_refl _, Kept.refl _ _⟩
  rw [hnn] at hcW hn HC
  clear hW hH hJ0 hWk hel hg hb hc hnn
  have hw : IntKind.i64.wrap ((n : Int) - 1) = (n : Int) - 1 := by rw [IntKind.wrap_i64]; omega
  go_enter Tryz.func151, Tryz.ntmps151
  go_wp2_with fail
  go_loopw [3] (fun i wr => ∃ (x : Int) (j m : Nat), i = .int .i64 x ∧ x = (j : Int) - 1 ∧ BWR W J bx g zs j m wr) (fun i _ => (intOf i + 1).toNat)
  case atStart => exact ⟨_, n, _, rfl, rfl, HS.out⟩
  case round =>
    obtain ⟨x, j, m, rfl, hx, hR⟩ := hrel
    have HR := Lib.hid hR
    clear hR hcW hw
    cases j with
    | zero =>
      have hx1 : ¬ (0 : Int) ≤ x := by omega
      have HX := Lib.hid hx
      clear hx
      go_wp2_with fail
      go_end0
      refine ⟨⟨_, rfl⟩, W.heap.size, m, ?_⟩
      have h := HR.out.jj
      rw [Nat.sub_zero, List.take_of_length_le (by rw [List.length_reverse]; exact Nat.le_refl _)] at h
      exact h
    | succ q =>
      obtain rfl : x = (q : Int) := by omega
      clear hx
      have hq : q < zs.length := HR.out.le
      obtain ⟨p, ad, k, c, e0, e1, hz⟩ := (HE.out.kept HR.out.kp HGW.out.1 (.inr rfl)) q hq
      have hcw := (World.cell?_of_block (a := ⟨bx, 0, none⟩) (HR.out.kp.blk bx HGW.out.2 (.inl rfl))).trans HC.out
      have hqn : (q : Int) < (n : Int) := by have := HN.out; omega
      have hq0 : (0 : Int) ≤ (q : Int) := by omega
      have hqq : q < n := by have := HN.out; omega
      have hw : IntKind.i64.wrap ((q : Int) - 1) = (q : Int) - 1 := by rw [IntKind.wrap_i64]; omega
      obtain ⟨fn, tmps, assign, body, hy, hRR⟩ := HH.out.take (20 - 1) _ W.heap.size m (q, zs[q]?.getD 0, .agg #[.bool p, .slice ad k c]) wr HR.out.jj (by rw [← bw_take hq]; exact List.take_prefix _ _) (Nat.le_refl _) (Nat.le_trans HR.out.lm HR.out.mw) HR.out.mw hz
      have HQ := Lib.hid hq
      clear hq hz
      go_upto_region 3 with fail
      refine (wpIn_wide (n := 20)).1 ?_
      gi_wp2
      refine hRR.mono ?_
      rintro e C ⟨rfl, hJ, hk⟩
      have hk2 := HR.out.kp.trans (hk.mono fun i _ h => .inl h)
      have hB : Hid (BWR W J bx g zs q C.heap.size C) := Lib.hid ⟨by have := HQ.out; omega, by
        have e := hJ
        rw [bw_take HQ.out]
        exact e, Nat.le_trans (Nat.le_trans HR.out.lm HR.out.mw) hk.size, Nat.le_refl _, hk2⟩
      clear hJ hk hk2 e0 e1 hcw
      gi_wp2
      go_wp2
      go_roundw
      case rel => exact ⟨_, q, _, rfl, rfl, hB.out⟩
      case measure => simp [intOf]
end
end Go.Proofs.YtiegkjfpdiohkaaGreat
