/-  Qc Qg  -/
import Derived.RangeFuncBox
import Derived.Test.YtghgcbedajaldaaGreatMpbb
import Derived.Shelf.RegionOpen
import Derived.Test.YtghgcbedajaldaaGreatMpba
/-  slices.AppendSeq and slices.Collect over an iterator of the program's numbers.  -/
namespace Go.Proofs.YtghgcbedajaldaaGreat
section
open Go.RowKit Go.Shelf Digs
attribute [local go_sem] Oper.semAt_some
theorem Tryz.infoI : (Tryz.prog.info? 31).map (fun i => (i.zero, i.size, i.bytes)) = some (some (.agg #[.bool false, .slice none 0 0]), 2, 32) := by kernel_rfl
def ZEl (w : World) (xs : List Value) (z : Int) (j : Nat) : Prop :=
 ∃ ad n c, xs[j * 2]? = some (.bool (decide (z < 0))) ∧ xs[j * 2 + 1]? = some (.slice ad n c) ∧ IntV w (.agg #[.bool (decide (z < 0)), .slice ad n c]) z
def ZRow (w : World) (base : Nat) (v : Value) (zs : List Int) : Prop :=
 ∃ xs : List Value, w.ownsRow base 31 2 v zs.length xs ∧ NUR w v ∧ ∀ j : Nat, j < zs.length → ZEl w xs (zs[j]?.getD 0) j
theorem ZEl.ku {A C : World} {xs : List Value} {z : Int} {j : Nat} (h : ZEl A xs z j) (hk : KU A C) (hs : A.heap.size ≤ C.heap.size) : ZEl C xs z j := by
 obtain ⟨ad, n, c, h1, h2, h3⟩ := h
 exact ⟨ad, n, c, h1, h2, h3.ku hk hs⟩
theorem NUR.of_block {A C : World} {v : Value} (h : NUR A v) (e : ∀ g, v.ownBlock = some g → C.heap[g]? = A.heap[g]?) : NUR C v := fun g hg => by
 obtain ⟨cur, h1, h2⟩ := h g hg
 exact ⟨cur, (e g hg).trans h1, h2⟩
theorem ownsRow_block {A C : World} {base n : Nat} {v : Value} {xs : List Value} (h : A.ownsRow base 31 2 v n xs) (e : ∀ g, v.ownBlock = some g → C.heap[g]? = A.heap[g]?) : C.ownsRow base 31 2 v n xs := by
 refine ⟨h.1, ?_⟩
 rcases h.2 with hn | ⟨g, cap, cur, rfl, hb, hg, rest⟩
 ·exact .inl hn
 ·exact .inr ⟨g, cap, cur, rfl, hb, (e g rfl).trans hg, rest⟩
theorem ownsRow_base {A : World} {base base' n : Nat} {v : Value} {xs : List Value} (h : A.ownsRow base 31 2 v n xs) (e : base' ≤ base) : A.ownsRow base' 31 2 v n xs := by
 refine ⟨h.1, ?_⟩
 rcases h.2 with hn | ⟨g, cap, cur, rfl, hb, hg, rest⟩
 ·exact .inl hn
 ·exact .inr ⟨g, cap, cur, rfl, Nat.le_trans e hb, hg, rest⟩
theorem nur_xs {A : World} {base n : Nat} {v : Value} {xs : List Value} (h : A.ownsRow base 31 2 v n xs) (hn : NUR A v) : ∀ u ∈ xs, NI u := by
 rcases h with ⟨hl, ⟨rfl, rfl⟩ | ⟨g, cap, cur, rfl, _, hg, _, _, _, ht⟩⟩
 ·obtain rfl : xs = [] := List.eq_nil_of_length_eq_zero (by simpa using hl)
  intro u hu
  cases hu
 ·obtain ⟨cur', hc, hi⟩ := hn g rfl
  rw [hg] at hc
  injection hc with hc
  injection hc with hc
  subst hc
  intro u hu
  rw [← ht] at hu
  exact hi u (List.mem_of_mem_take hu)
theorem ZRow.kept {A C : World} {base : Nat} {v : Value} {zs : List Int} {S : Nat → Prop} (h : ZRow A base v zs) (hk : Kept S A C) (hS : ∀ g, v.ownBlock = some g → S g) : ZRow C base v zs := by
 obtain ⟨xs, h1, h2, h3⟩ := h
 have e : ∀ g, v.ownBlock = some g → C.heap[g]? = A.heap[g]? := fun g hg => hk.blk g (h1.lt g hg).2 (hS g hg)
 exact ⟨xs, ownsRow_block h1 e, h2.of_block e, fun j hj => (h3 j hj).ku hk.ku hk.size⟩
theorem ZRow.keep {A C : World} {base : Nat} {v : Value} {zs : List Int} (h : ZRow A base v zs) (hb : Below A.heap.size A C) : ZRow C base v zs := h.kept (S := fun _ => True) (Kept.below hb) fun _ _ => trivial
theorem Kept.grown {S : Nat → Prop} {A C : World} {v : Value} (hg : A.grownBy C v.ownBlock) (hn : NUR A v) (hS : ∀ g, v.ownBlock = some g → ¬ S g) : Kept S A C :=
 ⟨hg.os, hg.tape, hg.output, hg.size, fun k hk hs => hg.block k hk fun e => hS k e.symm hs, KU.grown hg hn⟩
theorem below_kept {n : Nat} {w A C : World} {S : Nat → Prop} (h : Below n w A) (hk : Kept S A C) (hn : n ≤ A.heap.size) (hS : ∀ k, k < n → S k) : Below n w C :=
 ⟨hk.os.trans h.os, hk.tape.trans h.tape, hk.output.trans h.output, Nat.le_trans h.size hk.size, fun k hk' => (hk.blk k (by omega) (hS k hk')).trans (h.block k hk')⟩
abbrev GivesZ (g : Nat) (lb : Array Value) (T : List Int) (w : World) : Prop := Gives Tryz.prog (fun x : Int × Value => x.1) (fun x => #[x.2]) (fun x A => IntV A x.2 x.1) (fun _ => False) g lb T w
theorem Gives.later {α β : Type} {P : Program} {key : α → β} {encs : α → Array Value} {Rd : α → World → Prop} {Cap : Nat → Prop} {g : Nat} {lb : Array Value} {T : List β} {w w' : World} (h : Gives P key encs Rd Cap g lb T w) (hb : Below w.heap.size w w') : Gives P key encs Rd Cap g lb T w' :=
 fun W l J hW hH h0 => h W l J (hb.trans (hW.mono hb.size)) hH h0
def CollI (w : World) (zs : List Int) (lo m : Nat) (A : World) : Prop :=
 ∃ v, Boxed A w.heap.size 78 v ∧ ZRow A lo v zs ∧ (∀ g, v.ownBlock = some g → lo ≤ g ∧ g < m) ∧ Below w.heap.size w A ∧ w.heap.size + 3 ≤ lo
theorem CollI.keep {w : World} {zs : List Int} {lo m : Nat} {A C : World} (h : CollI w zs lo m A) (hk : Kept (fun i => i < w.heap.size + 1 ∨ lo ≤ i ∧ i < m) A C) : CollI w zs lo m C := by
 obtain ⟨v, h1, h2, h3, h4, h5⟩ := h
 refine ⟨v, (hk.blk _ h1.lt (.inl (by omega))).trans h1, h2.kept hk fun g hg => .inr (h3 g hg), h3, ?_, h5⟩
 exact ⟨hk.os.trans h4.os, hk.tape.trans h4.tape, hk.output.trans h4.output, Nat.le_trans h4.size hk.size, fun k hk' => (hk.blk k (by have := h4.size; omega) (.inl (by omega))).trans (h4.block k hk')⟩
theorem CollI.snoc {w A B C : World} {zs : List Int} {lo m m' g cap : Nat} {v : Value} {xs : List Value} {z : Int} {ad : Option Addr} {n c : Nat} {tmp : Obj} (hlo : w.heap.size + 3 ≤ lo) (hlm : lo ≤ m)
  (hbx : Boxed A w.heap.size 78 v) (hown : A.ownsRow lo 31 2 v zs.length xs) (hnu : NUR A v) (hel : ∀ j : Nat, j < zs.length → ZEl A xs (zs[j]?.getD 0) j)
  (hv : ∀ g, v.ownBlock = some g → lo ≤ g ∧ g < m) (hB : Below w.heap.size w A) (hz : IntV A (.agg #[.bool (decide (z < 0)), .slice ad n c]) z)
  (hown' : B.ownsRow lo 31 2 (.slice (some ⟨g, 0, none⟩) (zs.length + 1) cap) (zs.length + 1) (xs ++ [.bool (decide (z < 0)), .slice ad n c]))
  (hgrow : (A.alloc tmp).grownBy B v.ownBlock) (hnu' : NUR B (.slice (some ⟨g, 0, none⟩) (zs.length + 1) cap)) (hC : C = B.setCell ⟨w.heap.size, 0, none⟩ (.slice (some ⟨g, 0, none⟩) (zs.length + 1) cap)) (hm' : m' = C.heap.size) :
  Boxed B w.heap.size 78 v ∧ Kept (fun i => w.heap.size + 1 ≤ i ∧ i < lo ∨ m ≤ i) A C ∧ CollI w (zs ++ [z]) lo m' C := by
 subst hm'
 have hrow : A.ownsRow w.heap.size 31 2 v zs.length xs := ownsRow_base hown (by omega)
 obtain ⟨b1, b2, _, _, b5⟩ := hbx.appended (by decide) hrow hB.size (Nat.le_refl _) (ownsRow_base hown' (by omega)) hgrow
 rw [← hC] at b2 b5
 have hgB := (hown'.lt g rfl)
 have hne : g ≠ w.heap.size := by omega
 have eC : ∀ g', (Value.slice (some ⟨g, 0, none⟩) (zs.length + 1) cap).ownBlock = some g' → C.heap[g']? = B.heap[g']? := by
  intro g' hg'
  obtain rfl : g = g' := by simpa [Value.ownBlock] using hg'
  rw [hC]
  exact Below.heap_setCell _ _ _ _ hne
 have hal : Below A.heap.size A (A.alloc tmp) := (Below.refl _ _).alloc (Nat.le_refl _) _
 have hnuA : NUR (A.alloc tmp) v := hnu.of_block fun g hg => Below.heap_alloc _ _ _ (hown.lt g hg).2
 have k1 : Kept (fun i => w.heap.size + 1 ≤ i ∧ i < lo ∨ m ≤ i) A B := (Kept.below hal).trans (Kept.grown hgrow hnuA fun g hg h => by have := hv g hg; rcases h with h | h <;> omega)
 have k2 : Kept (fun i => w.heap.size + 1 ≤ i ∧ i < lo ∨ m ≤ i) B C := by
  rw [hC]
  refine Kept.setCell b1.cell ?_ (by simp only; omega) _
  rcases hown.2 with ⟨rfl, _⟩ | ⟨_, _, _, rfl, _⟩ <;> exact NI.slice _ _ _
 have hk := k1.trans k2
 have hsB : B.heap.size ≤ C.heap.size := k2.size
 refine ⟨b1, hk, _, b2, ⟨xs ++ [.bool (decide (z < 0)), .slice ad n c], ?_, hnu'.of_block eC, ?_⟩, fun g' hg' => ?_, hB.trans b5, hlo⟩
 ·rw [List.length_append]
  exact ownsRow_block hown' eC
 ·intro j hj
  have hxl := hown.1
  rw [List.length_append, List.length_singleton] at hj
  by_cases hjl : j < zs.length
  ·rw [List.getElem?_append_left hjl]
   obtain ⟨ad, n, c, e1, e2, e3⟩ := hel j hjl
   exact ⟨ad, n, c, by rw [List.getElem?_append_left (by omega)]; exact e1, by rw [List.getElem?_append_left (by omega)]; exact e2, e3.ku hk.ku hk.size⟩
  ·obtain rfl : j = zs.length := by omega
   rw [List.getElem?_append_right (Nat.le_refl _), Nat.sub_self]
   refine ⟨ad, n, c, ?_, ?_, hz.ku hk.ku hk.size⟩
   ·rw [List.getElem?_append_right (by omega)]; simp [hxl]
   ·rw [List.getElem?_append_right (by omega)]; simp [hxl]
 ·obtain rfl : g = g' := by simpa [Value.ownBlock] using hg'
  exact ⟨hgB.1, Nat.lt_of_lt_of_le hgB.2 hsB⟩
set_option maxHeartbeats 4000000 in
set_option maxRecDepth 100000 in
theorem appendSeq_any (g : Nat) (lb : Array Value) (T : List Int) (w : World) (hT : T.length ≤ 1000000) (eg : ∀ args w, (callFunc g args).run Tryz.prog w = .ok (.enter g args) w) (h : GivesZ g lb T w) :
  Calls Tryz.prog 172 #[.slice none 0 0, .func (.func g) #[] lb] w fun e w' => ∃ v, e = .returned v ∧ ZRow w' w.heap.size v T ∧ Below w.heap.size w w' := by
 refine (callsIn_wide (n := 21)).1 ?_
 obtain ⟨i0, hi, hz0, hz1, hz2⟩ := info_parts Tryz.infoI
 refine callsIn_of_wp_marks Tryz.func172 rfl trivial ?_
 simp only [Tryz.ntmps172, List.size_toArray, List.length_cons, List.length_nil, Nat.reduceAdd, Nat.reduceSub, Array.replicate_succ, Array.replicate_zero, List.push_toArray, List.append_toArray, List.nil_append, List.cons_append]
 gi_wp2
 refine wpIn_rangeFunc_host (T := T) (gf := g) (lb := lb) rfl eg (fun _ => rfl) (fun _ h => h.elim) (h.later ((Below.refl _ _).alloc (Nat.le_refl _) _)) (CollI w) ?hI ?h0 ?round ?done
 case hI =>
  intro zs lo m A C hi hk
  rw [World.size_alloc] at hk
  exact hi.keep hk
 case h0 =>
  intro lo hlo
  rw [World.size_alloc] at hlo
  exact ⟨_, Boxed.new _ _ _, ⟨[], World.ownsRow_nil _ _ _ _, fun g hg => by simp [Value.ownBlock] at hg, fun j hj => absurd hj (Nat.not_lt_zero _)⟩, fun g hg => by simp [Value.ownBlock] at hg, (Below.refl _ _).alloc (Nat.le_refl _) _, by omega⟩
 case round =>
  rintro l n zs lo m ⟨z, v⟩ A hl ⟨u, hbx, ⟨xs, hown, hnu, hel⟩, hv, hB, _⟩ hpre hlo hloA hlm hmA hzv
  have hlen : zs.length < T.length := by have := hpre.length_le; rw [List.length_append, List.length_singleton] at this; omega
  clear hpre
  have hzv' : IntV A v z := hzv
  clear hzv
  obtain ⟨ad, n2, c2, rfl, hr⟩ := hzv'
  rw [World.size_alloc] at hl hlo
  rw [World.size_alloc]
  have hz : IntV A (.agg #[.bool (decide (z < 0)), .slice ad n2 c2]) z := ⟨_, _, _, rfl, hr⟩
  obtain ⟨p, hp⟩ : ∃ p, decide (z < 0) = p := ⟨_, rfl⟩
  rw [hp] at hz ⊢
  have HZ := Lib.hid hz
  have HP := Lib.hid hp
  have HEL := Lib.hid hel
  have HV := Lib.hid hv
  clear hz hp hel hr hv
  gi_wp2
  have hal : Below A.heap.size A (A.alloc (.cells #[.bool p, .slice ad n2 c2] 31)) := (Below.refl _ _).alloc (Nat.le_refl _) _
  refine ⟨Kept.below hal, fun w2 hw2 kw2 => ?_⟩
  rw [World.size_alloc] at hw2
  have kA : Kept (fun i => i ≠ l) A w2 := (Kept.below hal).trans kw2
  have hgl : ∀ g, u.ownBlock = some g → w2.heap[g]? = A.heap[g]? := fun g hg => kA.blk g (hown.lt g hg).2 (by have := HV.out g hg; omega)
  have hbx2 : Boxed w2 w.heap.size 78 u := (kA.blk _ hbx.lt (by omega)).trans hbx
  have hown2 := ownsRow_block hown hgl
  have hnu2 := hnu.of_block hgl
  have e2 : w2.heap[A.heap.size]? = some (.cells #[.bool p, .slice ad n2 c2] 31 (0, 0)) := (kw2.blk _ (by simp) (by omega)).trans (World.alloc_heap_new A _)
  have c0 : w2.cell? ⟨A.heap.size, 0, none⟩ = some (.bool p) := by simp [World.cell?, e2]
  have c1 : w2.cell? ⟨A.heap.size, 1, none⟩ = some (.slice ad n2 c2) := by simp [World.cell?, e2]
  have cb := hbx2.cell
  have HX := Lib.hid (nur_xs hown hnu)
  have HO := Lib.hid hown2
  have HN := Lib.hid hnu2
  have HB2 := Lib.hid hbx2
  have HK := Lib.hid kA
  have HG := Lib.hid hB
  have HW := Lib.hid hw2
  clear hown2 hnu2 hbx2 hown hnu hgl e2 hbx kw2 hal hB hw2
  gi_wp2_with (gi_at_builtin; refine wpListIn_append_nu _ rfl (.tmp 8) (.tmp 10) 78 rfl lo i0 (.agg #[.bool false, .slice none 0 0]) Tryz.underlying78 hi hz0 hz1 hz2 rfl u zs.length xs rfl (World.ownsRow.alloc HO.out _) (HN.out.of_block fun g hg => Below.heap_alloc _ _ _ (HO.out.lt g hg).2) HX.out ⟨w2.heap.size, 0, none⟩ 1 [.bool p, .slice ad n2 c2] rfl rfl ?c1 ?c2 ?c3 ?c4 ?c5 ?_)
  case c1 =>
   intro q x hx
   match q, hx with
   | 0, hx => simp at hx; subst hx; rw [Addr.add_lit, World.cell?_alloc_at _ _ _ _ rfl]; rfl
   | 1, hx => simp at hx; subst hx; rw [Addr.add_lit, World.cell?_alloc_at _ _ _ _ rfl]; rfl
  case c2 => intro x hx; simp only [List.mem_cons, List.not_mem_nil, or_false] at hx; rcases hx with rfl | rfl <;> rfl
  case c3 => intro x hx; simp only [List.mem_cons, List.not_mem_nil, or_false] at hx; rcases hx with rfl | rfl; exact NI.bool _; exact NI.slice _ _ _
  case c4 => omega
  case c5 => have := HW.out; simp only [World.size_alloc]; omega
  intro g3 cap3 w3 hown3 hgrow hnu3
  have hb3 := (HB2.out.alloc _).kept hgrow (HB2.out.not_row (by decide) (ownsRow_base HO.out (base' := w.heap.size) (by omega)))
  have cb3 := hb3.cell
  have fb3 := hb3.frozen
  have HO3 := Lib.hid hown3
  have HG3 := Lib.hid hgrow
  have HN3 := Lib.hid hnu3
  clear hb3 hown3 hgrow hnu3
  gi_wp2
  obtain rfl := HP.out
  have hs2 := HK.out.size
  have hw2 := HW.out
  obtain ⟨_, k, ci⟩ := CollI.snoc (by omega) hlm HB2.out HO.out HN.out (fun j hj => (HEL.out j hj).ku HK.out.ku HK.out.size) HV.out (below_kept HG.out HK.out HG.out.size (fun k hk => by omega)) (HZ.out.ku HK.out.ku HK.out.size) HO3.out HG3.out HN3.out rfl rfl
  refine ⟨k, ?_⟩
  exact (by rw [show w3.heap.size = (w3.setCell ⟨w.heap.size, 0, none⟩ (.slice (some ⟨g3, 0, none⟩) (zs.length + 1) cap3)).heap.size from by simp [World.setCell]]; exact ci)
 case done =>
  rintro lo m C ⟨u, hbx, hz, hv, hB, hlo⟩ hd
  have cb := hbx.cell
  have HC := Lib.hid hd
  have HZ := Lib.hid hz
  have HB := Lib.hid hB
  have HX := Lib.hid hbx
  clear hd hz hB hbx
  gi_wp2
  refine ⟨by simp, .inl ⟨_, _, rfl, run_takeDeferred HC.out, ?_⟩⟩
  have kt := Kept.turn (.deferred none) HC.out rfl
  refine ⟨_, results_tmp rfl _ _ _, u, rfl, ?_, below_kept HB.out kt HB.out.size fun k hk => ?_⟩
  ·obtain ⟨xs, h1, h2, h3⟩ := HZ.out.kept kt fun g hg => (by have := hv g hg; simp; omega)
   exact ⟨xs, ownsRow_base h1 (by omega), h2, h3⟩
  ·simp; omega
set_option maxHeartbeats 4000000 in
set_option maxRecDepth 100000 in
theorem collect_any (g : Nat) (lb : Array Value) (T : List Int) (w : World) (hT : T.length ≤ 1000000) (eg : ∀ args w, (callFunc g args).run Tryz.prog w = .ok (.enter g args) w) (h : GivesZ g lb T w) :
  Calls Tryz.prog 152 #[.func (.func g) #[] lb] w fun e w' => ∃ v, e = .returned v ∧ ZRow w' w.heap.size v T ∧ Below w.heap.size w w' := by
 have HA := Lib.hid (appendSeq_any g lb T w hT eg h)
 clear eg h
 go_enter Tryz.func152, Tryz.ntmps152
 go_wp2_with fail
 refine HA.out.mono ?_
 rintro e w1 ⟨v, rfl, hz, hb⟩
 go_wp2
 go_ret
 exact ⟨v, rfl, hz, hb⟩
end
end Go.Proofs.YtghgcbedajaldaaGreat
/-  The elements that commonTerms yields.  -/
namespace Go.Proofs.YtghgcbedajaldaaGreat
section
open Go.RowKit Go.Shelf Digs
attribute [local go_sem] Oper.semAt_some
def ct : Nat → Int → Int → Int → Int → List Int
 | 0, _, _, _, _ => []
 | k + 1, a, b, c, d => if a % b = 0 then [a / b] else if a / b < c / d then [a / b + 1] else a / b :: ct k d (c % d) b (a % b)
theorem two_stored {X : World} {a4 a5 : Nat} {x0 y0 x1 y1 x y x' y' : Value} {z z' q r : Int} (h4 : BX a4 x0 y0 z X) (h5 : BX a5 x1 y1 z' X) (hne : a4 ≠ a5) (i4 : IntV X (.agg #[x, y]) q) (i5 : IntV X (.agg #[x', y']) r) :
  BX a4 x y q ((((X.setCell ⟨a4, 0, none⟩ x).setCell ⟨a4, 1, none⟩ y).setCell ⟨a5, 0, none⟩ x').setCell ⟨a5, 1, none⟩ y') ∧ BX a5 x' y' r ((((X.setCell ⟨a4, 0, none⟩ x).setCell ⟨a4, 1, none⟩ y).setCell ⟨a5, 0, none⟩ x').setCell ⟨a5, 1, none⟩ y') := by
 have k5 := h5.oth h4 (Ne.symm hne) x y
 exact ⟨(h4.set i4).oth k5 hne _ _, k5.set (i5.other h4 _ _)⟩
theorem alc {A : World} {a : Addr} {u : Value} (h : A.cell? a = some u) : ∀ o, (A.alloc o).cell? a = some u := fun _ => (World.cell?_alloc_lt _ _ _ (World.block_lt_of_cell? A a h)).trans h
theorem alf {A : World} {a : Addr} {u : Value} {b : Bool} (h : A.cell? a = some u) (hf : A.frozen? a = b) : ∀ o, (A.alloc o).frozen? a = b := fun _ =>
  (((Below.refl A.heap.size A).alloc (Nat.le_refl _) _).frozen (World.block_lt_of_cell? A a h)).trans hf
abbrev ZO : Obj := .cells #[.bool false, .slice none 0 0] 31
theorem finA {A : World} {x y x' y' : Value} {q r : Int} {t : TypeId} (i : IntV A (.agg #[x, y]) q) (j : IntV A (.agg #[x', y']) r) :
  BX A.heap.size x y q ((A.alloc (.cells #[x, y] t)).alloc (.cells #[x', y'] t)) ∧ BX (A.heap.size + 1) x' y' r ((A.alloc (.cells #[x, y] t)).alloc (.cells #[x', y'] t)) := by
 have al : ∀ (A : World) (o : Obj), Below A.heap.size A (A.alloc o) := fun A o => (Below.refl _ _).alloc (Nat.le_refl _) _
 have h2 := BX.made (t := t) (j.keep (al A (.cells #[x, y] t)))
 rw [World.size_alloc] at h2
 exact ⟨(BX.made i).keep (al _ _), h2⟩
theorem finB {A : World} {a : Nat} {x0 y0 x y x' y' : Value} {z q r : Int} {t : TypeId} (h : BX a x0 y0 z A) (i : IntV A (.agg #[x, y]) q) (j : IntV A (.agg #[x', y']) r) :
  BX A.heap.size x y q (((A.alloc (.cells #[x, y] t)).setCell ⟨a, 0, none⟩ x').setCell ⟨a, 1, none⟩ y') ∧ BX a x' y' r (((A.alloc (.cells #[x, y] t)).setCell ⟨a, 0, none⟩ x').setCell ⟨a, 1, none⟩ y') := by
 have al : Below A.heap.size A (A.alloc (.cells #[x, y] t)) := (Below.refl _ _).alloc (Nat.le_refl _) _
 have hlt := h.lt
 exact ⟨(BX.made i).oth (h.keep al) (by omega) _ _, (h.keep al).set (j.keep al)⟩
theorem bel4 {n a b : Nat} {W X : World} (h : Below n W X) (ha : n ≤ a) (hb : n ≤ b) (x y x' y' : Value) : Below n W ((((X.setCell ⟨a, 0, none⟩ x).setCell ⟨a, 1, none⟩ y).setCell ⟨b, 0, none⟩ x').setCell ⟨b, 1, none⟩ y') :=
  (((h.setCell ha _).setCell ha _).setCell hb _).setCell hb _
theorem below_s2 {n a : Nat} {W X : World} (h : Below n W X) (ha : n ≤ a) (x y : Value) : Below n W ((X.setCell ⟨a, 0, none⟩ x).setCell ⟨a, 1, none⟩ y) := (h.setCell ha _).setCell ha _
def nB (w : World) (p : Nat) : Nat := match w.cell? ⟨p, 1, none⟩ with | some v => numW w v | none => 0
theorem nB_eq {p : Nat} {u v : Value} {z : Int} {w : World} (h : BX p u v z w) : nB w p = z.natAbs := by
 unfold nB
 rw [h.c1]
 obtain ⟨ad, n, c, e, hr⟩ := h.iv
 injection e with e
 injection e with e
 injection e with _ e
 injection e with e _
 subst e
 exact numW_eq hr
theorem ct_pos {k : Nat} (a b c d : Int) (h : 0 < k) : 0 < (ct k a b c d).length := by
 obtain ⟨j, rfl⟩ : ∃ j, k = j + 1 := ⟨k - 1, by omega⟩
 unfold ct
 split
 ·simp
 ·split
  ·simp
  ·simp
structure CTR (T : List Int) (J : List Int → Nat → Nat → World → Prop) (B lo a4 a5 a6 a7 : Nat) (zs : List Int) (k : Nat) (a b c d : Int) (m : Nat) (x4 y4 x5 y5 x6 y6 x7 y7 : Value) (W : World) : Prop where
 b4 : BX a4 x4 y4 a W
 b5 : BX a5 x5 y5 b W
 b6 : BX a6 x6 y6 c W
 b7 : BX a7 x7 y7 d W
 hb : 0 < b
 hd : 0 < d
 le : a * d ≤ c * b
 kk : b + d ≤ (k : Int)
 tt : T = zs ++ ct k a b c d
 jj : J zs lo m W
 lm : lo ≤ m
 mw : m ≤ W.heap.size
 la : len a ≤ 900000
 lb : len b ≤ 900000
 lc : len c ≤ 900000
 ld : len d ≤ 900000
theorem CTR.keep {T : List Int} {J : List Int → Nat → Nat → World → Prop} {l B lo a4 a5 a6 a7 : Nat} {zs : List Int} {k : Nat} {a b c d : Int} {m : Nat} {x4 y4 x5 y5 x6 y6 x7 y7 : Value} {A C : World}
  (hH : Host Tryz.prog (fun x : Int × Value => x.1) (fun x => #[x.2]) (fun x A => IntV A x.2 x.1) (fun _ => False) l B T J)
  (h : CTR T J B lo a4 a5 a6 a7 zs k a b c d m x4 y4 x5 y5 x6 y6 x7 y7 A) (hb : Below A.heap.size A C) : CTR T J B lo a4 a5 a6 a7 zs k a b c d m x4 y4 x5 y5 x6 y6 x7 y7 C :=
 ⟨h.b4.keep hb, h.b5.keep hb, h.b6.keep hb, h.b7.keep hb, h.hb, h.hd, h.le, h.kk, h.tt, hH.keep _ _ _ _ _ h.jj (Kept.below hb), h.lm, Nat.le_trans h.mw hb.size, h.la, h.lb, h.lc, h.ld⟩
theorem four_stored {C : World} {S : Nat → Prop} {a4 a5 a6 a7 : Nat} {x4 y4 x5 y5 x6 y6 x7 y7 p4 q4 p5 q5 p6 q6 p7 q7 : Value} {a b c d e f g h : Int}
  (b4 : BX a4 x4 y4 a C) (b5 : BX a5 x5 y5 b C) (b6 : BX a6 x6 y6 c C) (b7 : BX a7 x7 y7 d C) (i4 : IntV C (.agg #[p4, q4]) e) (i5 : IntV C (.agg #[p5, q5]) f) (i6 : IntV C (.agg #[p6, q6]) g) (i7 : IntV C (.agg #[p7, q7]) h)
  (n45 : a4 ≠ a5) (n46 : a4 ≠ a6) (n47 : a4 ≠ a7) (n56 : a5 ≠ a6) (n57 : a5 ≠ a7) (n67 : a6 ≠ a7) (s4 : ¬ S a4) (s5 : ¬ S a5) (s6 : ¬ S a6) (s7 : ¬ S a7) {D : World}
  (hD : D = ((((((((C.setCell ⟨a4, 0, none⟩ p4).setCell ⟨a4, 1, none⟩ q4).setCell ⟨a5, 0, none⟩ p5).setCell ⟨a5, 1, none⟩ q5).setCell ⟨a6, 0, none⟩ p6).setCell ⟨a6, 1, none⟩ q6).setCell ⟨a7, 0, none⟩ p7).setCell ⟨a7, 1, none⟩ q7)) :
  BX a4 p4 q4 e D ∧ BX a5 p5 q5 f D ∧ BX a6 p6 q6 g D ∧ BX a7 p7 q7 h D ∧ Kept S C D := by
 have h5 := b5.oth b4 (Ne.symm n45) p4 q4
 have h6 := b6.oth b4 (Ne.symm n46) p4 q4
 have h7 := b7.oth b4 (Ne.symm n47) p4 q4
 have h4 := b4.set i4
 have j5 := i5.other b4 p4 q4
 have j6 := i6.other b4 p4 q4
 have j7 := i7.other b4 p4 q4
 have k1 := Kept.store b4 s4 p4 q4
 have k2 := Kept.store h5 s5 p5 q5
 have g4 := h4.oth h5 n45 p5 q5
 have g6 := h6.oth h5 (Ne.symm n56) p5 q5
 have g7 := h7.oth h5 (Ne.symm n57) p5 q5
 have t6 := j6.other h5 p5 q5
 have t7 := j7.other h5 p5 q5
 have g5 := h5.set j5
 have k3 := Kept.store g6 s6 p6 q6
 have f4 := g4.oth g6 n46 p6 q6
 have f5 := g5.oth g6 n56 p6 q6
 have f7 := g7.oth g6 (Ne.symm n67) p6 q6
 have r7 := t7.other g6 p6 q6
 have f6 := g6.set t6
 have k4 := Kept.store f7 s7 p7 q7
 rw [hD]
 exact ⟨f4.oth f7 n47 _ _, f5.oth f7 n57 _ _, f6.oth f7 n67 _ _, f7.set r7, ((k1.trans k2).trans k3).trans k4⟩
theorem emod_len {a b : Int} {k : Nat} (hb : 0 < b) (h : len b ≤ k) : len (a % b) ≤ k := lenle (by have h1 := Int.emod_nonneg a (show b ≠ 0 by omega); have h2 := Int.emod_lt_of_pos a hb; omega) h
theorem ct_end {k : Nat} {a b c d : Int} (hk : 0 < k) (h : a % b = 0) : ct k a b c d = [a / b] := by
 obtain ⟨j, rfl⟩ : ∃ j, k = j + 1 := ⟨k - 1, by omega⟩
 rw [ct, if_pos h]
theorem ct_up {k : Nat} {a b c d : Int} (hk : 0 < k) (h : a % b ≠ 0) (hl : a / b < c / d) : ct k a b c d = [a / b + 1] := by
 obtain ⟨j, rfl⟩ : ∃ j, k = j + 1 := ⟨k - 1, by omega⟩
 rw [ct, if_neg h, if_pos hl]
theorem ct_on {k : Nat} {a b c d : Int} (hk : 0 < k) (h : a % b ≠ 0) (hl : ¬ a / b < c / d) : ct k a b c d = a / b :: ct (k - 1) d (c % d) b (a % b) := by
 obtain ⟨j, rfl⟩ : ∃ j, k = j + 1 := ⟨k - 1, by omega⟩
 rw [ct, if_neg h, if_neg hl, Nat.add_sub_cancel]
theorem ediv_abs (a : Int) {b : Int} (hb : 0 < b) : (a / b).natAbs ≤ a.natAbs := by
 by_cases h : 0 ≤ a
 ·have h1 := Int.ediv_le_self b h
  have h2 := Int.ediv_nonneg h (Int.le_of_lt hb)
  omega
 ·have h3 := Int.mul_nonneg (show 0 ≤ -a by omega) (show 0 ≤ b - 1 by omega)
  have e : -a * (b - 1) = -(a * b) + a := by grind
  have h1 : a ≤ a / b := Int.le_ediv_of_mul_le hb (by omega)
  have h2 := Int.ediv_neg_of_neg_of_pos (a := a) (b := b) (by omega) hb
  omega
theorem ediv_len {a b : Int} {k : Nat} (hb : 0 < b) (h : len a ≤ k) : len (a / b) ≤ k := lenle (ediv_abs a hb) h
theorem ct_step {a b c d : Int} (hb : 0 < b) (hd : 0 < d) (hle : a * d ≤ c * b) (hr : a % b ≠ 0) (hq : ¬ a / b < c / d) : 0 < c % d ∧ 0 < a % b ∧ d * (a % b) ≤ b * (c % d) ∧ c % d < d ∧ a % b < b := by
 have h1 := Int.mul_ediv_add_emod a b
 have h2 := Int.mul_ediv_add_emod c d
 have h3 := Int.emod_nonneg a (show b ≠ 0 by omega)
 have h4 := Int.emod_lt_of_pos a hb
 have h5 := Int.emod_nonneg c (show d ≠ 0 by omega)
 have h6 := Int.emod_lt_of_pos c hd
 generalize a / b = q at *
 generalize c / d = p at *
 generalize a % b = r at *
 generalize c % d = l at *
 -- q ≤ p, and so q = p
 have hqp : p ≤ q := by omega
 have key : d * r ≤ b * l + b * d * (p - q) := by
  have e1 : a * d = b * d * q + d * r := by grind
  have e2 : c * b = b * d * p + b * l := by grind
  have e3 : b * d * (p - q) = b * d * p - b * d * q := by grind
  omega
 have hbd : 0 < b * d := Int.mul_pos hb hd
 have hdr : 0 < d * r := Int.mul_pos hd (by omega)
 have hpq : p = q := by
  by_cases h : p = q
  ·exact h
  ·exfalso
   have g1 := Int.mul_nonneg (Int.le_of_lt hbd) (show 0 ≤ q - 1 - p by omega)
   have g2 : b * d * (q - 1 - p) = -(b * d * (p - q)) - b * d := by grind
   have g3 := Int.mul_nonneg (Int.le_of_lt hb) (show 0 ≤ d - l by omega)
   have g4 : b * (d - l) = b * d - b * l := by grind
   omega
 subst hpq
 rw [Int.sub_self, Int.mul_zero, Int.add_zero] at key
 refine ⟨?_, by omega, key, h6, h4⟩
 by_cases h : l = 0
 ·subst h
  rw [Int.mul_zero] at key
  omega
 ·omega
theorem cmpZ_neg (x y : Int) : cmpZ x y < 0 ↔ x < y := by
 unfold cmpZ
 split
 ·omega
 ·split <;> omega
theorem bD (W : World) : Below W.heap.size W W.drew := (Below.refl _ _).drew
theorem bA (W : World) (o : Obj) : Below W.heap.size W (W.alloc o).drew := ((Below.refl _ _).alloc (Nat.le_refl _) o).drew
theorem bAA (W : World) (o o' : Obj) : Below W.heap.size W ((W.alloc o).alloc o').drew := (((Below.refl _ _).alloc (Nat.le_refl _) o).alloc (by simp) o').drew
theorem zz1 (W : World) {A : World} (h : Below (W.alloc ZO).drew.heap.size (W.alloc ZO).drew A) : BX W.heap.size (.bool false) (.slice none 0 0) 0 A :=
  ((BX.made (w := W) (t := 31) (IntV.nil0 _)).keep (bD _)).keep h
theorem zz2 (W : World) {A : World} (h : Below ((W.alloc ZO).alloc ZO).drew.heap.size ((W.alloc ZO).alloc ZO).drew A) : BX W.heap.size (.bool false) (.slice none 0 0) 0 A ∧ BX (W.heap.size + 1) (.bool false) (.slice none 0 0) 0 A := by
 have h1 := (BX.made (w := W) (t := 31) (IntV.nil0 _)).keep ((Below.refl (W.alloc ZO).heap.size _).alloc (Nat.le_refl _) ZO)
 have h2 := BX.made (w := W.alloc ZO) (t := 31) (IntV.nil0 _)
 rw [World.size_alloc] at h2
 exact ⟨(h1.keep (bD _)).keep h, (h2.keep (bD _)).keep h⟩
set_option maxHeartbeats 40000000 in
set_option maxRecDepth 100000 in
theorem commonTerms_gives (bl bh k : Nat) (n1 d1 n2 d2 : Int) (v1 v2 : Value) (x1 x2 x3 x4 y1 y2 y3 y4 : Value) (w : World) (hbl : bl < w.heap.size) (hbh : bh < w.heap.size)
  (e1 : v1 = .agg #[x1, x2, x3, x4]) (e2 : v2 = .agg #[y1, y2, y3, y4])
  (a0 : w.cell? ⟨bl, 0, none⟩ = some x1) (a1 : w.cell? ⟨bl, 1, none⟩ = some x2) (a2 : w.cell? ⟨bl, 2, none⟩ = some x3) (a3 : w.cell? ⟨bl, 3, none⟩ = some x4)
  (b0 : w.cell? ⟨bh, 0, none⟩ = some y1) (b1 : w.cell? ⟨bh, 1, none⟩ = some y2) (b2 : w.cell? ⟨bh, 2, none⟩ = some y3) (b3 : w.cell? ⟨bh, 3, none⟩ = some y4)
  (h1 : RatV w v1 n1 d1) (h2 : RatV w v2 n2 d2) (hd1 : 0 < d1) (hd2 : 0 < d2) (hle : n1 * d2 ≤ n2 * d1) (hk : d1 + d2 ≤ (k : Int)) (l1 : len n1 ≤ 900000) (l2 : len d1 ≤ 900000) (l3 : len n2 ≤ 900000) (l4 : len d2 ≤ 900000) :
  GivesZ 173 #[.pointer (some ⟨bl, 0, none⟩), .pointer (some ⟨bh, 0, none⟩)] (ct k n1 d1 n2 d2) w := by
 intro W l J hW hH hJ0
 refine callsIn_wide.2 ?_
 obtain ⟨p1, ad1, m1, c1, p2, ad2, m2, c2, e⟩ := rat_shape h1
 obtain ⟨q1, ae1, o1, f1, q2, ae2, o2, f2, e'⟩ := rat_shape h2
 subst e1
 subst e2
 injection e with e
 injection e with e
 injection e with e3 e
 injection e with e4 e
 injection e with e5 e
 injection e with e6 e
 subst e3 e4 e5 e6
 injection e' with e
 injection e with e
 injection e with e3 e
 injection e with e4 e
 injection e with e5 e
 injection e with e6 e
 subst e3 e4 e5 e6
 have A0 := (hW.cell (p := ⟨bl, 0, none⟩) hbl).trans a0
 have A1 := (hW.cell (p := ⟨bl, 1, none⟩) hbl).trans a1
 have A2 := (hW.cell (p := ⟨bl, 2, none⟩) hbl).trans a2
 have A3 := (hW.cell (p := ⟨bl, 3, none⟩) hbl).trans a3
 have B0 := (hW.cell (p := ⟨bh, 0, none⟩) hbh).trans b0
 have B1 := (hW.cell (p := ⟨bh, 1, none⟩) hbh).trans b1
 have B2 := (hW.cell (p := ⟨bh, 2, none⟩) hbh).trans b2
 have B3 := (hW.cell (p := ⟨bh, 3, none⟩) hbh).trans b3
 clear a0 a1 a2 a3 b0 b1 b2 b3 e
 have HH := Lib.hid hH
 have HJ := Lib.hid hJ0
 have H1 := Lib.hid (h1.keep hW)
 have H2 := Lib.hid (h2.keep hW)
 clear hH hJ0 h1 h2 hW
 have HD1 := Lib.hid fun W u h => Lib.hid (den_any n1 d1 u W hd1 (by omega) h)
 have HD2 := Lib.hid fun W u h => Lib.hid (den_any n2 d2 u W hd2 (by omega) h)
 have I1 := Lib.hid (show IntV W (.agg #[.bool p1, .slice ad1 m1 c1]) n1 from by
  obtain ⟨a, b, c, e, he, h, _⟩ := H1.out
  injection he with he
  injection he with he
  injection he with e1 he
  injection he with e2 he
  rw [e1, e2]; exact h)
 have I2 := Lib.hid (show IntV W (.agg #[.bool q1, .slice ae1 o1 f1]) n2 from by
  obtain ⟨a, b, c, e, he, h, _⟩ := H2.out
  injection he with he
  injection he with he
  injection he with e1 he
  injection he with e2 he
  rw [e1, e2]; exact h)
 have NL : bl < W.heap.size := World.block_lt_of_cell? W _ A0
 have NH : bh < W.heap.size := World.block_lt_of_cell? W _ B0
 go_enter Tryz.func173, Tryz.ntmps173
 have E1 : W.heap.size ≠ bl := by omega
 have E2 : W.heap.size + 1 ≠ bl := by omega
 go_upto_region 0 with fail
 go_cut [4, 5] from 12 to 15 (fun u4 u5 wx => ∃ a4 a5 v4 v5 b4 b5, u4 = .pointer (some ⟨a4, 0, none⟩) ∧ u5 = .pointer (some ⟨a5, 0, none⟩) ∧ a4 ≠ a5 ∧ W.heap.size ≤ a4 ∧ W.heap.size ≤ a5 ∧ BX a4 v4 b4 n1 wx ∧ BX a5 v5 b5 d1 wx ∧ Below W.heap.size W wx)
 case first =>
  clear HH HJ HD2 H2 I2 B0 B1 B2 B3 NH hbl hbh hd1 hd2 hle hk l1 l2 l3 l4
  go_region_held3 (fun w' => w'.cell? ⟨bl, 0, none⟩ = some (.bool p1) ∧ w'.cell? ⟨bl, 1, none⟩ = some (.slice ad1 m1 c1) ∧ w'.cell? ⟨bl, 2, none⟩ = some (.bool p2) ∧ w'.cell? ⟨bl, 3, none⟩ = some (.slice ad2 m2 c2))
   (first | with_reducible exact ⟨A0, A1, A2, A3⟩ | with_reducible exact ⟨s0, s1, s2, s3⟩ | go_keep)
   (go_loud (first
   | (go_at_call 67; (with_reducible refine (HD1.out _ _ (H1.out.keep (by first | with_reducible exact bD _ | with_reducible exact bA _ _ | with_reducible exact bAA _ _ _))).out.mono ?_); rintro e wA ⟨vA, rfl, hiA, hbA⟩; have hbW : Below W.heap.size W wA := (by first | with_reducible exact (bD _).trans (hbA.mono (bD _).size) | with_reducible exact (bA _ _).trans (hbA.mono (bA _ _).size) | with_reducible exact (bAA _ _ _).trans (hbA.mono (bAA _ _ _).size)); obtain ⟨r1, ag, m3, cc3, rfl⟩ := intv_shape hiA; have s0 := (hbW.cell (p := ⟨bl, 0, none⟩) NL).trans A0; have s1 := (hbW.cell (p := ⟨bl, 1, none⟩) NL).trans A1; have s2 := (hbW.cell (p := ⟨bl, 2, none⟩) NL).trans A2; have s3 := (hbW.cell (p := ⟨bl, 3, none⟩) NL).trans A3; have hsz := hbW.size; have e1 : wA.heap.size ≠ bl := (by omega); have e2 : wA.heap.size + 1 ≠ bl := (by omega); clear hsz; first | (with_reducible have hz := zz2 W hbA; obtain ⟨⟨zc0, zc1, zf0, zf1, _⟩, zc2, zc3, zf2, zf3, _⟩ := hz; with_reducible have hz := zz2 W hbA) | (with_reducible have hz := zz1 W hbA; obtain ⟨zc0, zc1, zf0, zf1, _⟩ := hz; have zg0 := alc zc0; have zg1 := alc zc1; have zk0 := alf zc0 zf0; have zk1 := alf zc1 zf1; have e3 : wA.heap.size ≠ W.heap.size := Nat.ne_of_gt (World.block_lt_of_cell? wA _ zc0); have e4 := Ne.symm e3; with_reducible have hz := zz1 W hbA) | skip)))
  all_goals
   go_wp2_with fail
   go_meet
   have hsz := hbW.size
   have j1 := I1.out.keep hbW
   have bal := fun (X : World) (h : Below W.heap.size W X) (o : Obj) => h.alloc h.size o
  ·exact ⟨_, _, _, _, _, _, rfl, rfl, by omega, by omega, by omega, (finA j1 hiA).1, (finA j1 hiA).2, bal _ (bal _ hbW _) _⟩
  ·exact ⟨_, _, _, _, _, _, rfl, rfl, by omega, by omega, by omega, (finA hiA j1).2, (finA hiA j1).1, bal _ (bal _ hbW _) _⟩
  ·exact ⟨_, _, _, _, _, _, rfl, rfl, by omega, by omega, by omega, (two_stored (hz.keep ((Below.refl _ _).alloc (Nat.le_refl _) _)) (BX.made (IntV.nil0 _)) e4 (j1.keep ((Below.refl _ _).alloc (Nat.le_refl _) _)) (hiA.keep ((Below.refl _ _).alloc (Nat.le_refl _) _))).1, (two_stored (hz.keep ((Below.refl _ _).alloc (Nat.le_refl _) _)) (BX.made (IntV.nil0 _)) e4 (j1.keep ((Below.refl _ _).alloc (Nat.le_refl _) _)) (hiA.keep ((Below.refl _ _).alloc (Nat.le_refl _) _))).2, bel4 (bal _ hbW _) (Nat.le_refl _) hsz _ _ _ _⟩
  ·exact ⟨_, _, _, _, _, _, rfl, rfl, by omega, by omega, by omega, (two_stored hz.1 hz.2 (by omega) j1 hiA).1, (two_stored hz.1 hz.2 (by omega) j1 hiA).2, bel4 hbW (by omega) (by omega) _ _ _ _⟩
  ·exact ⟨_, _, _, _, _, _, rfl, rfl, by omega, by omega, by omega, (finB hz j1 hiA).1, (finB hz j1 hiA).2, below_s2 (bal _ hbW _) (Nat.le_refl _) _ _⟩
  ·exact ⟨_, _, _, _, _, _, rfl, rfl, by omega, by omega, by omega, (two_stored hz.2 hz.1 (by omega) j1 hiA).1, (two_stored hz.2 hz.1 (by omega) j1 hiA).2, bel4 hbW (by omega) (by omega) _ _ _ _⟩
 case rest =>
  obtain ⟨a4, a5, v4, v5, b4, b5, rfl, rfl, hne45, ha4, ha5, X4, X5, hbV⟩ := hcut
  generalize wc = V at *
  have H2v := Lib.hid (H2.out.keep hbV)
  have I2v := Lib.hid (I2.out.keep hbV)
  have NHv : bh < V.heap.size := Nat.lt_of_lt_of_le NH hbV.size
  have B0' := (hbV.cell (p := ⟨bh, 0, none⟩) NH).trans B0
  have B1' := (hbV.cell (p := ⟨bh, 1, none⟩) NH).trans B1
  have B2' := (hbV.cell (p := ⟨bh, 2, none⟩) NH).trans B2
  have B3' := (hbV.cell (p := ⟨bh, 3, none⟩) NH).trans B3
  have XX4 := Lib.hid X4
  have XX5 := Lib.hid X5
  have HBV := Lib.hid hbV
  clear X4 X5 hbV A0 A1 A2 A3 B0 B1 B2 B3 E1 E2 NH NL H1 H2 I1 I2 HD1
  have E3 : V.heap.size ≠ bh := by omega
  have E4 : V.heap.size + 1 ≠ bh := by omega
  go_upto_region 1 with fail
  go_cut [6, 7] from 16 to 19 (fun u6 u7 wx => ∃ a4 a5 v4 v5 b4 b5, u6 = .pointer (some ⟨a4, 0, none⟩) ∧ u7 = .pointer (some ⟨a5, 0, none⟩) ∧ a4 ≠ a5 ∧ V.heap.size ≤ a4 ∧ V.heap.size ≤ a5 ∧ BX a4 v4 b4 n2 wx ∧ BX a5 v5 b5 d2 wx ∧ Below V.heap.size V wx)
  case first =>
   clear HH HJ hbl hbh hd1 hd2 hle hk l1 l2 l3 l4 XX4 XX5 HBV hne45 ha4 ha5
   go_region_held3 (fun w' => w'.cell? ⟨bh, 0, none⟩ = some (.bool q1) ∧ w'.cell? ⟨bh, 1, none⟩ = some (.slice ae1 o1 f1) ∧ w'.cell? ⟨bh, 2, none⟩ = some (.bool q2) ∧ w'.cell? ⟨bh, 3, none⟩ = some (.slice ae2 o2 f2))
    (first | with_reducible exact ⟨B0', B1', B2', B3'⟩ | with_reducible exact ⟨s0, s1, s2, s3⟩ | go_keep)
    (go_loud (first
    | (go_at_call 67; (with_reducible refine (HD2.out _ _ (H2v.out.keep (by first | with_reducible exact bD _ | with_reducible exact bA _ _ | with_reducible exact bAA _ _ _))).out.mono ?_); rintro e wA ⟨vA, rfl, hiA, hbA⟩; have hbW : Below V.heap.size V wA := (by first | with_reducible exact (bD _).trans (hbA.mono (bD _).size) | with_reducible exact (bA _ _).trans (hbA.mono (bA _ _).size) | with_reducible exact (bAA _ _ _).trans (hbA.mono (bAA _ _ _).size)); obtain ⟨r1, ag, m3, cc3, rfl⟩ := intv_shape hiA; have s0 := (hbW.cell (p := ⟨bh, 0, none⟩) NHv).trans B0'; have s1 := (hbW.cell (p := ⟨bh, 1, none⟩) NHv).trans B1'; have s2 := (hbW.cell (p := ⟨bh, 2, none⟩) NHv).trans B2'; have s3 := (hbW.cell (p := ⟨bh, 3, none⟩) NHv).trans B3'; have hsz := hbW.size; have e1 : wA.heap.size ≠ bh := (by omega); have e2 : wA.heap.size + 1 ≠ bh := (by omega); clear hsz; first | (with_reducible have hz := zz2 V hbA; obtain ⟨⟨zc0, zc1, zf0, zf1, _⟩, zc2, zc3, zf2, zf3, _⟩ := hz; with_reducible have hz := zz2 V hbA) | (with_reducible have hz := zz1 V hbA; obtain ⟨zc0, zc1, zf0, zf1, _⟩ := hz; have zg0 := alc zc0; have zg1 := alc zc1; have zk0 := alf zc0 zf0; have zk1 := alf zc1 zf1; have e3 : wA.heap.size ≠ V.heap.size := Nat.ne_of_gt (World.block_lt_of_cell? wA _ zc0); have e4 := Ne.symm e3; with_reducible have hz := zz1 V hbA) | skip)))
   all_goals
    go_wp2_with fail
    go_meet
    have hsz := hbW.size
    have j1 := I2v.out.keep hbW
    have bal := fun (X : World) (h : Below V.heap.size V X) (o : Obj) => h.alloc h.size o
   ·exact ⟨_, _, _, _, _, _, rfl, rfl, by omega, by omega, by omega, (finA j1 hiA).1, (finA j1 hiA).2, bal _ (bal _ hbW _) _⟩
   ·exact ⟨_, _, _, _, _, _, rfl, rfl, by omega, by omega, by omega, (finA hiA j1).2, (finA hiA j1).1, bal _ (bal _ hbW _) _⟩
   ·exact ⟨_, _, _, _, _, _, rfl, rfl, by omega, by omega, by omega, (two_stored (hz.keep ((Below.refl _ _).alloc (Nat.le_refl _) _)) (BX.made (IntV.nil0 _)) e4 (j1.keep ((Below.refl _ _).alloc (Nat.le_refl _) _)) (hiA.keep ((Below.refl _ _).alloc (Nat.le_refl _) _))).1, (two_stored (hz.keep ((Below.refl _ _).alloc (Nat.le_refl _) _)) (BX.made (IntV.nil0 _)) e4 (j1.keep ((Below.refl _ _).alloc (Nat.le_refl _) _)) (hiA.keep ((Below.refl _ _).alloc (Nat.le_refl _) _))).2, bel4 (bal _ hbW _) (Nat.le_refl _) hsz _ _ _ _⟩
   ·exact ⟨_, _, _, _, _, _, rfl, rfl, by omega, by omega, by omega, (two_stored hz.1 hz.2 (by omega) j1 hiA).1, (two_stored hz.1 hz.2 (by omega) j1 hiA).2, bel4 hbW (by omega) (by omega) _ _ _ _⟩
   ·exact ⟨_, _, _, _, _, _, rfl, rfl, by omega, by omega, by omega, (finB hz j1 hiA).1, (finB hz j1 hiA).2, below_s2 (bal _ hbW _) (Nat.le_refl _) _ _⟩
   ·exact ⟨_, _, _, _, _, _, rfl, rfl, by omega, by omega, by omega, (two_stored hz.2 hz.1 (by omega) j1 hiA).1, (two_stored hz.2 hz.1 (by omega) j1 hiA).2, bel4 hbW (by omega) (by omega) _ _ _ _⟩
  case rest =>
   obtain ⟨a6, a7, v6, v7, b6, b7, rfl, rfl, hne67, ha6, ha7, X6, X7, hbU⟩ := hcut
   generalize wc = U at *
   have hA : a4 ≠ a5 ∧ a4 ≠ a6 ∧ a4 ≠ a7 ∧ a5 ≠ a6 ∧ a5 ≠ a7 ∧ a6 ≠ a7 ∧ W.heap.size ≤ a4 ∧ W.heap.size ≤ a5 ∧ W.heap.size ≤ a6 ∧ W.heap.size ≤ a7 ∧ a4 < U.heap.size ∧ a5 < U.heap.size ∧ a6 < U.heap.size ∧ a7 < U.heap.size := by
    have g1 := XX4.out.lt
    have g2 := XX5.out.lt
    have g3 := X6.lt
    have g4 := X7.lt
    have g5 := HBV.out.size
    have g6 := hbU.size
    omega
   have HA := Lib.hid hA
   have hB := HBV.out.trans (hbU.mono HBV.out.size)
   have HS : Hid (CTR (ct k n1 d1 n2 d2) J W.heap.size U.heap.size a4 a5 a6 a7 [] k n1 d1 n2 d2 U.heap.size v4 b4 v5 b5 v6 b6 v7 b7 U) := Lib.hid
    ⟨XX4.out.keep hbU, XX5.out.keep hbU, X6, X7, hd1, hd2, hle, hk, rfl, HH.out.keep _ _ _ _ _ (HJ.out _ hB.size) (Kept.below hB), Nat.le_refl _, Nat.le_refl _, l1, l2, l3, l4⟩
   obtain ⟨T, hT⟩ : ∃ T, ct k n1 d1 n2 d2 = T := ⟨_, rfl⟩
   rw [hT] at HS HH
   have HT := Lib.hid hT
   obtain ⟨lo, hlo⟩ : ∃ lo, U.heap.size = lo := ⟨_, rfl⟩
   rw [hlo] at HS HA
   have HL := Lib.hid hlo
   have HB := Lib.hid hB
   clear hT hlo hB hA hbU X6 X7 XX4 XX5 HBV hne45 ha4 ha5 hne67 ha6 ha7 HJ H2v I2v B0' B1' B2' B3' NHv HD2 hbl hbh hd1 hd2 hle hk l1 l2 l3 l4 E3 E4
   go_wp2_with fail
   go_loopw [] (fun wr => ∃ zs kk a b c d m x4 y4 x5 y5 x6 y6 x7 y7, CTR T J W.heap.size lo a4 a5 a6 a7 zs kk a b c d m x4 y4 x5 y5 x6 y6 x7 y7 wr) (fun wr => nB wr a5 + nB wr a7)
   case atStart =>
    exact ⟨_, _, _, _, _, _, _, _, _, _, _, _, _, _, _, HS.out⟩
   case round =>
    obtain ⟨zs, kk, a, b, c, d, m, x4, y4, x5, y5, x6, y6, x7, y7, hR⟩ := hrel
    have hQ := Lib.hid hR
    have HF1 := Lib.hid fun W u v h h' => Lib.hid (floor_any a b u v W hR.hb hR.la hR.lb h h')
    have HF2 := Lib.hid fun W u v h h' => Lib.hid (floor_any c d u v W hR.hd hR.lc hR.ld h h')
    obtain ⟨_, _, _, _, e4, e4', _⟩ := hR.b4.iv.parts
    obtain ⟨_, _, _, _, e5, e5', _⟩ := hR.b5.iv.parts
    obtain ⟨_, _, _, _, e6, e6', _⟩ := hR.b6.iv.parts
    obtain ⟨_, _, _, _, e7, e7', _⟩ := hR.b7.iv.parts
    subst e4 e4' e5 e5' e6 e6' e7 e7'
    obtain ⟨g0, g1⟩ := hR.b4.cells
    obtain ⟨g2, g3⟩ := hR.b5.cells
    clear hR
    go_wp2_with fail
    (with_reducible refine (HF1.out _ _ _ hQ.out.b4.iv hQ.out.b5.iv).out.mono ?_)
    rintro e w1 ⟨vq, vr, rfl, hq, hr, hb1⟩
    obtain ⟨p8, ad8, m8, c8, rfl⟩ := intv_shape hq
    obtain ⟨p9, ad9, m9, c9, rfl⟩ := intv_shape hr
    have hal := below2 w1 (.cells #[.bool p8, .slice ad8 m8 c8] 31) (.cells #[.bool p9, .slice ad9 m9 c9] 31)
    have h89 := finA (t := 31) hq hr
    have HB8 := Lib.hid h89.1
    have HB9 := Lib.hid h89.2
    have hQ1 := Lib.hid (hQ.out.keep HH.out (hb1.trans (hal.mono hb1.size)))
    have M1 := Lib.hid (Nat.le_trans hQ.out.mw hb1.size)
    obtain ⟨g4, g5⟩ := hQ1.out.b6.cells
    obtain ⟨g6, g7⟩ := hQ1.out.b7.cells
    clear hb1 hal h89 hq hr g0 g1 g2 g3
    go_wp2_with fail
    (with_reducible refine (HF2.out _ _ _ hQ1.out.b6.iv hQ1.out.b7.iv).out.mono ?_)
    rintro e w2 ⟨vq, vr, rfl, hq, hr, hb2⟩
    obtain ⟨p10, ad10, m10, c10, rfl⟩ := intv_shape hq
    obtain ⟨p11, ad11, m11, c11, rfl⟩ := intv_shape hr
    have hal := below2 w2 (.cells #[.bool p10, .slice ad10 m10 c10] 31) (.cells #[.bool p11, .slice ad11 m11 c11] 31)
    have h89 := finA (t := 31) hq hr
    have HB10 := Lib.hid h89.1
    have HB11 := Lib.hid h89.2
    have hQ2 := Lib.hid (hQ1.out.keep HH.out (hb2.trans (hal.mono hb2.size)))
    have HB8' := Lib.hid ((HB8.out.keep hb2).keep hal)
    have HB9' := Lib.hid ((HB9.out.keep hb2).keep hal)
    have M2 := Lib.hid (Nat.le_trans hQ1.out.mw hb2.size)
    obtain ⟨g0, g1⟩ := HB9'.out.cells
    clear hb2 hal h89 hq hr g4 g5 g6 g7 HB8 HB9 hQ1
    go_wp2_with fail
    have HSG := Lib.hid (sign_any (a % b) _ _ (Nat.le_trans (emod_len hQ.out.hb hQ.out.lb) (by decide)) HB9'.out.iv)
    (with_reducible refine HSG.out.mono ?_)
    rintro e w3 ⟨rfl, hb3⟩
    have hQ3 := Lib.hid (hQ2.out.keep HH.out hb3)
    have Y8 := Lib.hid (HB8'.out.keep hb3)
    have Y9 := Lib.hid (HB9'.out.keep hb3)
    have Y10 := Lib.hid (HB10.out.keep hb3)
    have Y11 := Lib.hid (HB11.out.keep hb3)
    have hT := hQ3.out.tt
    have hkk : 0 < kk := by have h1 := hQ.out.kk; have h2 := hQ.out.hb; have h3 := hQ.out.hd; omega
    have hlen : zs.length < T.length := by rw [hT, List.length_append]; have := ct_pos a b c d hkk; omega
    have HT2 := Lib.hid hT
    have HK := Lib.hid hkk
    have HLE := Lib.hid hlen
    have hloA : lo ≤ w3.heap.size := Nat.le_trans hQ3.out.lm hQ3.out.mw
    have HLA := Lib.hid hloA
    have HBL : Hid (W.heap.size ≤ lo) := Lib.hid (by have := HA.out; omega)
    obtain ⟨g4, g5⟩ := Y8.out.cells
    clear g0 g1 hb3 hT hkk hlen hloA HB10 HB11 HB8' HB9' hQ2 HSG HF1 HF2
    by_cases hz : a % b = 0
    ·have hst : sgnZ (a % b) = 0 := sgnZ_z.2 hz
     rw [hst]
     go_upto_region 5 with fail
     obtain ⟨fn, tmps, assign, body, hy, hRR⟩ := HH.out.take (20 - 1) zs lo m (a / b, .agg #[.bool p8, .slice ad8 m8 c8]) w3 hQ3.out.jj (by rw [HT2.out, ct_end HK.out hz]; exact List.prefix_rfl) HBL.out HLA.out hQ3.out.mw Y8.out.iv
     refine (wpIn_wide (n := 20)).1 ?_
     gi_wp2
     refine hRR.mono ?_
     rintro e C ⟨rfl, hJ, hk⟩
     gi_wp2
     go_wp2
     refine bodyPost_ret (results_none rfl _ _ _) rfl ⟨⟨_, rfl⟩, lo, C.heap.size, ?_⟩
     rw [HT.out, HT2.out, ct_end HK.out hz]
     exact hJ
    ·have hst : sgnZ (a % b) ≠ 0 := fun h => hz (sgnZ_z.1 h)
     have HST := Lib.hid hst
     have hst1 : (sgnZ (a % b) == 0) = false := beq_eq_false_iff_ne.2 hst
     have hHZ := Lib.hid hz
     clear hst hz
     generalize sgnZ (a % b) = st at *
     obtain ⟨g6, g7⟩ := Y10.out.cells
     have HCM := Lib.hid (Cmp_any (a / b) (c / d) _ _ _ Y8.out.iv Y10.out.iv)
     go_wp2_with fail
     (with_reducible refine HCM.out.mono ?_)
     rintro e w4 ⟨rfl, hb4⟩
     have hQ4 := Lib.hid (hQ3.out.keep HH.out hb4)
     have Z8 := Lib.hid (Y8.out.keep hb4)
     have Z9 := Lib.hid (Y9.out.keep hb4)
     have Z11 := Lib.hid (Y11.out.keep hb4)
     have HLA2 := Lib.hid (Nat.le_trans hQ4.out.lm hQ4.out.mw)
     clear g4 g5 g6 g7 hb4 Y8 Y9 Y10 Y11 hQ3 HLA HCM
     obtain ⟨g4, g5⟩ := Z8.out.cells
     have hcv := cmpZ_neg (a / b) (c / d)
     generalize cmpZ (a / b) (c / d) = cv at *
     by_cases hlt : a / b < c / d
     ·have hc1 : cv < 0 := hcv.2 hlt
      have HLT := Lib.hid hlt
      clear hcv hlt
      go_upto_region 7 with fail
      have HO := Lib.hid fun W => Lib.hid (one_any W)
      have HAD := Lib.hid fun W u v h h' => Lib.hid (Add_any (a / b) 1 u v W (Nat.le_trans (ediv_len hQ.out.hb hQ.out.la) (by decide)) one_len h h')
      refine (wpIn_wide (n := 20)).1 ?_
      clear hst1 hc1
      have hmix : Tryz.prog.follows .mixedOrders = true := by kernel_rfl
      gi_region_with_o
       (first
       | (refine ⟨trivial, ?_⟩; gi_at_call 90; refine (callsIn_wide.2 (HO.out _).out).mono ?_; rintro e wA ⟨vA, rfl, hiA, hbA⟩; have hQ5 := hQ4.out.keep HH.out (by first | exact hbA | exact (bD _).trans (hbA.mono (bD _).size)); have Z8' := Z8.out.keep (by first | exact hbA | exact (bD _).trans (hbA.mono (bD _).size)); obtain ⟨g4, g5⟩ := Z8'.cells)
       | (refine ⟨trivial, ?_⟩; gi_at_call 99; refine (callsIn_wide.2 (HAD.out _ _ _ Z8'.iv hiA).out).mono ?_; rintro e wB ⟨vB, rfl, hiB, hbB⟩; have hQ6 := hQ5.keep HH.out hbB; obtain ⟨fn, tmps, assign, body, hy, hRR⟩ := HH.out.take (20 - 1) zs lo m (a / b + 1, vB) wB hQ6.jj (by rw [HT2.out, ct_up HK.out hHZ.out HLT.out]; exact List.prefix_rfl) HBL.out (Nat.le_trans hQ6.lm hQ6.mw) hQ6.mw hiB)
       | (refine hRR.mono ?_; rintro e C ⟨rfl, hJ, hk⟩))
      all_goals
       go_wp2
       refine bodyPost_ret (results_none rfl _ _ _) rfl ⟨⟨_, rfl⟩, lo, C.heap.size, ?_⟩
       rw [HT.out, HT2.out, ct_up HK.out hHZ.out HLT.out]
       exact hJ
     ·have hc1 : ¬ cv < 0 := fun h => hlt (hcv.1 h)
      have HLT : Hid (¬ a / b < c / d) := Lib.hid hlt
      clear hcv hlt
      go_upto_region 8 with fail
      obtain ⟨fn, tmps, assign, body, hy, hRR⟩ := HH.out.take (20 - 1) zs lo m (a / b, .agg #[.bool p8, .slice ad8 m8 c8]) w4 hQ4.out.jj (by rw [HT2.out, ct_on HK.out hHZ.out (Int.not_lt.2 HLT.out)]; exact ⟨ct (kk - 1) d (c % d) b (a % b), by rw [List.append_assoc]; rfl⟩) HBL.out HLA2.out hQ4.out.mw Z8.out.iv
      refine (wpIn_wide (n := 20)).1 ?_
      gi_wp2
      refine hRR.mono ?_
      rintro e C ⟨rfl, hJ, hk⟩
      have HJ2 := Lib.hid hJ
      have bl4 : ∀ g, W.heap.size ≤ g → g < lo → g < w4.heap.size → C.heap[g]? = w4.heap[g]? := fun g h1 h2 h3 => hk.blk g h3 (.inr (.inl ⟨h1, h2⟩))
      have bl5 : ∀ g, m ≤ g → g < w4.heap.size → C.heap[g]? = w4.heap[g]? := fun g h1 h3 => hk.blk g h3 (.inr (.inr h1))
      have hA := HA.out
      have M1' := M1.out
      have M2' := M2.out
      have X4 := hQ4.out.b4.ku hk.ku hk.size (bl4 a4 (by omega) (by omega) hQ4.out.b4.lt)
      have X5 := hQ4.out.b5.ku hk.ku hk.size (bl4 a5 (by omega) (by omega) hQ4.out.b5.lt)
      have X6 := hQ4.out.b6.ku hk.ku hk.size (bl4 a6 (by omega) (by omega) hQ4.out.b6.lt)
      have X7 := hQ4.out.b7.ku hk.ku hk.size (bl4 a7 (by omega) (by omega) hQ4.out.b7.lt)
      have X9 := Z9.out.ku hk.ku hk.size (bl5 _ (by omega) Z9.out.lt)
      have X11 := Z11.out.ku hk.ku hk.size (bl5 _ (by omega) Z11.out.lt)
      have hCs := hk.size
      have HCS := Lib.hid (Nat.le_trans HLA2.out hCs)
      have D9 := Z9.out.lt
      have D11 := Z11.out.lt
      obtain ⟨n45, n46, n47, n56, n57, n67, w4', w5', w6', w7', l4', l5', l6', l7'⟩ := hA
      have hlm := hQ4.out.lm
      have t4 : a4 ≠ w1.heap.size + 1 ∧ a4 ≠ w2.heap.size + 1 ∧ a5 ≠ w1.heap.size + 1 ∧ a5 ≠ w2.heap.size + 1 ∧ a6 ≠ w1.heap.size + 1 ∧ a6 ≠ w2.heap.size + 1 ∧ a7 ≠ w1.heap.size + 1 ∧ a7 ≠ w2.heap.size + 1 := by omega
      obtain ⟨u1, u2, u3, u4, u5, u6, u7, u8⟩ := t4
      have HK2 := Lib.hid hk
      have XX4 := Lib.hid X4
      have XX5 := Lib.hid X5
      have XX6 := Lib.hid X6
      have XX7 := Lib.hid X7
      have XX9 := Lib.hid X9
      have XX11 := Lib.hid X11
      obtain ⟨i0, i1, i2, i3, _⟩ := X4
      obtain ⟨i4, i5, i6, i7, _⟩ := X5
      obtain ⟨o4, o5, o6, o7, _⟩ := X6
      obtain ⟨r4, r5, r6, r7, _⟩ := X7
      obtain ⟨s0, s1⟩ := X9.cells
      obtain ⟨s2, s3⟩ := X11.cells
      have HN := Lib.hid (And.intro n45 (And.intro n46 (And.intro n47 (And.intro n56 (And.intro n57 n67)))))
      have HWW := Lib.hid (And.intro w4' (And.intro w5' (And.intro w6' (And.intro w7' (And.intro l4' (And.intro l5' (And.intro l6' l7')))))))
      clear bl4 bl5 M1' M2' X9 X11 hCs D9 D11 w4' w5' w6' w7' l4' l5' l6' l7' hlm hJ hk g4 g5
      gi_wp2
      go_upto_region 9 with fail
      go_region
      have hst := ct_step hQ.out.hb hQ.out.hd hQ.out.le hHZ.out (Int.not_lt.2 HLT.out)
      have hkk := hQ.out.kk
      have HF := Lib.hid (four_stored (S := fun i => i < W.heap.size ∨ lo ≤ i ∧ i < C.heap.size) XX4.out XX5.out XX6.out XX7.out XX7.out.iv XX11.out.iv XX5.out.iv XX9.out.iv HN.out.1 HN.out.2.1 HN.out.2.2.1 HN.out.2.2.2.1 HN.out.2.2.2.2.1 HN.out.2.2.2.2.2 (by have := HWW.out; omega) (by have := HWW.out; omega) (by have := HWW.out; omega) (by have := HWW.out; omega) rfl)
      have hm : (c % d).natAbs + (a % b).natAbs < b.natAbs + d.natAbs := by omega
      have HM := Lib.hid hm
      have HST := Lib.hid hst
      have HKK := Lib.hid hkk
      clear hm hst hkk i0 i1 i2 i3 i4 i5 i6 i7 o4 o5 o6 o7 r4 r5 r6 r7 s0 s1 s2 s3
      go_wp2
      go_roundw
      case rel =>
       obtain ⟨k4, k5, k6, k7, kD⟩ := HF.out
       have hst := HST.out
       have hkk := HKK.out
       refine ⟨zs ++ [a / b], kk - 1, d, c % d, b, a % b, C.heap.size, _, _, _, _, _, _, _, _, k4.keep (bD _), k5.keep (bD _), k6.keep (bD _), k7.keep (bD _), hst.1, hst.2.1, hst.2.2.1, by omega,
        ?_, HH.out.keep _ _ _ _ _ HJ2.out (kD.trans (Kept.below (bD _))), HCS.out, Nat.le_trans kD.size (bD _).size, hQ.out.ld, emod_len hQ.out.hd hQ.out.ld, hQ.out.lb, emod_len hQ.out.hb hQ.out.lb⟩
       rw [HT2.out, ct_on HK.out hHZ.out (Int.not_lt.2 HLT.out), List.append_assoc]
       rfl
      case measure =>
       obtain ⟨k4, k5, k6, k7, kD⟩ := HF.out
       rw [nB_eq (k5.keep (bD _)), nB_eq (k7.keep (bD _)), nB_eq hQ.out.b5, nB_eq hQ.out.b7]
       exact HM.out
end
end Go.Proofs.YtghgcbedajaldaaGreat
