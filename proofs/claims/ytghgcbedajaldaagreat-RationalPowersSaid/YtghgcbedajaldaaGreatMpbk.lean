/-  Fx4 Q6 S8  -/
import Derived.Test.YtghgcbedajaldaaGreatMpbg
import Derived.Test.YtghgcbedajaldaaGreatMpau
import Derived.Maps.AppendAt
import Derived.Test.YtghgcbedajaldaaGreatMpbc
import Derived.Test.YtghgcbedajaldaaGreatMpbe
/-  More steps: arithmetic of ints, a fraction of the reference put together.  -/
namespace Go.Proofs.YtghgcbedajaldaaGreat
section
open Go.RowKit Digs
section
variable {ops : Array Oper} {K : Nat} {md : Region.Mode} {F : Nat → Value → World → Prop} {S : World → Prop} {a0 : Act} {i : Nat} {o : Oper}
theorem sty_add {x y : Operand} {R1 R2 : Value → World → Prop} {z1 z2 z : Int} (hz : z = IntKind.i64.wrap (z1 + z2)) (hop : o.op = .binOp .add 3 x y 3) (hg : Gd ops md F o) (hx : Arg ops md F S a0 o x R1) (hy : Arg ops md F S a0 o y R2) (hr1 : ∀ v w, R1 v w → v = .int .i64 z1 := by exact fun _ _ h => h) (hr2 : ∀ v w, R2 v w → v = .int .i64 z2 := by exact fun _ _ h => h) (hf : ∀ w, F i (.int .i64 z) w := by exact fun _ => rfl) : StepY Tryz.prog ops K md F S a0 i o :=
 sty_of hg fun a w hs hsm hk => ⟨.int .i64 z, fun w' => by
  have h1 := hr1 _ _ (hx a w hs hsm hk)
  have h2 := hr2 _ _ (hy a w hs hsm hk)
  unfold execOp
  rw [hop]
  simp only [h1, h2]
  go_simp, hf w⟩
end
end
end Go.Proofs.YtghgcbedajaldaaGreat
/-  Fractions: the program's Abs (Neg's text, turned).  -/
namespace Go.Proofs.YtghgcbedajaldaaGreat
section
open Go.RowKit Digs
set_option maxHeartbeats 4000000 in
set_option maxRecDepth 100000 in
theorem ratAbs_any (n d : Int) (v : Value) (w : World) (hn : len n ≤ 1000000) (h : RatV w v n d) :
  Calls Tryz.prog 38 #[v] w (RatPost w ((n.natAbs : Nat) : Int) d) := by
 obtain ⟨a, b, c, e, rfl, h1, h2⟩ := h
 obtain ⟨p1, ad1, n1, c1, rfl, rfl, _⟩ := h1.parts
 obtain ⟨p2, ad2, n2, c2, rfl, rfl, _⟩ := h2.parts
 have HN := Lib.hid fun W hw => Lib.hid (Abs_any n _ W hn (h1.keep (w' := W) hw))
 have H2 := Lib.hid h2
 clear h1 h2
 generalize ((n.natAbs : Nat) : Int) = m at *
 go_enter Tryz.func38, Tryz.ntmps38
 have HB0 := Lib.hid (fun W h => F2.made (w := w) (a := .bool p1) (b := .slice ad1 n1 c1) (c := .bool p2) (d := .slice ad2 n2 c2) (t := 38) (W := W) h)
 go_upto_region 1 with fail
 have hb0 := HB0.out _ ((Below.refl _ _).drew)
 have hne : w.heap.size ≠ w.heap.size + 1 := by omega
 go_region_held3 (fun w' => w'.cell? ⟨w.heap.size, 0, none⟩ = some (.bool p1) ∧ w'.cell? ⟨w.heap.size, 1, none⟩ = some (.slice ad1 n1 c1) ∧ w'.cell? ⟨w.heap.size, 2, none⟩ = some (.bool p2) ∧ w'.cell? ⟨w.heap.size, 3, none⟩ = some (.slice ad2 n2 c2))
  (first | exact ⟨hb1.a0, hb1.a1, hb1.a2, hb1.a3⟩ | exact ⟨hb0.a0, hb0.a1, hb0.a2, hb0.a3⟩ | exact ⟨(cell_store4 hne).trans hb1.a0, (cell_store4 hne).trans hb1.a1, (cell_store4 hne).trans hb1.a2, (cell_store4 hne).trans hb1.a3⟩ | go_keep)
  (go_loud (first
  | (go_at_call 69; (with_reducible refine (HN.out _ hb0.below).out.mono ?_); rintro e wA ⟨vA, rfl, hiA, hbA⟩; have hb1 := HB0.out _ (((Below.refl _ _).drew).trans hbA); obtain ⟨p3, ad3, n3, c3, rfl⟩ := intv_shape hiA; have r0 := hb1.r0; have r1 := hb1.r1; have r2 := hb1.r2; have r3 := hb1.r3; have f0 := hb1.f0; have f1 := hb1.f1; have f2 := hb1.f2; have f3 := hb1.f3)))
 all_goals
  have g1 := Lib.hid (hiA.st4 r0 r1 r2 r3 (by intro n h; cases h) (by intro n h; cases h) (by intro n h; cases h) (by intro n h; cases h))
  have g2 := Lib.hid ((H2.out.keep hb1.below).st4 r0 r1 r2 r3 (by intro n h; cases h) (by intro n h; cases h) (by intro n h; cases h) (by intro n h; cases h))
  have hbl := hb1.below
  go_wp2_with fail
  refine bodyPost_ret (v := .agg #[.bool p3, .slice ad3 n3 c3, .bool p2, .slice ad2 n2 c2]) (by simp [results, Tryz.results38, go_sem, r0, r1, r2, r3]) rfl ⟨_, rfl, ⟨_, _, _, _, rfl, g1.out _ _ _ _, g2.out _ _ _ _⟩, ?_⟩
  exact (((hbl.setCell (by simp) _).setCell (by simp) _).setCell (by simp) _).setCell (by simp) _
end
end Go.Proofs.YtghgcbedajaldaaGreat
/-  The law's of: its fractions in a slice of the program's.  -/
namespace Go.Proofs.YtghgcbedajaldaaGreat
section
open Go.RowKit Digs
theorem Tryz.infoR : (Tryz.prog.info? 38).map (fun i => (i.zero, i.size, i.bytes)) = some (some (.agg #[.bool false, .slice none 0 0, .bool false, .slice none 0 0]), 4, 64) := by kernel_rfl
def NUR4 (w : World) (v : Value) : Prop := ∀ g, v.ownBlock = some g → ∃ cur, w.heap[g]? = some (.cells cur 38 (0, 0)) ∧ ∀ u ∈ cur.toList, NI u
theorem zeros_ni4 {z : Value} (hz : z.cells = #[.bool false, .slice none 0 0, .bool false, .slice none 0 0]) (n : Nat) : ∀ u ∈ (Builtin.zeroCells z.cells n).toList, NI u := by
 intro u hu
 rw [hz] at hu
 unfold Builtin.zeroCells at hu
 rw [Array.mem_toList_iff, Array.mem_map] at hu
 obtain ⟨i, _, rfl⟩ := hu
 show NI (#[Value.bool false, .slice none 0 0, .bool false, .slice none 0 0][i % 4]!)
 have hc : i % 4 = 0 ∨ i % 4 = 1 ∨ i % 4 = 2 ∨ i % 4 = 3 := by omega
 rcases hc with h | h | h | h
 ·rw [h]; exact NI.bool _
 ·rw [h]; exact NI.slice _ _ _
 ·rw [h]; exact NI.bool _
 ·rw [h]; exact NI.slice _ _ _
section
variable {P : Program} (w : World)
theorem run_append_nuR (base : Nat) (t ty : TypeId) (i : TypeInfo) (z : Value) (ht : P.underlying t = some (.slice 38)) (hi : P.info? 38 = some i) (hz : i.zero = some z)
  (hsize : i.size = 4) (hby : i.bytes = 64) (hzc : z.cells = #[.bool false, .slice none 0 0, .bool false, .slice none 0 0])
  (v : Value) (n : Nat) (xs : List Value) (hown : w.ownsRow base 38 4 v n xs) (hnu : NUR4 w v) (hxs : ∀ u ∈ xs, NI u)
  (a : Addr) (c : Nat) (news : List Value) (hl : news.length = 4) (hnews : ∀ j u, news[j]? = some u → w.cell? (a.add j) = some u) (h1 : ∀ u ∈ news, u.oneCell' = true) (hni : ∀ u ∈ news, NI u)
  (h63 : n + 1 ≤ 1000000) (hbase : base ≤ w.heap.size) :
  ∃ v' w', (Builtin.append_ #[t, t] ty #[v, .slice (some a) 1 c]).run P w = .ok v' w' ∧ w'.ownsRow base 38 4 v' (n + 1) (xs ++ news) ∧ w.grownBy w' v.ownBlock ∧ NUR4 w' v' ∧ (∃ g cap, v' = .slice (some ⟨g, 0, none⟩) (n + 1) cap) := by
 have hl' : news.length = 1 * i.size := by rw [hsize]; exact hl
 have hbytes : (n + 1) * 64 ≤ 140737488355328 := by omega
 obtain ⟨v', w', hr, h2, h3, h4, _⟩ := run_append_own_at (P := P) w base t ty 38 i z 4 64 ht hi hz hsize hby (by rw [hzc]; rfl) (by decide) v n xs hown a 1 c news (by rw [hl]) hnews h1 (by unfold maxLen; omega) hbytes hbase
 refine ⟨v', w', hr, h2, h3, ?_, ?_⟩
 ·rcases hown.2 with ⟨rfl, rfl⟩ | ⟨g, cap, cur, rfl, hbg, hg, hnc, hcm, hcs, htake⟩
  ·have hx := run_append_nil (P := P) w t ty 38 i z ht hi hz a 1 c news hl' hnews (by omega) (by omega) (by rw [hby]; omega)
   rw [hr] at hx
   injection hx with e1 e2
   subst e1; subst e2
   intro g hg
   obtain rfl : w.heap.size = g := by simpa [Value.ownBlock] using hg
   refine ⟨_, heap_alloc_new w.drew _, fun u hu => ?_⟩
   rw [Array.toList_append, List.mem_append] at hu
   rcases hu with hu | hu
   ·exact hni u (by simpa using hu)
   ·exact zeros_ni4 hzc _ u hu
  ·by_cases hroom : n + 1 ≤ cap
   ·have hfit : n * i.size + news.length ≤ cur.size := by rw [hl', hcs, hsize]; omega
    have hx := run_append_room (P := P) w t ty 38 i ht hi g n cap cur hg a 1 c news hl' hnews h1 hroom hfit
    rw [hr] at hx
    injection hx with e1 e2
    subst e1; subst e2
    obtain ⟨cur', hc', hn'⟩ := hnu g rfl
    rw [hg] at hc'
    injection hc' with hc'
    injection hc' with hc'
    subst hc'
    intro g' hg'
    obtain rfl : g = g' := by simpa [Value.ownBlock] using hg'
    refine ⟨_, setRow_heap w g cur _ _ _ hg, fun u hu => ?_⟩
    simp only [List.append_assoc, List.mem_append] at hu
    rcases hu with hu | hu | hu
    ·exact hn' u (List.mem_of_mem_take hu)
    ·exact hni u hu
    ·exact hn' u (List.mem_of_mem_drop hu)
   ·have holds : ∀ j u, xs[j]? = some u → w.cell? ((⟨g, 0, none⟩ : Addr).add j) = some u := hown.cells (g := g) rfl
    have hx := run_append_grow (P := P) w t ty 38 i z ht hi hz ⟨g, 0, none⟩ n cap xs (by rw [hsize]; exact hown.1) holds a 1 c news hl' hnews (by omega) (by omega) (growslice_fits (by omega) (by rw [hby]; exact hbytes))
    rw [hr] at hx
    injection hx with e1 e2
    subst e1; subst e2
    intro g' hg'
    obtain rfl : w.heap.size = g' := by simpa [Value.ownBlock] using hg'
    refine ⟨_, heap_alloc_new w.drew _, fun u hu => ?_⟩
    simp only [Array.toList_append, List.append_assoc, List.mem_append] at hu
    rcases hu with hu | hu | hu
    ·exact hxs u (by simpa using hu)
    ·exact hni u (by simpa using hu)
    ·exact zeros_ni4 hzc _ u hu
 ·rcases h2.2 with ⟨_, h0⟩ | ⟨g, cap, _, rfl, _⟩
  ·omega
  ·exact ⟨g, cap, rfl⟩
theorem wpList_append_nuR {ops : Array Oper} {rest : List Oper} {o : Oper} {a : Act} {Q : Exit → Act → World → Prop} (hgd : o.guard = none) (s x : Operand) (t : TypeId)
  (ho : o.op = .call { callee := .builtin .append, args := #[s, x], argTypes := #[t, t] })
  (base : Nat) (i : TypeInfo) (z : Value) (ht : P.underlying t = some (.slice 38)) (hi : P.info? 38 = some i) (hz : i.zero = some z)
  (hsize : i.size = 4) (hby : i.bytes = 64) (hzc : z.cells = #[.bool false, .slice none 0 0, .bool false, .slice none 0 0])
  (v : Value) (n : Nat) (xs : List Value) (hs : a.eval s = v) (hown : w.ownsRow base 38 4 v n xs) (hnu : NUR4 w v) (hxs : ∀ u ∈ xs, NI u)
  (ad : Addr) (c : Nat) (news : List Value) (hx : a.eval x = .slice (some ad) 1 c) (hl : news.length = 4) (hnews : ∀ j u, news[j]? = some u → w.cell? (ad.add j) = some u) (h1 : ∀ u ∈ news, u.oneCell' = true) (hni : ∀ u ∈ news, NI u)
  (h63 : n + 1 ≤ 1000000) (hbase : base ≤ w.heap.size)
  (h : ∀ g cap w', w'.ownsRow base 38 4 (.slice (some ⟨g, 0, none⟩) (n + 1) cap) (n + 1) (xs ++ news) → w.grownBy w' v.ownBlock → NUR4 w' (.slice (some ⟨g, 0, none⟩) (n + 1) cap) → wpList P ops Q rest (a.put o.dst (.slice (some ⟨g, 0, none⟩) (n + 1) cap)) w') :
  wpList P ops Q (o :: rest) a w := by
 refine wpList_plain hgd fun K hK => ?_
 obtain ⟨v', w', hr, h2, h3, h4, g, cap, rfl⟩ := run_append_nuR (P := P) w base t o.type i z ht hi hz hsize hby hzc v n xs hown hnu hxs ad c news hl hnews h1 hni h63 hbase
 unfold Oper.wp execOp
 simp only [ho, resolve, invoke, builtin, Sem.run_bind, Sem.run_pure, Result.andThen_ok, List.map_toArray, List.map_cons, List.map_nil, hs, hx, hr]
 exact hK _ _ (h g cap w' h2 h3 h4)
end
theorem NUR4.of_block {A C : World} {v : Value} (h : NUR4 A v) (e : ∀ g, v.ownBlock = some g → C.heap[g]? = A.heap[g]?) : NUR4 C v := fun g hg => by
 obtain ⟨cur, h1, h2⟩ := h g hg
 exact ⟨cur, (e g hg).trans h1, h2⟩
theorem ownsRow_block4 {A C : World} {base n : Nat} {v : Value} {xs : List Value} (h : A.ownsRow base 38 4 v n xs) (e : ∀ g, v.ownBlock = some g → C.heap[g]? = A.heap[g]?) : C.ownsRow base 38 4 v n xs := by
 refine ⟨h.1, ?_⟩
 rcases h.2 with hn | ⟨g, cap, cur, rfl, hb, hg, rest⟩
 ·exact .inl hn
 ·exact .inr ⟨g, cap, cur, rfl, hb, (e g rfl).trans hg, rest⟩
theorem nur_xs4 {A : World} {base n : Nat} {v : Value} {xs : List Value} (h : A.ownsRow base 38 4 v n xs) (hn : NUR4 A v) : ∀ u ∈ xs, NI u := by
 rcases h with ⟨hl, ⟨rfl, rfl⟩ | ⟨g, cap, cur, rfl, _, hg, _, _, _, ht⟩⟩
 ·obtain rfl : xs = [] := List.eq_nil_of_length_eq_zero (by simpa using hl)
  intro u hu
  cases hu
 ·obtain ⟨cur', hc, hi⟩ := hn g rfl
  rw [hg] at hc
  injection hc with hc
  injection hc with hc
  subst hc
  intro u hu
  rw [← ht] at hu
  exact hi u (List.mem_of_mem_take hu)
theorem KU.grown4 {A C : World} {v : Value} (hg : A.grownBy C v.ownBlock) (hn : NUR4 A v) : KU A C := fun a n e => by
 refine hg.cell e fun h => ?_
 obtain ⟨cur, hc, hi⟩ := hn a.block h.symm
 have e' := e
 unfold World.cell? at e'
 rw [hc] at e'
 simp only at e'
 split at e'
 ·cases e'
 ·exact hi _ (by simpa using Array.mem_of_getElem? e') n rfl
theorem RatV.ku4 {A C : World} {v : Value} {n d : Int} (h : RatV A v n d) (hk : KU A C) (hs : A.heap.size ≤ C.heap.size) : RatV C v n d := by
 obtain ⟨a, b, c, e, rfl, h1, h2⟩ := h
 exact ⟨_, _, _, _, rfl, h1.ku hk hs, h2.ku hk hs⟩
def PEl (w : World) (xs : List Value) (n d : Int) (j : Nat) : Prop :=
 ∃ a b c e, xs[j * 4]? = some a ∧ xs[j * 4 + 1]? = some b ∧ xs[j * 4 + 2]? = some c ∧ xs[j * 4 + 3]? = some e ∧ RatV w (.agg #[a, b, c, e]) n d
def RatRow (w : World) (base : Nat) (v : Value) (ts : List (Int × Int)) : Prop :=
 ∃ xs : List Value, w.ownsRow base 38 4 v ts.length xs ∧ NUR4 w v ∧ ∀ (j : Nat) (n d : Int), ts[j]? = some (n, d) → PEl w xs n d j
theorem RatRow.keep {A C : World} {base : Nat} {v : Value} {ts : List (Int × Int)} (h : RatRow A base v ts) (hb : Below A.heap.size A C) : RatRow C base v ts := by
 obtain ⟨xs, h1, h2, h3⟩ := h
 have e : ∀ g, v.ownBlock = some g → C.heap[g]? = A.heap[g]? := fun g hg => hb.block g (h1.lt g hg).2
 refine ⟨xs, ownsRow_block4 h1 e, h2.of_block e, fun j n d hj => ?_⟩
 obtain ⟨a, b, c, e, e1, e2, e3, e4, e5⟩ := h3 j n d hj
 exact ⟨a, b, c, e, e1, e2, e3, e4, e5.keep hb⟩
theorem RatRow.snoc {A B : World} {base g cap : Nat} {v a b c e : Value} {xs : List Value} {ts : List (Int × Int)} {n d : Int} {k : Nat} (hkl : ts.length = k) (hown : A.ownsRow base 38 4 v k xs) (hnu : NUR4 A v) (hel : ∀ (j : Nat) (n d : Int), ts[j]? = some (n, d) → PEl A xs n d j)
  (hz : RatV A (.agg #[a, b, c, e]) n d) (hown' : B.ownsRow base 38 4 (.slice (some ⟨g, 0, none⟩) (k + 1) cap) (k + 1) (xs ++ [a, b, c, e])) (hgrow : A.grownBy B v.ownBlock) (hnu' : NUR4 B (.slice (some ⟨g, 0, none⟩) (k + 1) cap)) :
  RatRow B base (.slice (some ⟨g, 0, none⟩) (k + 1) cap) (ts ++ [(n, d)]) := by
 subst hkl
 have hk : KU A B := KU.grown4 hgrow hnu
 have hs := hgrow.size
 have hxl := hown.1
 refine ⟨xs ++ [a, b, c, e], by rw [List.length_append]; exact hown', hnu', fun j n' d' hj => ?_⟩
 by_cases hjl : j < ts.length
 ·rw [List.getElem?_append_left hjl] at hj
  obtain ⟨a, b, c, e, e1, e2, e3, e4, e5⟩ := hel j n' d' hj
  refine ⟨a, b, c, e, ?_, ?_, ?_, ?_, e5.ku4 hk hs⟩ <;> (rw [List.getElem?_append_left (by omega)]; assumption)
 ·have hjl2 : j < ts.length + 1 := by
   have := (List.getElem?_eq_some_iff.1 hj).1
   rw [List.length_append, List.length_singleton] at this
   exact this
  obtain rfl : j = ts.length := by omega
  rw [List.getElem?_append_right (Nat.le_refl _), Nat.sub_self] at hj
  simp only [List.getElem?_cons_zero, Option.some.injEq, Prod.mk.injEq] at hj
  obtain ⟨rfl, rfl⟩ := hj
  refine ⟨a, b, c, e, ?_, ?_, ?_, ?_, hz.ku4 hk hs⟩
  ·rw [List.getElem?_append_right (by omega)]; simp [hxl]
  ·rw [List.getElem?_append_right (by omega)]; simp [hxl]
  ·rw [List.getElem?_append_right (by omega)]; simp [hxl]
  ·rw [List.getElem?_append_right (by omega)]; simp [hxl]
def qv (q : (Bool × List Nat) × (Bool × List Nat)) : Int × Int := (if nz q.2 = 0 then nz q.1 else qn (nz q.1) (nz q.2), if nz q.2 = 0 then 1 else qd (nz q.1) (nz q.2))
def QRd (w : World) (L : Nat) (qs : List ((Bool × List Nat) × (Bool × List Nat))) : Prop := L < w.heap.size ∧ ∀ j : Nat, j < qs.length → ∃ (b1 b2 : Bool) (l1 l2 : List Nat) (a1 a2 : Option Addr) (c1 c2 : Nat),
 qs[j]? = some ((b1, l1), (b2, l2)) ∧ w.cell? ⟨L, j * 4, none⟩ = some (.bool b1) ∧ w.cell? ⟨L, j * 4 + 1, none⟩ = some (.slice a1 l1.length c1) ∧ w.cell? ⟨L, j * 4 + 2, none⟩ = some (.bool b2) ∧ w.cell? ⟨L, j * 4 + 3, none⟩ = some (.slice a2 l2.length c2) ∧
  NArg w a1 c1 l1 ∧ NArg w a2 c2 l2 ∧ l1.length ≤ 50 ∧ l2.length ≤ 50
theorem QRd.keep {w w' : World} {L : Nat} {qs : List ((Bool × List Nat) × (Bool × List Nat))} (h : QRd w L qs) (hb : Below w.heap.size w w') : QRd w' L qs :=
 ⟨Nat.lt_of_lt_of_le h.1 hb.size, fun j hj => by
  obtain ⟨b1, b2, l1, l2, a1, a2, c1, c2, h0, h1, h2, h3, h4, h5, h6, h7, h8⟩ := h.2 j hj
  exact ⟨b1, b2, l1, l2, a1, a2, c1, c2, h0, (hb.cell (p := ⟨L, _, none⟩) h.1).trans h1, (hb.cell (p := ⟨L, _, none⟩) h.1).trans h2, (hb.cell (p := ⟨L, _, none⟩) h.1).trans h3, (hb.cell (p := ⟨L, _, none⟩) h.1).trans h4, h5.keep hb, h6.keep hb, h7, h8⟩⟩
def OfRel3 (qs : List ((Bool × List Nat) × (Bool × List Nat))) (w : World) (out i : Value) (wr : World) : Prop :=
 ∃ j : Nat, i = .int .i64 j ∧ j ≤ qs.length ∧ RatRow wr w.heap.size out ((qs.take j).map qv) ∧ Below w.heap.size w wr
set_option maxHeartbeats 8000000 in
set_option maxRecDepth 100000 in
theorem of3_any (L c : Nat) (qs : List ((Bool × List Nat) × (Bool × List Nat))) (w : World) (hl : qs.length ≤ 1000) (hr : QRd w L qs) :
  Calls Tryz.prog 60 #[.slice (some ⟨L, 0, none⟩) qs.length c] w fun e w' => ∃ v, e = .returned v ∧ RatRow w' w.heap.size v (qs.map qv) ∧ Below w.heap.size w w' := by
 have HR := Lib.hid hr
 clear hr
 obtain ⟨i0, hi, hz0, hz1, hz2⟩ := info_parts Tryz.infoR
 go_enter Tryz.func60, Tryz.ntmps60
 go_wp2
 go_loopw [3, 10] (OfRel3 qs w) (fun _ i _ => qs.length - (intOf i).toNat)
 case atStart => exact ⟨0, rfl, Nat.zero_le _, ⟨[], World.ownsRow_nil _ _ _ _, fun g hg => by simp [Value.ownBlock] at hg, fun j n d hj => by simp at hj⟩, Below.refl _ _⟩
 case round =>
  obtain ⟨j, rfl, hj, hrow, hnx⟩ := hrel
  have HROW := Lib.hid hrow
  have HNX := Lib.hid hnx
  clear hrow hnx
  by_cases hjl : j < qs.length
  ·obtain ⟨b1, b2, l1, l2, a1, a2, c1, c2, hqs, g1, g2, g3, g4, n1, n2, hl1, hl2⟩ := (HR.out.keep HNX.out).2 j hjl
   have HM := Lib.hid (fun W hW => qOf_any b1 b2 a1 a2 c1 c2 l1 l2 W hl1 hl2 (n1.keep (w' := W) hW) (n2.keep hW))
   have HNS := Lib.hid hqs
   clear n1 n2 hqs hl1 hl2
   have hq : qv ((b1, l1), (b2, l2)) = (if nz (b2, l2) = 0 then nz (b1, l1) else qn (nz (b1, l1)) (nz (b2, l2)), if nz (b2, l2) = 0 then 1 else qd (nz (b1, l1)) (nz (b2, l2))) := rfl
   have HQV := Lib.hid hq
   clear hq
   generalize (if nz (b2, l2) = 0 then nz (b1, l1) else qn (nz (b1, l1)) (nz (b2, l2))) = N at *
   generalize (if nz (b2, l2) = 0 then (1 : Int) else qd (nz (b1, l1)) (nz (b2, l2))) = D at *
   go_wp2_with fail
   refine (HM.out _ ((Below.refl _ _).alloc (Nat.le_refl _) _)).mono ?_
   rintro e w2 ⟨vA, vB, rfl, hqA, hqB, hb2⟩
   obtain ⟨p1, ad1, k1, e1, p2, ad2, k2, e2, rfl⟩ := ratv_shape hqA
   obtain ⟨p3, ad3, k3, e3, p4, ad4, k4, e4, rfl, _, _⟩ := rqv_shape hqB
   have hal2 := below2 w2 (.cells #[.bool p1, .slice ad1 k1 e1, .bool p2, .slice ad2 k2 e2] 38) (.cells #[.bool p3, .slice ad3 k3 e3, .bool p4, .slice ad4 k4 e4] 43)
   have hb3 := hb2.trans (hal2.mono hb2.size)
   have HB2 := Lib.hid (((Below.refl wr.heap.size wr).alloc (Nat.le_refl _) (.cells #[.bool b1, .slice a1 l1.length c1, .bool b2, .slice a2 l2.length c2] 26)).trans (hb3.mono (by simp)))
   have HRT := Lib.hid (hqA.keep hal2)
   have hrow3 := HROW.out.keep HB2.out
   clear hqA hqB hb2 hb3 hal2
   obtain ⟨xs, hown, hnu, hel⟩ := hrow3
   have HO2 := Lib.hid hown
   have HNU := Lib.hid hnu
   have HEL := Lib.hid hel
   clear hown hnu hel
   go_upto_region 6 with fail
   generalize hX : (w2.alloc (.cells #[.bool p1, .slice ad1 k1 e1, .bool p2, .slice ad2 k2 e2] 38)).alloc (.cells #[.bool p3, .slice ad3 k3 e3, .bool p4, .slice ad4 k4 e4] 43) = X at *
   have hx0 : X.cell? ⟨w2.heap.size, 0, none⟩ = some (.bool p1) ∧ X.cell? ⟨w2.heap.size, 1, none⟩ = some (.slice ad1 k1 e1) ∧ X.cell? ⟨w2.heap.size, 2, none⟩ = some (.bool p2) ∧ X.cell? ⟨w2.heap.size, 3, none⟩ = some (.slice ad2 k2 e2) := by
    subst hX
    have h4 := C4.made (w := w2) (a := .bool p1) (b := .slice ad1 k1 e1) (c := .bool p2) (e := .slice ad2 k2 e2) (t := 38)
    have h5 := h4.keep ((Below.refl _ _).alloc (Nat.le_refl _) (.cells #[.bool p3, .slice ad3 k3 e3, .bool p4, .slice ad4 k4 e4] 43))
    exact ⟨h5.c0, h5.c1, h5.c2, h5.c3⟩
   clear hX
   obtain ⟨x0, x1, x2, x3⟩ := hx0
   have hlen : ((qs.take j).map qv).length = j := by rw [List.length_map, List.length_take]; omega
   have HLEN := Lib.hid hlen
   clear hlen
   go_wp2_with (at_builtin; refine wpList_append_nuR _ rfl (.tmp 19) (.tmp 21) 92 rfl w.heap.size i0 (.agg #[.bool false, .slice none 0 0, .bool false, .slice none 0 0]) Tryz.underlying92 hi hz0 hz1 hz2 rfl _ _ _ rfl (ownsRow_block4 HO2.out (fun g hg => Below.heap_alloc _ _ _ (HO2.out.lt g hg).2)) (HNU.out.of_block fun g hg => Below.heap_alloc _ _ _ (HO2.out.lt g hg).2) (nur_xs4 HO2.out HNU.out) ⟨X.heap.size, 0, none⟩ 1 [.bool p1, .slice ad1 k1 e1, .bool p2, .slice ad2 k2 e2] rfl rfl ?c1 ?c5 ?c2 ?c3 ?c4 ?_)
   case c1 =>
    intro q u hu
    match q, hu with
    | 0, hu => simp at hu; subst hu; rw [Addr.add_lit, World.cell?_alloc_at _ _ _ _ rfl]; rfl
    | 1, hu => simp at hu; subst hu; rw [Addr.add_lit, World.cell?_alloc_at _ _ _ _ rfl]; rfl
    | 2, hu => simp at hu; subst hu; rw [Addr.add_lit, World.cell?_alloc_at _ _ _ _ rfl]; rfl
    | 3, hu => simp at hu; subst hu; rw [Addr.add_lit, World.cell?_alloc_at _ _ _ _ rfl]; rfl
   case c5 =>
    intro u hu
    simp only [List.mem_cons, List.not_mem_nil, or_false] at hu
    rcases hu with rfl | rfl | rfl | rfl <;> rfl
   case c2 =>
    intro u hu
    simp only [List.mem_cons, List.not_mem_nil, or_false] at hu
    rcases hu with rfl | rfl | rfl | rfl
    ·exact NI.bool _
    ·exact NI.slice _ _ _
    ·exact NI.bool _
    ·exact NI.slice _ _ _
   case c3 => have := HLEN.out; omega
   case c4 => have h1 := HNX.out.size; have h2 := HB2.out.size; simp only [World.size_alloc]; omega
   intro g cap w1 hown1 hgrow hnu1
   have HO1 := Lib.hid hown1
   have HG := Lib.hid hgrow
   have HN1 := Lib.hid hnu1
   clear hown1 hgrow hnu1
   go_wp2
   go_roundw
   case rel =>
    have hal : Below X.heap.size X (X.alloc (.cells #[.bool p1, .slice ad1 k1 e1, .bool p2, .slice ad2 k2 e2] 38)) := (Below.refl _ _).alloc (Nat.le_refl _) _
    refine ⟨j + 1, by go_num, by omega, ?_, ?_⟩
    ·have hts : (qs.take (j + 1)).map qv = (qs.take j).map qv ++ [(N, D)] := by
      rw [List.take_add_one, HNS.out, List.map_append, ← HQV.out]
      rfl
     rw [hts]
     refine RatRow.snoc HLEN.out (by have h := ownsRow_block4 HO2.out (C := X.alloc (.cells #[.bool p1, .slice ad1 k1 e1, .bool p2, .slice ad2 k2 e2] 38)) (fun g hg => Below.heap_alloc _ _ _ (HO2.out.lt g hg).2); rw [HLEN.out] at h; exact h) (HNU.out.of_block fun g hg => Below.heap_alloc _ _ _ (HO2.out.lt g hg).2) (fun q n d hq => ?_) (HRT.out.keep hal) HO1.out HG.out HN1.out
     obtain ⟨a, b, c, e, e1, e2, e3, e4, e5⟩ := HEL.out q n d hq
     exact ⟨a, b, c, e, e1, e2, e3, e4, e5.keep hal⟩
    ·refine ((HNX.out.trans (HB2.out.mono HNX.out.size)).alloc ?_ _).grown HG.out ?_ ?_
     ·have h1 := HNX.out.size; have h2 := HB2.out.size; omega
     ·have h1 := HNX.out.size; have h2 := HB2.out.size; simp only [World.size_alloc]; omega
     ·intro q hq
      exact (HO2.out.lt q hq).1
   case measure => simp [intOf]; omega
  ·obtain rfl : j = qs.length := by omega
   have h := HROW.out
   rw [List.take_length] at h
   have HROW := Lib.hid h
   clear h
   go_wp2
   go_ret
   exact ⟨_, rfl, HROW.out, HNX.out⟩
end
end Go.Proofs.YtghgcbedajaldaaGreat
