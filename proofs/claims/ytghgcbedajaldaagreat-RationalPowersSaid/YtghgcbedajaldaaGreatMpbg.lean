/-  Fx2 Fx3  -/
import Derived.Test.YtghgcbedajaldaaGreatMpaw
import Derived.Test.YtghgcbedajaldaaGreatMpbf
/-  Facts of slots, and what a store leaves as it was.  -/
namespace Go.Proofs.YtghgcbedajaldaaGreat
section
open Go.RowKit Digs
structure Fct where
 R : Value → World → Prop
 st : ∀ v w w', R v w → Below w.heap.size w w' → R v w'
 box : Bool
 nb : box = true → ∀ v w, R v w → ∃ q, v = .pointer (some ⟨q, 0, none⟩) ∧ q < w.heap.size
def Fct.z (x : Int) : Fct := ⟨fun v w => IntV w v x, fun _ _ _ h hb => IntV.keep h hb, false, fun h => by cases h⟩
def Fct.r (x : Int) : Fct := ⟨fun v w => RefV w v x, fun _ _ _ h hb => RefV.keep h hb, false, fun h => by cases h⟩
def Fct.p (n d : Int) : Fct := ⟨fun v w => RatV w v n d, fun _ _ _ h hb => RatV.keep h hb, false, fun h => by cases h⟩
def Fct.v (u : Value) : Fct := ⟨fun v _ => v = u, fun _ _ _ h _ => h, false, fun h => by cases h⟩
def Fct.any : Fct := ⟨fun _ _ => True, fun _ _ _ h _ => h, false, fun h => by cases h⟩
def Fct.t2 (f g : Fct) : Fct := ⟨fun v w => ∃ a b, v = .tuple #[a, b] ∧ f.R a w ∧ g.R b w, fun _ _ _ ⟨a, b, e, h1, h2⟩ hb => ⟨a, b, e, f.st _ _ _ h1 hb, g.st _ _ _ h2 hb⟩, false, fun h => by cases h⟩
def Fct.zb (B : Nat) : Fct := ⟨fun v w => ∃ q, v = .pointer (some ⟨q, 0, none⟩) ∧ B ≤ q ∧ BX q (.bool false) (.slice none 0 0) 0 w, fun _ _ _ ⟨q, e, hq, h⟩ hb => ⟨q, e, hq, h.keep hb⟩, true, fun _ _ _ ⟨q, e, _, h⟩ => ⟨q, e, h.lt⟩⟩
def Fct.rb (B : Nat) : Fct := ⟨fun v w => ∃ q, v = .pointer (some ⟨q, 0, none⟩) ∧ B ≤ q ∧ RX q (.bool false) (.slice none 0 0) 0 w, fun _ _ _ ⟨q, e, hq, h⟩ hb => ⟨q, e, hq, h.keep hb⟩, true, fun _ _ _ ⟨q, e, _, h⟩ => ⟨q, e, h.lt⟩⟩
def Fct.pb (B : Nat) : Fct := ⟨fun v w => ∃ q, v = .pointer (some ⟨q, 0, none⟩) ∧ B ≤ q ∧ PX q (.bool false) (.slice none 0 0) (.bool false) (.slice none 0 0) 0 1 w, fun _ _ _ ⟨q, e, hq, h⟩ hb => ⟨q, e, hq, h.keep hb⟩, true, fun _ _ _ ⟨q, e, _, h⟩ => ⟨q, e, h.lt⟩⟩
def Fct.qb (B : Nat) : Fct := ⟨fun v w => ∃ q, v = .pointer (some ⟨q, 0, none⟩) ∧ B ≤ q ∧ QX q (.bool false) (.slice none 0 0) (.bool false) (.slice none 0 0) 0 0 w, fun _ _ _ ⟨q, e, hq, h⟩ hb => ⟨q, e, hq, h.keep hb⟩, true, fun _ _ _ ⟨q, e, _, h⟩ => ⟨q, e, h.lt⟩⟩
theorem Fct.zb_elim {B : Nat} {v : Value} {w : World} {G : Prop} (h : (Fct.zb B).R v w) (k : ∀ q, v = .pointer (some ⟨q, 0, none⟩) → B ≤ q → BX q (.bool false) (.slice none 0 0) 0 w → G) : G := by
 obtain ⟨q, e, g, b⟩ := h
 exact k q e g b
theorem Fct.pb_elim {B : Nat} {v : Value} {w : World} {G : Prop} (h : (Fct.pb B).R v w) (k : ∀ q, v = .pointer (some ⟨q, 0, none⟩) → B ≤ q → PX q (.bool false) (.slice none 0 0) (.bool false) (.slice none 0 0) 0 1 w → G) : G := by
 obtain ⟨q, e, g, b⟩ := h
 exact k q e g b
def falX : List Fct → Nat → Value → World → Prop
 | [], _ => fun _ _ => True
 | f :: _, 0 => f.R
 | _ :: r, n + 1 => falX r n
theorem falX_mono : ∀ (l : List Fct) (i : Nat) (v : Value) (w w' : World), falX l i v w → Below w.heap.size w w' → falX l i v w'
 | [], _, _, _, _, _, _ => trivial
 | f :: _, 0, _, _, _, h, hb => f.st _ _ _ h hb
 | _ :: r, n + 1, v, w, w', h, hb => falX_mono r n v w w' h hb
def boxAt : List Fct → Nat → Bool
 | [], _ => false
 | f :: _, 0 => f.box
 | _ :: r, n + 1 => boxAt r n
theorem falX_box : ∀ (l : List Fct) (j : Nat) (v : Value) (w : World), boxAt l j = true → falX l j v w → ∃ q, v = .pointer (some ⟨q, 0, none⟩) ∧ q < w.heap.size
 | [], _, _, _, h, _ => by cases h
 | f :: _, 0, v, w, h, hf => f.nb h v w hf
 | _ :: r, n + 1, v, w, h, hf => falX_box r n v w h hf
def uAt : List Bool → Nat → Bool
 | [], _ => false
 | b :: _, 0 => b
 | _ :: r, n + 1 => uAt r n
theorem wp_region_fl {P : Program} {ops : Array Oper} {Q : Exit → Act → World → Prop} {a0 : Act} {id : Nat} {draw : Bool} {w : World} (k : Nat) (L : List Fct) (S : World → Prop) (U : List Bool) (ds : List (Option Tmp)) (hS : ∀ w w', S w → Below w.heap.size w w' → S w') (hS0 : S w)
  (hstep : AllStepsD P ops k .any (falX L) S (boxAt L) (uAt U) a0 Q 0 (ops.toList.take k))
  (hfin : ∀ (v : Nat → Value) w, (∀ i d, i < k → dstOf ops i = some d → falX L i (v i) w) → (∀ i j d e, i < k → j < k → i ≠ j → boxAt L i = true → boxAt L j = true → dstOf ops i = some d → dstOf ops j = some e → v i ≠ v j) → S w → tailWp P Q (ops.toList.drop k) (putV a0 v 0 ds) w)
  (hm : P.follows .mixedOrders = true := by kernel_rfl) (hsh : shapeB ops .any a0.tmps.size = true := by kernel_rfl) (hk : decide (k ≤ ops.size) = true := by kernel_rfl) (htl : tailB .any (uAt U) ops k = true := by kernel_rfl)
  (hQ : ∀ (d : Tmp) v c a w, Q (.panic c) (a.put (some d) v) w → Q (.panic c) a w := by exact fun _ _ _ _ _ h => h) (hds : (ops.toList.take k).map (·.dst) = ds := by rfl) : (Code.region id ops draw).wp P Q a0 w :=
 wp_region_fx k (falX L) S (boxAt L) (uAt U) hm hsh hk htl hQ (falX_mono L) hS (falX_box L) hS0 hstep ds hds hfin
section
variable {P : Program} {ops : Array Oper} {Q : Exit → Act → World → Prop} {md : Region.Mode} {F : Nat → Value → World → Prop} {S : World → Prop} {D U : Nat → Bool} {a0 : Act} {K k : Nat} {o : Oper} {l : List Oper}
theorem so (h : StepOK P ops md F S a0 Q k o) (r : AllStepsD P ops K md F S D U a0 Q (k + 1) l) (hu : U k = false := by rfl) (hd : D k = false := by rfl) : AllStepsD P ops K md F S D U a0 Q k (o :: l) := ⟨.inl ⟨hu, h.d hd⟩, r⟩
theorem sa (h : StepD P ops md F S D a0 Q k o) (r : AllStepsD P ops K md F S D U a0 Q (k + 1) l) (hu : U k = false := by rfl) : AllStepsD P ops K md F S D U a0 Q k (o :: l) := ⟨.inl ⟨hu, h⟩, r⟩
theorem sy (h : StepY P ops K md F S a0 k o) (r : AllStepsD P ops K md F S D U a0 Q (k + 1) l) (hu : U k = true := by rfl) (hd : D k = false := by rfl) : AllStepsD P ops K md F S D U a0 Q k (o :: l) := ⟨.inr ⟨hu, hd, h⟩, r⟩
end
structure St (q : Nat) (w w' : World) : Prop where
 size : w'.heap.size = w.heap.size
 cell : ∀ p : Addr, p.block ≠ q → w'.cell? p = w.cell? p
 froz : ∀ p : Addr, w'.frozen? p = w.frozen? p
 num : ∀ (p : Addr) k n, w.cell? p = some (.int k n) → w'.cell? p = some (.int k n)
 below : ∀ B w0, B ≤ q → Below B w0 w → Below B w0 w'
theorem St.one {q o : Nat} {w : World} {u : Value} (h : w.cell? ⟨q, o, none⟩ = some u) (hn : ∀ k n, u ≠ .int k n) (x : Value) : St q w (w.setCell ⟨q, o, none⟩ x) := by
 refine ⟨by simp, fun p hp => World.cell?_setCell_other _ _ _ _ (fun h => hp (by rw [← h])), fun p => by simp, fun p k n hc => ?_, fun B w0 hB hb => hb.setCell hB _⟩
 by_cases he : p = ⟨q, o, none⟩
 ·subst he
  rw [h] at hc
  injection hc with hc
  exact absurd hc (hn k n)
 ·rw [World.cell?_setCell_other _ _ _ _ (fun h => he h.symm)]
  exact hc
theorem St.trans {q : Nat} {w w1 w2 : World} (h : St q w w1) (k : St q w1 w2) : St q w w2 :=
 ⟨k.size.trans h.size, fun p hp => (k.cell p hp).trans (h.cell p hp), fun p => (k.froz p).trans (h.froz p), fun p a n hc => k.num p a n (h.num p a n hc), fun B w0 hB hb => k.below B w0 hB (h.below B w0 hB hb)⟩
theorem Rd.stq {k : IntKind} {w w' : World} {v : Value} {l : List Nat} {q : Nat} (h : Rd k w v l) (s : St q w w') : Rd k w' v l := by
 rcases h with h | ⟨b, off, cap, rfl, h1, h2, h3, h4⟩
 ·exact .inl h
 ·exact .inr ⟨b, off, cap, rfl, by rw [s.size]; exact h1, h2, h3, fun j hj => s.num _ _ _ (h4 j hj)⟩
theorem IntV.stq {w w' : World} {v : Value} {z : Int} {q : Nat} (h : IntV w v z) (s : St q w w') : IntV w' v z := by
 obtain ⟨ad, n, c, rfl, hr⟩ := h
 exact ⟨_, _, _, rfl, hr.stq s⟩
theorem RefV.stq {w w' : World} {v : Value} {z : Int} {q : Nat} (h : RefV w v z) (s : St q w w') : RefV w' v z := by
 obtain ⟨ad, n, c, rfl, hr⟩ := h
 exact ⟨_, _, _, rfl, hr.stq s⟩
theorem RatV.stq {w w' : World} {v : Value} {n d : Int} {q : Nat} (h : RatV w v n d) (s : St q w w') : RatV w' v n d := by
 obtain ⟨a, b, c, e, rfl, h1, h2⟩ := h
 exact ⟨_, _, _, _, rfl, h1.stq s, h2.stq s⟩
theorem RQV.stq {w w' : World} {v : Value} {n d : Int} {q : Nat} (h : RQV w v n d) (s : St q w w') : RQV w' v n d := by
 obtain ⟨a, b, c, e, rfl, h1, h2⟩ := h
 exact ⟨_, _, _, _, rfl, h1.stq s, h2.stq s⟩
theorem BX.stq {p q : Nat} {u v : Value} {z : Int} {w w' : World} (h : BX p u v z w) (s : St q w w') (hne : p ≠ q) : BX p u v z w' :=
 ⟨(s.cell _ hne).trans h.c0, (s.cell _ hne).trans h.c1, (s.froz _).trans h.f0, (s.froz _).trans h.f1, h.iv.stq s⟩
theorem RX.stq {p q : Nat} {u v : Value} {z : Int} {w w' : World} (h : RX p u v z w) (s : St q w w') (hne : p ≠ q) : RX p u v z w' :=
 ⟨(s.cell _ hne).trans h.c0, (s.cell _ hne).trans h.c1, (s.froz _).trans h.f0, (s.froz _).trans h.f1, h.rv.stq s⟩
theorem PX.stq {p q : Nat} {a b c e : Value} {n d : Int} {w w' : World} (h : PX p a b c e n d w) (s : St q w w') (hne : p ≠ q) : PX p a b c e n d w' :=
 ⟨(s.cell _ hne).trans h.c0, (s.cell _ hne).trans h.c1, (s.cell _ hne).trans h.c2, (s.cell _ hne).trans h.c3, (s.froz _).trans h.f0, (s.froz _).trans h.f1, (s.froz _).trans h.f2, (s.froz _).trans h.f3, h.rv.stq s⟩
theorem QX.stq {p q : Nat} {a b c e : Value} {n d : Int} {w w' : World} (h : QX p a b c e n d w) (s : St q w w') (hne : p ≠ q) : QX p a b c e n d w' :=
 ⟨(s.cell _ hne).trans h.c0, (s.cell _ hne).trans h.c1, (s.cell _ hne).trans h.c2, (s.cell _ hne).trans h.c3, (s.froz _).trans h.f0, (s.froz _).trans h.f1, (s.froz _).trans h.f2, (s.froz _).trans h.f3, h.n.stq s, h.d.stq s⟩
theorem st2 {q : Nat} {w : World} {u v : Value} (h0 : w.cell? ⟨q, 0, none⟩ = some u) (h1 : w.cell? ⟨q, 1, none⟩ = some v) (n0 : ∀ k n, u ≠ .int k n) (n1 : ∀ k n, v ≠ .int k n) (x y : Value) :
  St q w ((w.setCell ⟨q, 0, none⟩ x).setCell ⟨q, 1, none⟩ y) ∧ ((w.setCell ⟨q, 0, none⟩ x).setCell ⟨q, 1, none⟩ y).cell? ⟨q, 0, none⟩ = some x ∧ ((w.setCell ⟨q, 0, none⟩ x).setCell ⟨q, 1, none⟩ y).cell? ⟨q, 1, none⟩ = some y := by
 have h1' : (w.setCell ⟨q, 0, none⟩ x).cell? ⟨q, 1, none⟩ = some v := by rw [World.cell?_setCell_other _ _ _ _ (by simp)]; exact h1
 refine ⟨(St.one h0 n0 x).trans (St.one h1' n1 y), ?_, World.cell?_setCell_same _ _ _ h1'⟩
 rw [World.cell?_setCell_other _ _ _ _ (by simp)]
 exact World.cell?_setCell_same _ _ _ h0
theorem st4 {q : Nat} {w : World} {a b c e : Value} (h0 : w.cell? ⟨q, 0, none⟩ = some a) (h1 : w.cell? ⟨q, 1, none⟩ = some b) (h2 : w.cell? ⟨q, 2, none⟩ = some c) (h3 : w.cell? ⟨q, 3, none⟩ = some e)
    (n0 : ∀ k n, a ≠ .int k n) (n1 : ∀ k n, b ≠ .int k n) (n2 : ∀ k n, c ≠ .int k n) (n3 : ∀ k n, e ≠ .int k n) (x y s t : Value) :
    St q w ((((w.setCell ⟨q, 0, none⟩ x).setCell ⟨q, 1, none⟩ y).setCell ⟨q, 2, none⟩ s).setCell ⟨q, 3, none⟩ t) ∧
    ((((w.setCell ⟨q, 0, none⟩ x).setCell ⟨q, 1, none⟩ y).setCell ⟨q, 2, none⟩ s).setCell ⟨q, 3, none⟩ t).cell? ⟨q, 0, none⟩ = some x ∧ ((((w.setCell ⟨q, 0, none⟩ x).setCell ⟨q, 1, none⟩ y).setCell ⟨q, 2, none⟩ s).setCell ⟨q, 3, none⟩ t).cell? ⟨q, 1, none⟩ = some y ∧
    ((((w.setCell ⟨q, 0, none⟩ x).setCell ⟨q, 1, none⟩ y).setCell ⟨q, 2, none⟩ s).setCell ⟨q, 3, none⟩ t).cell? ⟨q, 2, none⟩ = some s ∧ ((((w.setCell ⟨q, 0, none⟩ x).setCell ⟨q, 1, none⟩ y).setCell ⟨q, 2, none⟩ s).setCell ⟨q, 3, none⟩ t).cell? ⟨q, 3, none⟩ = some t := by
  obtain ⟨s1, k0, k1⟩ := st2 h0 h1 n0 n1 x y
  have h2' : ((w.setCell ⟨q, 0, none⟩ x).setCell ⟨q, 1, none⟩ y).cell? ⟨q, 2, none⟩ = some c := by rw [World.cell?_setCell_other _ _ _ _ (by simp), World.cell?_setCell_other _ _ _ _ (by simp)]; exact h2
  have h3' : (((w.setCell ⟨q, 0, none⟩ x).setCell ⟨q, 1, none⟩ y).setCell ⟨q, 2, none⟩ s).cell? ⟨q, 3, none⟩ = some e := by
    rw [World.cell?_setCell_other _ _ _ _ (by simp), World.cell?_setCell_other _ _ _ _ (by simp), World.cell?_setCell_other _ _ _ _ (by simp)]; exact h3
  refine ⟨(s1.trans (St.one h2' n2 s)).trans (St.one h3' n3 t), ?_, ?_, ?_, World.cell?_setCell_same _ _ _ h3'⟩
  · rw [World.cell?_setCell_other _ _ _ _ (by simp), World.cell?_setCell_other _ _ _ _ (by simp)]; exact k0
  · rw [World.cell?_setCell_other _ _ _ _ (by simp), World.cell?_setCell_other _ _ _ _ (by simp)]; exact k1
  · rw [World.cell?_setCell_other _ _ _ _ (by simp)]
    exact World.cell?_setCell_same _ _ _ h2'

theorem IntV.nn {w : World} {a b : Value} {z : Int} (h : IntV w (.agg #[a, b]) z) : (∀ k n, a ≠ .int k n) ∧ ∀ k n, b ≠ .int k n := by
 obtain ⟨p, ad, n, c, rfl, rfl, _⟩ := h.parts
 exact ⟨fun k n h => (by cases h), fun k n h => (by cases h)⟩
theorem RefV.nn {w : World} {a b : Value} {z : Int} (h : RefV w (.agg #[a, b]) z) : (∀ k n, a ≠ .int k n) ∧ ∀ k n, b ≠ .int k n := by
 obtain ⟨p, ad, n, c, rfl, rfl, _⟩ := h.parts
 exact ⟨fun k n h => (by cases h), fun k n h => (by cases h)⟩
theorem RatV.ints {w : World} {a b c e : Value} {n d : Int} (h : RatV w (.agg #[a, b, c, e]) n d) : IntV w (.agg #[a, b]) n ∧ IntV w (.agg #[c, e]) (dz d) := by
 obtain ⟨a', b', c', e', he, h1, h2⟩ := h
 injection he with he
 injection he with he
 injection he with e1 he
 injection he with e2 he
 injection he with e3 he
 injection he with e4 he
 subst e1 e2 e3 e4
 exact ⟨h1, h2⟩
theorem BX.put {q : Nat} {u v x y : Value} {z z' : Int} {w : World} (h : BX q u v z w) (hi : IntV w (.agg #[x, y]) z') :
  St q w ((w.setCell ⟨q, 0, none⟩ x).setCell ⟨q, 1, none⟩ y) ∧ BX q x y z' ((w.setCell ⟨q, 0, none⟩ x).setCell ⟨q, 1, none⟩ y) := by
 obtain ⟨n0, n1⟩ := h.iv.nn
 obtain ⟨s, k0, k1⟩ := st2 h.c0 h.c1 n0 n1 x y
 exact ⟨s, k0, k1, (s.froz _).trans h.f0, (s.froz _).trans h.f1, hi.stq s⟩
theorem RX.put {q : Nat} {u v x y : Value} {z z' : Int} {w : World} (h : RX q u v z w) (hi : RefV w (.agg #[x, y]) z') :
  St q w ((w.setCell ⟨q, 0, none⟩ x).setCell ⟨q, 1, none⟩ y) ∧ RX q x y z' ((w.setCell ⟨q, 0, none⟩ x).setCell ⟨q, 1, none⟩ y) := by
 obtain ⟨n0, n1⟩ := h.rv.nn
 obtain ⟨s, k0, k1⟩ := st2 h.c0 h.c1 n0 n1 x y
 exact ⟨s, k0, k1, (s.froz _).trans h.f0, (s.froz _).trans h.f1, hi.stq s⟩
theorem PX.put {q : Nat} {a b c e x y s t : Value} {n d n' d' : Int} {w : World} (h : PX q a b c e n d w) (hi : RatV w (.agg #[x, y, s, t]) n' d') :
  St q w ((((w.setCell ⟨q, 0, none⟩ x).setCell ⟨q, 1, none⟩ y).setCell ⟨q, 2, none⟩ s).setCell ⟨q, 3, none⟩ t) ∧ PX q x y s t n' d' ((((w.setCell ⟨q, 0, none⟩ x).setCell ⟨q, 1, none⟩ y).setCell ⟨q, 2, none⟩ s).setCell ⟨q, 3, none⟩ t) := by
 obtain ⟨i1, i2⟩ := h.rv.ints
 obtain ⟨st, k0, k1, k2, k3⟩ := st4 h.c0 h.c1 h.c2 h.c3 i1.nn.1 i1.nn.2 i2.nn.1 i2.nn.2 x y s t
 exact ⟨st, k0, k1, k2, k3, (st.froz _).trans h.f0, (st.froz _).trans h.f1, (st.froz _).trans h.f2, (st.froz _).trans h.f3, hi.stq st⟩
theorem QX.put {q : Nat} {a b c e x y s t : Value} {n d n' d' : Int} {w : World} (h : QX q a b c e n d w) (h1 : RefV w (.agg #[x, y]) n') (h2 : RefV w (.agg #[s, t]) d') :
  St q w ((((w.setCell ⟨q, 0, none⟩ x).setCell ⟨q, 1, none⟩ y).setCell ⟨q, 2, none⟩ s).setCell ⟨q, 3, none⟩ t) ∧ QX q x y s t n' d' ((((w.setCell ⟨q, 0, none⟩ x).setCell ⟨q, 1, none⟩ y).setCell ⟨q, 2, none⟩ s).setCell ⟨q, 3, none⟩ t) := by
 obtain ⟨st, k0, k1, k2, k3⟩ := st4 h.c0 h.c1 h.c2 h.c3 h.n.nn.1 h.n.nn.2 h.d.nn.1 h.d.nn.2 x y s t
 exact ⟨st, k0, k1, k2, k3, (st.froz _).trans h.f0, (st.froz _).trans h.f1, (st.froz _).trans h.f2, (st.froz _).trans h.f3, h1.stq st, h2.stq st⟩
end
end Go.Proofs.YtghgcbedajaldaaGreat
/-  Steps of operations, and of what comes behind them.  -/
namespace Go.Proofs.YtghgcbedajaldaaGreat
section
open Go.RowKit Digs
section
variable {ops : Array Oper} {Q : Exit → Act → World → Prop} {md : Region.Mode} {F : Nat → Value → World → Prop} {S : World → Prop} {D : Nat → Bool} {a0 : Act} {i : Nat} {o : Oper}
theorem Arg.t (j : Nat) {d : Tmp} (hd : dstOf ops j = some d) (hj : waits md o j = true := by kernel_rfl) : Arg ops md F S a0 o (.tmp d) (F j) := Arg.tmp hj hd
theorem Arg.od {t : Tmp} (ht : oldB ops t = true := by kernel_rfl) : Arg ops md F S a0 o (.tmp t) (fun v _ => v = a0.eval (.tmp t)) := Arg.old ht
theorem step_ldZ0 {x : Operand} {b : Nat} {u v : Value} (hop : o.op = .load 31 x) (hg : Gd ops md F o) (hx : Arg ops md F S a0 o x (fun p _ => p = .pointer (some ⟨b, 0, none⟩)))
  (hc : ∀ w, S w → w.cell? ⟨b, 0, none⟩ = some u ∧ w.cell? ⟨b, 1, none⟩ = some v) (hf : ∀ w, S w → F i (.agg #[u, v]) w) : StepOK Tryz.prog ops md F S a0 Q i o :=
 step_of hg fun a w hs hsm hk => by
  have h1 := hx a w hs hsm hk
  obtain ⟨c0, c1⟩ := hc w hs
  have h2 := hf w hs
  unfold Oper.wp execOp
  rw [hop]
  simp only [h1]
  go_simp
  exact ⟨_, rfl, h2, Below.refl _ _⟩
theorem step_ldP {x : Operand} {p : Nat} {a b c e : Value} (hop : o.op = .load 38 x) (hg : Gd ops md F o) (hx : Arg ops md F S a0 o x (fun y _ => y = .pointer (some ⟨p, 0, none⟩)))
  (hc : ∀ w, S w → w.cell? ⟨p, 0, none⟩ = some a ∧ w.cell? ⟨p, 1, none⟩ = some b ∧ w.cell? ⟨p, 2, none⟩ = some c ∧ w.cell? ⟨p, 3, none⟩ = some e) (hf : ∀ w, S w → F i (.agg #[a, b, c, e]) w) : StepOK Tryz.prog ops md F S a0 Q i o :=
 step_of hg fun a' w hs hsm hk => by
  have h1 := hx a' w hs hsm hk
  obtain ⟨c0, c1, c2, c3⟩ := hc w hs
  have h2 := hf w hs
  unfold Oper.wp execOp
  rw [hop]
  simp only [h1]
  go_simp
  exact ⟨_, rfl, h2, Below.refl _ _⟩
theorem step_alZ {B : Nat} (hop : o.op = .alloc 31) (hg : Gd ops md F o) (hB : ∀ w, S w → B ≤ w.heap.size) (hf : ∀ v w, (∃ q, v = .pointer (some ⟨q, 0, none⟩) ∧ B ≤ q ∧ BX q (.bool false) (.slice none 0 0) 0 w) → F i v w) : StepD Tryz.prog ops md F S D a0 Q i o := fun a w hs hsm hk => by
 rw [if_pos (hg.wanted hk)]
 have hb := hB w hs
 have h2 := hf (.pointer (some ⟨w.heap.size, 0, none⟩)) (w.alloc (.cells #[.bool false, .slice none 0 0] 31)) ⟨_, rfl, hb, BX.made (IntV.nil0 w)⟩
 unfold Oper.wp execOp
 rw [hop]
 go_simp
 exact ⟨_, rfl, h2, (Below.refl _ _).alloc (Nat.le_refl _) _, fun _ => rfl⟩
theorem step_alP {B : Nat} (hop : o.op = .alloc 38) (hg : Gd ops md F o) (hB : ∀ w, S w → B ≤ w.heap.size) (hf : ∀ v w, (∃ q, v = .pointer (some ⟨q, 0, none⟩) ∧ B ≤ q ∧ PX q (.bool false) (.slice none 0 0) (.bool false) (.slice none 0 0) 0 1 w) → F i v w) : StepD Tryz.prog ops md F S D a0 Q i o := fun a w hs hsm hk => by
 rw [if_pos (hg.wanted hk)]
 have hb := hB w hs
 have h2 := hf (.pointer (some ⟨w.heap.size, 0, none⟩)) (w.alloc (.cells #[.bool false, .slice none 0 0, .bool false, .slice none 0 0] 38)) ⟨_, rfl, hb, PX.made ⟨_, _, _, _, rfl, IntV.nil0 w, IntV.nil0 w⟩⟩
 unfold Oper.wp execOp
 rw [hop]
 go_simp
 exact ⟨_, rfl, h2, (Below.refl _ _).alloc (Nat.le_refl _) _, fun _ => rfl⟩
theorem step_zero4 (hop : o.op = .build 38 #[]) (hg : Gd ops md F o) (hf : ∀ w, F i (.agg #[.bool false, .slice none 0 0, .bool false, .slice none 0 0]) w) : StepOK Tryz.prog ops md F S a0 Q i o :=
 step_of hg fun a w hs hsm hk => by
  have h3 := hf w
  unfold Oper.wp execOp
  rw [hop]
  go_simp
  exact ⟨_, rfl, h3, Below.refl _ _⟩
theorem stp_call0 {f : FuncId} (hen : Enters f) {ts : Array TypeId} (hop : o.op = .call { callee := .value (.func f), args := #[], argTypes := ts }) (hg : Gd ops md F o)
  (hc : ∀ w, S w → Calls Tryz.prog f #[] w fun e w' => ∃ r, e = .returned r ∧ F i r w' ∧ Below w.heap.size w w') : StepOK Tryz.prog ops md F S a0 Q i o :=
 step_of hg fun a w hs hsm hk => by
  have he : (execOp a.eval o).run Tryz.prog w = .ok (.enter f #[]) w := by
   obtain ⟨dst, op, ty, pos, after, guard⟩ := o
   subst hop
   rw [execOp_call_go, hen]
   simp
  unfold Oper.wp
  rw [he]
  refine (hc w hs).mono ?_
  rintro e w' ⟨r, rfl, h1, h2⟩
  exact ⟨_, rfl, h1, h2⟩
end
section
variable {ops : Array Oper} {K : Nat} {md : Region.Mode} {F : Nat → Value → World → Prop} {S : World → Prop} {a0 : Act} {i : Nat} {o : Oper}
theorem sty_of (hg : Gd ops md F o) (h : ∀ a w, S w → Same ops a0 a → Know ops md F o a w → ∃ v, (∀ w', (execOp a.eval o).run Tryz.prog w' = .ok (.value v) w') ∧ F i v w) : StepY Tryz.prog ops K md F S a0 i o := fun a w hs hsm _ hk =>
 let ⟨v, h1, h2⟩ := h a w hs hsm hk
 ⟨v, .inl ⟨hg.wanted hk, h1⟩, h2⟩
theorem sty_move {x : Operand} {R : Value → World → Prop} (hop : o.op = .move x) (hg : Gd ops md F o) (hx : Arg ops md F S a0 o x R) (hf : ∀ v w, R v w → F i v w := by exact fun _ _ h => h) : StepY Tryz.prog ops K md F S a0 i o :=
 sty_of hg fun a w hs hsm hk => ⟨a.eval x, fun w' => by unfold execOp; rw [hop]; rfl, hf _ _ (hx a w hs hsm hk)⟩
theorem sty_assign {x : Operand} {R : Value → World → Prop} (hop : o.op = .assign x) (hg : Gd ops md F o) (hx : Arg ops md F S a0 o x R) (hf : ∀ v w, R v w → F i v w := by exact fun _ _ h => h) : StepY Tryz.prog ops K md F S a0 i o :=
 sty_of hg fun a w hs hsm hk => ⟨a.eval x, fun w' => by unfold execOp; rw [hop]; rfl, hf _ _ (hx a w hs hsm hk)⟩
theorem sty_not {x : Operand} {R : Value → World → Prop} {t : TypeId} {b : Bool} (hop : o.op = .unOp .not t x) (hg : Gd ops md F o) (hx : Arg ops md F S a0 o x R) (hr : ∀ v w, R v w → v = .bool b := by exact fun _ _ h => h) (hf : ∀ w, F i (.bool (!b)) w := by exact fun _ => rfl) : StepY Tryz.prog ops K md F S a0 i o :=
 sty_of hg fun a w hs hsm hk => ⟨.bool (!b), fun w' => by
  have h1 := hr _ _ (hx a w hs hsm hk)
  unfold execOp
  rw [hop]
  simp only [h1]
  cases b <;> rfl, hf w⟩
theorem sty_pickT {c x y : Operand} {R R2 : Value → World → Prop} (hop : o.op = .pick c x y) (hg : Gd ops md F o) (hc : Arg ops md F S a0 o c R) (hx : Arg ops md F S a0 o x R2) (hr : ∀ v w, R v w → v = .bool true := by exact fun _ _ h => h) (hf : ∀ v w, R2 v w → F i v w := by exact fun _ _ h => h) : StepY Tryz.prog ops K md F S a0 i o :=
 sty_of hg fun a w hs hsm hk => ⟨a.eval x, fun w' => by
  have h1 := hr _ _ (hc a w hs hsm hk)
  unfold execOp
  rw [hop]
  simp only [h1]
  rfl, hf _ _ (hx a w hs hsm hk)⟩
theorem sty_pickF {c x y : Operand} {R R2 : Value → World → Prop} (hop : o.op = .pick c x y) (hg : Gd ops md F o) (hc : Arg ops md F S a0 o c R) (hy : Arg ops md F S a0 o y R2) (hr : ∀ v w, R v w → v = .bool false := by exact fun _ _ h => h) (hf : ∀ v w, R2 v w → F i v w := by exact fun _ _ h => h) : StepY Tryz.prog ops K md F S a0 i o :=
 sty_of hg fun a w hs hsm hk => ⟨a.eval y, fun w' => by
  have h1 := hr _ _ (hc a w hs hsm hk)
  unfold execOp
  rw [hop]
  simp only [h1]
  rfl, hf _ _ (hy a w hs hsm hk)⟩
theorem sty_faP0 {x : Operand} {p : Nat} (hop : o.op = .fieldAddr 38 x 0) (hg : Gd ops md F o) (hx : Arg ops md F S a0 o x (fun y _ => y = .pointer (some ⟨p, 0, none⟩)))
  (hf : ∀ w, F i (.pointer (some ⟨p, 0, none⟩)) w := by exact fun _ => rfl) : StepY Tryz.prog ops K md F S a0 i o :=
 sty_of hg fun a' w hs hsm hk => ⟨.pointer (some ⟨p, 0, none⟩), fun w' => by
  have h1 := hx a' w hs hsm hk
  unfold execOp
  rw [hop]
  simp only [h1]
  go_simp, hf w⟩
theorem sty_ex20 {x : Operand} {f g : Fct} (hop : o.op = .extract x 0) (hg : Gd ops md F o) (hx : Arg ops md F S a0 o x (Fct.t2 f g).R) (hf : ∀ v w, f.R v w → F i v w := by exact fun _ _ h => h) : StepY Tryz.prog ops K md F S a0 i o :=
 sty_of hg fun a' w hs hsm hk => by
  obtain ⟨a, b, h1, k0, _⟩ := hx a' w hs hsm hk
  refine ⟨a, fun w' => ?_, hf _ _ k0⟩
  unfold execOp
  rw [hop]
  simp only [h1]
  go_simp
theorem sty_ex21 {x : Operand} {f g : Fct} (hop : o.op = .extract x 1) (hg : Gd ops md F o) (hx : Arg ops md F S a0 o x (Fct.t2 f g).R) (hf : ∀ v w, g.R v w → F i v w := by exact fun _ _ h => h) : StepY Tryz.prog ops K md F S a0 i o :=
 sty_of hg fun a' w hs hsm hk => by
  obtain ⟨a, b, h1, _, k1⟩ := hx a' w hs hsm hk
  refine ⟨b, fun w' => ?_, hf _ _ k1⟩
  unfold execOp
  rw [hop]
  simp only [h1]
  go_simp
theorem sty_lss {x y : Operand} {R1 R2 : Value → World → Prop} {z1 z2 : Int} {b : Bool} (hb : b = decide (z1 < z2)) (hop : o.op = .binOp .lss 3 x y 3) (hg : Gd ops md F o) (hx : Arg ops md F S a0 o x R1) (hy : Arg ops md F S a0 o y R2) (hr1 : ∀ v w, R1 v w → v = .int .i64 z1 := by exact fun _ _ h => h) (hr2 : ∀ v w, R2 v w → v = .int .i64 z2 := by exact fun _ _ h => h) (hf : ∀ w, F i (.bool b) w := by exact fun _ => rfl) : StepY Tryz.prog ops K md F S a0 i o :=
 sty_of hg fun a w hs hsm hk => ⟨.bool b, fun w' => by
  subst hb
  have h1 := hr1 _ _ (hx a w hs hsm hk)
  have h2 := hr2 _ _ (hy a w hs hsm hk)
  unfold execOp
  rw [hop]
  simp only [h1, h2]
  go_simp, hf w⟩
theorem sty_eql {x y : Operand} {R1 R2 : Value → World → Prop} {z1 z2 : Int} {b : Bool} (hb : b = (z1 == z2)) (hop : o.op = .binOp .eql 3 x y 3) (hg : Gd ops md F o) (hx : Arg ops md F S a0 o x R1) (hy : Arg ops md F S a0 o y R2) (hr1 : ∀ v w, R1 v w → v = .int .i64 z1 := by exact fun _ _ h => h) (hr2 : ∀ v w, R2 v w → v = .int .i64 z2 := by exact fun _ _ h => h) (hf : ∀ w, F i (.bool b) w := by exact fun _ => rfl) : StepY Tryz.prog ops K md F S a0 i o :=
 sty_of hg fun a w hs hsm hk => ⟨.bool b, fun w' => by
  subst hb
  have h1 := hr1 _ _ (hx a w hs hsm hk)
  have h2 := hr2 _ _ (hy a w hs hsm hk)
  unfold execOp
  rw [hop]
  simp only [h1, h2]
  go_simp, hf w⟩
theorem sty_eqlE {x y : Operand} {R1 R2 : Value → World → Prop} {z1 z2 : Int} {b : Bool} (hb : b = (z1 == z2)) (hop : o.op = .binOp .eql 39 x y 39) (hg : Gd ops md F o) (hx : Arg ops md F S a0 o x R1) (hy : Arg ops md F S a0 o y R2) (hr1 : ∀ v w, R1 v w → v = .int .i64 z1 := by exact fun _ _ h => h) (hr2 : ∀ v w, R2 v w → v = .int .i64 z2 := by exact fun _ _ h => h) (hf : ∀ w, F i (.bool b) w := by exact fun _ => rfl) : StepY Tryz.prog ops K md F S a0 i o :=
 sty_of hg fun a w hs hsm hk => ⟨.bool b, fun w' => by
  subst hb
  have h1 := hr1 _ _ (hx a w hs hsm hk)
  have h2 := hr2 _ _ (hy a w hs hsm hk)
  unfold execOp
  rw [hop]
  simp only [h1, h2]
  go_simp, hf w⟩
theorem sty_neqE {x y : Operand} {R1 R2 : Value → World → Prop} {z1 z2 : Int} {b : Bool} (hb : b = !(z1 == z2)) (hop : o.op = .binOp .neq 39 x y 39) (hg : Gd ops md F o) (hx : Arg ops md F S a0 o x R1) (hy : Arg ops md F S a0 o y R2) (hr1 : ∀ v w, R1 v w → v = .int .i64 z1 := by exact fun _ _ h => h) (hr2 : ∀ v w, R2 v w → v = .int .i64 z2 := by exact fun _ _ h => h) (hf : ∀ w, F i (.bool b) w := by exact fun _ => rfl) : StepY Tryz.prog ops K md F S a0 i o :=
 sty_of hg fun a w hs hsm hk => ⟨.bool b, fun w' => by
  subst hb
  have h1 := hr1 _ _ (hx a w hs hsm hk)
  have h2 := hr2 _ _ (hy a w hs hsm hk)
  unfold execOp
  rw [hop]
  simp only [h1, h2]
  go_simp
  rfl, hf w⟩
def oldK (ops : Array Oper) (K : Nat) (t : Tmp) : Bool := (List.range K).all fun i => dstOf ops i != some t
theorem sty_moveL {t : Tmp} (hop : o.op = .move (.tmp t)) (hg : Gd ops md F o) (ht : oldK ops K t = true) (hf : ∀ w, F i (a0.eval (.tmp t)) w) : StepY Tryz.prog ops K md F S a0 i o := fun a w _ _ hun hk => by
 have he : a.tmps[t]? = a0.tmps[t]? := hun t fun j hj hd => by
  unfold oldK at ht
  rw [List.all_eq_true] at ht
  have := ht j (List.mem_range.2 hj)
  rw [bne_iff_ne] at this
  exact this hd
 have e2 : a.eval (.tmp t) = a0.eval (.tmp t) := by simp [Act.eval, he]
 refine ⟨a0.eval (.tmp t), .inl ⟨hg.wanted hk, fun w' => ?_⟩, hf w⟩
 unfold execOp
 rw [hop]
 simp only [e2]
 rfl
end
section
variable {Q : Exit → Act → World → Prop} {a : Act} {w : World} {o : Oper} {r : List Oper}
theorem tail_nil (h : Q .normal a w) : tailWp Tryz.prog Q [] a w := h
theorem tail_assign {x : Operand} {u : Value} (hop : o.op = .assign x) (hx : a.eval x = u) (h : tailWp Tryz.prog Q r (a.put o.dst u) w) : tailWp Tryz.prog Q (o :: r) a w := by
 unfold tailWp Oper.wp execOp
 rw [hop]
 subst hx
 exact h
theorem tail_stZ {q : Nat} {u0 u1 v : Value} {z z' : Int} {x y : Operand} (hop : o.op = .store 31 x y) (hd : o.dst = none) (hx : a.eval x = .pointer (some ⟨q, 0, none⟩)) (hy : a.eval y = v) (hc : BX q u0 u1 z w) (hi : IntV w v z')
  (h : ∀ w' x0 x1, BX q x0 x1 z' w' → St q w w' → tailWp Tryz.prog Q r a w') : tailWp Tryz.prog Q (o :: r) a w := by
 have hi' := hi
 obtain ⟨ad, n, c, rfl, _⟩ := hi'
 obtain ⟨s, hb⟩ := hc.put hi
 have c0 := hc.c0
 have c1 := hc.c1
 have f0 := hc.f0
 have f1 := hc.f1
 have h1 := h _ _ _ hb s
 unfold tailWp Oper.wp execOp
 rw [hop]
 simp only [hx, hy]
 go_simp
theorem tail_stP {q : Nat} {u0 u1 u2 u3 v : Value} {n d n' d' : Int} {x y : Operand} (hop : o.op = .store 38 x y) (hd : o.dst = none) (hx : a.eval x = .pointer (some ⟨q, 0, none⟩)) (hy : a.eval y = v) (hc : PX q u0 u1 u2 u3 n d w) (hi : RatV w v n' d')
  (h : ∀ w' x0 x1 x2 x3, PX q x0 x1 x2 x3 n' d' w' → St q w w' → tailWp Tryz.prog Q r a w') : tailWp Tryz.prog Q (o :: r) a w := by
 obtain ⟨p1, ad1, m1, k1, p2, ad2, m2, k2, rfl⟩ := ratv_shape hi
 obtain ⟨s, hb⟩ := hc.put hi
 have c0 := hc.c0
 have c1 := hc.c1
 have c2 := hc.c2
 have c3 := hc.c3
 have f0 := hc.f0
 have f1 := hc.f1
 have f2 := hc.f2
 have f3 := hc.f3
 have h1 := h _ _ _ _ _ hb s
 unfold tailWp Oper.wp execOp
 rw [hop]
 simp only [hx, hy]
 go_simp
end
end
end Go.Proofs.YtghgcbedajaldaaGreat
