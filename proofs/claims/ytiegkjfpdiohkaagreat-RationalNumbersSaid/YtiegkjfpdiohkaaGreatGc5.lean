/- Gcd: combine. -/
import Derived.Test.YtiegkjfpdiohkaaGreatGc4
namespace Go.Proofs.YtiegkjfpdiohkaaGreat
section
open Go.RowKit Digs

def CombPost (w : World) (C D : Nat) (e : Ending) (w' : World) : Prop := ∃ vc vd, e = .returned (.tuple #[vc, vd]) ∧ Rd .u32 w' vc (digs 4294967296 C) ∧ Rd .u32 w' vd (digs 4294967296 D) ∧ Below w.heap.size w w'

set_option maxHeartbeats 2000000 in
set_option maxRecDepth 100000 in
theorem combine_core (odd : Bool) (u0 u1 v0 v1 : Nat) (ada adb : Option Addr) (na nb ca cb C D : Nat) (w : World)
    (h1 : odd = false → (∀ W, Below w.heap.size w W → Calls Tryz.prog 171 #[.slice ada na ca, .int .u32 u0, .slice adb nb cb, .int .u32 v0] W (OwPost W (digs 4294967296 C))) ∧ ∀ W, Below w.heap.size w W → Calls Tryz.prog 171 #[.slice adb nb cb, .int .u32 v1, .slice ada na ca, .int .u32 u1] W (OwPost W (digs 4294967296 D)))
    (h2 : odd = true → (∀ W, Below w.heap.size w W → Calls Tryz.prog 171 #[.slice adb nb cb, .int .u32 v0, .slice ada na ca, .int .u32 u0] W (OwPost W (digs 4294967296 C))) ∧ ∀ W, Below w.heap.size w W → Calls Tryz.prog 171 #[.slice ada na ca, .int .u32 u1, .slice adb nb cb, .int .u32 v1] W (OwPost W (digs 4294967296 D))) :
    Calls Tryz.prog 136 #[.agg #[.int .u32 u0, .int .u32 u1, .int .u32 v0, .int .u32 v1, .bool odd], .slice ada na ca, .slice adb nb cb] w (CombPost w C D) := by
  cases odd with
  | false =>
    obtain ⟨m1, m2⟩ := h1 rfl
    have HM1 := Lib.hid m1
    have HM2 := Lib.hid m2
    clear m1 m2 h1 h2
    go_enter Tryz.func136, Tryz.ntmps136
    go_wp2_with fail
    have HB0 := Lib.hid ((Below.refl w.heap.size w).alloc (Nat.le_refl _) (.cells #[.int .u32 u0, .int .u32 u1, .int .u32 v0, .int .u32 v1, .bool false] 170))
    obtain ⟨⟨a0, a1, a2, a3, a4⟩, _, _⟩ := box5 (w := w) (w2 := w.alloc (.cells #[.int .u32 u0, .int .u32 u1, .int .u32 v0, .int .u32 v1, .bool false] 170)) (Below.refl _ _)
    have hs0 : w.heap.size < (w.alloc (.cells #[.int .u32 u0, .int .u32 u1, .int .u32 v0, .int .u32 v1, .bool false] 170)).heap.size := by simp
    generalize (w.alloc (.cells #[.int .u32 u0, .int .u32 u1, .int .u32 v0, .int .u32 v1, .bool false] 170)) = X at *
    go_region_held3 (fun w' => w'.cell? ⟨w.heap.size, 0, none⟩ = some (.int .u32 u0) ∧ w'.cell? ⟨w.heap.size, 1, none⟩ = some (.int .u32 u1) ∧ w'.cell? ⟨w.heap.size, 2, none⟩ = some (.int .u32 v0) ∧ w'.cell? ⟨w.heap.size, 3, none⟩ = some (.int .u32 v1))
      (first | exact ⟨c0, c1, c2, c3⟩ | exact ⟨b0, b1, b2, b3⟩ | go_keep)
      (go_loud (first
        | (go_at_call_of 171 (Value.slice ada na ca); (with_reducible refine (HM1.out _ (HB0.out.trans ((Below.refl X.heap.size X).drew.mono (by omega)))).mono ?_); rintro e w2 ⟨vc, rfl, hoc, hb2'⟩; have hb2 := (Below.refl X.heap.size X).drew.trans hb2'; have b0 := (hb2.cell (p := ⟨w.heap.size, 0, none⟩) hs0).trans a0; have b1 := (hb2.cell (p := ⟨w.heap.size, 1, none⟩) hs0).trans a1; have b2 := (hb2.cell (p := ⟨w.heap.size, 2, none⟩) hs0).trans a2; have b3 := (hb2.cell (p := ⟨w.heap.size, 3, none⟩) hs0).trans a3; have hs2 := Nat.lt_of_lt_of_le hs0 hb2.size; have hw2 := HB0.out.trans (hb2.mono (Nat.le_of_lt hs0)))
        | (go_at_call_of 171 (Value.slice adb nb cb); (with_reducible refine (HM2.out _ hw2).mono ?_); rintro e w3 ⟨vd, rfl, hod, hb3⟩; have c0 := (hb3.cell (p := ⟨w.heap.size, 0, none⟩) hs2).trans b0; have c1 := (hb3.cell (p := ⟨w.heap.size, 1, none⟩) hs2).trans b1; have c2 := (hb3.cell (p := ⟨w.heap.size, 2, none⟩) hs2).trans b2; have c3 := (hb3.cell (p := ⟨w.heap.size, 3, none⟩) hs2).trans b3)))
    go_wp2
    go_ret2
    exact ⟨vc, vd, rfl, hoc.rd.keep hb3, hod.rd, hw2.trans (hb3.mono (Nat.le_of_lt hs2))⟩
  | true =>
    obtain ⟨m1, m2⟩ := h2 rfl
    have HM1 := Lib.hid m1
    have HM2 := Lib.hid m2
    clear m1 m2 h1 h2
    go_enter Tryz.func136, Tryz.ntmps136
    go_wp2_with fail
    have HB0 := Lib.hid ((Below.refl w.heap.size w).alloc (Nat.le_refl _) (.cells #[.int .u32 u0, .int .u32 u1, .int .u32 v0, .int .u32 v1, .bool true] 170))
    obtain ⟨⟨a0, a1, a2, a3, a4⟩, _, _⟩ := box5 (w := w) (w2 := w.alloc (.cells #[.int .u32 u0, .int .u32 u1, .int .u32 v0, .int .u32 v1, .bool true] 170)) (Below.refl _ _)
    have hs0 : w.heap.size < (w.alloc (.cells #[.int .u32 u0, .int .u32 u1, .int .u32 v0, .int .u32 v1, .bool true] 170)).heap.size := by simp
    generalize (w.alloc (.cells #[.int .u32 u0, .int .u32 u1, .int .u32 v0, .int .u32 v1, .bool true] 170)) = X at *
    go_region_held3 (fun w' => w'.cell? ⟨w.heap.size, 0, none⟩ = some (.int .u32 u0) ∧ w'.cell? ⟨w.heap.size, 1, none⟩ = some (.int .u32 u1) ∧ w'.cell? ⟨w.heap.size, 2, none⟩ = some (.int .u32 v0) ∧ w'.cell? ⟨w.heap.size, 3, none⟩ = some (.int .u32 v1))
      (first | exact ⟨c0, c1, c2, c3⟩ | exact ⟨b0, b1, b2, b3⟩ | go_keep)
      (go_loud (first
        | (go_at_call_of 171 (Value.slice adb nb cb); (with_reducible refine (HM1.out _ (HB0.out.trans ((Below.refl X.heap.size X).drew.mono (by omega)))).mono ?_); rintro e w2 ⟨vc, rfl, hoc, hb2'⟩; have hb2 := (Below.refl X.heap.size X).drew.trans hb2'; have b0 := (hb2.cell (p := ⟨w.heap.size, 0, none⟩) hs0).trans a0; have b1 := (hb2.cell (p := ⟨w.heap.size, 1, none⟩) hs0).trans a1; have b2 := (hb2.cell (p := ⟨w.heap.size, 2, none⟩) hs0).trans a2; have b3 := (hb2.cell (p := ⟨w.heap.size, 3, none⟩) hs0).trans a3; have hs2 := Nat.lt_of_lt_of_le hs0 hb2.size; have hw2 := HB0.out.trans (hb2.mono (Nat.le_of_lt hs0)))
        | (go_at_call_of 171 (Value.slice ada na ca); (with_reducible refine (HM2.out _ hw2).mono ?_); rintro e w3 ⟨vd, rfl, hod, hb3⟩; have c0 := (hb3.cell (p := ⟨w.heap.size, 0, none⟩) hs2).trans b0; have c1 := (hb3.cell (p := ⟨w.heap.size, 1, none⟩) hs2).trans b1; have c2 := (hb3.cell (p := ⟨w.heap.size, 2, none⟩) hs2).trans b2; have c3 := (hb3.cell (p := ⟨w.heap.size, 3, none⟩) hs2).trans b3)))
    go_wp2
    go_ret2
    exact ⟨vc, vd, rfl, hoc.rd.keep hb3, hod.rd, hw2.trans (hb3.mono (Nat.le_of_lt hs2))⟩


end
end Go.Proofs.YtiegkjfpdiohkaaGreat
