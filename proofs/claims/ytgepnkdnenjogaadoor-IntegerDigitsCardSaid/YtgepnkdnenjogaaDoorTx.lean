/- Text, in the program: for every number and every radix. -/
import Derived.Test.YtgepnkdnenjogaaDoorPs
namespace Go.Proofs.YtgepnkdnenjogaaDoor
section
open Go.RowKit Digs

def TextRes (w : World) (s : List Nat) (c : Int) (e : Ending) (w' : World) : Prop := e = .returned (.tuple #[.string (bstr s), .int .i64 c]) ∧ Below w.heap.size w w'
/-- A number's text in a radix, and a code. -/
def txt (r : Int) (z : Int) : List Nat × Int := if r < 2 ∨ 36 < r then ([], 1) else if z = 0 then ([48], 0) else (textB (decide (z < 0)) r.toNat z.natAbs, 0)

theorem text_bad (r z : Int) (v : Value) (w : World) (h : r < 2 ∨ 36 < r) (hv : IntV w v z) :
    Calls Tryd.prog 7 #[v, .int .i64 r] w (TextRes w [] 1) := by
  obtain ⟨ad, n, c, rfl, _⟩ := hv
  generalize decide (z < 0) = b
  go_enter Tryd.func7, Tryd.ntmps7
  by_cases h1 : r < 2
  · go_wp2
    go_ret2
    exact ⟨rfl, (Below.refl _ _).alloc (Nat.le_refl _) _⟩
  · have h2 : 36 < r := by omega
    go_wp2
    go_ret2
    exact ⟨rfl, (Below.refl _ _).alloc (Nat.le_refl _) _⟩

theorem text_zero (r : Nat) (v : Value) (w : World) (h2 : 2 ≤ r) (h36 : r ≤ 36) (hv : IntV w v 0) :
    Calls Tryd.prog 7 #[v, .int .i64 r] w (TextRes w [48] 0) := by
  have HSG := Lib.hid (fun W hw => Lib.hid (sign_any 0 v W (by unfold len; rw [Int.natAbs_zero, digs_zero]; decide) (hv.keep (w' := W) hw)))
  have hs0 : sgnZ 0 = 0 := rfl
  rw [hs0] at HSG
  clear hs0
  obtain ⟨ad, n, c, rfl, _⟩ := hv
  go_enter Tryd.func7, Tryd.ntmps7
  go_wp2_with fail
  refine (HSG.out _ ((Below.refl _ _).alloc (Nat.le_refl _) _)).out.mono ?_
  rintro e w1 ⟨rfl, hb1⟩
  have HB := Lib.hid (box1b hb1)
  clear hb1
  go_wp2
  go_ret2
  exact ⟨rfl, HB.out⟩

/-- Text: every number, every radix. -/
theorem Text_all (r : Int) (z : Int) (v : Value) (w : World) (hl : len z ≤ 1000000) (h : IntV w v z) :
    Calls Tryd.prog 7 #[v, .int .i64 r] w (TextRes w (txt r z).1 (txt r z).2) := by
  unfold txt
  by_cases hr : r < 2 ∨ 36 < r
  · rw [if_pos hr]
    exact text_bad r z v w hr h
  rw [if_neg hr]
  obtain ⟨n, rfl⟩ : ∃ n : Nat, r = n := ⟨r.toNat, by omega⟩
  have h2 : 2 ≤ n := by omega
  have h36 : n ≤ 36 := by omega
  by_cases hz : z = 0
  · rw [if_pos hz]
    subst hz
    exact text_zero n v w h2 h36 h
  · rw [if_neg hz, Int.toNat_natCast]
    exact text_any n z v w h2 h36 hz hl h

end
end Go.Proofs.YtgepnkdnenjogaaDoor
