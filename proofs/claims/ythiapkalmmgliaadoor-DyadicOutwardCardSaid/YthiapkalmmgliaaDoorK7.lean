/-
  Equal in all fields.
-/
import Derived.Test.YthiapkalmmgliaaDoorK6
namespace Go.Proofs.YthiapkalmmgliaaDoor
open Go.RowKit
set_option linter.unusedVariables false
set_option linter.unusedSimpArgs false

theorem rysame_ (s t : Bool) (A B : Option Addr) (n m c d : Nat) (xs ys : List Nat) (e x : Int) (w : World) (b1 b2 b3 : Bool) (h1 : (s == t) = b1) (h2 : (e == x) = b2) (h3 : Hid (decide (xs = ys) = b3)) (h : Rd w A n c xs) (k : Rd w B m d ys) (hn : n ≤ 1048576) (hm : m ≤ 1048576) :
    Calls Tryd.prog 14 #[.agg #[.bool s, .slice A n c, .int .i64 e], .agg #[.bool t, .slice B m d, .int .i64 x]] w (Asks w (.bool (b1 && b2 && b3))) := by
  have ha := (h.alloc (EY s A n c e)).alloc (EY t B m d x)
  have ka := (k.alloc (EY s A n c e)).alloc (EY t B m d x)
  have F1 := (Below.refl w.heap.size w).alloc (Nat.le_refl _) (EY s A n c e)
  have F2 := F1.alloc F1.size (EY t B m d x)
  rcases b1 with _ | _
  · go_enter Tryd.func14, Tryd.ntmps14
    go_wp2_with fail
    go_ret
    exact ⟨rfl, F2⟩
  · rcases b2 with _ | _
    · go_enter Tryd.func14, Tryd.ntmps14
      go_wp2_with fail
      go_ret
      exact ⟨rfl, F2⟩
    · go_enter Tryd.func14, Tryd.ntmps14
      go_wp2_with fail
      refine (rsame_ask _ _ _ _ _ _ _ _ _ b3 h3.out ha ka hn hm).mono ?_
      rintro e_ w2 ⟨rfl, b2⟩
      have F3 := below_then F2 (Nat.le_refl _) b2
      go_wp2_with fail
      go_ret
      exact ⟨by simp, F3⟩
theorem rysame (s t : Bool) (A B : Option Addr) (n m c d : Nat) (xs ys : List Nat) (e x : Int) (w : World) (h : Rd w A n c xs) (k : Rd w B m d ys) (hn : n ≤ 1048576) (hm : m ≤ 1048576) :
    Calls Tryd.prog 14 #[.agg #[.bool s, .slice A n c, .int .i64 e], .agg #[.bool t, .slice B m d, .int .i64 x]] w (Asks w (.bool ((s == t) && (e == x) && decide (xs = ys)))) :=
  rysame_ s t A B n m c d xs ys e x w _ _ _ rfl rfl (hide rfl) h k hn hm
theorem rysame_q (s t : Bool) (A B : Option Addr) (n m c d : Nat) (e x : Int) (q : Rat) (w : World) (h : Cy w s A n c e q) (k : Cy w t B m d x q) (hn : n ≤ 1048576) (hm : m ≤ 1048576) :
    Calls Tryd.prog 14 #[.agg #[.bool s, .slice A n c, .int .i64 e], .agg #[.bool t, .slice B m d, .int .i64 x]] w (Asks w (.bool true)) := by
  have := rysame s t A B n m c d _ _ e x w h.1 k.1 hn hm
  rw [h.2.1, k.2.1, h.2.2.1, k.2.2.1] at this
  rw [h.2.1, k.2.1, h.2.2.1, k.2.2.1]
  simpa using this
end Go.Proofs.YthiapkalmmgliaaDoor
