/-
  Proved here: IntervalMake returns true for every three rational numbers (each a sign and two slices of 32-bit limbs), and they read afterwards as they read before. No condition is left over.
  (The frame follows the guide's proof-skeleton.mjs, a struct opened by open_agg2 or open_agg3; the walk is ours.)
-/
import Derived.Test.YtnddhohjfjlaiaaRows
import Derived.WalkKit
import Derived.Test.YtnddhohjfjlaiaaU2
import Derived.ProofKit
import Derived.OpenShut
import Derived.ShutString
import Derived.ChangeOld
import Derived.Below
import Derived.Lib.SmallJoins
namespace Go.Proofs.Ytnddhohjfjlaiaa.intervalMake
open Go.ChangeShapes Go.WideShapes Go.ChangeAt Go.RowKit Go.Joins Go.Deep
open Go.ChangeMaps (open_string shut_string)
set_option linter.unusedVariables false

theorem own : ownKnob Try.prog.godebug = none := by kernel_rfl
theorem laidOut : laidOutB Try.prog = true := by kernel_rfl
theorem cellsQ : Try.prog.cellsOf 25 = 3 := by kernel_rfl

/-- What the walk is told of a slice of integers that came in: it is nil; or it leads to a row of 'cap' cells, the numbers 'zs' (the first 'len' are its elements, the rest its spare room), each fitting its kind. -/
def IsRow (k : IntKind) (w : World) (a : Option Addr) (len cap : Nat) (zs : List Int) : Prop :=
  (a = none ∧ len = 0 ∧ cap = 0 ∧ zs = []) ∨
  ∃ x, a = some x ∧ len ≤ cap ∧ cap ≤ maxLen ∧ zs.length = cap ∧ (∀ i, i < zs.length → w.cell? (x.add i) = some (.int k (zs.getD i 0))) ∧ ∀ n ∈ zs, (Lit.int k n).wf = true

theorem walk (s0 : Bool) (a00 : Option Addr) (len00 cap00 : Nat) (z00 : List Int) (a01 : Option Addr) (len01 cap01 : Nat) (z01 : List Int) (s1 : Bool) (a10 : Option Addr) (len10 cap10 : Nat) (z10 : List Int) (a11 : Option Addr) (len11 cap11 : Nat) (z11 : List Int) (s2 : Bool) (a20 : Option Addr) (len20 cap20 : Nat) (z20 : List Int) (a21 : Option Addr) (len21 cap21 : Nat) (z21 : List Int) (w : World) (w00 : IsRow .u32 w a00 len00 cap00 z00) (w01 : IsRow .u32 w a01 len01 cap01 z01) (w10 : IsRow .u32 w a10 len10 cap10 z10) (w11 : IsRow .u32 w a11 len11 cap11 z11) (w20 : IsRow .u32 w a20 len20 cap20 z20) (w21 : IsRow .u32 w a21 len21 cap21 z21) :
    Calls Try.prog 3 #[.agg #[.bool s0, .slice a00 len00 cap00, .slice a01 len01 cap01], .agg #[.bool s1, .slice a10 len10 cap10, .slice a11 len11 cap11], .agg #[.bool s2, .slice a20 len20 cap20, .slice a21 len21 cap21]] w fun e w' => e = .returned (.bool true) ∧ Below w.heap.size w w' := by
  obtain ⟨x00, hx00⟩ := rd_of w00
  obtain ⟨x01, hx01⟩ := rd_of w01
  obtain ⟨x10, hx10⟩ := rd_of w10
  obtain ⟨x11, hx11⟩ := rd_of w11
  obtain ⟨x20, hx20⟩ := rd_of w20
  obtain ⟨x21, hx21⟩ := rd_of w21
  exact law_make ⟨s0, a00, len00, cap00, a01, len01, cap01⟩ ⟨s1, a10, len10, cap10, a11, len11, cap11⟩ ⟨s2, a20, len20, cap20, a21, len21, cap21⟩ x00 x01 x10 x11 x20 x21 w ⟨hx00, hx01⟩ ⟨hx10, hx11⟩ ⟨hx20, hx21⟩

set_option maxRecDepth 100000 in
theorem lifted (os : Os) (started : os.Started) (H : Type) (enc : TypeId × Value → H) :
    ReturnsInHanded {} Try.checked os 3 .any (Rows.intervalMakeSpec.pre6 enc Try.prog Try.f3 Rows.intervalMakeRow.domain false) (Rows.intervalMakeSpec.post enc Try.prog Try.f3 false true false false) := by
  refine returnsInHanded_of_change (C := Try.checked) own started (by kernel_rfl) Try.func3
    (ChangeSpec.witness6 (enc := enc) (C := Try.checked) false ⟨#[], #[.agg #[.bool false, .slice none 0 0, .slice none 0 0], .agg #[.bool false, .slice none 0 0, .slice none 0 0], .agg #[.bool false, .slice none 0 0, .slice none 0 0]], []⟩ 8 (by kernel_rfl) (by kernel_rfl) (by kernel_rfl) (by kernel_rfl)) ?_
  intro W base args ds gs before hval0 hW hcnd _
  have hval : ∀ (j : Nat) t v, Try.f3.params[j]? = some t → args[j]? = some v → Value.okWide Try.prog W .any base t v := hval0
  have hW' := hW
  obtain ⟨p, q, hA0, hV, rfl, hfz, hnd⟩ := hW
  have hA : DataW.TrodAll enc Try.prog W 0 (fun _ => true) true Try.f3.params.toList args.toList ds p := hA0
  rw [Try.params3] at hA hval
  obtain ⟨v0, vs0, d0, ds0, p0, q0, hargs, rfl, rfl, h0, r0⟩ := trodAll_cons hA
  obtain ⟨v1, vs1, d1, ds1, p1, q1, rfl, rfl, rfl, h1, r1⟩ := trodAll_cons r0
  obtain ⟨v2, vs2, d2, ds2, p2, q2, rfl, rfl, rfl, h2, r2⟩ := trodAll_cons r1
  obtain ⟨rfl, rfl, rfl⟩ := trodAll_nil r2
  obtain rfl : args = #[v0, v1, v2] := by cases args; simp_all
  obtain ⟨rfl, rfl⟩ := trodVars_none hV
  have k0 := h0
  have lt0 : ∀ x ∈ p0, x.block < W.heap.size := by obtain ⟨m, hm⟩ := k0; exact DataW.trod_lt m _ _ _ hm
  obtain ⟨x0, u00, u01, y0, y00, y01, m0, rfl, -, -, hy0, hy00, hy01⟩ := open_agg3 Try.underlying25 (by kernel_rfl) cellsQ (hval 0 25 v0 rfl rfl) h0
  obtain ⟨s0, e0, -⟩ := DataW.trod_bool Try.underlying4 hy0
  obtain rfl : x0 = .bool s0 := by simpa using e0
  obtain ⟨a00, len00, cap00, z00, rfl, w00⟩ : ∃ a len cap zs, u00 = .slice a len cap ∧ IsRow .u32 W a len cap zs := by
    rcases open_ints Try.underlying23 Try.underlying68 (by kernel_rfl) hy00 with ⟨hcs, _⟩ | ⟨x, l, c, zs, hcs, _, hl, hm, hz, _, hcell, hwz⟩
    · simp at hcs
      exact ⟨none, 0, 0, [], hcs, .inl ⟨rfl, rfl, rfl, rfl⟩⟩
    · simp at hcs
      exact ⟨some x, l, c, zs, hcs, .inr ⟨_, rfl, hl, hm, by simpa using hz, hcell, hwz⟩⟩
  obtain ⟨a01, len01, cap01, z01, rfl, w01⟩ : ∃ a len cap zs, u01 = .slice a len cap ∧ IsRow .u32 W a len cap zs := by
    rcases open_ints Try.underlying23 Try.underlying68 (by kernel_rfl) hy01 with ⟨hcs, _⟩ | ⟨x, l, c, zs, hcs, _, hl, hm, hz, _, hcell, hwz⟩
    · simp at hcs
      exact ⟨none, 0, 0, [], hcs, .inl ⟨rfl, rfl, rfl, rfl⟩⟩
    · simp at hcs
      exact ⟨some x, l, c, zs, hcs, .inr ⟨_, rfl, hl, hm, by simpa using hz, hcell, hwz⟩⟩
  have k1 := h1
  have lt1 : ∀ x ∈ p1, x.block < W.heap.size := by obtain ⟨m, hm⟩ := k1; exact DataW.trod_lt m _ _ _ hm
  obtain ⟨x1, u10, u11, y1, y10, y11, m1, rfl, -, -, hy1, hy10, hy11⟩ := open_agg3 Try.underlying25 (by kernel_rfl) cellsQ (hval 1 25 v1 rfl rfl) h1
  obtain ⟨s1, e1, -⟩ := DataW.trod_bool Try.underlying4 hy1
  obtain rfl : x1 = .bool s1 := by simpa using e1
  obtain ⟨a10, len10, cap10, z10, rfl, w10⟩ : ∃ a len cap zs, u10 = .slice a len cap ∧ IsRow .u32 W a len cap zs := by
    rcases open_ints Try.underlying23 Try.underlying68 (by kernel_rfl) hy10 with ⟨hcs, _⟩ | ⟨x, l, c, zs, hcs, _, hl, hm, hz, _, hcell, hwz⟩
    · simp at hcs
      exact ⟨none, 0, 0, [], hcs, .inl ⟨rfl, rfl, rfl, rfl⟩⟩
    · simp at hcs
      exact ⟨some x, l, c, zs, hcs, .inr ⟨_, rfl, hl, hm, by simpa using hz, hcell, hwz⟩⟩
  obtain ⟨a11, len11, cap11, z11, rfl, w11⟩ : ∃ a len cap zs, u11 = .slice a len cap ∧ IsRow .u32 W a len cap zs := by
    rcases open_ints Try.underlying23 Try.underlying68 (by kernel_rfl) hy11 with ⟨hcs, _⟩ | ⟨x, l, c, zs, hcs, _, hl, hm, hz, _, hcell, hwz⟩
    · simp at hcs
      exact ⟨none, 0, 0, [], hcs, .inl ⟨rfl, rfl, rfl, rfl⟩⟩
    · simp at hcs
      exact ⟨some x, l, c, zs, hcs, .inr ⟨_, rfl, hl, hm, by simpa using hz, hcell, hwz⟩⟩
  have k2 := h2
  have lt2 : ∀ x ∈ p2, x.block < W.heap.size := by obtain ⟨m, hm⟩ := k2; exact DataW.trod_lt m _ _ _ hm
  obtain ⟨x2, u20, u21, y2, y20, y21, m2, rfl, -, -, hy2, hy20, hy21⟩ := open_agg3 Try.underlying25 (by kernel_rfl) cellsQ (hval 2 25 v2 rfl rfl) h2
  obtain ⟨s2, e2, -⟩ := DataW.trod_bool Try.underlying4 hy2
  obtain rfl : x2 = .bool s2 := by simpa using e2
  obtain ⟨a20, len20, cap20, z20, rfl, w20⟩ : ∃ a len cap zs, u20 = .slice a len cap ∧ IsRow .u32 W a len cap zs := by
    rcases open_ints Try.underlying23 Try.underlying68 (by kernel_rfl) hy20 with ⟨hcs, _⟩ | ⟨x, l, c, zs, hcs, _, hl, hm, hz, _, hcell, hwz⟩
    · simp at hcs
      exact ⟨none, 0, 0, [], hcs, .inl ⟨rfl, rfl, rfl, rfl⟩⟩
    · simp at hcs
      exact ⟨some x, l, c, zs, hcs, .inr ⟨_, rfl, hl, hm, by simpa using hz, hcell, hwz⟩⟩
  obtain ⟨a21, len21, cap21, z21, rfl, w21⟩ : ∃ a len cap zs, u21 = .slice a len cap ∧ IsRow .u32 W a len cap zs := by
    rcases open_ints Try.underlying23 Try.underlying68 (by kernel_rfl) hy21 with ⟨hcs, _⟩ | ⟨x, l, c, zs, hcs, _, hl, hm, hz, _, hcell, hwz⟩
    · simp at hcs
      exact ⟨none, 0, 0, [], hcs, .inl ⟨rfl, rfl, rfl, rfl⟩⟩
    · simp at hcs
      exact ⟨some x, l, c, zs, hcs, .inr ⟨_, rfl, hl, hm, by simpa using hz, hcell, hwz⟩⟩
  clear hA0 hval0
  refine (walk s0 a00 len00 cap00 z00 a01 len01 cap01 z01 s1 a10 len10 cap10 z10 a11 len11 cap11 z11 s2 a20 len20 cap20 z20 a21 len21 cap21 z21 W w00 w01 w10 w11 w20 w21).mono fun e W' ⟨he, bel⟩ => ?_
  subst he
  exact ⟨_, rfl, _, _, _, [], _, [], hW', trodAll_mk1 (shut_bool Try.underlying4 _), (trodAll_cons_mk (Below.trod laidOut (by kernel_rfl) (of_decide_eq_true (by kernel_rfl)) k0 bel lt0) (trodAll_cons_mk (Below.trod laidOut (by kernel_rfl) (of_decide_eq_true (by kernel_rfl)) k1 bel lt1) (trodAll_cons_mk (Below.trod laidOut (by kernel_rfl) (of_decide_eq_true (by kernel_rfl)) k2 bel lt2) trodAll_mk0))), rfl, bel.frame _, fun h => by cases h⟩

theorem over : Rows.intervalMakeRow.holds Try.pinned (OpenSpec.ofChange Rows.intervalMakeSpec) :=
  OpenClaim.holds_of_wide 3 Try.f3 rfl rfl rfl rfl rfl rfl rfl ⟨rfl, rfl, rfl, rfl, rfl⟩ rfl rfl rfl rfl rfl (by kernel_rfl) Try.func3 (by kernel_rfl)
    (of_decide_eq_true (by kernel_rfl)) (by unfold Func.isWrapper; first | (rw [if_pos (by decide +kernel)]; kernel_rfl) | (rw [if_neg (by decide +kernel)]; exact ⟨rfl, rfl⟩))
    (fun os started H enc _ => lifted os started H enc)

/-- The statement. -/
theorem proved : Rows.IntervalMakeSaid := over
#print axioms proved
end Go.Proofs.Ytnddhohjfjlaiaa.intervalMake
