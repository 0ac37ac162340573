/-
  Proved here: RationalCanon returns true for every rational number x (a sign and two slices of 32-bit limbs), and x reads afterwards as it read before. No condition.
  (The frame follows the guide's proof-skeleton.mjs, a struct opened by open_agg2 or open_agg3; the walk is ours.)
-/
import Derived.Test.YtabgniijlofapaaRows
import Derived.WalkKit
import Derived.Test.YtabgniijlofapaaCanonQLaw
import Derived.ProofKit
import Derived.OpenShut
import Derived.ShutString
import Derived.ChangeOld
import Derived.Below
import Derived.Lib.SmallJoins
namespace Go.Proofs.Ytabgniijlofapaa.rationalCanon
open Go.ChangeShapes Go.WideShapes Go.ChangeAt Go.RowKit Go.Joins
open Go.ChangeMaps (open_string shut_string)
set_option linter.unusedVariables false

theorem own : ownKnob Try.prog.godebug = none := by kernel_rfl
theorem laidOut : laidOutB Try.prog = true := by kernel_rfl
theorem cellsQ : Try.prog.cellsOf 25 = 3 := by kernel_rfl

/-- What the walk is told of a slice of integers that came in: it is nil; or it leads to a row of 'cap' cells, the numbers 'zs' (the first 'len' are its elements, the rest its spare room), each fitting its kind. -/
def IsRow (k : IntKind) (w : World) (a : Option Addr) (len cap : Nat) (zs : List Int) : Prop :=
  (a = none ∧ len = 0 ∧ cap = 0 ∧ zs = []) ∨
  ∃ x, a = some x ∧ len ≤ cap ∧ cap ≤ maxLen ∧ zs.length = cap ∧ (∀ i, i < zs.length → w.cell? (x.add i) = some (.int k (zs.getD i 0))) ∧ ∀ n ∈ zs, (Lit.int k n).wf = true

theorem walk (s0 : Bool) (a00 : Option Addr) (len00 cap00 : Nat) (z00 : List Int) (a01 : Option Addr) (len01 cap01 : Nat) (z01 : List Int) (w : World) (w00 : IsRow .u32 w a00 len00 cap00 z00) (w01 : IsRow .u32 w a01 len01 cap01 z01) :
    Calls Try.prog 3 #[.agg #[.bool s0, .slice a00 len00 cap00, .slice a01 len01 cap01]] w fun e w' => e = .returned (.bool true) ∧ Below w.heap.size w w' := by
  obtain ⟨x00, hx00⟩ := rd_of w00
  obtain ⟨x01, hx01⟩ := rd_of w01
  by_cases hn : len00 ≤ 3 ∧ len01 ≤ 3
  · exact lcanon s0 a00 len00 cap00 a01 len01 cap01 _ _ w hx00 hx01 hn
  · exact lcanon_long s0 a00 len00 cap00 a01 len01 cap01 w hn

set_option maxRecDepth 100000 in
theorem lifted (os : Os) (started : os.Started) (H : Type) (enc : TypeId × Value → H) :
    ReturnsInHanded {} Try.checked os 3 .any (Rows.rationalCanonSpec.pre6 enc Try.prog Try.f3 Rows.rationalCanonRow.domain false) (Rows.rationalCanonSpec.post enc Try.prog Try.f3 false true false false) := by
  refine returnsInHanded_of_change (C := Try.checked) own started (by kernel_rfl) Try.func3
    (ChangeSpec.witness6 (enc := enc) (C := Try.checked) false ⟨#[], #[.agg #[.bool false, .slice none 0 0, .slice none 0 0]], []⟩ 8 (by kernel_rfl) (by kernel_rfl) (by kernel_rfl) (by kernel_rfl)) ?_
  intro W base args ds gs before hval0 hW hcnd _
  have hval : ∀ (j : Nat) t v, Try.f3.params[j]? = some t → args[j]? = some v → Value.okWide Try.prog W .any base t v := hval0
  have hW' := hW
  obtain ⟨p, q, hA0, hV, rfl, hfz, hnd⟩ := hW
  have hA : DataW.TrodAll enc Try.prog W 0 (fun _ => true) true Try.f3.params.toList args.toList ds p := hA0
  rw [Try.params3] at hA hval
  obtain ⟨v0, vs0, d0, ds0, p0, q0, hargs, rfl, rfl, h0, r0⟩ := trodAll_cons hA
  obtain ⟨rfl, rfl, rfl⟩ := trodAll_nil r0
  obtain rfl : args = #[v0] := by cases args; simp_all
  obtain ⟨rfl, rfl⟩ := trodVars_none hV
  have k0 := h0
  have lt0 : ∀ x ∈ p0, x.block < W.heap.size := by obtain ⟨m, hm⟩ := k0; exact DataW.trod_lt m _ _ _ hm
  obtain ⟨x0, u00, u01, y0, y00, y01, m0, rfl, -, -, hy0, hy00, hy01⟩ := open_agg3 Try.underlying25 (by kernel_rfl) cellsQ (hval 0 25 v0 rfl rfl) h0
  obtain ⟨s0, e0, -⟩ := DataW.trod_bool Try.underlying4 hy0
  obtain rfl : x0 = .bool s0 := by simpa using e0
  obtain ⟨a00, len00, cap00, z00, rfl, w00⟩ : ∃ a len cap zs, u00 = .slice a len cap ∧ IsRow .u32 W a len cap zs := by
    rcases open_ints Try.underlying23 Try.underlying58 (by kernel_rfl) hy00 with ⟨hcs, _⟩ | ⟨x, l, c, zs, hcs, _, hl, hm, hz, _, hcell, hwz⟩
    · simp at hcs
      exact ⟨none, 0, 0, [], hcs, .inl ⟨rfl, rfl, rfl, rfl⟩⟩
    · simp at hcs
      exact ⟨some x, l, c, zs, hcs, .inr ⟨_, rfl, hl, hm, by simpa using hz, hcell, hwz⟩⟩
  obtain ⟨a01, len01, cap01, z01, rfl, w01⟩ : ∃ a len cap zs, u01 = .slice a len cap ∧ IsRow .u32 W a len cap zs := by
    rcases open_ints Try.underlying23 Try.underlying58 (by kernel_rfl) hy01 with ⟨hcs, _⟩ | ⟨x, l, c, zs, hcs, _, hl, hm, hz, _, hcell, hwz⟩
    · simp at hcs
      exact ⟨none, 0, 0, [], hcs, .inl ⟨rfl, rfl, rfl, rfl⟩⟩
    · simp at hcs
      exact ⟨some x, l, c, zs, hcs, .inr ⟨_, rfl, hl, hm, by simpa using hz, hcell, hwz⟩⟩
  clear hA0 hval0
  refine (walk s0 a00 len00 cap00 z00 a01 len01 cap01 z01 W w00 w01).mono fun e W' ⟨he, bel⟩ => ?_
  subst he
  exact ⟨_, rfl, _, _, _, [], _, [], hW', trodAll_mk1 (shut_bool Try.underlying4 _), (trodAll_cons_mk (Below.trod laidOut (by kernel_rfl) (of_decide_eq_true (by kernel_rfl)) k0 bel lt0) trodAll_mk0), rfl, bel.frame _, fun h => by cases h⟩

theorem over : Rows.rationalCanonRow.holds Try.pinned (OpenSpec.ofChange Rows.rationalCanonSpec) :=
  OpenClaim.holds_of_wide 3 Try.f3 rfl rfl rfl rfl rfl rfl rfl ⟨rfl, rfl, rfl, rfl, rfl⟩ rfl rfl rfl rfl rfl (by kernel_rfl) Try.func3 (by kernel_rfl)
    (of_decide_eq_true (by kernel_rfl)) (by unfold Func.isWrapper; first | (rw [if_pos (by decide +kernel)]; kernel_rfl) | (rw [if_neg (by decide +kernel)]; exact ⟨rfl, rfl⟩))
    (fun os started H enc _ => lifted os started H enc)

/-- The statement. -/
theorem proved : Rows.RationalCanonSaid := over
#print axioms proved
end Go.Proofs.Ytabgniijlofapaa.rationalCanon
