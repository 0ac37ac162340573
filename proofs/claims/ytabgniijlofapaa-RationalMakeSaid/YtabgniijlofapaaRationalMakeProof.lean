/-
  Proved here: RationalMake returns true for all integers a and b (a sign and a slice of 32-bit limbs each) and every int n, and each reads afterwards as it read before. No condition.
  (The frame follows the guide's proof-skeleton.mjs, a struct opened by open_agg2 or open_agg3; the walk is ours.)
-/
import Derived.Test.YtabgniijlofapaaRows
import Derived.WalkKit
import Derived.Test.YtabgniijlofapaaMakeQLaw
import Derived.ProofKit
import Derived.OpenShut
import Derived.ShutString
import Derived.ChangeOld
import Derived.Below
import Derived.Lib.SmallJoins
namespace Go.Proofs.Ytabgniijlofapaa.rationalMake
open Go.ChangeShapes Go.WideShapes Go.ChangeAt Go.RowKit Go.Joins
open Go.ChangeMaps (open_string shut_string)
set_option linter.unusedVariables false

theorem own : ownKnob Try.prog.godebug = none := by kernel_rfl
theorem laidOut : laidOutB Try.prog = true := by kernel_rfl
theorem cellsI : Try.prog.cellsOf 32 = 2 := by kernel_rfl

/-- What the walk is told of a slice of integers that came in: it is nil; or it leads to a row of 'cap' cells, the numbers 'zs' (the first 'len' are its elements, the rest its spare room), each fitting its kind. -/
def IsRow (k : IntKind) (w : World) (a : Option Addr) (len cap : Nat) (zs : List Int) : Prop :=
  (a = none ∧ len = 0 ∧ cap = 0 ∧ zs = []) ∨
  ∃ x, a = some x ∧ len ≤ cap ∧ cap ≤ maxLen ∧ zs.length = cap ∧ (∀ i, i < zs.length → w.cell? (x.add i) = some (.int k (zs.getD i 0))) ∧ ∀ n ∈ zs, (Lit.int k n).wf = true

theorem walk (s0 : Bool) (a00 : Option Addr) (len00 cap00 : Nat) (z00 : List Int) (s1 : Bool) (a10 : Option Addr) (len10 cap10 : Nat) (z10 : List Int) (a2 : Int) (w : World) (w00 : IsRow .u32 w a00 len00 cap00 z00) (w10 : IsRow .u32 w a10 len10 cap10 z10) (w2 : (Lit.int .i64 a2).wf = true) :
    Calls Try.prog 4 #[.agg #[.bool s0, .slice a00 len00 cap00], .agg #[.bool s1, .slice a10 len10 cap10], .int .i64 a2] w fun e w' => e = .returned (.bool true) ∧ Below w.heap.size w w' := by
  obtain ⟨x0, hx0⟩ := rd_of w00
  obtain ⟨x1, hx1⟩ := rd_of w10
  have q0 : Iz w s0 a00 len00 cap00 (iv s0 x0) := ⟨_, hx0, rfl⟩
  have q1 : Iz w s1 a10 len10 cap10 (iv s1 x1) := ⟨_, hx1, rfl⟩
  have hk : -9223372036854775808 ≤ a2 ∧ a2 ≤ 9223372036854775807 := by
    simp [Lit.wf, IntKind.min, IntKind.max, IntKind.bits, IntKind.signed] at w2
    omega
  by_cases hn : len00 ≤ 3 ∧ len10 ≤ 3
  · by_cases h0 : iv s1 x1 = 0
    · exact lmake0 s0 s1 a00 a10 len00 cap00 len10 cap10 a2 _ _ w q0 q1 hn hk.1 hk.2 h0
    · exact lmake s0 s1 a00 a10 len00 cap00 len10 cap10 a2 _ _ w q0 q1 hn hk.1 hk.2 h0
  · exact lmake_long s0 s1 a00 a10 len00 cap00 len10 cap10 a2 w hn

set_option maxRecDepth 100000 in
theorem lifted (os : Os) (started : os.Started) (H : Type) (enc : TypeId × Value → H) :
    ReturnsInHanded {} Try.checked os 4 .any (Rows.rationalMakeSpec.pre6 enc Try.prog Try.f4 Rows.rationalMakeRow.domain false) (Rows.rationalMakeSpec.post enc Try.prog Try.f4 false true false false) := by
  refine returnsInHanded_of_change (C := Try.checked) own started (by kernel_rfl) Try.func4
    (ChangeSpec.witness6 (enc := enc) (C := Try.checked) false ⟨#[], #[.agg #[.bool false, .slice none 0 0], .agg #[.bool false, .slice none 0 0], .int .i64 0], []⟩ 8 (by kernel_rfl) (by kernel_rfl) (by kernel_rfl) (by kernel_rfl)) ?_
  intro W base args ds gs before hval0 hW hcnd _
  have hval : ∀ (j : Nat) t v, Try.f4.params[j]? = some t → args[j]? = some v → Value.okWide Try.prog W .any base t v := hval0
  have hW' := hW
  obtain ⟨p, q, hA0, hV, rfl, hfz, hnd⟩ := hW
  have hA : DataW.TrodAll enc Try.prog W 0 (fun _ => true) true Try.f4.params.toList args.toList ds p := hA0
  rw [Try.params4] at hA hval
  obtain ⟨v0, vs0, d0, ds0, p0, q0, hargs, rfl, rfl, h0, r0⟩ := trodAll_cons hA
  obtain ⟨v1, vs1, d1, ds1, p1, q1, rfl, rfl, rfl, h1, r1⟩ := trodAll_cons r0
  obtain ⟨v2, vs2, d2, ds2, p2, q2, rfl, rfl, rfl, h2, r2⟩ := trodAll_cons r1
  obtain ⟨rfl, rfl, rfl⟩ := trodAll_nil r2
  obtain rfl : args = #[v0, v1, v2] := by cases args; simp_all
  obtain ⟨rfl, rfl⟩ := trodVars_none hV
  have k0 := h0
  have lt0 : ∀ x ∈ p0, x.block < W.heap.size := by obtain ⟨m, hm⟩ := k0; exact DataW.trod_lt m _ _ _ hm
  obtain ⟨x0, u00, y0, y00, m0, rfl, -, -, hy0, hy00⟩ := open_agg2 Try.underlying32 (by kernel_rfl) cellsI (hval 0 32 v0 rfl rfl) h0
  obtain ⟨s0, e0, -⟩ := DataW.trod_bool Try.underlying4 hy0
  obtain rfl : x0 = .bool s0 := by simpa using e0
  obtain ⟨a00, len00, cap00, z00, rfl, w00⟩ : ∃ a len cap zs, u00 = .slice a len cap ∧ IsRow .u32 W a len cap zs := by
    rcases open_ints Try.underlying23 Try.underlying58 (by kernel_rfl) hy00 with ⟨hcs, _⟩ | ⟨x, l, c, zs, hcs, _, hl, hm, hz, _, hcell, hwz⟩
    · simp at hcs
      exact ⟨none, 0, 0, [], hcs, .inl ⟨rfl, rfl, rfl, rfl⟩⟩
    · simp at hcs
      exact ⟨some x, l, c, zs, hcs, .inr ⟨_, rfl, hl, hm, by simpa using hz, hcell, hwz⟩⟩
  have k1 := h1
  have lt1 : ∀ x ∈ p1, x.block < W.heap.size := by obtain ⟨m, hm⟩ := k1; exact DataW.trod_lt m _ _ _ hm
  obtain ⟨x1, u10, y1, y10, m1, rfl, -, -, hy1, hy10⟩ := open_agg2 Try.underlying32 (by kernel_rfl) cellsI (hval 1 32 v1 rfl rfl) h1
  obtain ⟨s1, e1, -⟩ := DataW.trod_bool Try.underlying4 hy1
  obtain rfl : x1 = .bool s1 := by simpa using e1
  obtain ⟨a10, len10, cap10, z10, rfl, w10⟩ : ∃ a len cap zs, u10 = .slice a len cap ∧ IsRow .u32 W a len cap zs := by
    rcases open_ints Try.underlying23 Try.underlying58 (by kernel_rfl) hy10 with ⟨hcs, _⟩ | ⟨x, l, c, zs, hcs, _, hl, hm, hz, _, hcell, hwz⟩
    · simp at hcs
      exact ⟨none, 0, 0, [], hcs, .inl ⟨rfl, rfl, rfl, rfl⟩⟩
    · simp at hcs
      exact ⟨some x, l, c, zs, hcs, .inr ⟨_, rfl, hl, hm, by simpa using hz, hcell, hwz⟩⟩
  obtain ⟨a2, rfl, rfl, rfl, w2⟩ := open_int Try.underlying3 (hval 2 3 v2 rfl rfl) h2
  clear hA0 hval0
  refine (walk s0 a00 len00 cap00 z00 s1 a10 len10 cap10 z10 a2 W w00 w10 w2).mono fun e W' ⟨he, bel⟩ => ?_
  subst he
  exact ⟨_, rfl, _, _, _, [], _, [], hW', trodAll_mk1 (shut_bool Try.underlying4 _), (trodAll_cons_mk (Below.trod laidOut (by kernel_rfl) (of_decide_eq_true (by kernel_rfl)) k0 bel lt0) (trodAll_cons_mk (Below.trod laidOut (by kernel_rfl) (of_decide_eq_true (by kernel_rfl)) k1 bel lt1) (trodAll_cons_mk (shut_int Try.underlying3 w2) trodAll_mk0))), rfl, bel.frame _, fun h => by cases h⟩

theorem over : Rows.rationalMakeRow.holds Try.pinned (OpenSpec.ofChange Rows.rationalMakeSpec) :=
  OpenClaim.holds_of_wide 4 Try.f4 rfl rfl rfl rfl rfl rfl rfl ⟨rfl, rfl, rfl, rfl, rfl⟩ rfl rfl rfl rfl rfl (by kernel_rfl) Try.func4 (by kernel_rfl)
    (of_decide_eq_true (by kernel_rfl)) (by unfold Func.isWrapper; first | (rw [if_pos (by decide +kernel)]; kernel_rfl) | (rw [if_neg (by decide +kernel)]; exact ⟨rfl, rfl⟩))
    (fun os started H enc _ => lifted os started H enc)

/-- The statement. -/
theorem proved : Rows.RationalMakeSaid := over
#print axioms proved
end Go.Proofs.Ytabgniijlofapaa.rationalMake
