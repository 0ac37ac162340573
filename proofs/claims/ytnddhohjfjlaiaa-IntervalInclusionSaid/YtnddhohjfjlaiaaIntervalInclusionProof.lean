/-
  Proved here: IntervalInclusion returns true for every interval a (two rational numbers, each a sign and two slices of 32-bit limbs), interval b alike and every uint8, and a and b read afterwards as they read before. No condition is left over.
  (The frame follows the guide's proof-skeleton.mjs, a struct opened by open_agg2 or open_agg3; the walk is ours.)
-/
import Derived.Test.YtnddhohjfjlaiaaRows
import Derived.WalkKit
import Derived.Test.YtnddhohjfjlaiaaUB
import Derived.ProofKit
import Derived.OpenShut
import Derived.ShutString
import Derived.ChangeOld
import Derived.Below
import Derived.Lib.SmallJoins
namespace Go.Proofs.Ytnddhohjfjlaiaa.intervalInclusion
open Go.ChangeShapes Go.WideShapes Go.ChangeAt Go.RowKit Go.Joins Go.Deep
open Go.ChangeMaps (open_string shut_string)
set_option linter.unusedVariables false

theorem own : ownKnob Try.prog.godebug = none := by kernel_rfl
theorem laidOut : laidOutB Try.prog = true := by kernel_rfl
theorem cellsV : Try.prog.cellsOf 29 = 6 := by kernel_rfl
theorem cellsR : Try.prog.cellsOf 25 = 3 := by kernel_rfl
/-- A struct of two structs of three fields of one cell each, by value: its six cells, each with the reading of its field. -/
theorem open_six {H : Type} {enc : TypeId × Value → H} {P : Program} {w : World} {base : Nat} {spare : Nat → Bool} {held : Bool} {r : Reach} {b0 : Nat} {t t' : TypeId} {f0 f1 g0 g1 g2 : Field} {v : Value} {d : DataW H} {p : List MemPlace}
    (hs : P.underlying t = some (.struct #[f0, f1])) (hC : P.cellsOf t = 6) (ht0 : f0.type = t') (ht1 : f1.type = t') (ho0 : f0.offset = 0) (ho1 : f1.offset = 3)
    (hs' : P.underlying t' = some (.struct #[g0, g1, g2])) (hone : oneCellFields P #[g0, g1, g2] = true) (hC' : P.cellsOf t' = 3) (hv : Value.okWide P w r b0 t v) (h : DataW.Trod enc P w base spare held t v d p) :
    ∃ (c0 c1 c2 c3 c4 c5 : Value) (y0 y1 y2 y3 y4 y5 : DataW H × List MemPlace) (n m : Nat), v = .agg #[c0, c1, c2, c3, c4, c5] ∧
      DataW.trod enc P w base spare held n g0.type [c0] = some y0 ∧ DataW.trod enc P w base spare held n g1.type [c1] = some y1 ∧ DataW.trod enc P w base spare held n g2.type [c2] = some y2 ∧
      DataW.trod enc P w base spare held m g0.type [c3] = some y3 ∧ DataW.trod enc P w base spare held m g1.type [c4] = some y4 ∧ DataW.trod enc P w base spare held m g2.type [c5] = some y5 := by
  obtain ⟨cs, rfl, hsz⟩ := okWide_struct hs hv
  obtain ⟨l⟩ := cs
  obtain ⟨c0, c1, c2, c3, c4, c5, rfl⟩ : ∃ c0 c1 c2 c3 c4 c5, l = [c0, c1, c2, c3, c4, c5] := by
    have hl : l.length = 6 := (show l.length = _ from hsz).trans hC
    match l, hl with
    | [c0, c1, c2, c3, c4, c5], _ => exact ⟨c0, c1, c2, c3, c4, c5, rfl⟩
  obtain ⟨fuel, hf⟩ := h
  obtain ⟨x0, x1, n, _, _, h0, h1⟩ := trod_struct2 hs hf
  rw [ht0, ho0, hC'] at h0
  rw [ht1, ho1, hC'] at h1
  have h0' : DataW.trod enc P w base spare held n t' [c0, c1, c2] = some x0 := by simpa [Value.cells] using h0
  have h1' : DataW.trod enc P w base spare held n t' [c3, c4, c5] = some x1 := by simpa [Value.cells] using h1
  obtain ⟨o0, k0⟩ := hone_of hone 0 g0 rfl
  obtain ⟨o1, k1⟩ := hone_of hone 1 g1 rfl
  obtain ⟨o2, k2⟩ := hone_of hone 2 g2 rfl
  obtain ⟨y0, y1, y2, n0, _, _, e0, e1, e2⟩ := trod_struct3 hs' h0'
  obtain ⟨y3, y4, y5, n1, _, _, e3, e4, e5⟩ := trod_struct3 hs' h1'
  exact ⟨c0, c1, c2, c3, c4, c5, y0, y1, y2, y3, y4, y5, n0, n1, rfl, by simpa [o0, k0] using e0, by simpa [o1, k1] using e1, by simpa [o2, k2] using e2, by simpa [o0, k0] using e3, by simpa [o1, k1] using e4, by simpa [o2, k2] using e5⟩

/-- What the walk is told of a slice of integers that came in: it is nil; or it leads to a row of 'cap' cells, the numbers 'zs' (the first 'len' are its elements, the rest its spare room), each fitting its kind. -/
def IsRow (k : IntKind) (w : World) (a : Option Addr) (len cap : Nat) (zs : List Int) : Prop :=
  (a = none ∧ len = 0 ∧ cap = 0 ∧ zs = []) ∨
  ∃ x, a = some x ∧ len ≤ cap ∧ cap ≤ maxLen ∧ zs.length = cap ∧ (∀ i, i < zs.length → w.cell? (x.add i) = some (.int k (zs.getD i 0))) ∧ ∀ n ∈ zs, (Lit.int k n).wf = true

theorem walk (s00 s01 : Bool) (a00 : Option Addr) (len00 cap00 : Nat) (z00 : List Int) (a01 : Option Addr) (len01 cap01 : Nat) (z01 : List Int) (a02 : Option Addr) (len02 cap02 : Nat) (z02 : List Int) (a03 : Option Addr) (len03 cap03 : Nat) (z03 : List Int) (s10 s11 : Bool) (a10 : Option Addr) (len10 cap10 : Nat) (z10 : List Int) (a11 : Option Addr) (len11 cap11 : Nat) (z11 : List Int) (a12 : Option Addr) (len12 cap12 : Nat) (z12 : List Int) (a13 : Option Addr) (len13 cap13 : Nat) (z13 : List Int) (a2 : Int) (w : World) (w00 : IsRow .u32 w a00 len00 cap00 z00) (w01 : IsRow .u32 w a01 len01 cap01 z01) (w02 : IsRow .u32 w a02 len02 cap02 z02) (w03 : IsRow .u32 w a03 len03 cap03 z03) (w10 : IsRow .u32 w a10 len10 cap10 z10) (w11 : IsRow .u32 w a11 len11 cap11 z11) (w12 : IsRow .u32 w a12 len12 cap12 z12) (w13 : IsRow .u32 w a13 len13 cap13 z13) (w2 : (Lit.int .u8 a2).wf = true) :
    Calls Try.prog 8 #[.agg #[.bool s00, .slice a00 len00 cap00, .slice a01 len01 cap01, .bool s01, .slice a02 len02 cap02, .slice a03 len03 cap03], .agg #[.bool s10, .slice a10 len10 cap10, .slice a11 len11 cap11, .bool s11, .slice a12 len12 cap12, .slice a13 len13 cap13], .int .u8 a2] w fun e w' => e = .returned (.bool true) ∧ Below w.heap.size w w' := by
  obtain ⟨x00, hx00⟩ := rd_of w00
  obtain ⟨x01, hx01⟩ := rd_of w01
  obtain ⟨x02, hx02⟩ := rd_of w02
  obtain ⟨x03, hx03⟩ := rd_of w03
  obtain ⟨x10, hx10⟩ := rd_of w10
  obtain ⟨x11, hx11⟩ := rd_of w11
  obtain ⟨x12, hx12⟩ := rd_of w12
  obtain ⟨x13, hx13⟩ := rd_of w13
  have hk2 : 0 ≤ a2 ∧ a2 < 256 := by
    simp [Lit.wf, IntKind.min, IntKind.max, IntKind.bits, IntKind.signed] at w2
    omega
  exact law_incl ⟨s00, a00, len00, cap00, a01, len01, cap01⟩ ⟨s01, a02, len02, cap02, a03, len03, cap03⟩ ⟨s10, a10, len10, cap10, a11, len11, cap11⟩ ⟨s11, a12, len12, cap12, a13, len13, cap13⟩ x00 x01 x02 x03 x10 x11 x12 x13 a2 w hk2 ⟨hx00, hx01⟩ ⟨hx02, hx03⟩ ⟨hx10, hx11⟩ ⟨hx12, hx13⟩

set_option maxRecDepth 100000 in
theorem lifted (os : Os) (started : os.Started) (H : Type) (enc : TypeId × Value → H) :
    ReturnsInHanded {} Try.checked os 8 .any (Rows.intervalInclusionSpec.pre6 enc Try.prog Try.f8 Rows.intervalInclusionRow.domain false) (Rows.intervalInclusionSpec.post enc Try.prog Try.f8 false true false false) := by
  refine returnsInHanded_of_change (C := Try.checked) own started (by kernel_rfl) Try.func8
    (ChangeSpec.witness6 (enc := enc) (C := Try.checked) false ⟨#[], #[.agg #[.bool false, .slice none 0 0, .slice none 0 0, .bool false, .slice none 0 0, .slice none 0 0], .agg #[.bool false, .slice none 0 0, .slice none 0 0, .bool false, .slice none 0 0, .slice none 0 0], .int .u8 0], []⟩ 8 (by kernel_rfl) (by kernel_rfl) (by kernel_rfl) (by kernel_rfl)) ?_
  intro W base args ds gs before hval0 hW hcnd _
  have hval : ∀ (j : Nat) t v, Try.f8.params[j]? = some t → args[j]? = some v → Value.okWide Try.prog W .any base t v := hval0
  have hW' := hW
  obtain ⟨p, q, hA0, hV, rfl, hfz, hnd⟩ := hW
  have hA : DataW.TrodAll enc Try.prog W 0 (fun _ => true) true Try.f8.params.toList args.toList ds p := hA0
  rw [Try.params8] at hA hval
  obtain ⟨v0, vs0, d0, ds0, p0, q0, hargs, rfl, rfl, h0, r0⟩ := trodAll_cons hA
  obtain ⟨v1, vs1, d1, ds1, p1, q1, rfl, rfl, rfl, h1, r1⟩ := trodAll_cons r0
  obtain ⟨v2, vs2, d2, ds2, p2, q2, rfl, rfl, rfl, h2, r2⟩ := trodAll_cons r1
  obtain ⟨rfl, rfl, rfl⟩ := trodAll_nil r2
  obtain rfl : args = #[v0, v1, v2] := by cases args; simp_all
  obtain ⟨rfl, rfl⟩ := trodVars_none hV
  have k0 := h0
  have lt0 : ∀ x ∈ p0, x.block < W.heap.size := by obtain ⟨m, hm⟩ := k0; exact DataW.trod_lt m _ _ _ hm
  obtain ⟨x00, u00, u01, x01, u02, u03, y00, y01, y02, y03, y04, y05, m00, m01, rfl, hy00, hy01, hy02, hy03, hy04, hy05⟩ := open_six Try.underlying29 cellsV rfl rfl rfl rfl Try.underlying25 (by kernel_rfl) cellsR (hval 0 29 v0 rfl rfl) h0
  obtain ⟨s00, e00_, -⟩ := DataW.trod_bool Try.underlying4 hy00
  obtain rfl : x00 = .bool s00 := by simpa using e00_
  obtain ⟨s01, e01_, -⟩ := DataW.trod_bool Try.underlying4 hy03
  obtain rfl : x01 = .bool s01 := by simpa using e01_
  obtain ⟨a00, len00, cap00, z00, rfl, w00⟩ : ∃ a len cap zs, u00 = .slice a len cap ∧ IsRow .u32 W a len cap zs := by
    rcases open_ints Try.underlying23 Try.underlying68 (by kernel_rfl) hy01 with ⟨hcs, _⟩ | ⟨x, l, c, zs, hcs, _, hl, hm, hz, _, hcell, hwz⟩
    · simp at hcs
      exact ⟨none, 0, 0, [], hcs, .inl ⟨rfl, rfl, rfl, rfl⟩⟩
    · simp at hcs
      exact ⟨some x, l, c, zs, hcs, .inr ⟨_, rfl, hl, hm, by simpa using hz, hcell, hwz⟩⟩
  obtain ⟨a01, len01, cap01, z01, rfl, w01⟩ : ∃ a len cap zs, u01 = .slice a len cap ∧ IsRow .u32 W a len cap zs := by
    rcases open_ints Try.underlying23 Try.underlying68 (by kernel_rfl) hy02 with ⟨hcs, _⟩ | ⟨x, l, c, zs, hcs, _, hl, hm, hz, _, hcell, hwz⟩
    · simp at hcs
      exact ⟨none, 0, 0, [], hcs, .inl ⟨rfl, rfl, rfl, rfl⟩⟩
    · simp at hcs
      exact ⟨some x, l, c, zs, hcs, .inr ⟨_, rfl, hl, hm, by simpa using hz, hcell, hwz⟩⟩
  obtain ⟨a02, len02, cap02, z02, rfl, w02⟩ : ∃ a len cap zs, u02 = .slice a len cap ∧ IsRow .u32 W a len cap zs := by
    rcases open_ints Try.underlying23 Try.underlying68 (by kernel_rfl) hy04 with ⟨hcs, _⟩ | ⟨x, l, c, zs, hcs, _, hl, hm, hz, _, hcell, hwz⟩
    · simp at hcs
      exact ⟨none, 0, 0, [], hcs, .inl ⟨rfl, rfl, rfl, rfl⟩⟩
    · simp at hcs
      exact ⟨some x, l, c, zs, hcs, .inr ⟨_, rfl, hl, hm, by simpa using hz, hcell, hwz⟩⟩
  obtain ⟨a03, len03, cap03, z03, rfl, w03⟩ : ∃ a len cap zs, u03 = .slice a len cap ∧ IsRow .u32 W a len cap zs := by
    rcases open_ints Try.underlying23 Try.underlying68 (by kernel_rfl) hy05 with ⟨hcs, _⟩ | ⟨x, l, c, zs, hcs, _, hl, hm, hz, _, hcell, hwz⟩
    · simp at hcs
      exact ⟨none, 0, 0, [], hcs, .inl ⟨rfl, rfl, rfl, rfl⟩⟩
    · simp at hcs
      exact ⟨some x, l, c, zs, hcs, .inr ⟨_, rfl, hl, hm, by simpa using hz, hcell, hwz⟩⟩
  have k1 := h1
  have lt1 : ∀ x ∈ p1, x.block < W.heap.size := by obtain ⟨m, hm⟩ := k1; exact DataW.trod_lt m _ _ _ hm
  obtain ⟨x10, u10, u11, x11, u12, u13, y10, y11, y12, y13, y14, y15, m10, m11, rfl, hy10, hy11, hy12, hy13, hy14, hy15⟩ := open_six Try.underlying29 cellsV rfl rfl rfl rfl Try.underlying25 (by kernel_rfl) cellsR (hval 1 29 v1 rfl rfl) h1
  obtain ⟨s10, e10_, -⟩ := DataW.trod_bool Try.underlying4 hy10
  obtain rfl : x10 = .bool s10 := by simpa using e10_
  obtain ⟨s11, e11_, -⟩ := DataW.trod_bool Try.underlying4 hy13
  obtain rfl : x11 = .bool s11 := by simpa using e11_
  obtain ⟨a10, len10, cap10, z10, rfl, w10⟩ : ∃ a len cap zs, u10 = .slice a len cap ∧ IsRow .u32 W a len cap zs := by
    rcases open_ints Try.underlying23 Try.underlying68 (by kernel_rfl) hy11 with ⟨hcs, _⟩ | ⟨x, l, c, zs, hcs, _, hl, hm, hz, _, hcell, hwz⟩
    · simp at hcs
      exact ⟨none, 0, 0, [], hcs, .inl ⟨rfl, rfl, rfl, rfl⟩⟩
    · simp at hcs
      exact ⟨some x, l, c, zs, hcs, .inr ⟨_, rfl, hl, hm, by simpa using hz, hcell, hwz⟩⟩
  obtain ⟨a11, len11, cap11, z11, rfl, w11⟩ : ∃ a len cap zs, u11 = .slice a len cap ∧ IsRow .u32 W a len cap zs := by
    rcases open_ints Try.underlying23 Try.underlying68 (by kernel_rfl) hy12 with ⟨hcs, _⟩ | ⟨x, l, c, zs, hcs, _, hl, hm, hz, _, hcell, hwz⟩
    · simp at hcs
      exact ⟨none, 0, 0, [], hcs, .inl ⟨rfl, rfl, rfl, rfl⟩⟩
    · simp at hcs
      exact ⟨some x, l, c, zs, hcs, .inr ⟨_, rfl, hl, hm, by simpa using hz, hcell, hwz⟩⟩
  obtain ⟨a12, len12, cap12, z12, rfl, w12⟩ : ∃ a len cap zs, u12 = .slice a len cap ∧ IsRow .u32 W a len cap zs := by
    rcases open_ints Try.underlying23 Try.underlying68 (by kernel_rfl) hy14 with ⟨hcs, _⟩ | ⟨x, l, c, zs, hcs, _, hl, hm, hz, _, hcell, hwz⟩
    · simp at hcs
      exact ⟨none, 0, 0, [], hcs, .inl ⟨rfl, rfl, rfl, rfl⟩⟩
    · simp at hcs
      exact ⟨some x, l, c, zs, hcs, .inr ⟨_, rfl, hl, hm, by simpa using hz, hcell, hwz⟩⟩
  obtain ⟨a13, len13, cap13, z13, rfl, w13⟩ : ∃ a len cap zs, u13 = .slice a len cap ∧ IsRow .u32 W a len cap zs := by
    rcases open_ints Try.underlying23 Try.underlying68 (by kernel_rfl) hy15 with ⟨hcs, _⟩ | ⟨x, l, c, zs, hcs, _, hl, hm, hz, _, hcell, hwz⟩
    · simp at hcs
      exact ⟨none, 0, 0, [], hcs, .inl ⟨rfl, rfl, rfl, rfl⟩⟩
    · simp at hcs
      exact ⟨some x, l, c, zs, hcs, .inr ⟨_, rfl, hl, hm, by simpa using hz, hcell, hwz⟩⟩
  obtain ⟨a2, rfl, rfl, rfl, w2⟩ := open_int Try.underlying5 (hval 2 5 v2 rfl rfl) h2
  clear hA0 hval0
  refine (walk s00 s01 a00 len00 cap00 z00 a01 len01 cap01 z01 a02 len02 cap02 z02 a03 len03 cap03 z03 s10 s11 a10 len10 cap10 z10 a11 len11 cap11 z11 a12 len12 cap12 z12 a13 len13 cap13 z13 a2 W w00 w01 w02 w03 w10 w11 w12 w13 w2).mono fun e W' ⟨he, bel⟩ => ?_
  subst he
  exact ⟨_, rfl, _, _, _, [], _, [], hW', trodAll_mk1 (shut_bool Try.underlying4 _), (trodAll_cons_mk (Below.trod laidOut (by kernel_rfl) (of_decide_eq_true (by kernel_rfl)) k0 bel lt0) (trodAll_cons_mk (Below.trod laidOut (by kernel_rfl) (of_decide_eq_true (by kernel_rfl)) k1 bel lt1) (trodAll_cons_mk (shut_int Try.underlying5 w2) trodAll_mk0))), rfl, bel.frame _, fun h => by cases h⟩

theorem over : Rows.intervalInclusionRow.holds Try.pinned (OpenSpec.ofChange Rows.intervalInclusionSpec) :=
  OpenClaim.holds_of_wide 8 Try.f8 rfl rfl rfl rfl rfl rfl rfl ⟨rfl, rfl, rfl, rfl, rfl⟩ rfl rfl rfl rfl rfl (by kernel_rfl) Try.func8 (by kernel_rfl)
    (of_decide_eq_true (by kernel_rfl)) (by unfold Func.isWrapper; first | (rw [if_pos (by decide +kernel)]; kernel_rfl) | (rw [if_neg (by decide +kernel)]; exact ⟨rfl, rfl⟩))
    (fun os started H enc _ => lifted os started H enc)

/-- The statement. -/
theorem proved : Rows.IntervalInclusionSaid := over
#print axioms proved
end Go.Proofs.Ytnddhohjfjlaiaa.intervalInclusion
