/-
  Proved here: IntervalRound returns true for every interval a (two rational numbers, each a sign and two slices of 32-bit limbs) and every int, and a reads afterwards as it read before. The table that math/bits looks into holds what the program's text lays there (the row's own condition); no other condition.
  (The frame follows the guide's proof-skeleton.mjs, a struct opened by open_agg2 or open_agg3; the walk is ours.)
-/
import Derived.Test.YtnddhohjfjlaiaaGreatDoorRows
import Derived.Test.YtnddhohjfjlaiaaGreatDoorCards
import Derived.Test.YtnddhohjfjlaiaaGreatDoorTie
import Derived.LaidMore
import Derived.Lay
import Derived.SevenTiedAt
import Derived.Stop.Joined
import Derived.WalkKit
import Derived.Test.YtnddhohjfjlaiaaGreatDoorU5
import Derived.Test.YtnddhohjfjlaiaaGreatDoorTb
import Derived.ProofKit
import Derived.OpenShut
import Derived.ShutString
import Derived.ChangeOld
import Derived.Below
import Derived.Lib.SmallJoins
namespace Go.Proofs.YtnddhohjfjlaiaaGreatDoor.intervalRound
open Go.ChangeShapes Go.WideShapes Go.ChangeAt Go.RowKit Go.Joins Go.Deep
open Go.ChangeMaps (open_string shut_string)
set_option linter.unusedVariables false

theorem own : ownKnob Tryz.prog.godebug = none := by kernel_rfl
theorem laidOut : laidOutB Tryz.prog = true := by kernel_rfl
theorem cellsV : Tryz.prog.cellsOf 27 = 6 := by kernel_rfl
theorem cellsR : Tryz.prog.cellsOf 25 = 3 := by kernel_rfl
/-- A struct of two structs of three fields of one cell each, by value: its six cells, each with the reading of its field. -/
theorem open_six {H : Type} {enc : TypeId × Value → H} {P : Program} {w : World} {base : Nat} {spare : Nat → Bool} {held : Bool} {r : Reach} {b0 : Nat} {t t' : TypeId} {f0 f1 g0 g1 g2 : Field} {v : Value} {d : DataW H} {p : List MemPlace}
    (hs : P.underlying t = some (.struct #[f0, f1])) (hC : P.cellsOf t = 6) (ht0 : f0.type = t') (ht1 : f1.type = t') (ho0 : f0.offset = 0) (ho1 : f1.offset = 3)
    (hs' : P.underlying t' = some (.struct #[g0, g1, g2])) (hone : oneCellFields P #[g0, g1, g2] = true) (hC' : P.cellsOf t' = 3) (hv : Value.okWide P w r b0 t v) (h : DataW.Trod enc P w base spare held t v d p) :
    ∃ (c0 c1 c2 c3 c4 c5 : Value) (y0 y1 y2 y3 y4 y5 : DataW H × List MemPlace) (n m : Nat), v = .agg #[c0, c1, c2, c3, c4, c5] ∧
      DataW.trod enc P w base spare held n g0.type [c0] = some y0 ∧ DataW.trod enc P w base spare held n g1.type [c1] = some y1 ∧ DataW.trod enc P w base spare held n g2.type [c2] = some y2 ∧
      DataW.trod enc P w base spare held m g0.type [c3] = some y3 ∧ DataW.trod enc P w base spare held m g1.type [c4] = some y4 ∧ DataW.trod enc P w base spare held m g2.type [c5] = some y5 := by
  obtain ⟨cs, rfl, hsz⟩ := okWide_struct hs hv
  obtain ⟨l⟩ := cs
  obtain ⟨c0, c1, c2, c3, c4, c5, rfl⟩ : ∃ c0 c1 c2 c3 c4 c5, l = [c0, c1, c2, c3, c4, c5] := by
    have hl : l.length = 6 := (show l.length = _ from hsz).trans hC
    match l, hl with
    | [c0, c1, c2, c3, c4, c5], _ => exact ⟨c0, c1, c2, c3, c4, c5, rfl⟩
  obtain ⟨fuel, hf⟩ := h
  obtain ⟨x0, x1, n, _, _, h0, h1⟩ := trod_struct2 hs hf
  rw [ht0, ho0, hC'] at h0
  rw [ht1, ho1, hC'] at h1
  have h0' : DataW.trod enc P w base spare held n t' [c0, c1, c2] = some x0 := by simpa [Value.cells] using h0
  have h1' : DataW.trod enc P w base spare held n t' [c3, c4, c5] = some x1 := by simpa [Value.cells] using h1
  obtain ⟨o0, k0⟩ := hone_of hone 0 g0 rfl
  obtain ⟨o1, k1⟩ := hone_of hone 1 g1 rfl
  obtain ⟨o2, k2⟩ := hone_of hone 2 g2 rfl
  obtain ⟨y0, y1, y2, n0, _, _, e0, e1, e2⟩ := trod_struct3 hs' h0'
  obtain ⟨y3, y4, y5, n1, _, _, e3, e4, e5⟩ := trod_struct3 hs' h1'
  exact ⟨c0, c1, c2, c3, c4, c5, y0, y1, y2, y3, y4, y5, n0, n1, rfl, by simpa [o0, k0] using e0, by simpa [o1, k1] using e1, by simpa [o2, k2] using e2, by simpa [o0, k0] using e3, by simpa [o1, k1] using e4, by simpa [o2, k2] using e5⟩

/-- What the walk is told of a slice of integers that came in: it is nil; or it leads to a row of 'cap' cells, the numbers 'zs' (the first 'len' are its elements, the rest its spare room), each fitting its kind. -/
def IsRow (k : IntKind) (w : World) (a : Option Addr) (len cap : Nat) (zs : List Int) : Prop :=
  (a = none ∧ len = 0 ∧ cap = 0 ∧ zs = []) ∨
  ∃ x, a = some x ∧ len ≤ cap ∧ cap ≤ maxLen ∧ zs.length = cap ∧ (∀ i, i < zs.length → w.cell? (x.add i) = some (.int k (zs.getD i 0))) ∧ ∀ n ∈ zs, (Lit.int k n).wf = true

theorem walk (s00 s01 : Bool) (a00 : Option Addr) (len00 cap00 : Nat) (z00 : List Int) (a01 : Option Addr) (len01 cap01 : Nat) (z01 : List Int) (a02 : Option Addr) (len02 cap02 : Nat) (z02 : List Int) (a03 : Option Addr) (len03 cap03 : Nat) (z03 : List Int) (a1 : Int) (w : World) (w00 : IsRow .u32 w a00 len00 cap00 z00) (w01 : IsRow .u32 w a01 len01 cap01 z01) (w02 : IsRow .u32 w a02 len02 cap02 z02) (w03 : IsRow .u32 w a03 len03 cap03 z03) (w1 : (Lit.int .i64 a1).wf = true) (T : Tb w) :
    Calls Tryz.prog 3 #[.agg #[.bool s00, .slice a00 len00 cap00, .slice a01 len01 cap01, .bool s01, .slice a02 len02 cap02, .slice a03 len03 cap03], .int .i64 a1] w fun e w' => e = .returned (.bool true) ∧ Below w.heap.size w w' := by
  obtain ⟨x00, hx00⟩ := rd_of w00
  obtain ⟨x01, hx01⟩ := rd_of w01
  obtain ⟨x02, hx02⟩ := rd_of w02
  obtain ⟨x03, hx03⟩ := rd_of w03
  exact law_iround ⟨s00, a00, len00, cap00, a01, len01, cap01⟩ ⟨s01, a02, len02, cap02, a03, len03, cap03⟩ x00 x01 x02 x03 a1 w ⟨hx00, hx01⟩ ⟨hx02, hx03⟩ T

set_option maxRecDepth 100000 in
theorem lifted (os : Os) (started : os.Started) (H : Type) (enc : TypeId × Value → H) :
    ReturnsInHanded {} Tryz.checked os 3 .any (fun w args => (Rows.intervalRoundSpec.pre enc Tryz.prog Tryz.f3 Rows.intervalRoundRow.domain false w args ∧ laidMetH Tryz.prog Rows.intervalRoundRow.laid w) ∧ sizedMet enc Tryz.prog Tryz.f3 (OpenSpec.ofChange Rows.intervalRoundSpec) false w args)
      (Rows.intervalRoundSpec.post enc Tryz.prog Tryz.f3 false true false false) := by
  refine returnsInHanded_of_change_and (C := Tryz.checked) (X := fun w _ => laidMetH Tryz.prog Rows.intervalRoundRow.laid w) (fun _ _ _ hh h => h.of_heap hh) own started (by kernel_rfl) Tryz.func3
    (ChangeSpec.witness_shaped (enc := enc) (C := Tryz.checked) (os := os) (X := fun w _ => laidMetH Tryz.prog Rows.intervalRoundRow.laid w) false (World.laidAll Tryz.prog os Rows.intervalRoundRow.laid) #[.agg #[.bool false, .slice none 0 0, .slice none 0 0, .bool false, .slice none 0 0, .slice none 0 0], .int .i64 0] 8 (World.laidAll_os _ _ _)
      (World.shaped_of_ZipB (by kernel_rfl) (by kernel_rfl)) (by kernel_rfl) (by kernel_rfl) (by kernel_rfl)
      (by rw [MakeChecks.laidMetH_plain _ _ _ (by kernel_rfl)]; exact laidMet_laidAll _ (by kernel_rfl) (by kernel_rfl))) ?_
  intro W base args ds gs before hval0 hW _ _ hL _
  have T : Tb W := tb_of hL
  have hval : ∀ (j : Nat) t v, Tryz.f3.params[j]? = some t → args[j]? = some v → Value.okWide Tryz.prog W .any base t v := hval0
  have hW' := hW
  obtain ⟨p, q, hA0, hV, rfl, hfz, hnd⟩ := hW
  have hA : DataW.TrodAll enc Tryz.prog W 0 (fun _ => true) true Tryz.f3.params.toList args.toList ds p := hA0
  rw [Tryz.params3] at hA hval
  obtain ⟨v0, vs0, d0, ds0, p0, q0, hargs, rfl, rfl, h0, r0⟩ := trodAll_cons hA
  obtain ⟨v1, vs1, d1, ds1, p1, q1, rfl, rfl, rfl, h1, r1⟩ := trodAll_cons r0
  obtain ⟨rfl, rfl, rfl⟩ := trodAll_nil r1
  obtain rfl : args = #[v0, v1] := by cases args; simp_all
  obtain ⟨rfl, rfl⟩ := trodVars_none hV
  have k0 := h0
  have lt0 : ∀ x ∈ p0, x.block < W.heap.size := by obtain ⟨m, hm⟩ := k0; exact DataW.trod_lt m _ _ _ hm
  obtain ⟨x00, u00, u01, x01, u02, u03, y00, y01, y02, y03, y04, y05, m00, m01, rfl, hy00, hy01, hy02, hy03, hy04, hy05⟩ := open_six Tryz.underlying27 cellsV rfl rfl rfl rfl Tryz.underlying25 (by kernel_rfl) cellsR (hval 0 27 v0 rfl rfl) h0
  obtain ⟨s00, e00_, -⟩ := DataW.trod_bool Tryz.underlying4 hy00
  obtain rfl : x00 = .bool s00 := by simpa using e00_
  obtain ⟨s01, e01_, -⟩ := DataW.trod_bool Tryz.underlying4 hy03
  obtain rfl : x01 = .bool s01 := by simpa using e01_
  obtain ⟨a00, len00, cap00, z00, rfl, w00⟩ : ∃ a len cap zs, u00 = .slice a len cap ∧ IsRow .u32 W a len cap zs := by
    rcases open_ints Tryz.underlying23 Tryz.underlying57 (by kernel_rfl) hy01 with ⟨hcs, _⟩ | ⟨x, l, c, zs, hcs, _, hl, hm, hz, _, hcell, hwz⟩
    · simp at hcs
      exact ⟨none, 0, 0, [], hcs, .inl ⟨rfl, rfl, rfl, rfl⟩⟩
    · simp at hcs
      exact ⟨some x, l, c, zs, hcs, .inr ⟨_, rfl, hl, hm, by simpa using hz, hcell, hwz⟩⟩
  obtain ⟨a01, len01, cap01, z01, rfl, w01⟩ : ∃ a len cap zs, u01 = .slice a len cap ∧ IsRow .u32 W a len cap zs := by
    rcases open_ints Tryz.underlying23 Tryz.underlying57 (by kernel_rfl) hy02 with ⟨hcs, _⟩ | ⟨x, l, c, zs, hcs, _, hl, hm, hz, _, hcell, hwz⟩
    · simp at hcs
      exact ⟨none, 0, 0, [], hcs, .inl ⟨rfl, rfl, rfl, rfl⟩⟩
    · simp at hcs
      exact ⟨some x, l, c, zs, hcs, .inr ⟨_, rfl, hl, hm, by simpa using hz, hcell, hwz⟩⟩
  obtain ⟨a02, len02, cap02, z02, rfl, w02⟩ : ∃ a len cap zs, u02 = .slice a len cap ∧ IsRow .u32 W a len cap zs := by
    rcases open_ints Tryz.underlying23 Tryz.underlying57 (by kernel_rfl) hy04 with ⟨hcs, _⟩ | ⟨x, l, c, zs, hcs, _, hl, hm, hz, _, hcell, hwz⟩
    · simp at hcs
      exact ⟨none, 0, 0, [], hcs, .inl ⟨rfl, rfl, rfl, rfl⟩⟩
    · simp at hcs
      exact ⟨some x, l, c, zs, hcs, .inr ⟨_, rfl, hl, hm, by simpa using hz, hcell, hwz⟩⟩
  obtain ⟨a03, len03, cap03, z03, rfl, w03⟩ : ∃ a len cap zs, u03 = .slice a len cap ∧ IsRow .u32 W a len cap zs := by
    rcases open_ints Tryz.underlying23 Tryz.underlying57 (by kernel_rfl) hy05 with ⟨hcs, _⟩ | ⟨x, l, c, zs, hcs, _, hl, hm, hz, _, hcell, hwz⟩
    · simp at hcs
      exact ⟨none, 0, 0, [], hcs, .inl ⟨rfl, rfl, rfl, rfl⟩⟩
    · simp at hcs
      exact ⟨some x, l, c, zs, hcs, .inr ⟨_, rfl, hl, hm, by simpa using hz, hcell, hwz⟩⟩
  obtain ⟨a1, rfl, rfl, rfl, w1⟩ := open_int Tryz.underlying3 (hval 1 3 v1 rfl rfl) h1
  clear hA0 hval0
  refine (walk s00 s01 a00 len00 cap00 z00 a01 len01 cap01 z01 a02 len02 cap02 z02 a03 len03 cap03 z03 a1 W w00 w01 w02 w03 w1 T).mono fun e W' ⟨he, bel⟩ => ?_
  subst he
  exact ⟨_, rfl, _, _, _, [], _, [], hW', trodAll_mk1 (shut_bool Tryz.underlying4 _), (trodAll_cons_mk (Below.trod laidOut (by kernel_rfl) (of_decide_eq_true (by kernel_rfl)) k0 bel lt0) (trodAll_cons_mk (shut_int Tryz.underlying3 w1) trodAll_mk0)), rfl, bel.frame _, fun h => by cases h⟩

theorem over : Rows.intervalRoundRow.holds Tryz.pinned (OpenSpec.ofChange Rows.intervalRoundSpec) :=
  OpenClaim.holds_of_wide 3 Tryz.f3 rfl rfl rfl rfl rfl rfl rfl ⟨rfl, rfl, rfl, rfl, rfl⟩ rfl rfl rfl rfl rfl (by kernel_rfl) Tryz.func3 (by kernel_rfl)
    (of_decide_eq_true (by kernel_rfl)) (by unfold Func.isWrapper; first | (rw [if_pos (by decide +kernel)]; kernel_rfl) | (rw [if_neg (by decide +kernel)]; exact ⟨rfl, rfl⟩))
    (fun os started H enc _ => lifted os started H enc)

/-- No parameter wants a stand-in; the program's own looks are off. -/
theorem plain (f : FuncId) (fn : Func) (hf : Tryz.pinned.checked.prog.funcNamed "relucert/relucertlaw06.IntervalRound" = some f) (hfn : Tryz.pinned.checked.prog.funcs[f]? = some fn) :
    false = Tryz.pinned.checked.prog.looks [] ∧ ∀ (j : Nat) t, fn.params[j]? = some t → Tryz.pinned.checked.prog.wantsStandIn t = false := by
  obtain rfl : f = 3 := Option.some.inj ((show Tryz.prog.funcNamed "relucert/relucertlaw06.IntervalRound" = some 3 by kernel_rfl).symm.trans hf) |>.symm
  obtain rfl : fn = Tryz.f3 := (Option.some.inj (Tryz.func3.symm.trans hfn)).symm
  refine ⟨by kernel_rfl, fun j t ht => ?_⟩
  rw [Tryz.params3] at ht
  have hm := Array.mem_of_getElem? ht
  obtain rfl | rfl : t = 3 ∨ t = 27 := by simp at hm; first | exact hm | (rcases hm with h | h <;> first | exact .inl h | exact .inr h) | (rcases hm with h | h | h <;> first | exact .inl h | exact .inr h)
  · exact (show Tryz.prog.wantsStandIn 3 = false by kernel_rfl)
  · exact (show Tryz.prog.wantsStandIn 27 = false by kernel_rfl)
/-- The statement. -/
theorem proved : Rows.IntervalRoundCardSaid :=
  Claim7.holds_tied_plain_at .later [] _ _ _ _ over (fun _ h => by cases h) (by kernel_rfl) (fun _ h => by cases h) intervalRound_row_tie rfl ⟨rfl, rfl⟩ (by kernel_rfl) rfl plain (by kernel_rfl)
#print axioms proved
end Go.Proofs.YtnddhohjfjlaiaaGreatDoor.intervalRound
