/-
  slices.Chunk over bytes.
-/
import Derived.RangeFuncNested
import Derived.RangeFuncBound
import Derived.RangeFuncCalls
import Derived.RangeFuncLeaves
import Derived.Shelf.Abstract
import Derived.Shelf.RegionOpen
import Derived.WalkKit
import Derived.OwnWalkIn
import Derived.TacticsInMore
import Derived.LoopNIn
import Derived.LoopIn
import Derived.RegionIn
import Derived.Test.YtjpchbcenbjibaaGreatDoorPu
import Derived.Test.YtjpchbcenbjibaaGreatDoorPp
namespace Go.Proofs.YtjpchbcenbjibaaGreatDoor
open Go.RowKit Go.Shelf
set_option linter.unusedVariables false
set_option linter.unusedSimpArgs false

attribute [local go_sem] Oper.semAt_some

/-- What a round keeps: blocks below n₀ but one. -/
def Kq (n₀ X : Nat) (W W' : World) : Prop := W.heap.size ≤ W'.heap.size ∧ ∀ k, k < n₀ → k ≠ X → W'.heap[k]? = W.heap[k]?
theorem Kq.trans {n₀ X : Nat} {a b c : World} (h : Kq n₀ X a b) (k : Kq n₀ X b c) : Kq n₀ X a c := ⟨Nat.le_trans h.1 k.1, fun i h1 h2 => (k.2 i h1 h2).trans (h.2 i h1 h2)⟩
theorem Kq.refl (n₀ X : Nat) (W : World) : Kq n₀ X W W := ⟨Nat.le_refl _, fun _ _ _ => rfl⟩
theorem Kq.put {n₀ X : Nat} {w : World} (hn : n₀ ≤ w.heap.size) (W : World) (l : Nat) (o o' : Obj) (hl : w.heap.size ≤ l) (h : W.heap[l]? = some o) (_ : o.isCells = false) (_ : o.isWalk = false) : Kq n₀ X W (W.putObj l o') :=
  have hb := belowK_b (n₀ := n₀) hn W l o o' hl h (by assumption) (by assumption)
  ⟨hb.size, fun k hk _ => hb.block k hk⟩
theorem Kq.cell {n₀ X : Nat} {W W' : World} (h : Kq n₀ X W W') {p : Addr} (hp : p.block < n₀) (hx : p.block ≠ X) : W'.cell? p = W.cell? p := World.cell?_of_block (w := W) (h.2 p.block hp hx)
/-- A piece of nine bytes as a value. -/
abbrev ckv (b len k : Nat) : Value := .slice (some ⟨b, 9 * k, none⟩) (min 9 (len - 9 * k)) (min 9 (len - 9 * k))
theorem range_snoc (k : Nat) : List.range (k + 1) = List.range k ++ [k] := List.range_succ
set_option maxRecDepth 100000 in
set_option maxHeartbeats 1000000 in
theorem chunk1_in (l S1 S2 n₀ X b len cap n : Nat) (hn : 1 ≤ n) (hlen : len ≤ 100000) (hcap : len ≤ cap) (h1 : S1 < n₀) (h2 : S2 < n₀) (x1 : S1 ≠ X) (x2 : S2 ≠ X) (J Jx : List Nat → World → Prop)
    (hY : ∀ pre x W, J pre W → pre.length < len → YieldAt Fence.wide (n - 1) Tryz.prog l #[ckv b len x] W fun e W' =>
      (e = .returned (.bool true) ∧ J (pre ++ [x]) W' ∧ Kq n₀ X W W') ∨ (e = .returned (.bool false) ∧ Jx (pre ++ [x]) W'))
    (W : World) (c1 : W.cell? ⟨S1, 0, none⟩ = some (.slice (some ⟨b, 0, none⟩) len cap)) (c2 : W.cell? ⟨S2, 0, none⟩ = some (.int .i64 9)) (h0 : J [] W)
    (hJd : ∀ s w, J s w → J s w.drew) :
    CallsIn Fence.wide n Tryz.prog 104 #[.func (.yield l) #[] #[], .pointer (some ⟨S1, 0, none⟩), .pointer (some ⟨S2, 0, none⟩)] W fun e W' => (∃ v, e = .returned v) ∧
      ((∃ ys, ys = List.range ((len + 8) / 9) ∧ J ys W') ∨ (∃ pre, True ∧ Jx pre W')) := by
  refine callsIn_of_wp Tryz.func104 rfl trivial ?_ rfl
  simp only [Tryz.ntmps104, List.size_toArray, List.length_cons, List.length_nil, Nat.reduceAdd, Nat.reduceSub, Array.replicate_succ, Array.replicate_zero, List.push_toArray, List.append_toArray, List.nil_append, List.cons_append]
  gi_wp2
  gi_loopw [4] (fun i wr => ∃ k : Nat, 9 * k ≤ len + 8 ∧ i = .int .i64 ((9 * k : Nat) : Int) ∧ J (List.range k) wr ∧ Kq n₀ X W wr)
    (fun i _ => len + 9 - (intOf i).toNat)
  case atStart => exact ⟨0, by omega, rfl, h0, Kq.refl _ _ _⟩
  case round =>
    obtain ⟨k, hk, rfl, hJs, hnx⟩ := hrel
    have d1 := (hnx.cell (p := ⟨S1, 0, none⟩) h1 x1).trans c1
    have d2 := (hnx.cell (p := ⟨S2, 0, none⟩) h2 x2).trans c2
    obtain ⟨j, hj⟩ : ∃ j, 9 * k = j := ⟨_, rfl⟩
    by_cases hlt : j < len
    · obtain ⟨fn, tmps, assign, body, hy, hR⟩ := hY _ k wr.drew (hJd _ _ hJs) (by rw [List.length_range]; omega)
      dsimp only [ckv] at hy
      rw [hj] at hy ⊢
      obtain ⟨m, hm⟩ : ∃ m, min 9 (len - j) = m := ⟨_, rfl⟩
      rw [hm] at hy
      have g1 : decide ((j : Int) < (len : Int)) = true := by simp; omega
      have hmx : Tryz.prog.follows .mixedOrders = true := by kernel_rfl
      have k1 : (len : Int) - (j : Int) = ((len - j : Nat) : Int) := by omega
      have hmi : min (9 : Int) ((len - j : Nat) : Int) = (m : Int) := by omega
      have hmj : j + m ≤ len := by omega
      have hms : ((j : Int) + (m : Int)).toNat - j = m := by omega
      have HM := hide hm
      have HJ := hide hj
      have HC := hide hcap
      have i1 : (0 : Int) ≤ (j : Int) + (m : Int) := by omega
      have i2 : (j : Int) + (m : Int) ≤ (cap : Int) := by omega
      have i3 : (j : Int) ≤ (j : Int) + (m : Int) := by omega
      clear hm hj
      gi_wp2
      gi_region_o
      all_goals gi_wp2
      refine hR.mono ?_
      rintro e W3 (⟨rfl, hJ3, hk3⟩ | ⟨rfl, hJx3⟩)
      · have d3 : W3.cell? ⟨S2, 0, none⟩ = some (.int .i64 9) := (hk3.cell (p := ⟨S2, 0, none⟩) h2 x2).trans d2
        gi_wp2
        go_roundw
        case rel => exact ⟨k + 1, by have := HJ.out; omega, by have := HJ.out; congr 1; omega, by rw [range_snoc]; exact hJ3, hnx.trans ⟨hk3.1, hk3.2⟩⟩
        case measure => simp [intOf]; omega
      · gi_wp2
        refine bodyPost_ret (results_none rfl _ _ _) rfl ?_
        exact ⟨⟨_, rfl⟩, .inr ⟨_, trivial, hJx3⟩⟩
    · obtain rfl : k = (len + 8) / 9 := by omega
      have g1 : decide ((j : Int) < (len : Int)) = false := by simp; omega
      rw [hj]
      gi_wp2
      go_end0
      exact ⟨⟨_, rfl⟩, .inl ⟨_, rfl, hJs⟩⟩
theorem chunk_stops (S1 S2 n₀ X b len cap n : Nat) (hn : 1 ≤ n) (hlen : len ≤ 100000) (hcap : len ≤ cap) (h1 : S1 < n₀) (h2 : S2 < n₀) (x1 : S1 ≠ X) (x2 : S2 ≠ X) (w : World) (hn₀ : n₀ ≤ w.heap.size)
    (c1 : w.cell? ⟨S1, 0, none⟩ = some (.slice (some ⟨b, 0, none⟩) len cap)) (c2 : w.cell? ⟨S2, 0, none⟩ = some (.int .i64 9)) :
    SeqStopsK Fence.wide n Tryz.prog 104 #[.pointer (some ⟨S1, 0, none⟩), .pointer (some ⟨S2, 0, none⟩)] (fun x : Nat => #[ckv b len x]) (Kq n₀ X) (fun ys => ys = List.range ((len + 8) / 9)) (fun _ => True) len w := fun l J Jx W hW hJ _ hY h0 =>
  chunk1_in l S1 S2 n₀ X b len cap n hn hlen hcap h1 h2 x1 x2 J Jx hY W ((hW.cell (p := ⟨S1, 0, none⟩) (by show S1 < w.heap.size; omega)).trans c1) ((hW.cell (p := ⟨S2, 0, none⟩) (by show S2 < w.heap.size; omega)).trans c2) h0
    (fun s w hs => hJ s w w.drew none hs (grown_drewP w none) (fun r e => by cases e))
set_option maxHeartbeats 1000000 in
theorem chunk_in (A : Option Addr) (len cap n : Nat) (w : World) :
    CallsIn Fence.wide n Tryz.prog 90 #[.slice A len cap, .int .i64 9] w fun e w' => e = .returned (.func (.func 104) #[] #[.pointer (some ⟨w.heap.size, 0, none⟩), .pointer (some ⟨w.heap.size + 1, 0, none⟩)]) ∧ w' = (w.alloc (.cells #[.slice A len cap] 72)).alloc (.cells #[.int .i64 9] 3) := by
  have hc := cell_newV (w.alloc (.cells #[.slice A len cap] 72)) (.int .i64 9) 3
  rw [World.size_alloc] at hc
  refine callsIn_of_wp Tryz.func90 rfl trivial ?_ rfl
  simp only [Tryz.ntmps90, List.size_toArray, List.length_cons, List.length_nil, Nat.reduceAdd, Nat.reduceSub, Array.replicate_succ, Array.replicate_zero, List.push_toArray, List.append_toArray, List.nil_append, List.cons_append]
  gi_wp2
  go_ret
  exact ⟨rfl, rfl⟩
end Go.Proofs.YtjpchbcenbjibaaGreatDoor
