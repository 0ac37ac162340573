/-
  Words for slices of limbs in memory: 'Rd': a slice reads as a list of limbs; 'Blk': a block that is known whole.
-/
import Derived.WalkKit
import Derived.WalkLawsBesides
import Derived.Laws.OwnMore
import Derived.Deep.Draws
import Derived.Laws.Rows
import Derived.Deep.AppendLies
import Derived.Maps.AppendAt
import Derived.Deep.QuietTactic
import Derived.BigQuiet
import Derived.Test.YtefcpcekoihgjaaNum
namespace Go.Proofs.Ytefcpcekoihgjaa
open Go.RowKit

theorem hide {p : Prop} (h : p) : Hid p := h
theorem unhide {p : Prop} (h : Hid p) : p := h

theorem quiet_add_same {P : Program} {f : FuncId} {args : Array Value} {w : World} {a n : Nat} {v : Value}
    (h : Calls P f args (w.drewN (a + n)) fun e w' => e = .returned v ∧ w' = w.drewN (a + n)) :
    Calls P f args (w.drewN (a + n)) fun e w'' => e = .returned v ∧ ∃ m, w'' = w.drewN (a + m) :=
  h.mono fun _ _ ⟨he, hm⟩ => ⟨he, n, hm⟩
theorem quiet_add_left {P : Program} {f : FuncId} {args : Array Value} {w : World} {a n : Nat} {v : Value}
    (h : Calls P f args (w.drewN (a + n)) fun e w' => e = .returned v ∧ w.drewN (a + n) = w') :
    Calls P f args (w.drewN (a + n)) fun e w'' => e = .returned v ∧ ∃ m, w'' = w.drewN (a + m) :=
  h.mono fun _ _ ⟨he, hm⟩ => ⟨he, n, hm.symm⟩
theorem quiet_left {P : Program} {f : FuncId} {args : Array Value} {w : World} {n : Nat} {v : Value}
    (h : Calls P f args (w.drewN n) fun e w' => e = .returned v ∧ w.drewN n = w') : Calls P f args (w.drewN n) fun e w'' => e = .returned v ∧ ∃ m, w'' = w.drewN m :=
  h.mono fun _ _ ⟨he, hm⟩ => ⟨he, n, hm.symm⟩
theorem quiet_same {P : Program} {f : FuncId} {args : Array Value} {w : World} {n : Nat} {v : Value}
    (h : Calls P f args (w.drewN n) fun e w' => e = .returned v ∧ w' = w.drewN n) : Calls P f args (w.drewN n) fun e w'' => e = .returned v ∧ ∃ m, w'' = w.drewN m :=
  h.mono fun _ _ ⟨he, hm⟩ => ⟨he, n, hm⟩

theorem drewN3 (w : World) (a b c : Nat) : ∃ m, ((w.drewN a).drewN b).drewN c = w.drewN m := ⟨_, by rw [World.drewN_drewN, World.drewN_drewN]⟩
theorem drewN2 (w : World) (a b : Nat) : ∃ m, (w.drewN a).drewN b = w.drewN m := ⟨_, by rw [World.drewN_drewN]⟩

/-- One limb as a value. -/
abbrev U (n : Nat) : Value := .int .u32 (n : Int)

structure Rd (w : World) (A : Option Addr) (n c : Nat) (xs : List Nat) : Prop where
  len : xs.length = n
  sm : Sm xs
  cap : n ≤ c
  at_ : 0 < n → ∃ b off, A = some ⟨b, off, none⟩ ∧ b < w.heap.size ∧ ∀ k, k < n → w.cell? ⟨b, off + k, none⟩ = some (.int .u32 (lim xs k : Nat))

/-- The slice does not lie in block g. -/
def Away (A : Option Addr) (n g : Nat) : Prop := 0 < n → ∀ ad, A = some ad → ad.block ≠ g

section
variable {w w' : World} {A : Option Addr} {n c : Nat} {xs : List Nat}

theorem Rd.empty (w : World) (A : Option Addr) (c : Nat) : Rd w A 0 c [] := ⟨rfl, Sm.nil, Nat.zero_le _, fun h => absurd h (by omega)⟩
theorem Rd.get (h : Rd w A n c xs) {k : Nat} (hk : k < n) : ∃ b off, A = some ⟨b, off, none⟩ ∧ b < w.heap.size ∧ w.cell? ⟨b, off + k, none⟩ = some (.int .u32 (lim xs k : Nat)) := by
  obtain ⟨b, off, hA, hb, hc⟩ := h.at_ (by omega)
  exact ⟨b, off, hA, hb, hc k hk⟩
theorem Rd.keep (h : Rd w A n c xs) (hs : w.heap.size ≤ w'.heap.size) (hk : ∀ p : Addr, p.block < w.heap.size → (0 < n → A.map (·.block) = some p.block) → w'.cell? p = w.cell? p) : Rd w' A n c xs :=
  ⟨h.len, h.sm, h.cap, fun hn => by
    obtain ⟨b, off, hA, hb, hc⟩ := h.at_ hn
    exact ⟨b, off, hA, by omega, fun k hkn => (hk _ hb (fun _ => by rw [hA]; rfl)).trans (hc k hkn)⟩⟩
theorem Rd.below (h : Rd w A n c xs) (hb : Below w.heap.size w w') : Rd w' A n c xs := h.keep hb.size fun _ hp _ => hb.cell hp
theorem Rd.grown (h : Rd w A n c xs) {g : Nat} (hg : w.grownBy w' (some g)) (ha : Away A n g) : Rd w' A n c xs := by
  refine ⟨h.len, h.sm, h.cap, fun hn => ?_⟩
  obtain ⟨b, off, hA, hb, hc⟩ := h.at_ hn
  have hne : b ≠ g := ha hn _ hA
  exact ⟨b, off, hA, Nat.lt_of_lt_of_le hb hg.size, fun k hkn => (World.cell?_of_block (hg.block b hb (by simpa using hne))).trans (hc k hkn)⟩
theorem Rd.take (h : Rd w A n c xs) {k : Nat} (hk : k ≤ n) : Rd w A k c (xs.take k) := by
  refine ⟨by rw [List.length_take, h.len]; omega, h.sm.take k, by have := h.cap; omega, fun hk0 => ?_⟩
  obtain ⟨b, off, hA, hb, hc⟩ := h.at_ (by omega)
  exact ⟨b, off, hA, hb, fun j hj => by rw [lim_take hj]; exact hc j (by omega)⟩
end

/-- A block that is known whole. -/
def Blk (w : World) (g : Nat) (cs : Array Value) : Prop := w.heap[g]? = some (.cells cs 57 (0, 0))
/-- The cells of a list of limbs. -/
def arr (xs : List Nat) : Array Value := (xs.map fun x => Value.int .u32 (x : Nat)).toArray

section
variable {w w' : World} {g : Nat} {cs : Array Value}
theorem Blk.lt (h : Blk w g cs) : g < w.heap.size := by
  rcases Nat.lt_or_ge g w.heap.size with hlt | hge
  · exact hlt
  · unfold Blk at h; rw [Array.getElem?_eq_none hge] at h; cases h
theorem Blk.cell (h : Blk w g cs) (i : Nat) : w.cell? ⟨g, i, none⟩ = cs[i]? := cell_of_row w g i cs 57 (0, 0) h
theorem Blk.frozen (h : Blk w g cs) (i : Nat) : w.frozen? ⟨g, i, none⟩ = false := by
  unfold Blk at h
  simp [World.frozen?, h]
theorem Blk.new (w : World) (cs : Array Value) : Blk (w.alloc (.cells cs 57)) w.heap.size cs := heap_alloc_new w _
theorem Blk.drew (h : Blk w g cs) : Blk w.drew g cs := h
theorem Blk.drewN (h : Blk w g cs) (n : Nat) : Blk (w.drewN n) g cs := h
theorem Blk.alloc (h : Blk w g cs) (o : Obj) : Blk (w.alloc o) g cs := (Below.heap_alloc w o g h.lt).trans h
theorem Blk.set_ (h : Blk w g cs) (i : Nat) (u : Value) : Blk (w.setCell ⟨g, i, none⟩ u) g (cs.setIfInBounds i u) := by
  unfold Blk at h ⊢
  simp [World.setCell, Array.getElem?_modify, h]
theorem Blk.far (h : Blk w g cs) {p : Addr} (hp : g ≠ p.block) (u : Value) : Blk (w.setCell p u) g cs := (Below.heap_setCell w p u g hp).trans h
theorem Blk.below {B : Nat} (h : Blk w g cs) (hb : Below B w w') (hg : g < B) : Blk w' g cs := (hb.block g hg).trans h
theorem Blk.grown {row : Option Nat} (h : Blk w g cs) (hb : w.grownBy w' row) (hg : some g ≠ row) : Blk w' g cs := (hb.block g h.lt hg).trans h
end
theorem arr_size (xs : List Nat) : (arr xs).size = xs.length := by simp [arr]
theorem arr_get {xs : List Nat} {i : Nat} (h : i < xs.length) : (arr xs)[i]? = some (.int .u32 (lim xs i : Nat)) := by
  simp [arr, lim, List.getElem?_eq_getElem h]
theorem arr_set (xs : List Nat) (i v : Nat) : (arr xs).setIfInBounds i (.int .u32 (v : Nat)) = arr (xs.set i v) := by
  simp [arr, List.map_set]
section
variable {w w' : World} {g : Nat} {xs : List Nat}
theorem blk_cell (h : Blk w g (arr xs)) {i : Nat} (hi : i < xs.length) : w.cell? ⟨g, i, none⟩ = some (.int .u32 (lim xs i : Nat)) := (h.cell i).trans (arr_get hi)
theorem blk_set (h : Blk w g (arr xs)) (i v : Nat) : Blk (w.setCell ⟨g, i, none⟩ (.int .u32 (v : Nat))) g (arr (xs.set i v)) := by
  have := h.set_ i (.int .u32 (v : Nat))
  rwa [arr_set] at this
/-- A part of a known block, read as a slice. -/
theorem blk_rd (h : Blk w g (arr xs)) (hs : Sm xs) {o n c : Nat} (hn : o + n ≤ xs.length) (hc : n ≤ c) : Rd w (some ⟨g, o, none⟩) n c ((xs.drop o).take n) := by
  refine ⟨by rw [List.length_take, List.length_drop]; omega, (hs.drop o).take n, hc, fun _ => ⟨g, o, rfl, h.lt, fun k hk => ?_⟩⟩
  rw [blk_cell h (by omega), lim_take hk, lim_drop]
theorem blk_rd0 (h : Blk w g (arr xs)) (hs : Sm xs) {n c : Nat} (hn : xs.length = n) (hc : n ≤ c) : Rd w (some ⟨g, 0, none⟩) n c xs := by
  have := blk_rd h hs (o := 0) (n := n) (c := c) (by omega) hc
  simpa [List.take_of_length_le (Nat.le_of_eq hn)] using this
end
theorem below_drewN {B : Nat} {a w : World} (h : Below B a w) (n : Nat) : Below B a (w.drewN n) := ⟨h.os, h.tape, h.output, h.size, h.block⟩
theorem rd_of_own {w : World} {base : Nat} {A : Option Addr} {n c : Nat} {xs : List Nat} (h : w.ownsRow base 57 1 (.slice A n c) n (xs.map fun x => Value.int .u32 (x : Nat))) (hs : Sm xs) (hc : n ≤ c) : Rd w A n c xs := by
  have hl : xs.length = n := by have := h.1; simpa using this
  refine ⟨hl, hs, hc, fun hn => ?_⟩
  obtain ⟨g, cap, hv, _, hlt⟩ := h.form hn
  have hA : A = some ⟨g, 0, none⟩ := by injection hv
  subst hA
  refine ⟨g, 0, rfl, hlt, fun k hk => ?_⟩
  have := h.cells (g := g) rfl k (.int .u32 (lim xs k : Nat)) (by rw [List.getElem?_map, List.getElem?_eq_getElem (by omega), lim_get (by omega)]; rfl)
  rwa [show ((⟨g, 0, none⟩ : Addr).add k) = ⟨g, 0 + k, none⟩ from by unfold Addr.add; split <;> simp_all] at this
end Go.Proofs.Ytefcpcekoihgjaa
