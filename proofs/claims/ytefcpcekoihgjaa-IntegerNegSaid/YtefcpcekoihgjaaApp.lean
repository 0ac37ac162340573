/-
  append onto a slice of limbs of the call's own, from whatever slice of limbs.
-/
import Derived.Test.YtefcpcekoihgjaaProg
import Derived.Test.YtefcpcekoihgjaaMem
import Derived.OwnWalk
import Derived.Laws.MakeOwn
namespace Go.Proofs.Ytefcpcekoihgjaa
open Go.RowKit
set_option linter.unusedVariables false
set_option linter.unusedSimpArgs false

theorem info42 : (Try.prog.info? 57).map (fun i => (i.zero, i.size, i.bytes)) = some (some (.int .u32 0), 1, 4) := by kernel_rfl

/-- The slice (A, n, c) is the call's own, from block base on, and its cells are the limbs xs. -/
def Own (w : World) (base : Nat) (A : Option Addr) (n c : Nat) (xs : List Nat) : Prop := w.ownsRow base 57 1 (.slice A n c) n (xs.map fun x => Value.int .u32 (x : Nat))

theorem Own.nil (w : World) (base : Nat) : Own w base none 0 0 [] := World.ownsRow_nil w base 57 1
theorem Own.len {w : World} {base : Nat} {A : Option Addr} {n c : Nat} {xs : List Nat} (h : Own w base A n c xs) : xs.length = n := by have := h.1; simpa using this
theorem Own.cap {w : World} {base : Nat} {A : Option Addr} {n c : Nat} {xs : List Nat} (h : Own w base A n c xs) : n ≤ c := by
  rcases h.2 with ⟨hv, _⟩ | ⟨g, cap, cur, hv, _, _, hnc, _⟩
  · injection hv; omega
  · injection hv; omega
theorem Own.rd {w : World} {base : Nat} {A : Option Addr} {n c : Nat} {xs : List Nat} (h : Own w base A n c xs) (hs : Sm xs) : Rd w A n c xs := rd_of_own h hs h.cap
theorem Own.alloc {w : World} {base : Nat} {A : Option Addr} {n c : Nat} {xs : List Nat} (h : Own w base A n c xs) (o : Obj) : Own (w.alloc o) base A n c xs := World.ownsRow.alloc h o
theorem Own.drew {w : World} {base : Nat} {A : Option Addr} {n c : Nat} {xs : List Nat} (h : Own w base A n c xs) : Own w.drew base A n c xs := h
theorem Own.drewN {w : World} {base : Nat} {A : Option Addr} {n c : Nat} {xs : List Nat} (h : Own w base A n c xs) (k : Nat) : Own (w.drewN k) base A n c xs := h
theorem Own.empty (w : World) (base : Nat) (hb : base ≤ w.heap.size) : Own (w.alloc (.cells #[] 57)) base (some ⟨w.heap.size, 0, none⟩) 0 0 [] :=
  ⟨by simp, .inr ⟨w.heap.size, 0, #[], rfl, hb, heap_alloc_new w _, Nat.le_refl _, Nat.zero_le _, by simp, by simp⟩⟩
/-- The one limb that 'append' lays in a block of its own first. -/
theorem rd_one (w : World) (v : Nat) (hv : v < 4294967296) : Rd (w.alloc (.cells #[.int .u32 (v : Nat)] 57)) (some ⟨w.heap.size, 0, none⟩) 1 1 [v] := by
  have := Blk.new w #[.int .u32 (v : Nat)]
  exact blk_rd0 (xs := [v]) this (Sm.nil.cons hv) rfl (Nat.le_refl _)

theorem nat_slice {t : TypeId} (h : t = 22 ∨ t = 23) : Try.prog.underlying t = some (.slice 57) := by
  rcases h with rfl | rfl
  · exact Try.underlying22
  · exact Try.underlying23

theorem run_app (w : World) (base : Nat) (t t2 ty : TypeId) (ht : t = 22 ∨ t = 23) (ht2 : t2 = 22 ∨ t2 = 23) {A : Option Addr} {n c : Nat} {xs : List Nat} (hown : Own w base A n c xs)
    {A2 : Option Addr} {m c2 : Nat} {ys : List Nat} (hr : Rd w A2 m c2 ys) (hb : n + m ≤ 4194304) (hbase : base ≤ w.heap.size) :
    ∃ A' c' w', (Builtin.append_ #[t, t2] ty #[.slice A n c, .slice A2 m c2]).run Try.prog w = .ok (.slice A' (n + m) c') w' ∧ Own w' base A' (n + m) c' (xs ++ ys) ∧ Below base w w' := by
  have hu := nat_slice ht
  have hu2 := nat_slice ht2
  have he : (Builtin.append_ #[t, t2] ty #[.slice A n c, .slice A2 m c2]).run Try.prog w = (Builtin.append_ #[t, t] ty #[.slice A n c, .slice A2 m c2]).run Try.prog w := by
    simp [Builtin.append_, run_underlying hu, run_underlying hu2]
  rw [he]
  obtain ⟨i0, hi, hz0, hz1, hz2⟩ := info_parts info42
  have hrow : ∀ k, (Value.slice A n c).ownBlock = some k → base ≤ k := fun k hk => (World.ownsRow.lt hown k hk).1
  have fin : ∀ v' w', w'.ownsRow base 57 1 v' (n + m) ((xs.map fun x => Value.int .u32 (x : Nat)) ++ (ys.map fun x => Value.int .u32 (x : Nat))) → w.grownBy w' (Value.slice A n c).ownBlock →
      ∃ A' c', v' = .slice A' (n + m) c' ∧ Own w' base A' (n + m) c' (xs ++ ys) ∧ Below base w w' := by
    intro v' w' h1 h2
    rw [← List.map_append] at h1
    have hbel : Below base w w' := (Below.refl base w).grown h2 hbase hrow
    rcases h1.2 with ⟨hv, hn0⟩ | ⟨g, cap, cur, hv, r⟩
    · refine ⟨none, 0, by rw [hv, hn0], ?_, hbel⟩
      rw [hv] at h1
      show w'.ownsRow base 57 1 (.slice none (n + m) 0) (n + m) _
      rw [hn0] at h1 ⊢
      exact h1
    · exact ⟨_, cap, hv, by rw [hv] at h1; exact h1, hbel⟩
  by_cases hm : m = 0
  · subst hm
    have hy : ys = [] := List.eq_nil_of_length_eq_zero hr.len
    subst hy
    have hrun : (Builtin.append_ #[t, t] ty #[.slice A n c, .slice A2 0 c2]).run Try.prog w = .ok (.slice A n c) w := by
      have hcap := hown.cap
      cases A <;> cases A2 <;> simp [Builtin.append_, run_underlying hu, sizeOf, typeInfo, hi, Builtin.lenOf, Builtin.firstCells, loadCells, loadCellsFrom, hcap, storeCells]
    exact ⟨A, c, w, hrun, by simpa using hown, Below.refl _ _⟩
  · obtain ⟨b, off, rfl, hbs, hc⟩ := hr.at_ (by omega)
    obtain ⟨v', w', h1, h2, h3, _⟩ := run_append_own (P := Try.prog) w base t ty 57 i0 (.int .u32 0) 1 4 hu hi hz0 hz1 hz2 rfl (by omega) (.slice A n c) n _ hown
      ⟨b, off, none⟩ m c2 (ys.map fun x => Value.int .u32 (x : Nat)) (by simp [hr.len])
      (by
        intro j u hj
        have hjl : j < ys.length := by
          rcases Nat.lt_or_ge j ys.length with h | h
          · exact h
          · rw [List.getElem?_eq_none (by simpa using h)] at hj; cases hj
        rw [List.getElem?_map, List.getElem?_eq_getElem hjl] at hj
        simp only [Option.map_some, Option.some.injEq] at hj
        subst hj
        have := hc j (by rw [← hr.len]; exact hjl)
        rw [lim_get hjl] at this
        rwa [show ((⟨b, off, none⟩ : Addr).add j) = ⟨b, off + j, none⟩ from by unfold Addr.add; split <;> simp_all])
      (by intro u hu; obtain ⟨x, _, rfl⟩ := List.mem_map.1 hu; rfl)
      (by unfold maxLen; omega) (by omega) hbase
    obtain ⟨A', c', rfl, h4, h5⟩ := fin v' w' h2 h3
    exact ⟨A', c', w', h1, h4, h5⟩

theorem wpList_app {ops : Array Oper} {rest : List Oper} {o : Oper} {a : Act} {Q : Exit → Act → World → Prop} {w : World} (hgd : o.guard = none) (s x : Operand) (t t2 : TypeId)
    (ho : o.op = .call { callee := .builtin .append, args := #[s, x], argTypes := #[t, t2] }) (ht : t = 22 ∨ t = 23) (ht2 : t2 = 22 ∨ t2 = 23)
    (base : Nat) (A : Option Addr) (n c : Nat) (xs : List Nat) (hs : a.eval s = .slice A n c) (hown : Own w base A n c xs)
    (A2 : Option Addr) (m c2 : Nat) (ys : List Nat) (hx : a.eval x = .slice A2 m c2) (hr : Rd w A2 m c2 ys) (hb : n + m ≤ 4194304) (hbase : base ≤ w.heap.size)
    (h : ∀ A' c' w', Own w' base A' (n + m) c' (xs ++ ys) → Below base w w' → wpList Try.prog ops Q rest (a.put o.dst (.slice A' (n + m) c')) w') : wpList Try.prog ops Q (o :: rest) a w := by
  refine wpList_plain hgd fun K hK => ?_
  obtain ⟨A', c', w', hrun, h2, h3⟩ := run_app w base t t2 o.type ht ht2 hown hr hb hbase
  unfold Oper.wp execOp
  simp only [ho, resolve, invoke, builtin, Sem.run_bind, Sem.run_pure, Result.andThen_ok, List.map_toArray, List.map_cons, List.map_nil, hs, hx, hrun]
  exact hK _ _ (h A' c' w' h2 h3)

/-! ### make -/
def zs (n : Nat) : List Nat := List.replicate n 0
theorem zs_len (n : Nat) : (zs n).length = n := List.length_replicate
theorem zs_sm (n : Nat) : Sm (zs n) := Sm.replicate n
theorem zs_lim (n k : Nat) : lim (zs n) k = 0 := lim_replicate n k
theorem zs_pv (n k : Nat) : pv (zs n) k = 0 := pv_replicate n k
theorem zs_val (n : Nat) : val (zs n) = 0 := val_replicate n
theorem run_mk (t : TypeId) (ht : t = 22 ∨ t = 23) (n : Nat) (k : Int) (hk : k = n) (hn : n ≤ 4194304) (w : World) :
    (Instr.makeSlice t (.int .i64 k) (.int .i64 k)).run Try.prog w = .ok (.slice (some ⟨w.heap.size, 0, none⟩) n n) (w.alloc (.cells (arr (zs n)) 57)) := by
  subst hk
  obtain ⟨i0, hi, hz0, hz1, hz2⟩ := info_parts info42
  have hr := run_make (P := Try.prog) w t 57 i0 (.int .u32 0) (nat_slice ht) hi hz0 .i64 .i64 n n (by omega) (by omega) (by rw [hz2]; omega) (by omega)
  simp only [Int.toNat_natCast] at hr
  rw [hr]
  congr 3
  rw [hz1, Nat.mul_one]
  unfold arr zs madeCells
  apply Array.ext
  · simp
  · intro i h1 h2
    simp
    show (#[Value.int .u32 0] : Array Value)[i % 1]! = _
    rw [Nat.mod_one]
    rfl
end Go.Proofs.Ytefcpcekoihgjaa
