/-
  The walk of DecimalLong: what it needs.
-/
import Derived.Test.YtjpchbcenbjibaaDoorG2
import Derived.Laws.IdiomStrings
import Derived.Laws.AppendOwn
namespace Go.Proofs.YtjpchbcenbjibaaDoor
open Go.RowKit
set_option linter.unusedVariables false
set_option linter.unusedSimpArgs false

theorem info8 : (Tryd.prog.info? 5).map (fun i => (i.zero, i.size, i.bytes)) = some (some (.int .u8 0), 1, 1) := by kernel_rfl
/-- A slice of bytes of the call's own, from block B on. -/
def OwB (w : World) (B g n c : Nat) (l : List UInt8) : Prop := w.ownsRow B 5 1 (.slice (some ⟨g, 0, none⟩) n c) n (l.map fun x => Value.int .u8 (x.toNat : Int))
theorem OwB.len {w : World} {B g n c : Nat} {l : List UInt8} (h : OwB w B g n c l) : l.length = n := by have := h.1; simpa using this
theorem OwB.alloc {w : World} {B g n c : Nat} {l : List UInt8} (h : OwB w B g n c l) (o : Obj) : OwB (w.alloc o) B g n c l := World.ownsRow.alloc h o
theorem OwB.empty (w : World) (B : Nat) (hb : B ≤ w.heap.size) : OwB (w.alloc (.cells #[] 5)) B w.heap.size 0 0 [] :=
  ⟨by simp, .inr ⟨w.heap.size, 0, #[], rfl, hb, heap_alloc_new w _, Nat.le_refl _, Nat.zero_le _, by simp, by simp⟩⟩
theorem run_appB (w : World) (B : Nat) (ty : TypeId) {g n c : Nat} {l : List UInt8} (hown : OwB w B g n c l) (g2 : Nat) (x : UInt8) (v : Int) (hv : v = (x.toNat : Int)) (hc : w.cell? ⟨g2, 0, none⟩ = some (.int .u8 v)) (hb : n + 1 ≤ 4194304) (hbase : B ≤ w.heap.size) :
    ∃ g' c' w', (Builtin.append_ #[36, 36] ty #[.slice (some ⟨g, 0, none⟩) n c, .slice (some ⟨g2, 0, none⟩) 1 1]).run Tryd.prog w = .ok (.slice (some ⟨g', 0, none⟩) (n + 1) c') w' ∧ OwB w' B g' (n + 1) c' (l ++ [x]) ∧ Below B w w' := by
  subst hv
  obtain ⟨i0, hi, hz0, hz1, hz2⟩ := info_parts info8
  have hrow : ∀ k, (Value.slice (some ⟨g, 0, none⟩) n c).ownBlock = some k → B ≤ k := fun k hk => (World.ownsRow.lt hown k hk).1
  obtain ⟨v', w', h1, h2, h3, h4⟩ := run_append_own (P := Tryd.prog) w B 36 ty 5 i0 (.int .u8 0) 1 1 Tryd.underlying36 hi hz0 hz1 hz2 rfl (by omega) (.slice (some ⟨g, 0, none⟩) n c) n _ hown
    ⟨g2, 0, none⟩ 1 1 [.int .u8 (x.toNat : Int)] (by simp)
    (by
      intro j u hj
      rcases j with _ | j
      · simp only [List.getElem?_cons_zero, Option.some.injEq] at hj
        subst hj
        rw [show ((⟨g2, 0, none⟩ : Addr).add 0) = ⟨g2, 0, none⟩ from rfl]
        exact hc
      · simp at hj)
    (by intro u hu; simp only [List.mem_singleton] at hu; subst hu; rfl)
    (by unfold maxLen; omega) (by omega) hbase
  have hbel : Below B w w' := (Below.refl B w).grown h3 hbase hrow
  rcases h2.2 with ⟨hv, hn0⟩ | ⟨g', cap, cur, hv, r⟩
  · omega
  · subst hv
    refine ⟨g', cap, w', h1, ?_, hbel⟩
    show w'.ownsRow B 5 1 _ (n + 1) _
    rw [List.map_append]
    exact h2
theorem wpList_appB {ops : Array Oper} {rest : List Oper} {o : Oper} {a : Act} {Q : Exit → Act → World → Prop} {w : World} (hgd : o.guard = none) (s x : Operand)
    (ho : o.op = .call { callee := .builtin .append, args := #[s, x], argTypes := #[36, 36] })
    (B g n c : Nat) (l : List UInt8) (hs : a.eval s = .slice (some ⟨g, 0, none⟩) n c) (hown : OwB w B g n c l)
    (g2 : Nat) (y : UInt8) (v : Int) (hv : v = (y.toNat : Int)) (hx : a.eval x = .slice (some ⟨g2, 0, none⟩) 1 1) (hc : w.cell? ⟨g2, 0, none⟩ = some (.int .u8 v)) (hb : n + 1 ≤ 4194304) (hbase : B ≤ w.heap.size)
    (h : ∀ g' c' w', OwB w' B g' (n + 1) c' (l ++ [y]) → Below B w w' → wpList Tryd.prog ops Q rest (a.put o.dst (.slice (some ⟨g', 0, none⟩) (n + 1) c')) w') : wpList Tryd.prog ops Q (o :: rest) a w := by
  refine wpList_plain hgd fun K hK => ?_
  obtain ⟨g', c', w', hrun, h2, h3⟩ := run_appB w B o.type hown g2 y v hv hc hb hbase
  unfold Oper.wp execOp
  simp only [ho, resolve, invoke, builtin, Sem.run_bind, Sem.run_pure, Result.andThen_ok, List.map_toArray, List.map_cons, List.map_nil, hs, hx, hrun]
  exact hK _ _ (h g' c' w' h2 h3)
theorem new_cell (w : World) (v : Value) (t : TypeId) : (w.alloc (.cells #[v] t)).cell? ⟨w.heap.size, 0, none⟩ = some v := by
  have h := heap_alloc_new w (.cells #[v] t)
  exact cell_of_row _ _ 0 #[v] t (0, 0) h
theorem new_cell2 (w : World) (o : Obj) (v : Value) (t : TypeId) : ((w.alloc o).alloc (.cells #[v] t)).cell? ⟨w.heap.size + 1, 0, none⟩ = some v := by
  have h := new_cell (w.alloc o) v t
  rwa [World.size_alloc] at h
theorem convB (w : World) (B g n c : Nat) (l : List UInt8) (h : OwB w B g n c l) : (convert 36 9 (.slice (some ⟨g, 0, none⟩) n c)).run Tryd.prog w = .ok (.string (bs l)) w := by
  have hl := h.len
  subst hl
  refine run_convert_bytes_back w 36 9 5 ⟨g, 0, none⟩ c l Tryd.underlying36 Tryd.underlying5 Tryd.underlying9 fun j hj => ?_
  exact h.cells (g := g) rfl j (.int .u8 (l[j].toNat : Int)) (by rw [List.getElem?_map, List.getElem?_eq_getElem hj]; rfl)
/-- The block of a Long. -/
def Bl (w : World) (g : Nat) (v0 v1 v2 v3 v4 : Value) : Prop := w.heap[g]? = some (.cells #[v0, v1, v2, v3, v4] 35 (0, 0))
section
variable {w w' : World} {g : Nat} {v0 v1 v2 v3 v4 : Value}
theorem Bl.lt (h : Bl w g v0 v1 v2 v3 v4) : g < w.heap.size := by
  rcases Nat.lt_or_ge g w.heap.size with hb | hb
  · exact hb
  · unfold Bl at h
    rw [Array.getElem?_eq_none hb] at h
    cases h
theorem Bl.new (w : World) (v0 v1 v2 v3 v4 : Value) : Bl (w.alloc (.cells #[v0, v1, v2, v3, v4] 35)) w.heap.size v0 v1 v2 v3 v4 := heap_alloc_new w _
theorem Bl.below {B : Nat} (h : Bl w g v0 v1 v2 v3 v4) (hb : Below B w w') (hg : g < B) : Bl w' g v0 v1 v2 v3 v4 := (hb.block g hg).trans h
theorem Bl.alloc (h : Bl w g v0 v1 v2 v3 v4) (o : Obj) : Bl (w.alloc o) g v0 v1 v2 v3 v4 := (Below.heap_alloc w o g h.lt).trans h
theorem Bl.cell0 (h : Bl w g v0 v1 v2 v3 v4) : w.cell? ⟨g, 0, none⟩ = some v0 := cell_of_row w g 0 #[v0, v1, v2, v3, v4] 35 (0, 0) h
theorem Bl.cell1 (h : Bl w g v0 v1 v2 v3 v4) : w.cell? ⟨g, 1, none⟩ = some v1 := cell_of_row w g 1 #[v0, v1, v2, v3, v4] 35 (0, 0) h
theorem Bl.cell2 (h : Bl w g v0 v1 v2 v3 v4) : w.cell? ⟨g, 2, none⟩ = some v2 := cell_of_row w g 2 #[v0, v1, v2, v3, v4] 35 (0, 0) h
theorem Bl.cell3 (h : Bl w g v0 v1 v2 v3 v4) : w.cell? ⟨g, 3, none⟩ = some v3 := cell_of_row w g 3 #[v0, v1, v2, v3, v4] 35 (0, 0) h
theorem Bl.cell4 (h : Bl w g v0 v1 v2 v3 v4) : w.cell? ⟨g, 4, none⟩ = some v4 := cell_of_row w g 4 #[v0, v1, v2, v3, v4] 35 (0, 0) h
end
theorem ll_fr0 (ng : Bool) (fr tn sp : Int) (tl : List UInt8) (w : World) (h1 : fr < 0) : Calls Tryd.prog 5 #[.agg #[.bool ng, .int .i64 fr, .int .i64 tn, .int .u8 sp, .string (bs tl)]] w (fun e w' => e = .returned (.bool true) ∧ Below w.heap.size w w') := by
  have d1 : decide (fr < 0) = true := decide_eq_true h1
  have bx := Bl.new w (.bool ng) (.int .i64 fr) (.int .i64 tn) (.int .u8 sp) (.string (bs tl))
  have F0 := (Below.refl w.heap.size w).alloc (Nat.le_refl _) (.cells #[.bool ng, .int .i64 fr, .int .i64 tn, .int .u8 sp, .string (bs tl)] 35)
  go_enter Tryd.func5, Tryd.ntmps5
  go_wp2_with fail
  refine (awake4 _).mono ?_
  rintro e w1 ⟨rfl, b1⟩
  have by_ := bx.below b1 bx.lt
  have F1 := below_then F0 (Nat.le_refl _) b1
  have c0_ := by_.cell0
  have c1_ := by_.cell1
  have c2_ := by_.cell2
  have c3_ := by_.cell3
  have c4_ := by_.cell4
  go_wp2_with fail
  refine (awake4 _).mono ?_
  rintro e w2 ⟨rfl, b2⟩
  go_wp2
  go_ret
  exact ⟨rfl, below_then F1 (Nat.le_refl _) b2⟩
theorem ll_fr1 (ng : Bool) (fr tn sp : Int) (tl : List UInt8) (w : World) (h1 : 4100 < fr) : Calls Tryd.prog 5 #[.agg #[.bool ng, .int .i64 fr, .int .i64 tn, .int .u8 sp, .string (bs tl)]] w (fun e w' => e = .returned (.bool true) ∧ Below w.heap.size w w') := by
  have d1 : decide (fr < 0) = false := decide_eq_false (by omega)
  have d2 : decide (4100 < fr) = true := decide_eq_true h1
  have bx := Bl.new w (.bool ng) (.int .i64 fr) (.int .i64 tn) (.int .u8 sp) (.string (bs tl))
  have F0 := (Below.refl w.heap.size w).alloc (Nat.le_refl _) (.cells #[.bool ng, .int .i64 fr, .int .i64 tn, .int .u8 sp, .string (bs tl)] 35)
  go_enter Tryd.func5, Tryd.ntmps5
  go_wp2_with fail
  refine (awake4 _).mono ?_
  rintro e w1 ⟨rfl, b1⟩
  have by_ := bx.below b1 bx.lt
  have F1 := below_then F0 (Nat.le_refl _) b1
  have c0_ := by_.cell0
  have c1_ := by_.cell1
  have c2_ := by_.cell2
  have c3_ := by_.cell3
  have c4_ := by_.cell4
  go_wp2_with fail
  refine (awake4 _).mono ?_
  rintro e w2 ⟨rfl, b2⟩
  go_wp2
  go_ret
  exact ⟨rfl, below_then F1 (Nat.le_refl _) b2⟩
theorem ll_to0 (ng : Bool) (fr tn sp : Int) (tl : List UInt8) (w : World) (h0 : 0 ≤ fr) (h1 : fr ≤ 4100) (h2 : tn < 0) : Calls Tryd.prog 5 #[.agg #[.bool ng, .int .i64 fr, .int .i64 tn, .int .u8 sp, .string (bs tl)]] w (fun e w' => e = .returned (.bool true) ∧ Below w.heap.size w w') := by
  have d1 : decide (fr < 0) = false := decide_eq_false (by omega)
  have d2 : decide (4100 < fr) = false := decide_eq_false (by omega)
  have d3 : decide (tn < 0) = true := decide_eq_true h2
  have bx := Bl.new w (.bool ng) (.int .i64 fr) (.int .i64 tn) (.int .u8 sp) (.string (bs tl))
  have F0 := (Below.refl w.heap.size w).alloc (Nat.le_refl _) (.cells #[.bool ng, .int .i64 fr, .int .i64 tn, .int .u8 sp, .string (bs tl)] 35)
  go_enter Tryd.func5, Tryd.ntmps5
  go_wp2_with fail
  refine (awake4 _).mono ?_
  rintro e w1 ⟨rfl, b1⟩
  have by_ := bx.below b1 bx.lt
  have F1 := below_then F0 (Nat.le_refl _) b1
  have c0_ := by_.cell0
  have c1_ := by_.cell1
  have c2_ := by_.cell2
  have c3_ := by_.cell3
  have c4_ := by_.cell4
  go_wp2_with fail
  refine (awake4 _).mono ?_
  rintro e w2 ⟨rfl, b2⟩
  go_wp2
  go_ret
  exact ⟨rfl, below_then F1 (Nat.le_refl _) b2⟩
theorem ll_to1 (ng : Bool) (fr tn sp : Int) (tl : List UInt8) (w : World) (h0 : 0 ≤ fr) (h1 : fr ≤ 4100) (h2 : 4100 < tn) : Calls Tryd.prog 5 #[.agg #[.bool ng, .int .i64 fr, .int .i64 tn, .int .u8 sp, .string (bs tl)]] w (fun e w' => e = .returned (.bool true) ∧ Below w.heap.size w w') := by
  have d1 : decide (fr < 0) = false := decide_eq_false (by omega)
  have d2 : decide (4100 < fr) = false := decide_eq_false (by omega)
  have d3 : decide (tn < 0) = false := decide_eq_false (by omega)
  have d4 : decide (4100 < tn) = true := decide_eq_true h2
  have bx := Bl.new w (.bool ng) (.int .i64 fr) (.int .i64 tn) (.int .u8 sp) (.string (bs tl))
  have F0 := (Below.refl w.heap.size w).alloc (Nat.le_refl _) (.cells #[.bool ng, .int .i64 fr, .int .i64 tn, .int .u8 sp, .string (bs tl)] 35)
  go_enter Tryd.func5, Tryd.ntmps5
  go_wp2_with fail
  refine (awake4 _).mono ?_
  rintro e w1 ⟨rfl, b1⟩
  have by_ := bx.below b1 bx.lt
  have F1 := below_then F0 (Nat.le_refl _) b1
  have c0_ := by_.cell0
  have c1_ := by_.cell1
  have c2_ := by_.cell2
  have c3_ := by_.cell3
  have c4_ := by_.cell4
  go_wp2_with fail
  refine (awake4 _).mono ?_
  rintro e w2 ⟨rfl, b2⟩
  go_wp2
  go_ret
  exact ⟨rfl, below_then F1 (Nat.le_refl _) b2⟩
theorem ll_tail (ng : Bool) (fr tn sp : Int) (tl : List UInt8) (w : World) (h0 : 0 ≤ fr) (h1 : fr ≤ 4100) (h2 : 0 ≤ tn) (h3 : tn ≤ 4100) (h4 : ¬ tl.length ≤ 20) : Calls Tryd.prog 5 #[.agg #[.bool ng, .int .i64 fr, .int .i64 tn, .int .u8 sp, .string (bs tl)]] w (fun e w' => e = .returned (.bool true) ∧ Below w.heap.size w w') := by
  have d1 : decide (fr < 0) = false := decide_eq_false (by omega)
  have d2 : decide (4100 < fr) = false := decide_eq_false (by omega)
  have d3 : decide (tn < 0) = false := decide_eq_false (by omega)
  have d4 : decide (4100 < tn) = false := decide_eq_false (by omega)
  have hz := bs_size tl
  have d5 : decide (20 < (tl.length : Int)) = true := by simp; omega
  have bx := Bl.new w (.bool ng) (.int .i64 fr) (.int .i64 tn) (.int .u8 sp) (.string (bs tl))
  have F0 := (Below.refl w.heap.size w).alloc (Nat.le_refl _) (.cells #[.bool ng, .int .i64 fr, .int .i64 tn, .int .u8 sp, .string (bs tl)] 35)
  go_enter Tryd.func5, Tryd.ntmps5
  go_wp2_with fail
  refine (awake4 _).mono ?_
  rintro e w1 ⟨rfl, b1⟩
  have by_ := bx.below b1 bx.lt
  have F1 := below_then F0 (Nat.le_refl _) b1
  have c0_ := by_.cell0
  have c1_ := by_.cell1
  have c2_ := by_.cell2
  have c3_ := by_.cell3
  have c4_ := by_.cell4
  go_wp2_with fail
  refine (awake4 _).mono ?_
  rintro e w2 ⟨rfl, b2⟩
  go_wp2
  go_ret
  exact ⟨rfl, below_then F1 (Nat.le_refl _) b2⟩
end Go.Proofs.YtjpchbcenbjibaaDoor
