/-
  The program's Fixed.
-/
import Derived.Test.YtjpchbcenbjibaaGreatDoorPv
import Derived.Test.YtjpchbcenbjibaaGreatDoorD5
namespace Go.Proofs.YtjpchbcenbjibaaGreatDoor
open Go.RowKit
set_option linter.unusedVariables false
set_option linter.unusedSimpArgs false

theorem units_q (s : Bool) (A : Option Addr) (n c : Nat) (B : Option Addr) (m d : Nat) (q : Rat) (K p V : Nat) (w : World) (hV : fixn q p = V) (sg' : Bool) (hsg : decide (q.num < 0) = sg') (h : Cq w s A n c B m d q) (hs : Qs K q) (hK : K ≤ 1000) (hK1 : 1 ≤ K) (hp : p ≤ 4000) :
    Calls Tryz.prog 21 #[.agg #[.bool s, .slice A n c, .slice B m d], .int .i64 (p : Int)] w (GM w sg' (K + p + 2) V) := by
  subst hV
  unfold fixn
  rw [fix_round _ _ q.den_pos]
  split
  · rename_i hc
    exact units_up s A n c B m d q K p _ _ _ _ _ _ w rfl rfl rfl rfl rfl rfl hc sg' hsg h hs hK hK1 hp
  · rename_i hc
    exact units_no s A n c B m d q K p _ _ _ _ _ _ w rfl rfl rfl rfl rfl rfl (by omega) sg' hsg h hs hK hK1 hp
theorem fixed_bad (s : Bool) (A : Option Addr) (n c : Nat) (B : Option Addr) (m d : Nat) (p : Int) (w : World) (hp : p < 0 ∨ 4000 < p) :
    Calls Tryz.prog 8 #[.agg #[.bool s, .slice A n c, .slice B m d], .int .i64 p] w (Asks w (.tuple #[.string (bs []), .int .i64 2])) := by
  have F1 := (Below.refl w.heap.size w).alloc (Nat.le_refl _) (EQ s A n c B m d)
  by_cases h1 : p < 0
  · have d1 : decide (p < 0) = true := decide_eq_true h1
    clear hp
    go_enter Tryz.func8, Tryz.ntmps8
    go_wp2
    go_ret2
    exact ⟨rfl, F1⟩
  · have d1 : decide (p < 0) = false := decide_eq_false h1
    have h2 : 4000 < p := by omega
    have d2 : decide (4000 < p) = true := decide_eq_true h2
    clear hp
    go_enter Tryz.func8, Tryz.ntmps8
    go_wp2
    go_ret2
    exact ⟨rfl, F1⟩
theorem cut_text (a s : List UInt8) (p : Nat) (h : p ≤ s.length) : (a ++ s).take ((a ++ s).length - p) ++ 46 :: (a ++ s).drop ((a ++ s).length - p) = a ++ (s.take (s.length - p) ++ 46 :: s.drop (s.length - p)) := by
  have e : (a ++ s).length - p = a.length + (s.length - p) := by rw [List.length_append]; omega
  rw [e, List.take_length_add_append, List.drop_length_add_append, List.append_assoc]
set_option maxRecDepth 100000 in
set_option maxHeartbeats 400000 in
theorem fix_pos_0 (s : Bool) (A : Option Addr) (n c : Nat) (B : Option Addr) (m d : Nat) (q : Rat) (K p V : Nat) (T : List UInt8) (w : World) (hT : sgl false ++ pads (p + 1) (dt V) = T) (hV : fixn q p = V) (hsg : decide (q.num < 0) = false) (hp0 : p = 0) (h : Cq w s A n c B m d q) (hs : Qs K q) (hK : K ≤ 1000) (hK1 : 1 ≤ K) (hp : p ≤ 4000) :
    Calls Tryz.prog 8 #[.agg #[.bool s, .slice A n c, .slice B m d], .int .i64 (p : Int)] w (Asks w (.tuple #[.string (bs (T)), .int .i64 0])) := by
  have h_1 := h.alloc (EQ s A n c B m d)
  have F1 := (Below.refl w.heap.size w).alloc (Nat.le_refl _) (EQ s A n c B m d)
  have bx_1 := Sq.new (w) (.bool s) (.slice A n c) (.slice B m d)
  have bx_u1 := bx_1.cell0
  have bx_v1 := bx_1.cell1
  have bx_w1 := bx_1.cell2
  have d1 : decide ((p : Int) < 0) = false := by simp
  have d2 : decide ((4000 : Int) < (p : Int)) = false := by simp; omega
  have HV := hide hV
  have HW := hide (show IntKind.i64.wrap ((p : Int) + 1) = ((p + 1 : Nat) : Int) by rw [IntWalk.i64_in _ ⟨by omega, by omega⟩]; omega)
  have HW2 := hide (show (p : Int) + 1 = ((p + 1 : Nat) : Int) by omega)
  have HSG := hide hsg
  have HS := hide hs
  have kp : K + p + 2 ≤ 16384 := by omega
  have kp2 : K + p + 2 ≤ 1048576 := by omega
  have hp5 : p + 1 ≤ 5000 := by omega
  have hp1 : 1 ≤ p + 1 := by omega
  have HP0 := hide hp0
  clear hV hsg hs hp0
  go_enter Tryz.func8, Tryz.ntmps8
  go_wp2_with fail
  refine (units_q _ _ _ _ _ _ _ q K p V _ HV.out false HSG.out h_1 HS.out hK hK1 hp).mono ?_
  rintro e w2 ⟨A2, n2, c2, rfl, hv, b2⟩
  have F2 := below_then F1 (Nat.le_refl _) b2
  have hlt := hv.lt
  have F3 := (F2.alloc F2.size (EI false A2 n2 c2)).drew
  have bn_3 := (Sb.new w2 (.bool false) (.slice A2 n2 c2)).drew
  have hv_3 := (hv.alloc (EI false A2 n2 c2)).drew
  have hvz := hv_3.nz
  have bn_u := (Sb.new w2 (.bool false) (.slice A2 n2 c2)).cell0
  have bn_v := (Sb.new w2 (.bool false) (.slice A2 n2 c2)).cell1
  have p1 := pads_dt (k := p + 1) hlt kp (by omega)
  have p0 := sgl_len false
  have hTl : T.length ≤ 1000001 := by rw [← hT, List.length_append]; omega
  have hTp : p + 1 ≤ T.length := by rw [← hT, List.length_append]; unfold pads; rw [List.length_append, List.length_replicate]; omega
  have hcat : bs (sgl false) ++ bs (pads (p + 1) (dt V)) = bs T := by rw [bs_append, hT]
  have hsT := bs_size T
  have zz1 : ¬ (9223372036854775807 < (bs (sgl false)).size + (bs (pads (p + 1) (dt V))).size) := by rw [bs_size, bs_size]; omega
  clear h h_1 hT p1 p0 hlt hv
  go_wp2_with fail
  refine wp_region_held_drew (S := fun w' => w'.cell? ⟨w2.heap.size, 0, none⟩ = some (.bool false) ∧ w'.cell? ⟨w2.heap.size, 1, none⟩ = some (.slice A2 n2 c2)) (by kernel_rfl) ⟨bn_3.cell0, bn_3.cell1⟩ (fun hHeld => ?_)
  refine wpAnyH_take (i := 0) (oi := { dst := some 18, op := Op.fieldAddr 44 (Operand.tmp 6) 0, type := 0, pos := "decimal.go:27", after := #[], guard := none }) (v := ?_) rfl (by kernel_rfl) (by kernel_rfl) (by kernel_rfl) (fun _ _ _ h => h) (Or.inl ⟨by rfl, ?_⟩) hHeld ?_
  rotate_left
  · intro w hSw
    (try dsimp only at hSw)
    go_simp
    with_reducible rfl
  try simp only [Act.put, List.setIfInBounds_toArray, List.set_cons_zero, List.set_cons_succ]
  refine wpAnyH_take (i := 1) (oi := { dst := some 19, op := Op.load 4 (Operand.tmp 18), type := 4, pos := "decimal.go:27", after := #[{ on := 0, ground := Ground.data }], guard := none }) (v := ?_) rfl (by kernel_rfl) (by kernel_rfl) (by kernel_rfl) (fun _ _ _ h => h) (Or.inl ⟨by rfl, ?_⟩) hHeld ?_
  rotate_left
  · intro w hSw
    (try dsimp only at hSw)
    go_simp
    with_reducible rfl
  try simp only [Act.put, List.setIfInBounds_toArray, List.set_cons_zero, List.set_cons_succ]
  refine wpAnyH_take (i := 2) (oi := { dst := some 20, op := Op.move (Operand.tmp 19), type := 4, pos := "decimal.go:27", after := #[{ on := 1, ground := Ground.data }], guard := none }) (v := ?_) rfl (by kernel_rfl) (by kernel_rfl) (by kernel_rfl) (fun _ _ _ h => h) (Or.inl ⟨by rfl, ?_⟩) hHeld ?_
  rotate_left
  · intro w hSw
    (try dsimp only at hSw)
    go_simp
    with_reducible rfl
  try simp only [Act.put, List.setIfInBounds_toArray, List.set_cons_zero, List.set_cons_succ]
  refine wpAnyH_take (i := 9) (oi := { dst := some 27, op := Op.fieldAddr 44 (Operand.tmp 6) 1, type := 0, pos := "decimal.go:27", after := #[], guard := none }) (v := ?_) rfl (by kernel_rfl) (by kernel_rfl) (by kernel_rfl) (fun _ _ _ h => h) (Or.inl ⟨by rfl, ?_⟩) hHeld ?_
  rotate_left
  · intro w hSw
    (try dsimp only at hSw)
    go_simp
    with_reducible rfl
  try simp only [Act.put, List.setIfInBounds_toArray, List.set_cons_zero, List.set_cons_succ]
  refine wpAnyH_take (i := 10) (oi := { dst := some 28, op := Op.load 23 (Operand.tmp 27), type := 23, pos := "decimal.go:27", after := #[{ on := 9, ground := Ground.data }], guard := none }) (v := ?_) rfl (by kernel_rfl) (by kernel_rfl) (by kernel_rfl) (fun _ _ _ h => h) (Or.inl ⟨by rfl, ?_⟩) hHeld ?_
  rotate_left
  · intro w hSw
    (try dsimp only at hSw)
    go_simp
    with_reducible rfl
  try simp only [Act.put, List.setIfInBounds_toArray, List.set_cons_zero, List.set_cons_succ]
  refine wpAnyH_take (i := 11) (oi := { dst := some 29, op := Op.move (Operand.tmp 1), type := 3, pos := "decimal.go:27", after := #[], guard := none }) (v := ?_) rfl (by kernel_rfl) (by kernel_rfl) (by kernel_rfl) (fun _ _ _ h => h) (Or.inl ⟨by rfl, ?_⟩) hHeld ?_
  rotate_left
  · intro w hSw
    (try dsimp only at hSw)
    go_simp
    with_reducible rfl
  try simp only [Act.put, List.setIfInBounds_toArray, List.set_cons_zero, List.set_cons_succ]
  refine wpAnyH_take (i := 12) (oi := { dst := some 30, op := Op.binOp BinOp.add 3 (Operand.tmp 29) (Operand.const (Value.int IntKind.i64 1)) 3, type := 3, pos := "decimal.go:27", after := #[{ on := 11, ground := Ground.data }], guard := none }) (v := ?_) rfl (by kernel_rfl) (by kernel_rfl) (by kernel_rfl) (fun _ _ _ h => h) (Or.inl ⟨by rfl, ?_⟩) hHeld ?_
  rotate_left
  · intro w hSw
    (try dsimp only at hSw)
    go_simp
    with_reducible rfl
  try simp only [Act.put, List.setIfInBounds_toArray, List.set_cons_zero, List.set_cons_succ]
  refine wpAnyH_take (i := 3) (oi := { dst := some 21, op := Op.fieldAddr 44 (Operand.tmp 6) 1, type := 0, pos := "decimal.go:27", after := #[{ on := 2, ground := Ground.guard }], guard := some (2, true) }) (v := undef) rfl (by kernel_rfl) (by kernel_rfl) (by kernel_rfl) (fun _ _ _ h => h) (Or.inr ⟨by rfl, rfl⟩) hHeld ?_
  try simp only [Act.put, List.setIfInBounds_toArray, List.set_cons_zero, List.set_cons_succ]
  refine wpAnyH_take (i := 4) (oi := { dst := some 22, op := Op.load 23 (Operand.tmp 21), type := 23, pos := "decimal.go:27", after := #[{ on := 3, ground := Ground.data }, { on := 2, ground := Ground.guard }], guard := some (2, true) }) (v := undef) rfl (by kernel_rfl) (by kernel_rfl) (by kernel_rfl) (fun _ _ _ h => h) (Or.inr ⟨by rfl, rfl⟩) hHeld ?_
  try simp only [Act.put, List.setIfInBounds_toArray, List.set_cons_zero, List.set_cons_succ]
  refine wpAnyH_take (i := 5) (oi := { dst := some 23, op := Op.call { callee := Callee.value (Operand.func 23), args := #[Operand.tmp 22], argTypes := #[23] }, type := 3, pos := "decimal.go:27", after := #[{ on := 4, ground := Ground.data }, { on := 2, ground := Ground.chain }, { on := 2, ground := Ground.guard }], guard := some (2, true) }) (v := undef) rfl (by kernel_rfl) (by kernel_rfl) (by kernel_rfl) (fun _ _ _ h => h) (Or.inr ⟨by rfl, rfl⟩) hHeld ?_
  try simp only [Act.put, List.setIfInBounds_toArray, List.set_cons_zero, List.set_cons_succ]
  refine wpAnyH_take (i := 6) (oi := { dst := some 24, op := Op.binOp BinOp.gtr 3 (Operand.tmp 23) (Operand.const (Value.int IntKind.i64 0)) 3, type := 4, pos := "decimal.go:27", after := #[{ on := 5, ground := Ground.data }, { on := 2, ground := Ground.guard }], guard := some (2, true) }) (v := undef) rfl (by kernel_rfl) (by kernel_rfl) (by kernel_rfl) (fun _ _ _ h => h) (Or.inr ⟨by rfl, rfl⟩) hHeld ?_
  try simp only [Act.put, List.setIfInBounds_toArray, List.set_cons_zero, List.set_cons_succ]
  refine wpAnyH_take (i := 7) (oi := { dst := some 25, op := Op.pick (Operand.tmp 20) (Operand.tmp 24) (Operand.const (Value.bool false)), type := 4, pos := "decimal.go:27", after := #[{ on := 2, ground := Ground.data }, { on := 6, ground := Ground.data }], guard := none }) (v := ?_) rfl (by kernel_rfl) (by kernel_rfl) (by kernel_rfl) (fun _ _ _ h => h) (Or.inl ⟨by rfl, ?_⟩) hHeld ?_
  rotate_left
  · intro w hSw
    (try dsimp only at hSw)
    go_simp
    with_reducible rfl
  try simp only [Act.put, List.setIfInBounds_toArray, List.set_cons_zero, List.set_cons_succ]
  refine wpAnyH_ready (rs := [8]) (by kernel_rfl) (by simp) ?_
  refine AllReadyH.cons (o := { dst := some 26, op := Op.call { callee := Callee.value (Operand.func 22), args := #[Operand.tmp 25], argTypes := #[4] }, type := 9, pos := "decimal.go:27", after := #[{ on := 7, ground := Ground.data }, { on := 5, ground := Ground.chain }], guard := none }) rfl (fun K_ hK_ => ?_) AllReadyH.nil
  go_simp
  refine (sign_calls false _).mono ?_
  rintro e w' ⟨rfl, rfl⟩
  refine hK_.out _ _ ⟨bn_3.cell0, bn_3.cell1⟩ (fun hHeld => ?_)
  clear hK_ K_
  try simp only [Act.put, List.setIfInBounds_toArray, List.set_cons_zero, List.set_cons_succ]
  refine wpAnyH_ready (rs := [13]) (by kernel_rfl) (by simp) ?_
  refine AllReadyH.cons (o := { dst := some 31, op := Op.call { callee := Callee.value (Operand.func 24), args := #[Operand.tmp 28, Operand.tmp 30], argTypes := #[23, 3] }, type := 9, pos := "decimal.go:27", after := #[{ on := 10, ground := Ground.data }, { on := 12, ground := Ground.data }, { on := 8, ground := Ground.chain }], guard := none }) rfl (fun K_ hK_ => ?_) AllReadyH.nil
  go_simp
  refine (digsOf_calls A2 n2 c2 (K + p + 2) V (p + 1) _ _ (by first | exact HW.out | exact HW2.out) hv_3 kp hp1 hp5).mono ?_
  rintro e w5 ⟨rfl, b5⟩
  have bn_5 := bn_3.below b5 bn_3.lt
  have F5 := below_then F3 (Nat.le_refl _) b5
  refine hK_.out _ _ ⟨bn_5.cell0, bn_5.cell1⟩ (fun hHeld => ?_)
  clear hK_ K_
  try simp only [Act.put, List.setIfInBounds_toArray, List.set_cons_zero, List.set_cons_succ]
  refine wpAnyH_take (i := 14) (oi := { dst := some 32, op := Op.binOp BinOp.add 9 (Operand.tmp 26) (Operand.tmp 31) 9, type := 9, pos := "decimal.go:27", after := #[{ on := 8, ground := Ground.data }, { on := 13, ground := Ground.data }], guard := none }) (v := ?_) rfl (by kernel_rfl) (by kernel_rfl) (by kernel_rfl) (fun _ _ _ h => h) (Or.inl ⟨by rfl, ?_⟩) hHeld ?_
  rotate_left
  · intro w hSw
    (try dsimp only at hSw)
    go_simp
    with_reducible rfl
  try simp only [Act.put, List.setIfInBounds_toArray, List.set_cons_zero, List.set_cons_succ]
  refine wpAnyH_take (i := 15) (oi := { dst := some 7, op := Op.assign (Operand.tmp 32), type := 9, pos := "decimal.go:27", after := #[{ on := 14, ground := Ground.data }, { on := 13, ground := Ground.chain }, { on := 0, ground := Ground.phase }, { on := 1, ground := Ground.phase }, { on := 2, ground := Ground.phase }, { on := 3, ground := Ground.phase }, { on := 4, ground := Ground.phase }, { on := 5, ground := Ground.phase }, { on := 6, ground := Ground.phase }, { on := 7, ground := Ground.phase }, { on := 8, ground := Ground.phase }, { on := 9, ground := Ground.phase }, { on := 10, ground := Ground.phase }, { on := 11, ground := Ground.phase }, { on := 12, ground := Ground.phase }, { on := 13, ground := Ground.phase }, { on := 14, ground := Ground.phase }], guard := none }) (v := ?_) rfl (by kernel_rfl) (by kernel_rfl) (by kernel_rfl) (fun _ _ _ h => h) (Or.inl ⟨by rfl, ?_⟩) hHeld ?_
  rotate_left
  · intro w hSw
    (try dsimp only at hSw)
    go_simp
    with_reducible rfl
  try simp only [Act.put, List.setIfInBounds_toArray, List.set_cons_zero, List.set_cons_succ]
  refine wpAnyH_done (by kernel_rfl) ?_ _
  all_goals have dp : ((p : Int) == 0) = true := by have := HP0.out; simp; omega
  all_goals
    go_wp2
    go_ret2
    exact ⟨rfl, F5⟩
set_option maxRecDepth 100000 in
set_option maxHeartbeats 400000 in
theorem fix_pos_p (s : Bool) (A : Option Addr) (n c : Nat) (B : Option Addr) (m d : Nat) (q : Rat) (K p V : Nat) (T : List UInt8) (w : World) (hT : sgl false ++ pads (p + 1) (dt V) = T) (hV : fixn q p = V) (hsg : decide (q.num < 0) = false) (hp0 : 0 < p) (h : Cq w s A n c B m d q) (hs : Qs K q) (hK : K ≤ 1000) (hK1 : 1 ≤ K) (hp : p ≤ 4000) :
    Calls Tryz.prog 8 #[.agg #[.bool s, .slice A n c, .slice B m d], .int .i64 (p : Int)] w (Asks w (.tuple #[.string (bs (T.take (T.length - p) ++ 46 :: T.drop (T.length - p))), .int .i64 0])) := by
  have h_1 := h.alloc (EQ s A n c B m d)
  have F1 := (Below.refl w.heap.size w).alloc (Nat.le_refl _) (EQ s A n c B m d)
  have bx_1 := Sq.new (w) (.bool s) (.slice A n c) (.slice B m d)
  have bx_u1 := bx_1.cell0
  have bx_v1 := bx_1.cell1
  have bx_w1 := bx_1.cell2
  have d1 : decide ((p : Int) < 0) = false := by simp
  have d2 : decide ((4000 : Int) < (p : Int)) = false := by simp; omega
  have HV := hide hV
  have HW := hide (show IntKind.i64.wrap ((p : Int) + 1) = ((p + 1 : Nat) : Int) by rw [IntWalk.i64_in _ ⟨by omega, by omega⟩]; omega)
  have HW2 := hide (show (p : Int) + 1 = ((p + 1 : Nat) : Int) by omega)
  have HSG := hide hsg
  have HS := hide hs
  have kp : K + p + 2 ≤ 16384 := by omega
  have kp2 : K + p + 2 ≤ 1048576 := by omega
  have hp5 : p + 1 ≤ 5000 := by omega
  have hp1 : 1 ≤ p + 1 := by omega
  have HP0 := hide hp0
  clear hV hsg hs hp0
  go_enter Tryz.func8, Tryz.ntmps8
  go_wp2_with fail
  refine (units_q _ _ _ _ _ _ _ q K p V _ HV.out false HSG.out h_1 HS.out hK hK1 hp).mono ?_
  rintro e w2 ⟨A2, n2, c2, rfl, hv, b2⟩
  have F2 := below_then F1 (Nat.le_refl _) b2
  have hlt := hv.lt
  have F3 := (F2.alloc F2.size (EI false A2 n2 c2)).drew
  have bn_3 := (Sb.new w2 (.bool false) (.slice A2 n2 c2)).drew
  have hv_3 := (hv.alloc (EI false A2 n2 c2)).drew
  have hvz := hv_3.nz
  have bn_u := (Sb.new w2 (.bool false) (.slice A2 n2 c2)).cell0
  have bn_v := (Sb.new w2 (.bool false) (.slice A2 n2 c2)).cell1
  have p1 := pads_dt (k := p + 1) hlt kp (by omega)
  have p0 := sgl_len false
  have hTl : T.length ≤ 1000001 := by rw [← hT, List.length_append]; omega
  have hTp : p + 1 ≤ T.length := by rw [← hT, List.length_append]; unfold pads; rw [List.length_append, List.length_replicate]; omega
  have hcat : bs (sgl false) ++ bs (pads (p + 1) (dt V)) = bs T := by rw [bs_append, hT]
  have hsT := bs_size T
  have zz1 : ¬ (9223372036854775807 < (bs (sgl false)).size + (bs (pads (p + 1) (dt V))).size) := by rw [bs_size, bs_size]; omega
  clear h h_1 hT p1 p0 hlt hv
  go_wp2_with fail
  refine wp_region_held_drew (S := fun w' => w'.cell? ⟨w2.heap.size, 0, none⟩ = some (.bool false) ∧ w'.cell? ⟨w2.heap.size, 1, none⟩ = some (.slice A2 n2 c2)) (by kernel_rfl) ⟨bn_3.cell0, bn_3.cell1⟩ (fun hHeld => ?_)
  refine wpAnyH_take (i := 0) (oi := { dst := some 18, op := Op.fieldAddr 44 (Operand.tmp 6) 0, type := 0, pos := "decimal.go:27", after := #[], guard := none }) (v := ?_) rfl (by kernel_rfl) (by kernel_rfl) (by kernel_rfl) (fun _ _ _ h => h) (Or.inl ⟨by rfl, ?_⟩) hHeld ?_
  rotate_left
  · intro w hSw
    (try dsimp only at hSw)
    go_simp
    with_reducible rfl
  try simp only [Act.put, List.setIfInBounds_toArray, List.set_cons_zero, List.set_cons_succ]
  refine wpAnyH_take (i := 1) (oi := { dst := some 19, op := Op.load 4 (Operand.tmp 18), type := 4, pos := "decimal.go:27", after := #[{ on := 0, ground := Ground.data }], guard := none }) (v := ?_) rfl (by kernel_rfl) (by kernel_rfl) (by kernel_rfl) (fun _ _ _ h => h) (Or.inl ⟨by rfl, ?_⟩) hHeld ?_
  rotate_left
  · intro w hSw
    (try dsimp only at hSw)
    go_simp
    with_reducible rfl
  try simp only [Act.put, List.setIfInBounds_toArray, List.set_cons_zero, List.set_cons_succ]
  refine wpAnyH_take (i := 2) (oi := { dst := some 20, op := Op.move (Operand.tmp 19), type := 4, pos := "decimal.go:27", after := #[{ on := 1, ground := Ground.data }], guard := none }) (v := ?_) rfl (by kernel_rfl) (by kernel_rfl) (by kernel_rfl) (fun _ _ _ h => h) (Or.inl ⟨by rfl, ?_⟩) hHeld ?_
  rotate_left
  · intro w hSw
    (try dsimp only at hSw)
    go_simp
    with_reducible rfl
  try simp only [Act.put, List.setIfInBounds_toArray, List.set_cons_zero, List.set_cons_succ]
  refine wpAnyH_take (i := 9) (oi := { dst := some 27, op := Op.fieldAddr 44 (Operand.tmp 6) 1, type := 0, pos := "decimal.go:27", after := #[], guard := none }) (v := ?_) rfl (by kernel_rfl) (by kernel_rfl) (by kernel_rfl) (fun _ _ _ h => h) (Or.inl ⟨by rfl, ?_⟩) hHeld ?_
  rotate_left
  · intro w hSw
    (try dsimp only at hSw)
    go_simp
    with_reducible rfl
  try simp only [Act.put, List.setIfInBounds_toArray, List.set_cons_zero, List.set_cons_succ]
  refine wpAnyH_take (i := 10) (oi := { dst := some 28, op := Op.load 23 (Operand.tmp 27), type := 23, pos := "decimal.go:27", after := #[{ on := 9, ground := Ground.data }], guard := none }) (v := ?_) rfl (by kernel_rfl) (by kernel_rfl) (by kernel_rfl) (fun _ _ _ h => h) (Or.inl ⟨by rfl, ?_⟩) hHeld ?_
  rotate_left
  · intro w hSw
    (try dsimp only at hSw)
    go_simp
    with_reducible rfl
  try simp only [Act.put, List.setIfInBounds_toArray, List.set_cons_zero, List.set_cons_succ]
  refine wpAnyH_take (i := 11) (oi := { dst := some 29, op := Op.move (Operand.tmp 1), type := 3, pos := "decimal.go:27", after := #[], guard := none }) (v := ?_) rfl (by kernel_rfl) (by kernel_rfl) (by kernel_rfl) (fun _ _ _ h => h) (Or.inl ⟨by rfl, ?_⟩) hHeld ?_
  rotate_left
  · intro w hSw
    (try dsimp only at hSw)
    go_simp
    with_reducible rfl
  try simp only [Act.put, List.setIfInBounds_toArray, List.set_cons_zero, List.set_cons_succ]
  refine wpAnyH_take (i := 12) (oi := { dst := some 30, op := Op.binOp BinOp.add 3 (Operand.tmp 29) (Operand.const (Value.int IntKind.i64 1)) 3, type := 3, pos := "decimal.go:27", after := #[{ on := 11, ground := Ground.data }], guard := none }) (v := ?_) rfl (by kernel_rfl) (by kernel_rfl) (by kernel_rfl) (fun _ _ _ h => h) (Or.inl ⟨by rfl, ?_⟩) hHeld ?_
  rotate_left
  · intro w hSw
    (try dsimp only at hSw)
    go_simp
    with_reducible rfl
  try simp only [Act.put, List.setIfInBounds_toArray, List.set_cons_zero, List.set_cons_succ]
  refine wpAnyH_take (i := 3) (oi := { dst := some 21, op := Op.fieldAddr 44 (Operand.tmp 6) 1, type := 0, pos := "decimal.go:27", after := #[{ on := 2, ground := Ground.guard }], guard := some (2, true) }) (v := undef) rfl (by kernel_rfl) (by kernel_rfl) (by kernel_rfl) (fun _ _ _ h => h) (Or.inr ⟨by rfl, rfl⟩) hHeld ?_
  try simp only [Act.put, List.setIfInBounds_toArray, List.set_cons_zero, List.set_cons_succ]
  refine wpAnyH_take (i := 4) (oi := { dst := some 22, op := Op.load 23 (Operand.tmp 21), type := 23, pos := "decimal.go:27", after := #[{ on := 3, ground := Ground.data }, { on := 2, ground := Ground.guard }], guard := some (2, true) }) (v := undef) rfl (by kernel_rfl) (by kernel_rfl) (by kernel_rfl) (fun _ _ _ h => h) (Or.inr ⟨by rfl, rfl⟩) hHeld ?_
  try simp only [Act.put, List.setIfInBounds_toArray, List.set_cons_zero, List.set_cons_succ]
  refine wpAnyH_take (i := 5) (oi := { dst := some 23, op := Op.call { callee := Callee.value (Operand.func 23), args := #[Operand.tmp 22], argTypes := #[23] }, type := 3, pos := "decimal.go:27", after := #[{ on := 4, ground := Ground.data }, { on := 2, ground := Ground.chain }, { on := 2, ground := Ground.guard }], guard := some (2, true) }) (v := undef) rfl (by kernel_rfl) (by kernel_rfl) (by kernel_rfl) (fun _ _ _ h => h) (Or.inr ⟨by rfl, rfl⟩) hHeld ?_
  try simp only [Act.put, List.setIfInBounds_toArray, List.set_cons_zero, List.set_cons_succ]
  refine wpAnyH_take (i := 6) (oi := { dst := some 24, op := Op.binOp BinOp.gtr 3 (Operand.tmp 23) (Operand.const (Value.int IntKind.i64 0)) 3, type := 4, pos := "decimal.go:27", after := #[{ on := 5, ground := Ground.data }, { on := 2, ground := Ground.guard }], guard := some (2, true) }) (v := undef) rfl (by kernel_rfl) (by kernel_rfl) (by kernel_rfl) (fun _ _ _ h => h) (Or.inr ⟨by rfl, rfl⟩) hHeld ?_
  try simp only [Act.put, List.setIfInBounds_toArray, List.set_cons_zero, List.set_cons_succ]
  refine wpAnyH_take (i := 7) (oi := { dst := some 25, op := Op.pick (Operand.tmp 20) (Operand.tmp 24) (Operand.const (Value.bool false)), type := 4, pos := "decimal.go:27", after := #[{ on := 2, ground := Ground.data }, { on := 6, ground := Ground.data }], guard := none }) (v := ?_) rfl (by kernel_rfl) (by kernel_rfl) (by kernel_rfl) (fun _ _ _ h => h) (Or.inl ⟨by rfl, ?_⟩) hHeld ?_
  rotate_left
  · intro w hSw
    (try dsimp only at hSw)
    go_simp
    with_reducible rfl
  try simp only [Act.put, List.setIfInBounds_toArray, List.set_cons_zero, List.set_cons_succ]
  refine wpAnyH_ready (rs := [8]) (by kernel_rfl) (by simp) ?_
  refine AllReadyH.cons (o := { dst := some 26, op := Op.call { callee := Callee.value (Operand.func 22), args := #[Operand.tmp 25], argTypes := #[4] }, type := 9, pos := "decimal.go:27", after := #[{ on := 7, ground := Ground.data }, { on := 5, ground := Ground.chain }], guard := none }) rfl (fun K_ hK_ => ?_) AllReadyH.nil
  go_simp
  refine (sign_calls false _).mono ?_
  rintro e w' ⟨rfl, rfl⟩
  refine hK_.out _ _ ⟨bn_3.cell0, bn_3.cell1⟩ (fun hHeld => ?_)
  clear hK_ K_
  try simp only [Act.put, List.setIfInBounds_toArray, List.set_cons_zero, List.set_cons_succ]
  refine wpAnyH_ready (rs := [13]) (by kernel_rfl) (by simp) ?_
  refine AllReadyH.cons (o := { dst := some 31, op := Op.call { callee := Callee.value (Operand.func 24), args := #[Operand.tmp 28, Operand.tmp 30], argTypes := #[23, 3] }, type := 9, pos := "decimal.go:27", after := #[{ on := 10, ground := Ground.data }, { on := 12, ground := Ground.data }, { on := 8, ground := Ground.chain }], guard := none }) rfl (fun K_ hK_ => ?_) AllReadyH.nil
  go_simp
  refine (digsOf_calls A2 n2 c2 (K + p + 2) V (p + 1) _ _ (by first | exact HW.out | exact HW2.out) hv_3 kp hp1 hp5).mono ?_
  rintro e w5 ⟨rfl, b5⟩
  have bn_5 := bn_3.below b5 bn_3.lt
  have F5 := below_then F3 (Nat.le_refl _) b5
  refine hK_.out _ _ ⟨bn_5.cell0, bn_5.cell1⟩ (fun hHeld => ?_)
  clear hK_ K_
  try simp only [Act.put, List.setIfInBounds_toArray, List.set_cons_zero, List.set_cons_succ]
  refine wpAnyH_take (i := 14) (oi := { dst := some 32, op := Op.binOp BinOp.add 9 (Operand.tmp 26) (Operand.tmp 31) 9, type := 9, pos := "decimal.go:27", after := #[{ on := 8, ground := Ground.data }, { on := 13, ground := Ground.data }], guard := none }) (v := ?_) rfl (by kernel_rfl) (by kernel_rfl) (by kernel_rfl) (fun _ _ _ h => h) (Or.inl ⟨by rfl, ?_⟩) hHeld ?_
  rotate_left
  · intro w hSw
    (try dsimp only at hSw)
    go_simp
    with_reducible rfl
  try simp only [Act.put, List.setIfInBounds_toArray, List.set_cons_zero, List.set_cons_succ]
  refine wpAnyH_take (i := 15) (oi := { dst := some 7, op := Op.assign (Operand.tmp 32), type := 9, pos := "decimal.go:27", after := #[{ on := 14, ground := Ground.data }, { on := 13, ground := Ground.chain }, { on := 0, ground := Ground.phase }, { on := 1, ground := Ground.phase }, { on := 2, ground := Ground.phase }, { on := 3, ground := Ground.phase }, { on := 4, ground := Ground.phase }, { on := 5, ground := Ground.phase }, { on := 6, ground := Ground.phase }, { on := 7, ground := Ground.phase }, { on := 8, ground := Ground.phase }, { on := 9, ground := Ground.phase }, { on := 10, ground := Ground.phase }, { on := 11, ground := Ground.phase }, { on := 12, ground := Ground.phase }, { on := 13, ground := Ground.phase }, { on := 14, ground := Ground.phase }], guard := none }) (v := ?_) rfl (by kernel_rfl) (by kernel_rfl) (by kernel_rfl) (fun _ _ _ h => h) (Or.inl ⟨by rfl, ?_⟩) hHeld ?_
  rotate_left
  · intro w hSw
    (try dsimp only at hSw)
    go_simp
    with_reducible rfl
  try simp only [Act.put, List.setIfInBounds_toArray, List.set_cons_zero, List.set_cons_succ]
  refine wpAnyH_done (by kernel_rfl) ?_ _
  all_goals have dp : ((p : Int) == 0) = false := by have := HP0.out; simp; omega
  all_goals obtain ⟨P1, hP1⟩ : ∃ P1, T.take (T.length - p) = P1 := ⟨_, rfl⟩
  all_goals obtain ⟨P2, hP2⟩ : ∃ P2, T.drop (T.length - p) = P2 := ⟨_, rfl⟩
  all_goals have HE1 : (bs T).extract 0 ((T.length : Int) - (p : Int)).toNat = bs P1 := by rw [← hP1, show ((T.length : Int) - (p : Int)).toNat = T.length - p by omega]; exact bs_cut0 T _ (by omega)
  all_goals have HE2 : (bs T).extract ((T.length : Int) - (p : Int)).toNat T.length = bs P2 := by rw [← hP2, show ((T.length : Int) - (p : Int)).toNat = T.length - p by omega]; exact bs_cut T _ _ rfl
  all_goals have HN1 := hide (show (bs T).extract 0 (T.length - p) = bs P1 by rw [← hP1]; exact bs_cut0 T _ (by omega))
  all_goals have HN2 := hide (show (bs T).extract (T.length - p) T.length = bs P2 by rw [← hP2]; exact bs_cut T _ _ rfl)
  all_goals have l1 : P1.length ≤ 1000001 := by rw [← hP1, List.length_take]; omega
  all_goals have l2 : P2.length ≤ 1000001 := by rw [← hP2, List.length_drop]; omega
  all_goals have y1 : (0 : Int) ≤ (T.length : Int) - (p : Int) := by omega
  all_goals have y2 : (T.length : Int) - (p : Int) ≤ (T.length : Int) := by omega
  all_goals have zz2 : ¬ (9223372036854775807 < (bs P1).size + 1) := by rw [bs_size]; omega
  all_goals have zz3 : ¬ (9223372036854775807 < (bs P1).size + 1 + (bs P2).size) := by rw [bs_size, bs_size]; omega
  all_goals have HP := hide (And.intro hP1 hP2)
  all_goals clear hP1 hP2
  all_goals go_wp2_with fail
  all_goals go_region
  all_goals go_wp2
  all_goals go_ret2
  all_goals exact ⟨by rw [HP.out.1, HP.out.2, show P1 ++ 46 :: P2 = P1 ++ [46] ++ P2 by simp, ← bs_append, ← bs_append, ← HN1.out, ← HN2.out]; rfl, by first | exact F5 | exact F5.drew⟩
set_option maxRecDepth 100000 in
set_option maxHeartbeats 400000 in
theorem fix_neg_0 (s : Bool) (A : Option Addr) (n c : Nat) (B : Option Addr) (m d : Nat) (q : Rat) (K p V : Nat) (T : List UInt8) (w : World) (hT : sgl true ++ pads (p + 1) (dt V) = T) (hV : fixn q p = V) (hsg : decide (q.num < 0) = true) (hz : 0 < V) (hp0 : p = 0) (h : Cq w s A n c B m d q) (hs : Qs K q) (hK : K ≤ 1000) (hK1 : 1 ≤ K) (hp : p ≤ 4000) :
    Calls Tryz.prog 8 #[.agg #[.bool s, .slice A n c, .slice B m d], .int .i64 (p : Int)] w (Asks w (.tuple #[.string (bs (T)), .int .i64 0])) := by
  have h_1 := h.alloc (EQ s A n c B m d)
  have F1 := (Below.refl w.heap.size w).alloc (Nat.le_refl _) (EQ s A n c B m d)
  have bx_1 := Sq.new (w) (.bool s) (.slice A n c) (.slice B m d)
  have bx_u1 := bx_1.cell0
  have bx_v1 := bx_1.cell1
  have bx_w1 := bx_1.cell2
  have d1 : decide ((p : Int) < 0) = false := by simp
  have d2 : decide ((4000 : Int) < (p : Int)) = false := by simp; omega
  have HV := hide hV
  have HW := hide (show IntKind.i64.wrap ((p : Int) + 1) = ((p + 1 : Nat) : Int) by rw [IntWalk.i64_in _ ⟨by omega, by omega⟩]; omega)
  have HW2 := hide (show (p : Int) + 1 = ((p + 1 : Nat) : Int) by omega)
  have HSG := hide hsg
  have HS := hide hs
  have kp : K + p + 2 ≤ 16384 := by omega
  have kp2 : K + p + 2 ≤ 1048576 := by omega
  have hp5 : p + 1 ≤ 5000 := by omega
  have hp1 : 1 ≤ p + 1 := by omega
  have HP0 := hide hp0
  clear hV hsg hs hp0
  have dz : decide (0 < V) = true := by simp; omega
  have HZ := hide hz
  clear hz
  go_enter Tryz.func8, Tryz.ntmps8
  go_wp2_with fail
  refine (units_q _ _ _ _ _ _ _ q K p V _ HV.out true HSG.out h_1 HS.out hK hK1 hp).mono ?_
  rintro e w2 ⟨A2, n2, c2, rfl, hv, b2⟩
  have F2 := below_then F1 (Nat.le_refl _) b2
  have hlt := hv.lt
  have F3 := (F2.alloc F2.size (EI true A2 n2 c2)).drew
  have bn_3 := (Sb.new w2 (.bool true) (.slice A2 n2 c2)).drew
  have hv_3 := (hv.alloc (EI true A2 n2 c2)).drew
  have hvz := hv_3.nz
  have bn_u := (Sb.new w2 (.bool true) (.slice A2 n2 c2)).cell0
  have bn_v := (Sb.new w2 (.bool true) (.slice A2 n2 c2)).cell1
  have p1 := pads_dt (k := p + 1) hlt kp (by omega)
  have p0 := sgl_len true
  have hTl : T.length ≤ 1000001 := by rw [← hT, List.length_append]; omega
  have hTp : p + 1 ≤ T.length := by rw [← hT, List.length_append]; unfold pads; rw [List.length_append, List.length_replicate]; omega
  have hcat : bs (sgl true) ++ bs (pads (p + 1) (dt V)) = bs T := by rw [bs_append, hT]
  have hsT := bs_size T
  have zz1 : ¬ (9223372036854775807 < (bs (sgl true)).size + (bs (pads (p + 1) (dt V))).size) := by rw [bs_size, bs_size]; omega
  clear h h_1 hT p1 p0 hlt hv
  go_wp2_with fail
  go_region_held3 (fun w' => w'.cell? ⟨w2.heap.size, 0, none⟩ = some (.bool true) ∧ w'.cell? ⟨w2.heap.size, 1, none⟩ = some (.slice A2 n2 c2))
    (first
      | with_reducible exact ⟨bn_5.cell0, bn_5.cell1⟩
      | with_reducible exact ⟨bn_3.cell0, bn_3.cell1⟩
      | fail)
    (first
      | (go_at_call 23; (with_reducible refine (bits_n _ _ _ _ V true _ dz hvz kp2).mono ?_); rintro e w' ⟨r, rfl, hr, rfl⟩)
      | (go_at_call 23; (with_reducible refine (bits_n _ _ _ _ V true _ dz hvz_5 kp2).mono ?_); rintro e w' ⟨r, rfl, hr, rfl⟩)
      | (go_at_call 22; (with_reducible refine (sign_calls true _).mono ?_); rintro e w' ⟨rfl, rfl⟩)
      | (go_at_call 24; (with_reducible refine (digsOf_calls A2 n2 c2 (K + p + 2) V (p + 1) _ _ (by first | exact HW.out | exact HW2.out) hv_3 kp hp1 hp5).mono ?_); rintro e w5 ⟨rfl, b5⟩; have bn_5 := bn_3.below b5 bn_3.lt; have hvz_5 := hvz.below b5; have F5 := below_then F3 (Nat.le_refl _) b5)
      | fail)
  all_goals have dp : ((p : Int) == 0) = true := by have := HP0.out; simp; omega
  all_goals
    go_wp2
    go_ret2
    exact ⟨rfl, F5⟩
set_option maxRecDepth 100000 in
set_option maxHeartbeats 400000 in
theorem fix_neg_p (s : Bool) (A : Option Addr) (n c : Nat) (B : Option Addr) (m d : Nat) (q : Rat) (K p V : Nat) (T : List UInt8) (w : World) (hT : sgl true ++ pads (p + 1) (dt V) = T) (hV : fixn q p = V) (hsg : decide (q.num < 0) = true) (hz : 0 < V) (hp0 : 0 < p) (h : Cq w s A n c B m d q) (hs : Qs K q) (hK : K ≤ 1000) (hK1 : 1 ≤ K) (hp : p ≤ 4000) :
    Calls Tryz.prog 8 #[.agg #[.bool s, .slice A n c, .slice B m d], .int .i64 (p : Int)] w (Asks w (.tuple #[.string (bs (T.take (T.length - p) ++ 46 :: T.drop (T.length - p))), .int .i64 0])) := by
  have h_1 := h.alloc (EQ s A n c B m d)
  have F1 := (Below.refl w.heap.size w).alloc (Nat.le_refl _) (EQ s A n c B m d)
  have bx_1 := Sq.new (w) (.bool s) (.slice A n c) (.slice B m d)
  have bx_u1 := bx_1.cell0
  have bx_v1 := bx_1.cell1
  have bx_w1 := bx_1.cell2
  have d1 : decide ((p : Int) < 0) = false := by simp
  have d2 : decide ((4000 : Int) < (p : Int)) = false := by simp; omega
  have HV := hide hV
  have HW := hide (show IntKind.i64.wrap ((p : Int) + 1) = ((p + 1 : Nat) : Int) by rw [IntWalk.i64_in _ ⟨by omega, by omega⟩]; omega)
  have HW2 := hide (show (p : Int) + 1 = ((p + 1 : Nat) : Int) by omega)
  have HSG := hide hsg
  have HS := hide hs
  have kp : K + p + 2 ≤ 16384 := by omega
  have kp2 : K + p + 2 ≤ 1048576 := by omega
  have hp5 : p + 1 ≤ 5000 := by omega
  have hp1 : 1 ≤ p + 1 := by omega
  have HP0 := hide hp0
  clear hV hsg hs hp0
  have dz : decide (0 < V) = true := by simp; omega
  have HZ := hide hz
  clear hz
  go_enter Tryz.func8, Tryz.ntmps8
  go_wp2_with fail
  refine (units_q _ _ _ _ _ _ _ q K p V _ HV.out true HSG.out h_1 HS.out hK hK1 hp).mono ?_
  rintro e w2 ⟨A2, n2, c2, rfl, hv, b2⟩
  have F2 := below_then F1 (Nat.le_refl _) b2
  have hlt := hv.lt
  have F3 := (F2.alloc F2.size (EI true A2 n2 c2)).drew
  have bn_3 := (Sb.new w2 (.bool true) (.slice A2 n2 c2)).drew
  have hv_3 := (hv.alloc (EI true A2 n2 c2)).drew
  have hvz := hv_3.nz
  have bn_u := (Sb.new w2 (.bool true) (.slice A2 n2 c2)).cell0
  have bn_v := (Sb.new w2 (.bool true) (.slice A2 n2 c2)).cell1
  have p1 := pads_dt (k := p + 1) hlt kp (by omega)
  have p0 := sgl_len true
  have hTl : T.length ≤ 1000001 := by rw [← hT, List.length_append]; omega
  have hTp : p + 1 ≤ T.length := by rw [← hT, List.length_append]; unfold pads; rw [List.length_append, List.length_replicate]; omega
  have hcat : bs (sgl true) ++ bs (pads (p + 1) (dt V)) = bs T := by rw [bs_append, hT]
  have hsT := bs_size T
  have zz1 : ¬ (9223372036854775807 < (bs (sgl true)).size + (bs (pads (p + 1) (dt V))).size) := by rw [bs_size, bs_size]; omega
  clear h h_1 hT p1 p0 hlt hv
  go_wp2_with fail
  go_region_held3 (fun w' => w'.cell? ⟨w2.heap.size, 0, none⟩ = some (.bool true) ∧ w'.cell? ⟨w2.heap.size, 1, none⟩ = some (.slice A2 n2 c2))
    (first
      | with_reducible exact ⟨bn_5.cell0, bn_5.cell1⟩
      | with_reducible exact ⟨bn_3.cell0, bn_3.cell1⟩
      | fail)
    (first
      | (go_at_call 23; (with_reducible refine (bits_n _ _ _ _ V true _ dz hvz kp2).mono ?_); rintro e w' ⟨r, rfl, hr, rfl⟩)
      | (go_at_call 23; (with_reducible refine (bits_n _ _ _ _ V true _ dz hvz_5 kp2).mono ?_); rintro e w' ⟨r, rfl, hr, rfl⟩)
      | (go_at_call 22; (with_reducible refine (sign_calls true _).mono ?_); rintro e w' ⟨rfl, rfl⟩)
      | (go_at_call 24; (with_reducible refine (digsOf_calls A2 n2 c2 (K + p + 2) V (p + 1) _ _ (by first | exact HW.out | exact HW2.out) hv_3 kp hp1 hp5).mono ?_); rintro e w5 ⟨rfl, b5⟩; have bn_5 := bn_3.below b5 bn_3.lt; have hvz_5 := hvz.below b5; have F5 := below_then F3 (Nat.le_refl _) b5)
      | fail)
  all_goals have dp : ((p : Int) == 0) = false := by have := HP0.out; simp; omega
  all_goals obtain ⟨P1, hP1⟩ : ∃ P1, T.take (T.length - p) = P1 := ⟨_, rfl⟩
  all_goals obtain ⟨P2, hP2⟩ : ∃ P2, T.drop (T.length - p) = P2 := ⟨_, rfl⟩
  all_goals have HE1 : (bs T).extract 0 ((T.length : Int) - (p : Int)).toNat = bs P1 := by rw [← hP1, show ((T.length : Int) - (p : Int)).toNat = T.length - p by omega]; exact bs_cut0 T _ (by omega)
  all_goals have HE2 : (bs T).extract ((T.length : Int) - (p : Int)).toNat T.length = bs P2 := by rw [← hP2, show ((T.length : Int) - (p : Int)).toNat = T.length - p by omega]; exact bs_cut T _ _ rfl
  all_goals have HN1 := hide (show (bs T).extract 0 (T.length - p) = bs P1 by rw [← hP1]; exact bs_cut0 T _ (by omega))
  all_goals have HN2 := hide (show (bs T).extract (T.length - p) T.length = bs P2 by rw [← hP2]; exact bs_cut T _ _ rfl)
  all_goals have l1 : P1.length ≤ 1000001 := by rw [← hP1, List.length_take]; omega
  all_goals have l2 : P2.length ≤ 1000001 := by rw [← hP2, List.length_drop]; omega
  all_goals have y1 : (0 : Int) ≤ (T.length : Int) - (p : Int) := by omega
  all_goals have y2 : (T.length : Int) - (p : Int) ≤ (T.length : Int) := by omega
  all_goals have zz2 : ¬ (9223372036854775807 < (bs P1).size + 1) := by rw [bs_size]; omega
  all_goals have zz3 : ¬ (9223372036854775807 < (bs P1).size + 1 + (bs P2).size) := by rw [bs_size, bs_size]; omega
  all_goals have HP := hide (And.intro hP1 hP2)
  all_goals clear hP1 hP2
  all_goals go_wp2_with fail
  all_goals go_region
  all_goals go_wp2
  all_goals go_ret2
  all_goals exact ⟨by rw [HP.out.1, HP.out.2, show P1 ++ 46 :: P2 = P1 ++ [46] ++ P2 by simp, ← bs_append, ← bs_append, ← HN1.out, ← HN2.out]; rfl, by first | exact F5 | exact F5.drew⟩
set_option maxRecDepth 100000 in
set_option maxHeartbeats 400000 in
theorem fix_negz_0 (s : Bool) (A : Option Addr) (n c : Nat) (B : Option Addr) (m d : Nat) (q : Rat) (K p V : Nat) (T : List UInt8) (w : World) (hT : sgl false ++ pads (p + 1) (dt V) = T) (hV : fixn q p = V) (hsg : decide (q.num < 0) = true) (hz : V = 0) (hp0 : p = 0) (h : Cq w s A n c B m d q) (hs : Qs K q) (hK : K ≤ 1000) (hK1 : 1 ≤ K) (hp : p ≤ 4000) :
    Calls Tryz.prog 8 #[.agg #[.bool s, .slice A n c, .slice B m d], .int .i64 (p : Int)] w (Asks w (.tuple #[.string (bs (T)), .int .i64 0])) := by
  have h_1 := h.alloc (EQ s A n c B m d)
  have F1 := (Below.refl w.heap.size w).alloc (Nat.le_refl _) (EQ s A n c B m d)
  have bx_1 := Sq.new (w) (.bool s) (.slice A n c) (.slice B m d)
  have bx_u1 := bx_1.cell0
  have bx_v1 := bx_1.cell1
  have bx_w1 := bx_1.cell2
  have d1 : decide ((p : Int) < 0) = false := by simp
  have d2 : decide ((4000 : Int) < (p : Int)) = false := by simp; omega
  have HV := hide hV
  have HW := hide (show IntKind.i64.wrap ((p : Int) + 1) = ((p + 1 : Nat) : Int) by rw [IntWalk.i64_in _ ⟨by omega, by omega⟩]; omega)
  have HW2 := hide (show (p : Int) + 1 = ((p + 1 : Nat) : Int) by omega)
  have HSG := hide hsg
  have HS := hide hs
  have kp : K + p + 2 ≤ 16384 := by omega
  have kp2 : K + p + 2 ≤ 1048576 := by omega
  have hp5 : p + 1 ≤ 5000 := by omega
  have hp1 : 1 ≤ p + 1 := by omega
  have HP0 := hide hp0
  clear hV hsg hs hp0
  have dz : decide (0 < V) = false := by simp; omega
  have HZ := hide hz
  clear hz
  go_enter Tryz.func8, Tryz.ntmps8
  go_wp2_with fail
  refine (units_q _ _ _ _ _ _ _ q K p V _ HV.out true HSG.out h_1 HS.out hK hK1 hp).mono ?_
  rintro e w2 ⟨A2, n2, c2, rfl, hv, b2⟩
  have F2 := below_then F1 (Nat.le_refl _) b2
  have hlt := hv.lt
  have F3 := (F2.alloc F2.size (EI true A2 n2 c2)).drew
  have bn_3 := (Sb.new w2 (.bool true) (.slice A2 n2 c2)).drew
  have hv_3 := (hv.alloc (EI true A2 n2 c2)).drew
  have hvz := hv_3.nz
  have bn_u := (Sb.new w2 (.bool true) (.slice A2 n2 c2)).cell0
  have bn_v := (Sb.new w2 (.bool true) (.slice A2 n2 c2)).cell1
  have p1 := pads_dt (k := p + 1) hlt kp (by omega)
  have p0 := sgl_len false
  have hTl : T.length ≤ 1000001 := by rw [← hT, List.length_append]; omega
  have hTp : p + 1 ≤ T.length := by rw [← hT, List.length_append]; unfold pads; rw [List.length_append, List.length_replicate]; omega
  have hcat : bs (sgl false) ++ bs (pads (p + 1) (dt V)) = bs T := by rw [bs_append, hT]
  have hsT := bs_size T
  have zz1 : ¬ (9223372036854775807 < (bs (sgl false)).size + (bs (pads (p + 1) (dt V))).size) := by rw [bs_size, bs_size]; omega
  clear h h_1 hT p1 p0 hlt hv
  go_wp2_with fail
  go_region_held3 (fun w' => w'.cell? ⟨w2.heap.size, 0, none⟩ = some (.bool true) ∧ w'.cell? ⟨w2.heap.size, 1, none⟩ = some (.slice A2 n2 c2))
    (first
      | with_reducible exact ⟨bn_5.cell0, bn_5.cell1⟩
      | with_reducible exact ⟨bn_3.cell0, bn_3.cell1⟩
      | fail)
    (first
      | (go_at_call 23; (with_reducible refine (bits_n _ _ _ _ V false _ dz hvz kp2).mono ?_); rintro e w' ⟨r, rfl, hr, rfl⟩)
      | (go_at_call 23; (with_reducible refine (bits_n _ _ _ _ V false _ dz hvz_5 kp2).mono ?_); rintro e w' ⟨r, rfl, hr, rfl⟩)
      | (go_at_call 22; (with_reducible refine (sign_calls false _).mono ?_); rintro e w' ⟨rfl, rfl⟩)
      | (go_at_call 24; (with_reducible refine (digsOf_calls A2 n2 c2 (K + p + 2) V (p + 1) _ _ (by first | exact HW.out | exact HW2.out) hv_3 kp hp1 hp5).mono ?_); rintro e w5 ⟨rfl, b5⟩; have bn_5 := bn_3.below b5 bn_3.lt; have hvz_5 := hvz.below b5; have F5 := below_then F3 (Nat.le_refl _) b5)
      | fail)
  all_goals have dp : ((p : Int) == 0) = true := by have := HP0.out; simp; omega
  all_goals
    go_wp2
    go_ret2
    exact ⟨rfl, F5⟩
set_option maxRecDepth 100000 in
set_option maxHeartbeats 400000 in
theorem fix_negz_p (s : Bool) (A : Option Addr) (n c : Nat) (B : Option Addr) (m d : Nat) (q : Rat) (K p V : Nat) (T : List UInt8) (w : World) (hT : sgl false ++ pads (p + 1) (dt V) = T) (hV : fixn q p = V) (hsg : decide (q.num < 0) = true) (hz : V = 0) (hp0 : 0 < p) (h : Cq w s A n c B m d q) (hs : Qs K q) (hK : K ≤ 1000) (hK1 : 1 ≤ K) (hp : p ≤ 4000) :
    Calls Tryz.prog 8 #[.agg #[.bool s, .slice A n c, .slice B m d], .int .i64 (p : Int)] w (Asks w (.tuple #[.string (bs (T.take (T.length - p) ++ 46 :: T.drop (T.length - p))), .int .i64 0])) := by
  have h_1 := h.alloc (EQ s A n c B m d)
  have F1 := (Below.refl w.heap.size w).alloc (Nat.le_refl _) (EQ s A n c B m d)
  have bx_1 := Sq.new (w) (.bool s) (.slice A n c) (.slice B m d)
  have bx_u1 := bx_1.cell0
  have bx_v1 := bx_1.cell1
  have bx_w1 := bx_1.cell2
  have d1 : decide ((p : Int) < 0) = false := by simp
  have d2 : decide ((4000 : Int) < (p : Int)) = false := by simp; omega
  have HV := hide hV
  have HW := hide (show IntKind.i64.wrap ((p : Int) + 1) = ((p + 1 : Nat) : Int) by rw [IntWalk.i64_in _ ⟨by omega, by omega⟩]; omega)
  have HW2 := hide (show (p : Int) + 1 = ((p + 1 : Nat) : Int) by omega)
  have HSG := hide hsg
  have HS := hide hs
  have kp : K + p + 2 ≤ 16384 := by omega
  have kp2 : K + p + 2 ≤ 1048576 := by omega
  have hp5 : p + 1 ≤ 5000 := by omega
  have hp1 : 1 ≤ p + 1 := by omega
  have HP0 := hide hp0
  clear hV hsg hs hp0
  have dz : decide (0 < V) = false := by simp; omega
  have HZ := hide hz
  clear hz
  go_enter Tryz.func8, Tryz.ntmps8
  go_wp2_with fail
  refine (units_q _ _ _ _ _ _ _ q K p V _ HV.out true HSG.out h_1 HS.out hK hK1 hp).mono ?_
  rintro e w2 ⟨A2, n2, c2, rfl, hv, b2⟩
  have F2 := below_then F1 (Nat.le_refl _) b2
  have hlt := hv.lt
  have F3 := (F2.alloc F2.size (EI true A2 n2 c2)).drew
  have bn_3 := (Sb.new w2 (.bool true) (.slice A2 n2 c2)).drew
  have hv_3 := (hv.alloc (EI true A2 n2 c2)).drew
  have hvz := hv_3.nz
  have bn_u := (Sb.new w2 (.bool true) (.slice A2 n2 c2)).cell0
  have bn_v := (Sb.new w2 (.bool true) (.slice A2 n2 c2)).cell1
  have p1 := pads_dt (k := p + 1) hlt kp (by omega)
  have p0 := sgl_len false
  have hTl : T.length ≤ 1000001 := by rw [← hT, List.length_append]; omega
  have hTp : p + 1 ≤ T.length := by rw [← hT, List.length_append]; unfold pads; rw [List.length_append, List.length_replicate]; omega
  have hcat : bs (sgl false) ++ bs (pads (p + 1) (dt V)) = bs T := by rw [bs_append, hT]
  have hsT := bs_size T
  have zz1 : ¬ (9223372036854775807 < (bs (sgl false)).size + (bs (pads (p + 1) (dt V))).size) := by rw [bs_size, bs_size]; omega
  clear h h_1 hT p1 p0 hlt hv
  go_wp2_with fail
  go_region_held3 (fun w' => w'.cell? ⟨w2.heap.size, 0, none⟩ = some (.bool true) ∧ w'.cell? ⟨w2.heap.size, 1, none⟩ = some (.slice A2 n2 c2))
    (first
      | with_reducible exact ⟨bn_5.cell0, bn_5.cell1⟩
      | with_reducible exact ⟨bn_3.cell0, bn_3.cell1⟩
      | fail)
    (first
      | (go_at_call 23; (with_reducible refine (bits_n _ _ _ _ V false _ dz hvz kp2).mono ?_); rintro e w' ⟨r, rfl, hr, rfl⟩)
      | (go_at_call 23; (with_reducible refine (bits_n _ _ _ _ V false _ dz hvz_5 kp2).mono ?_); rintro e w' ⟨r, rfl, hr, rfl⟩)
      | (go_at_call 22; (with_reducible refine (sign_calls false _).mono ?_); rintro e w' ⟨rfl, rfl⟩)
      | (go_at_call 24; (with_reducible refine (digsOf_calls A2 n2 c2 (K + p + 2) V (p + 1) _ _ (by first | exact HW.out | exact HW2.out) hv_3 kp hp1 hp5).mono ?_); rintro e w5 ⟨rfl, b5⟩; have bn_5 := bn_3.below b5 bn_3.lt; have hvz_5 := hvz.below b5; have F5 := below_then F3 (Nat.le_refl _) b5)
      | fail)
  all_goals have dp : ((p : Int) == 0) = false := by have := HP0.out; simp; omega
  all_goals obtain ⟨P1, hP1⟩ : ∃ P1, T.take (T.length - p) = P1 := ⟨_, rfl⟩
  all_goals obtain ⟨P2, hP2⟩ : ∃ P2, T.drop (T.length - p) = P2 := ⟨_, rfl⟩
  all_goals have HE1 : (bs T).extract 0 ((T.length : Int) - (p : Int)).toNat = bs P1 := by rw [← hP1, show ((T.length : Int) - (p : Int)).toNat = T.length - p by omega]; exact bs_cut0 T _ (by omega)
  all_goals have HE2 : (bs T).extract ((T.length : Int) - (p : Int)).toNat T.length = bs P2 := by rw [← hP2, show ((T.length : Int) - (p : Int)).toNat = T.length - p by omega]; exact bs_cut T _ _ rfl
  all_goals have HN1 := hide (show (bs T).extract 0 (T.length - p) = bs P1 by rw [← hP1]; exact bs_cut0 T _ (by omega))
  all_goals have HN2 := hide (show (bs T).extract (T.length - p) T.length = bs P2 by rw [← hP2]; exact bs_cut T _ _ rfl)
  all_goals have l1 : P1.length ≤ 1000001 := by rw [← hP1, List.length_take]; omega
  all_goals have l2 : P2.length ≤ 1000001 := by rw [← hP2, List.length_drop]; omega
  all_goals have y1 : (0 : Int) ≤ (T.length : Int) - (p : Int) := by omega
  all_goals have y2 : (T.length : Int) - (p : Int) ≤ (T.length : Int) := by omega
  all_goals have zz2 : ¬ (9223372036854775807 < (bs P1).size + 1) := by rw [bs_size]; omega
  all_goals have zz3 : ¬ (9223372036854775807 < (bs P1).size + 1 + (bs P2).size) := by rw [bs_size, bs_size]; omega
  all_goals have HP := hide (And.intro hP1 hP2)
  all_goals clear hP1 hP2
  all_goals go_wp2_with fail
  all_goals go_region
  all_goals go_wp2
  all_goals go_ret2
  all_goals exact ⟨by rw [HP.out.1, HP.out.2, show P1 ++ 46 :: P2 = P1 ++ [46] ++ P2 by simp, ← bs_append, ← bs_append, ← HN1.out, ← HN2.out]; rfl, by first | exact F5 | exact F5.drew⟩
theorem fixed_q (s : Bool) (A : Option Addr) (n c : Nat) (B : Option Addr) (m d : Nat) (q : Rat) (K p : Nat) (w : World) (h : Cq w s A n c B m d q) (hs : Qs K q) (hK : K ≤ 1000) (hK1 : 1 ≤ K) (hp : p ≤ 4000) :
    Calls Tryz.prog 8 #[.agg #[.bool s, .slice A n c, .slice B m d], .int .i64 (p : Int)] w (Asks w (.tuple #[.string (bs (ffix q p)), .int .i64 0])) := by
  have hx : ffix q p = (if q.num < 0 ∧ fixn q p ≠ 0 then [45] else []) ++ if p = 0 then pads (p + 1) (dt (fixn q p)) else (pads (p + 1) (dt (fixn q p))).take ((pads (p + 1) (dt (fixn q p))).length - p) ++ 46 :: (pads (p + 1) (dt (fixn q p))).drop ((pads (p + 1) (dt (fixn q p))).length - p) := by
    unfold ffix
    rw [padz_pads]
  have hlen : p ≤ (pads (p + 1) (dt (fixn q p))).length := by unfold pads; rw [List.length_append, List.length_replicate]; omega
  have hsg : ∀ b : Bool, (b = true ↔ (q.num < 0 ∧ fixn q p ≠ 0)) → (if q.num < 0 ∧ fixn q p ≠ 0 then [45] else []) = sgl b := fun b hb => by
    unfold sgl
    by_cases hc : q.num < 0 ∧ fixn q p ≠ 0
    · rw [if_pos hc, if_pos (hb.2 hc)]
    · rw [if_neg hc, if_neg fun e => hc (hb.1 e)]
  by_cases h1 : q.num < 0
  · have d1 : decide (q.num < 0) = true := decide_eq_true h1
    by_cases h2 : fixn q p = 0
    · rw [hx, hsg false (by simp [h2])]
      by_cases h0 : p = 0
      · rw [if_pos h0]
        exact fix_negz_0 s A n c B m d q K p _ _ w rfl rfl d1 h2 h0 h hs hK hK1 hp
      · rw [if_neg h0, ← cut_text _ _ _ hlen]
        exact fix_negz_p s A n c B m d q K p _ _ w rfl rfl d1 h2 (by omega) h hs hK hK1 hp
    · rw [hx, hsg true (by simp [h1, h2])]
      by_cases h0 : p = 0
      · rw [if_pos h0]
        exact fix_neg_0 s A n c B m d q K p _ _ w rfl rfl d1 (by omega) h0 h hs hK hK1 hp
      · rw [if_neg h0, ← cut_text _ _ _ hlen]
        exact fix_neg_p s A n c B m d q K p _ _ w rfl rfl d1 (by omega) (by omega) h hs hK hK1 hp
  · have d1 : decide (q.num < 0) = false := decide_eq_false h1
    rw [hx, hsg false (by simp [h1])]
    by_cases h0 : p = 0
    · rw [if_pos h0]
      exact fix_pos_0 s A n c B m d q K p _ _ w rfl rfl d1 h0 h hs hK hK1 hp
    · rw [if_neg h0, ← cut_text _ _ _ hlen]
      exact fix_pos_p s A n c B m d q K p _ _ w rfl rfl d1 (by omega) h hs hK hK1 hp
end Go.Proofs.YtjpchbcenbjibaaGreatDoor
