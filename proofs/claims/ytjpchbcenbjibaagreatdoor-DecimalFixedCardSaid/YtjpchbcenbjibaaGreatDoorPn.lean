/-
  The program's numberOf.
-/
import Derived.Test.YtjpchbcenbjibaaGreatDoorPx
import Derived.Laws.IdiomStrings
namespace Go.Proofs.YtjpchbcenbjibaaGreatDoor
open Go.RowKit Go.Shelf
set_option linter.unusedVariables false
set_option linter.unusedSimpArgs false

attribute [local go_sem] Oper.semAt_some

theorem Rd.ownK {W W' : World} {row : Option Nat} {A : Option Addr} {n c : Nat} {xs : List Nat} (h : Rd W A n c xs) (hg : W.grownBy W' row) (hr : ∀ r, row = some r → ∃ o : Obj, W.heap[r]? = some o ∧ o.isCells = false) : Rd W' A n c xs :=
  ⟨h.len, h.sm, h.cap, fun hn => by
    obtain ⟨b, off, hA, hb, hc⟩ := h.at_ hn
    exact ⟨b, off, hA, Nat.lt_of_lt_of_le hb hg.size, fun k hk => cell_kept (hc k hk) hg hr⟩⟩
theorem keeps_of {B X : Nat} {W W4 : World} {v : Value} (hb : Below W.heap.size W W4) (hX : X < B) : KeepsFrom B W (W4.setCell ⟨X, 0, none⟩ v) :=
  ⟨by have := hb.size; simpa [World.setCell] using this, fun k o hk ho _ => by
    rw [Below.heap_setCell W4 ⟨X, 0, none⟩ v k (by show k ≠ X; omega), hb.block k (Array.getElem?_eq_some_iff.1 ho).1]
    exact ho⟩
theorem kq_of {n₀ X : Nat} {W W4 : World} {v : Value} (hb : Below W.heap.size W W4) (hn : n₀ ≤ W.heap.size) : Kq n₀ X W (W4.setCell ⟨X, 0, none⟩ v) :=
  ⟨by have := hb.size; simpa [World.setCell] using this, fun k hk hx => by
    rw [Below.heap_setCell W4 ⟨X, 0, none⟩ v k hx]
    exact hb.block k (by omega)⟩
/-- The bytes of a row. -/
def Brow (W : World) (b : Nat) (l : List UInt8) : Prop := ∀ j c, l[j]? = some c → W.cell? ⟨b, j, none⟩ = some (.int .u8 (c.toNat : Int))
theorem brow_new (w : World) (l : List UInt8) (cap : Nat) (o1 o2 : Obj) (o0 : Obj) : Brow ((((w.alloc o0).alloc (.cells (bytesRow (bs l) cap) 5 ((bytesRow (bs l) cap).size, (bytesRow (bs l) cap).size + 1))).alloc o1).alloc o2).drew (w.heap.size + 1) l := fun j c hj => by
  have h1 : j < (bs l).data.size := by have := (List.getElem?_eq_some_iff.1 hj).1; simpa [bs] using this
  have h2 := World.cell?_alloc_mark (w.alloc o0) (bytesRow (bs l) cap) 5 ((bytesRow (bs l) cap).size, (bytesRow (bs l) cap).size + 1) j
  rw [bytesRow_at _ _ _ h1, World.size_alloc] at h2
  have h3 : (bs l).data[j] = c := by
    have e : (bs l).data[j] = l[j]'((List.getElem?_eq_some_iff.1 hj).1) := rfl
    rw [e]
    exact (List.getElem?_eq_some_iff.1 hj).2
  rw [h3] at h2
  have b1 : Below ((w.alloc o0).alloc (.cells (bytesRow (bs l) cap) 5 ((bytesRow (bs l) cap).size, (bytesRow (bs l) cap).size + 1))).heap.size ((w.alloc o0).alloc (.cells (bytesRow (bs l) cap) 5 ((bytesRow (bs l) cap).size, (bytesRow (bs l) cap).size + 1))) ((((w.alloc o0).alloc (.cells (bytesRow (bs l) cap) 5 ((bytesRow (bs l) cap).size, (bytesRow (bs l) cap).size + 1))).alloc o1).alloc o2).drew :=
    (((Below.refl _ _).alloc (Nat.le_refl _) _).alloc (by simp) _).drew
  exact (b1.cell (p := ⟨w.heap.size + 1, j, none⟩) (by simp)).trans h2
theorem box_old (w : World) (v : Value) (t k : Nat) (o : Obj) (hk : w.heap.size = k) : (((w.alloc (.cells #[v] t)).alloc o).drew).cell? ⟨k, 0, none⟩ = some v := by
  subst hk
  have b1 : Below (w.alloc (.cells #[v] t)).heap.size (w.alloc (.cells #[v] t)) ((w.alloc (.cells #[v] t)).alloc o).drew := ((Below.refl _ _).alloc (Nat.le_refl _) _).drew
  exact (b1.cell (p := ⟨w.heap.size, 0, none⟩) (by simp)).trans (cell_newV w v t)
theorem box_new' (w : World) (v : Value) (t k : Nat) (hk : w.heap.size = k) : ((w.alloc (.cells #[v] t)).drew).cell? ⟨k, 0, none⟩ = some v := by
  subst hk
  exact cell_newV w v t
/-- Between two rounds. -/
def NInv (l : List UInt8) (w : World) (pre : List Nat) (W : World) : Prop := ∃ A n c, Boxed W w.heap.size 23 (.slice A n c) ∧ Ny W A n c (9 * pre.length + 1) (dval (cks l pre)) ∧ Brow W (w.heap.size + 1) l ∧ Below w.heap.size w W ∧ w.heap.size + 4 ≤ W.heap.size
theorem ninv_own (l : List UInt8) (w : World) (B : Nat) (hB : w.heap.size ≤ B) : OwnFrom B (NInv l w) := fun pre W W' row hs hg hr => by
  obtain ⟨A, n, c, hbx, hny, hby, hb, hS⟩ := hs
  have hr2 : ∀ r, row = some r → ∃ o : Obj, W.heap[r]? = some o ∧ o.isCells = false := fun r e => (hr r e).2
  refine ⟨A, n, c, hbx.kept hg (fun e => ?_), ⟨hny.1, hny.2.ownK hg hr2⟩, fun j x hj => cell_kept (hby j x hj) hg hr2, hb.grown hg (Nat.le_trans (Nat.le_refl _) hb.size) (fun k e => Nat.le_trans hB (hr k e).1), Nat.le_trans hS hg.size⟩
  obtain ⟨o, ho, hc⟩ := hr2 _ e.symm
  have h1 : W.heap[w.heap.size]? = some (.cells #[.slice A n c] 23 (0, 0)) := hbx
  rw [h1] at ho
  rw [← Option.some.inj ho] at hc
  cases hc
theorem Ny.boxed {W : World} {A : Option Addr} {n c k Z X : Nat} {t : TypeId} {B : Option Addr} {m d : Nat} (h : Ny W A n c k Z) (hb : Boxed W X t (.slice B m d)) (v : Value) : Ny (W.setCell ⟨X, 0, none⟩ v) A n c k Z :=
  ⟨h.1, h.2.far (fun hn ad had hg => by
    obtain ⟨b, off, hA, hbl, hc⟩ := h.2.at_ hn
    rw [hA] at had
    injection had with had
    subst had
    have e : b = X := hg
    subst e
    have h0 := hc 0 hn
    have h1 := cell_of_row W b (off + 0) _ t (0, 0) hb
    rw [h1] at h0
    rcases off with _ | off
    · simp at h0
    · simp at h0) 0 v⟩
theorem ninv_round (l : List UInt8) (w : World) (B0 : Nat) (hB0 : w.heap.size < B0) {pre : List Nat} {x n4 c4 n c : Nat} {W w4 : World} {A4 A : Option Addr} {a : Act} {I : Code → List Nat → World → Prop} (hS : w.heap.size + 4 ≤ W.heap.size) (hby : Brow W (w.heap.size + 1) l) (hB : Below w.heap.size w W) (hlt : w.heap.size < W.heap.size)
    (bx4 : Boxed w4 w.heap.size 23 (.slice A n c)) (B4 : Below W.heap.size W w4) (y4 : Ny w4 A4 n4 c4 (9 * (pre ++ [x]).length + 1) (dval (cks l (pre ++ [x])))) :
    ownPostG B0 (Kq (w.heap.size + 4) w.heap.size) (fun pre W => NInv l w pre W) I (pre ++ [x]) W .normal a (w4.setCell ⟨w.heap.size, 0, none⟩ (.slice A4 n4 c4)) :=
  ⟨keeps_of B4 hB0, kq_of B4 hS, A4, n4, c4, bx4.set _, y4.boxed bx4 _, fun j ch hj => by
    have h1 := hby j ch hj
    have h2 := (B4.cell (p := ⟨w.heap.size + 1, j, none⟩) (by show w.heap.size + 1 < _; omega)).trans h1
    exact (World.cell?_of_block (w := w4) (a := ⟨w.heap.size + 1, j, none⟩) (Below.heap_setCell w4 ⟨w.heap.size, 0, none⟩ _ _ (by show w.heap.size + 1 ≠ w.heap.size; omega))).trans h2,
    (below_then hB (Nat.le_refl _) B4).setCell (p := ⟨w.heap.size, 0, none⟩) (Nat.le_refl _) _, by have := B4.size; simp [World.setCell]; omega⟩
set_option maxRecDepth 100000 in
set_option maxHeartbeats 1000000 in
theorem numberOf_calls (l : List UInt8) (w : World) (hd : ∀ c ∈ l, isd c = true) (hl : l.length ≤ 8000) :
    Calls Tryz.prog 64 #[.string (bs l)] w (GY w (l.length + 1) (dval l)) := by
  refine (callsIn_wide (n := 4)).1 ?_
  have hcv := run_bytes_of_string (P := Tryz.prog) (w.alloc (.cells #[.slice none 0 0] 23)) 9 72 5 (bs l) Tryz.underlying9 Tryz.underlying72 Tryz.underlying5
  rw [bs_size] at hcv
  obtain ⟨cap, hcap⟩ : ∃ cap, grownCap (w.alloc (.cells #[.slice none 0 0] 23)) l.length 0 5 = cap := ⟨_, rfl⟩
  obtain ⟨row, hrow⟩ : ∃ row, bytesRow (bs l) cap = row := ⟨_, rfl⟩
  rw [hcap, hrow] at hcv
  refine callsIn_of_wp_marks Tryz.func64 rfl trivial ?_ rfl
  simp only [Tryz.ntmps64, List.size_toArray, List.length_cons, List.length_nil, Nat.reduceAdd, Nat.reduceSub, Array.replicate_succ, Array.replicate_zero, List.push_toArray, List.append_toArray, List.nil_append, List.cons_append]
  gi_wp2_with (refine ⟨trivial, ?_⟩; gi_at_call 90; refine (chunk_in _ _ _ _ _).mono ?_; rintro e w' ⟨rfl, rfl⟩)
  obtain ⟨W0, hW0⟩ : ∃ W0, ((((w.alloc (.cells #[.slice none 0 0] 23)).alloc (.cells row 5 (row.size, row.size + 1))).alloc (.cells #[.slice (some ⟨w.heap.size + 1, 0, none⟩) l.length cap] 72)).alloc (.cells #[.int .i64 9] 3)).drew = W0 := ⟨_, rfl⟩
  rw [hW0]
  have f1 : W0.heap.size = w.heap.size + 4 := by rw [← hW0]; simp
  have f2 : Boxed W0 w.heap.size 23 (.slice none 0 0) := by rw [← hW0]; exact (((Boxed.new w 23 (.slice none 0 0)).alloc _).alloc _).alloc _
  have f3 : Brow W0 (w.heap.size + 1) l := by rw [← hW0, ← hrow]; exact brow_new w l cap _ _ _
  have f4 : Below w.heap.size w W0 := by rw [← hW0]; exact ((((Below.refl _ w).alloc (Nat.le_refl _) _).alloc (by simp) _).alloc (by simp; omega) _).alloc (by simp; omega) _ |>.drew
  have f5 : W0.cell? ⟨w.heap.size + 1 + 1, 0, none⟩ = some (.slice (some ⟨w.heap.size + 1, 0, none⟩) l.length cap) := by rw [← hW0]; exact box_old _ _ _ _ _ (by simp)
  have f6 : W0.cell? ⟨w.heap.size + 1 + 1 + 1, 0, none⟩ = some (.int .i64 9) := by rw [← hW0]; exact box_new' _ _ _ _ (by simp)
  have hcl : l.length ≤ cap := by rw [← hcap]; exact grownCap_ge _ _ _ _
  clear hcv hW0 hcap hrow
  refine wpIn_rangeFunc_ownG rfl (by omega) (gf := 104) (lb := #[.pointer (some ⟨w.heap.size + 1 + 1, 0, none⟩), .pointer (some ⟨w.heap.size + 1 + 1 + 1, 0, none⟩)]) rfl trivial (enters_of Tryz.func104 (by kernel_rfl) rfl)
    (chunk_stops (w.heap.size + 1 + 1) (w.heap.size + 1 + 1 + 1) (w.heap.size + 4) w.heap.size (w.heap.size + 1) l.length cap 3 (by omega) (by omega) hcl (by omega) (by omega) (by omega) (by omega) W0 (by omega) f5 f6) Kq.trans (Kq.put (by omega)) (Below.refl _ _) (fun _ => rfl)
    (fun pre W => NInv l w pre W) (fun _ _ _ => False) (ninv_own l w W0.heap.size (by omega)) (fun _ _ _ _ _ hs _ _ => hs)
    ⟨none, 0, 0, f2, ⟨Nat.zero_le _, Rd.empty _ _ _⟩, f3, f4, by omega⟩
    (fun x => { tmps := #[.string (bs l), undef, .slice none 0 0, .pointer (some ⟨w.heap.size, 0, none⟩), ckv (w.heap.size + 1) l.length x, undef, undef, undef, undef, .string (bs l), .slice (some ⟨w.heap.size + 1, 0, none⟩) l.length cap,
      .func (.func 104) #[] #[.pointer (some ⟨w.heap.size + 1 + 1, 0, none⟩), .pointer (some ⟨w.heap.size + 1 + 1 + 1, 0, none⟩)], ckv (w.heap.size + 1) l.length x,
      undef, undef, undef, undef, undef, undef, undef, undef, undef, undef, undef, undef, undef, undef, undef, undef, undef, undef, undef, undef, undef, undef, undef], defers := [] }) ?assign ?body ?done ?stop
  case assign =>
    intro l0 x W K hK
    gi_wp2
    exact hK
  case body =>
    rintro l0 pre x W ⟨A, n, c, hbx, hny, hby, hB, hS⟩ hlt
    have hmx : Tryz.prog.follows .mixedOrders = true := by kernel_rfl
    obtain ⟨g, hg⟩ : ∃ g, ck l x = g := ⟨_, rfl⟩
    have hgl : min 9 (l.length - 9 * x) = g.length := by rw [← hg, ck]; simp
    have hg9 : g.length ≤ 9 := by omega
    have HG := hide hg
    have HGL := hide hgl
    dsimp only [ckv]
    rw [hgl]
    clear hg hgl
    gi_wp2
    gi_loopw [5, 6, 15] (fun xv uv iv wr => ∃ i : Nat, i ≤ g.length ∧ xv = .int .u64 ((dval (g.take i) : Nat) : Int) ∧ uv = .int .u64 ((10 ^ i : Nat) : Int) ∧ iv = .int .i64 (i : Int) ∧ W = wr) (fun _ _ iv _ => g.length - (intOf iv).toNat)
    case atStart => exact ⟨0, Nat.zero_le _, rfl, rfl, rfl, rfl⟩
    case round =>
      obtain ⟨i, hi, rfl, rfl, rfl, rfl⟩ := hrel
      by_cases hil : i < g.length
      · have hgi : g[i]? = some (g[i]'hil) := List.getElem?_eq_getElem hil
        obtain ⟨ch, hch⟩ : ∃ ch, g[i]'hil = ch := ⟨_, rfl⟩
        rw [hch] at hgi
        have hli : l[9 * x + i]? = some ch := by
          rw [← HG.out, ck, List.getElem?_take, if_pos (by omega), List.getElem?_drop] at hgi
          exact hgi
        have hcell := hby _ _ hli
        have hdig := hd ch (List.mem_of_getElem? hli)
        have HT := hide (dval_take_succ hgi)
        have hXb : dval (g.take i) < 10 ^ i := by
          have h1 := dval_lt (l := g.take i) (fun c hc => ck_isd hd x c (by rw [HG.out]; exact List.mem_of_mem_take hc))
          rwa [List.length_take, Nat.min_eq_left (by omega)] at h1
        have hUb : 10 ^ i ≤ 10 ^ 8 := Nat.pow_le_pow_right (by decide) (by omega)
        have HU := hide (show 10 ^ i * 10 = 10 ^ (i + 1) from (Nat.pow_succ 10 i).symm)
        obtain ⟨cn, hcn⟩ : ∃ cn, ch.toNat = cn := ⟨_, rfl⟩
        rw [hcn] at hcell HT
        have hc48 : 48 ≤ cn ∧ cn ≤ 57 := by unfold isd at hdig; rw [hcn] at hdig; simpa using hdig
        obtain ⟨X, hX⟩ : ∃ X, dval (g.take i) = X := ⟨_, rfl⟩
        obtain ⟨U, hU⟩ : ∃ U, 10 ^ i = U := ⟨_, rfl⟩
        rw [hX] at hXb HT
        rw [hU] at hXb hUb HU
        rw [hX, hU]
        have hU8 : U ≤ 100000000 := hUb
        have hX8 : X ≤ 100000000 := by omega
        have c48 := hc48.1
        have c57 := hc48.2
        have il : decide ((i : Int) < (g.length : Int)) = true := by simp; omega
        have j1 : (0 : Int) ≤ (cn : Int) - 48 := by omega
        clear hX hU hXb hUb hcn hdig hli hch hgi hc48
        gi_wp2
        go_roundw
        case rel =>
          refine ⟨i + 1, by omega, ?_, ?_, by go_num, trivial⟩
          · rw [HT.out]
            congr 1
            omega
          · rw [← HU.out]
            congr 1
        case measure => simp [intOf]; omega
      · obtain rfl : i = g.length := by omega
        have il : decide (((g.length : Nat) : Int) < (g.length : Int)) = false := by simp
        rw [List.take_of_length_le (Nat.le_refl g.length)]
        have hgd : ∀ c ∈ g, isd c = true := fun c hc => ck_isd hd x c (by rw [HG.out]; exact hc)
        have hXb : dval g < 10 ^ g.length := dval_lt hgd
        have hUb : 10 ^ g.length ≤ 10 ^ 9 := Nat.pow_le_pow_right (by decide) hg9
        have HV := hide (show dval (cks l pre) * 10 ^ g.length + dval g = dval (cks l (pre ++ [x])) by rw [cks_snoc, HG.out, dval_append])
        have HB := hide (show dval (cks l (pre ++ [x])) < pw (9 * (pre ++ [x]).length + 1) from
          Nat.lt_trans (Nat.lt_of_lt_of_le (dval_lt (cks_isd hd _)) (Nat.pow_le_pow_right (by decide) (cks_len l _))) (ten_lt_pw _))
        obtain ⟨X, hX⟩ : ∃ X, dval g = X := ⟨_, rfl⟩
        obtain ⟨U, hU⟩ : ∃ U, 10 ^ g.length = U := ⟨_, rfl⟩
        obtain ⟨Z, hZ⟩ : ∃ Z, dval (cks l (pre ++ [x])) = Z := ⟨_, rfl⟩
        obtain ⟨Y, hY⟩ : ∃ Y, dval (cks l pre) = Y := ⟨_, rfl⟩
        obtain ⟨kk, hkk⟩ : ∃ kk, 9 * pre.length + 1 = kk := ⟨_, rfl⟩
        rw [hX, hU] at hXb
        rw [hU] at hUb
        rw [hX, hU, hZ, hY] at HV
        rw [hZ] at HB
        rw [hX, hU]
        have hk0 : kk ≤ 80000 := by omega
        rw [hY, hkk] at hny
        have HZ := hide hZ
        have hU9 : U ≤ 1000000000 := hUb
        have hX9 : X ≤ 1000000000 := by omega
        have kX : X ≤ 18446744073709551615 := by omega
        have kU : U ≤ 18446744073709551615 := by omega
        have pX : X < pw 1 := by have : pw 1 = 4294967296 := by decide
                                 omega
        have pU : U < pw 1 := by have : pw 1 = 4294967296 := by decide
                                 omega
        have k1 : kk + 1 ≤ 1048576 := by omega
        have k2 : kk + 1 + 1 ≤ 1048576 := by omega
        have k3 : (1 : Nat) ≤ kk + 1 := by omega
        have hcell := hbx.cell
        have hlt0 := hbx.lt
        have hny0 : w.heap.size + 4 ≤ W.heap.size := by have := hS; omega
        have hnz := hny.nz
        have hnd := hnz.drew
        have hbd : Boxed W.drew w.heap.size 23 (.slice A n c) := hbx
        have hcd := hbd.cell
        have hBd := hB.drew
        have W_b : Below W.heap.size W W.drew := (Below.refl _ _).drew
        clear hX hU hZ hY hkk hXb hUb hny hgd
        have HOU := hide (show ∀ (nn : Nat) (V : World), CallsIn (Fence.wide.inRound l0) nn Tryz.prog 49 #[.int .u64 (U : Int)] V (GY V 1 U) from fun nn V => CallsIn.inRound l0 (callsIn_wide.2 ((of_int _ U V rfl kU).mono fun _ _ hg => gy_of hg pU)))
        have HOX := hide (show ∀ (nn : Nat) (V : World), CallsIn (Fence.wide.inRound l0) nn Tryz.prog 49 #[.int .u64 (X : Int)] V (GY V 1 X) from fun nn V => CallsIn.inRound l0 (callsIn_wide.2 ((of_int _ X V rfl kX).mono fun _ _ hg => gy_of hg pX)))
        have HMU := hide (show ∀ (nn : Nat) (V : World) (A1 : Option Addr) (n1 c1 : Nat), Nz V A n c kk Y → Nz V A1 n1 c1 1 U → CallsIn (Fence.wide.inRound l0) nn Tryz.prog 45 #[.slice A n c, .slice A1 n1 c1] V (GY V (kk + 1) (Y * U)) from
          fun nn V A1 n1 c1 h1 h2 => CallsIn.inRound l0 (callsIn_wide.2 (mul_n _ _ _ _ _ _ kk 1 (kk + 1) Y U (Y * U) _ rfl h1 h2 (Nat.le_refl _) k1)))
        have HAD := hide (show ∀ (nn : Nat) (V : World) (A2 : Option Addr) (n2 c2 : Nat) (A3 : Option Addr) (n3 c3 : Nat), Nz V A2 n2 c2 (kk + 1) (Y * U) → Nz V A3 n3 c3 1 X → CallsIn (Fence.wide.inRound l0) nn Tryz.prog 48 #[.slice A2 n2 c2, .slice A3 n3 c3] V (GY V (kk + 1 + 1) Z) from
          fun nn V A2 n2 c2 A3 n3 c3 h1 h2 => CallsIn.inRound l0 (callsIn_wide.2 (add_n _ _ _ _ _ _ (kk + 1) (kk + 1 + 1) (Y * U) X Z _ HV.out h1 (h2.mono k3) (Nat.le_refl _) k2)))
        gi_wp2
        gi_region_with_o (first
          | (refine ⟨trivial, ?_⟩; gi_at_call 49; (with_reducible refine (unhide HOU _ _).mono ?_); rintro e w1 ⟨A1, n1, c1, rfl, y1, b1⟩; have B1 := below_then W_b (Nat.le_refl _) b1; have bx1 : Boxed w1 w.heap.size 23 (.slice A n c) := (B1.block _ hlt0).trans hbx; have hc1 := bx1.cell; have n1z := hnd.below b1)
          | (refine ⟨trivial, ?_⟩; gi_at_call 45; (with_reducible refine (unhide HMU _ _ _ _ _ n1z y1.nz).mono ?_); rintro e w2 ⟨A2, n2, c2, rfl, y2, b2⟩; have B2 := below_then B1 (Nat.le_refl _) b2; have bx2 : Boxed w2 w.heap.size 23 (.slice A n c) := (B2.block _ hlt0).trans hbx; have hc2 := bx2.cell)
          | (refine ⟨trivial, ?_⟩; gi_at_call 49; (with_reducible refine (unhide HOX _ _).mono ?_); rintro e w3 ⟨A3, n3, c3, rfl, y3, b3⟩; have B3 := below_then B2 (Nat.le_refl _) b3; have bx3 : Boxed w3 w.heap.size 23 (.slice A n c) := (B3.block _ hlt0).trans hbx; have hc3 := bx3.cell; have n2z := y2.nz.below b3)
          | (refine ⟨trivial, ?_⟩; gi_at_call 48; (with_reducible refine (unhide HAD _ _ _ _ _ _ _ _ n2z y3.nz).mono ?_); rintro e w4 ⟨A4, n4, c4, rfl, y4, b4⟩; have B4 := below_then B3 (Nat.le_refl _) b4; have bx4 : Boxed w4 w.heap.size 23 (.slice A n c) := (B4.block _ hlt0).trans hbx; have hc4 := bx4.cell; have hf4 := bx4.frozen)
          | fail)
        all_goals gi_wp2
        all_goals exact ninv_round l w W0.heap.size (by omega) hny0 hby hB hlt0 bx4 B4 (HZ.out.symm ▸ ny_tight y4 HB.out)
  case done =>
    rintro D ys W hD rfl ⟨A, n, c, hbx, hny, hby, hB, hS⟩ hK
    have hcell := hbx.cell
    have hyy := hny
    rw [cks_all l _ (by omega)] at hyy
    have HY := hide hyy
    clear hyy hny hby
    gi_wp2
    refine ⟨by simp, .inl ⟨_, _, rfl, run_takeDeferred hK, ?_⟩⟩
    have hgp := grownBy_putObj' W D (.deferred none)
    have hr2 : ∀ r, some D = some r → ∃ o : Obj, W.heap[r]? = some o ∧ o.isCells = false := fun r e => by cases e; exact ⟨_, hK, rfl⟩
    refine ⟨_, results_tmp rfl _ _ _, A, n, c, rfl, ny_tight (k := 9 * (List.range ((l.length + 8) / 9)).length + 1) ⟨HY.out.1, HY.out.2.ownK hgp hr2⟩ (Nat.lt_trans (dval_lt hd) (ten_lt_pw _)), hB.trans (belowK_b (w := w) (Nat.le_refl _) W D _ _ (by omega) hK rfl rfl)⟩
  case stop =>
    rintro D c pre W _ _ h _
    exact h.elim
end Go.Proofs.YtjpchbcenbjibaaGreatDoor
