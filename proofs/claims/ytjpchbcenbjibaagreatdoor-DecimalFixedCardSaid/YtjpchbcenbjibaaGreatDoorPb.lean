/-
  Slices of bytes of a call's own; bytes.TrimRight, slices.Reverse.
-/
import Derived.Test.YtjpchbcenbjibaaGreatDoorM1
import Derived.Test.YtjpchbcenbjibaaGreatDoorB0
import Derived.Test.YtjpchbcenbjibaaGreatDoorT0
import Derived.Laws.IdiomStrings
import Derived.Laws.AppendOwn
import Derived.Deep.RegionHeld3
namespace Go.Proofs.YtjpchbcenbjibaaGreatDoor
open Go.RowKit
set_option linter.unusedVariables false
set_option linter.unusedSimpArgs false

theorem infoU8 : (Tryz.prog.info? 5).map (fun i => (i.zero, i.size, i.bytes)) = some (some (.int .u8 0), 1, 1) := by kernel_rfl
abbrev u8s (l : List UInt8) : List Value := l.map fun x => Value.int .u8 (x.toNat : Int)
/-- A slice of bytes of the call's own, from block B on. -/
def Ow (w : World) (B : Nat) (A : Option Addr) (n c : Nat) (l : List UInt8) : Prop := w.ownsRow B 5 1 (.slice A n c) n (u8s l)
/-- Blocks below B and those of limbs are as they were. -/
def Kt (B : Nat) (w w' : World) : Prop := Below B w w' ∧ ∀ (k : Nat) (cs : Array Value) (fr : Nat × Nat), w.heap[k]? = some (.cells cs 71 fr) → w'.heap[k]? = some (.cells cs 71 fr)
theorem Kt.refl (B : Nat) (w : World) : Kt B w w := ⟨Below.refl _ _, fun _ _ _ h => h⟩
theorem Kt.trans {B : Nat} {a b c : World} (h : Kt B a b) (k : Kt B b c) : Kt B a c := ⟨h.1.trans k.1, fun i cs fr hi => k.2 i cs fr (h.2 i cs fr hi)⟩
theorem Kt.alloc {B : Nat} {a b : World} (h : Kt B a b) (hB : B ≤ b.heap.size) (o : Obj) : Kt B a (b.alloc o) :=
  ⟨h.1.alloc hB o, fun i cs fr hi => by
    have h1 := h.2 i cs fr hi
    rw [Below.heap_alloc b o i (Array.getElem?_eq_some_iff.1 h1).1]
    exact h1⟩
theorem Ow.len {w : World} {B n c : Nat} {A : Option Addr} {l : List UInt8} (h : Ow w B A n c l) : l.length = n := by have := h.1; simpa using this
theorem Ow.alloc {w : World} {B n c : Nat} {A : Option Addr} {l : List UInt8} (h : Ow w B A n c l) (o : Obj) : Ow (w.alloc o) B A n c l := World.ownsRow.alloc h o
theorem Ow.nil (w : World) (B : Nat) : Ow w B none 0 0 [] := World.ownsRow_nil w B 5 1
/-- Where the bytes lie. -/
theorem Ow.at_ {w : World} {B n c : Nat} {A : Option Addr} {l : List UInt8} (h : Ow w B A n c l) (hn : 0 < n) :
    ∃ g cur, A = some ⟨g, 0, none⟩ ∧ B ≤ g ∧ w.heap[g]? = some (.cells cur 5 (0, 0)) ∧ n ≤ c ∧ c ≤ maxLen ∧ cur.size = c ∧ cur.toList.take n = u8s l := by
  rcases h.2 with ⟨_, h0⟩ | ⟨g, cap, cur, hv, hb, hg, h1, h2, h3, h4⟩
  · omega
  · injection hv with e1 e2 e3
    subst e3
    exact ⟨g, cur, e1, hb, hg, h1, h2, by rw [h3, Nat.mul_one], by rw [Nat.mul_one] at h4; exact h4⟩
theorem Ow.cell {w : World} {B n c : Nat} {A : Option Addr} {l : List UInt8} (h : Ow w B A n c l) {j : Nat} (hj : j < n) :
    ∃ g, A = some ⟨g, 0, none⟩ ∧ B ≤ g ∧ g < w.heap.size ∧ ∃ x, l[j]? = some x ∧ w.cell? ⟨g, j, none⟩ = some (.int .u8 (x.toNat : Int)) := by
  obtain ⟨g, cur, rfl, hb, hg, -⟩ := h.at_ (by omega)
  have hl := h.len
  refine ⟨g, rfl, hb, (Array.getElem?_eq_some_iff.1 hg).1, l[j]'(by omega), List.getElem?_eq_getElem _, ?_⟩
  have := World.ownsRow.cells h (g := g) rfl j (.int .u8 ((l[j]'(by omega)).toNat : Int)) (by rw [List.getElem?_map, List.getElem?_eq_getElem (by omega)]; rfl)
  rwa [show (⟨g, 0, none⟩ : Addr).add j = ⟨g, j, none⟩ by unfold Addr.add; by_cases hj0 : j = 0 <;> simp [hj0]] at this
theorem Ow.frozen {w : World} {B n c g : Nat} {A : Option Addr} {l : List UInt8} (h : Ow w B A n c l) (hn : 0 < n) (hA : A = some ⟨g, 0, none⟩) (j : Nat) : w.frozen? ⟨g, j, none⟩ = false := by
  obtain ⟨g', cur, hA', hb, hg, -⟩ := h.at_ hn
  rw [hA] at hA'
  injection hA' with e
  injection e with e1
  subst e1
  unfold World.frozen?
  rw [hg]
  simp
theorem Ow.take {w : World} {B n c k : Nat} {A : Option Addr} {l : List UInt8} (h : Ow w B A n c l) (hk : k ≤ n) (h0 : n = 0 → A = none ∧ c = 0 ∨ True) : Ow w B A k c (l.take k) := by
  have hl := h.len
  refine ⟨by simp; omega, ?_⟩
  rcases h.2 with ⟨hv, h0⟩ | ⟨g, cap, cur, hv, hb, hg, h1, h2, h3, h4⟩
  · injection hv with e1 e2 e3
    subst e1 e3
    exact .inl ⟨by rw [show k = 0 by omega], by omega⟩
  · injection hv with e1 e2 e3
    subst e1 e3
    refine .inr ⟨g, c, cur, rfl, hb, hg, by omega, h2, h3, ?_⟩
    rw [Nat.mul_one] at h4 ⊢
    have e : cur.toList.take k = (cur.toList.take n).take k := by rw [List.take_take, Nat.min_eq_left hk]
    rw [e, h4]
    exact (List.map_take ..).symm
/-- One byte more. -/
theorem run_appV (w : World) (B : Nat) (ty : TypeId) {A : Option Addr} {n c : Nat} {l : List UInt8} (hown : Ow w B A n c l) (g2 : Nat) (x : UInt8) (v : Int) (hv : v = (x.toNat : Int)) (hc : w.cell? ⟨g2, 0, none⟩ = some (.int .u8 v)) (hb : n + 1 ≤ 4194304) (hbase : B ≤ w.heap.size) :
    ∃ A' c' w', (Builtin.append_ #[72, 72] ty #[.slice A n c, .slice (some ⟨g2, 0, none⟩) 1 1]).run Tryz.prog w = .ok (.slice A' (n + 1) c') w' ∧ Ow w' B A' (n + 1) c' (l ++ [x]) ∧ Kt B w w' := by
  subst hv
  obtain ⟨i0, hi, hz0, hz1, hz2⟩ := info_parts infoU8
  have hrow : ∀ k, (Value.slice A n c).ownBlock = some k → B ≤ k := fun k hk => (World.ownsRow.lt hown k hk).1
  obtain ⟨v', w', h1, h2, h3, h4⟩ := run_append_own (P := Tryz.prog) w B 72 ty 5 i0 (.int .u8 0) 1 1 Tryz.underlying72 hi hz0 hz1 hz2 rfl (by omega) (.slice A n c) n _ hown
    ⟨g2, 0, none⟩ 1 1 [.int .u8 (x.toNat : Int)] (by simp)
    (by
      intro j u hj
      rcases j with _ | j
      · simp only [List.getElem?_cons_zero, Option.some.injEq] at hj
        subst hj
        rw [show ((⟨g2, 0, none⟩ : Addr).add 0) = ⟨g2, 0, none⟩ from rfl]
        exact hc
      · simp at hj)
    (by intro u hu; simp only [List.mem_singleton] at hu; subst hu; rfl)
    (by unfold maxLen; omega) (by omega) hbase
  have hbel : Below B w w' := (Below.refl B w).grown h3 hbase hrow
  have hk : Kt B w w' := ⟨hbel, fun k cs fr hk => by
    refine (h3.block k (Array.getElem?_eq_some_iff.1 hk).1 fun e => ?_).trans hk
    rcases hown.2 with ⟨hv, _⟩ | ⟨g, cap, cur, hv, _, hg, _⟩
    · injection hv with e1
      subst e1
      simp [Value.ownBlock] at e
    · injection hv with e1
      subst e1
      simp only [Value.ownBlock, Option.some.injEq] at e
      subst e
      rw [hg] at hk
      simp only [Option.some.injEq, Obj.cells.injEq] at hk
      exact absurd hk.2.1 (by decide)⟩
  rcases h2.2 with ⟨hv, hn0⟩ | ⟨g', cap, cur, hv, r⟩
  · omega
  · subst hv
    refine ⟨some ⟨g', 0, none⟩, cap, w', h1, ?_, hk⟩
    show w'.ownsRow B 5 1 _ (n + 1) _
    rw [u8s, List.map_append]
    exact h2
theorem wpList_appV {ops : Array Oper} {rest : List Oper} {o : Oper} {a : Act} {Q : Exit → Act → World → Prop} {w : World} (hgd : o.guard = none) (s x : Operand)
    (ho : o.op = .call { callee := .builtin .append, args := #[s, x], argTypes := #[72, 72] })
    (B : Nat) (A : Option Addr) (n c : Nat) (l : List UInt8) (hs : a.eval s = .slice A n c) (hown : Ow w B A n c l)
    (g2 : Nat) (y : UInt8) (v : Int) (hv : v = (y.toNat : Int)) (hx : a.eval x = .slice (some ⟨g2, 0, none⟩) 1 1) (hc : w.cell? ⟨g2, 0, none⟩ = some (.int .u8 v)) (hb : n + 1 ≤ 4194304) (hbase : B ≤ w.heap.size)
    (h : ∀ A' c' w', Ow w' B A' (n + 1) c' (l ++ [y]) → Kt B w w' → wpList Tryz.prog ops Q rest (a.put o.dst (.slice A' (n + 1) c')) w') : wpList Tryz.prog ops Q (o :: rest) a w := by
  refine wpList_plain hgd fun K hK => ?_
  obtain ⟨A', c', w', hrun, h2, h3⟩ := run_appV w B o.type hown g2 y v hv hc hb hbase
  unfold Oper.wp execOp
  simp only [ho, resolve, invoke, builtin, Sem.run_bind, Sem.run_pure, Result.andThen_ok, List.map_toArray, List.map_cons, List.map_nil, hs, hx, hrun]
  exact hK _ _ (h A' c' w' h2 h3)
theorem cell_newV (w : World) (v : Value) (t : TypeId) : (w.alloc (.cells #[v] t)).cell? ⟨w.heap.size, 0, none⟩ = some v := by
  have h := heap_alloc_new w (.cells #[v] t)
  exact cell_of_row _ _ 0 #[v] t (0, 0) h
def slLen : Value → Nat
  | .slice _ n _ => n
  | _ => 0
theorem last_48 {M : List UInt8} (hM : M.getLast? ≠ some 48) {x : UInt8} (h : M[M.length - 1]? = some x) : x.toNat ≠ 48 := by
  intro e
  rw [List.getLast?_eq_getElem?, h] at hM
  exact hM (by rw [show x = 48 from UInt8.toNat_inj.1 e])
theorem trb_calls (B : Nat) (A : Option Addr) (n c z : Nat) (M l : List UInt8) (w : World) (h : Ow w B A n c l) (hl : l = M ++ List.replicate z 48) (hM : M.getLast? ≠ some 48) (hn : n ≤ 1000000) :
    Calls Tryz.prog 85 #[.slice A n c, .int .u8 48] w fun e w' => e = .returned (.slice A M.length c) ∧ w = w' := by
  have hlen := h.len
  have hn2 : n = M.length + z := by rw [← hlen, hl]; simp
  obtain ⟨m, hm⟩ : ∃ m, M.length = m := ⟨_, rfl⟩
  have HL := hide (And.intro hl (And.intro hm hn2))
  rw [hm]
  have hmn : m ≤ n := by omega
  clear hl hlen hm hn2
  go_enter Tryz.func85, Tryz.ntmps85
  go_wp2
  go_loop [0] (fun sv => ∃ p : Nat, m ≤ p ∧ p ≤ n ∧ sv = .slice A p c) slLen
  case atStart => exact ⟨n, hmn, Nat.le_refl _, rfl⟩
  case round =>
    obtain ⟨p, hp, hpn, rfl⟩ := hrel
    by_cases h0 : p = 0
    · subst h0
      obtain rfl : m = 0 := by omega
      go_wp2
      go_ret
      exact ⟨rfl, rfl⟩
    · obtain ⟨g, rfl, hb, hg, x, hx, hc⟩ := h.cell (j := p - 1) (by omega)
      have hd : decide ((0 : Int) < (p : Int)) = true := by simp; omega
      have hd2 : (0 : Int) < (p : Int) := by omega
      have hi : (p : Int) - 1 = ((p - 1 : Nat) : Int) := by omega
      have hcap : n ≤ c := by obtain ⟨_, _, _, _, _, h1, _⟩ := h.at_ (by omega); exact h1
      by_cases hj0 : p = m
      · have hxx : x.toNat ≠ 48 := last_48 hM (by
          rw [← hx, HL.out.1, List.getElem?_append_left (by rw [HL.out.2.1]; omega), HL.out.2.1, hj0])
        have hb2 : ((x.toNat : Int) == 48) = false := by simp; omega
        subst hj0
        clear hx h0 hxx hM
        go_wp2
        go_ret
        exact ⟨rfl, rfl⟩
      · have hxx : x = 48 := by
          rw [HL.out.1, List.getElem?_append_right (by rw [HL.out.2.1]; omega), List.getElem?_replicate] at hx
          split at hx
          · exact (Option.some.inj hx).symm
          · cases hx
        have hb2 : ((x.toNat : Int) == 48) = true := by rw [hxx]; rfl
        clear hx
        go_wp2
        go_round
        case rel => exact ⟨p - 1, by omega, by omega, by first | rfl | (congr 1; omega)⟩
        case measure => simp [slLen]; omega
theorem tr_calls (B : Nat) (A : Option Addr) (n c z : Nat) (M l : List UInt8) (w : World) (h : Ow w B A n c l) (hl : l = M ++ List.replicate z 48) (hM : M.getLast? ≠ some 48) (hn : n ≤ 1000000) :
    Calls Tryz.prog 53 #[.slice A n c, .string (bs [48])] w fun e w' => e = .returned (.slice A M.length c) ∧ w = w' := by
  by_cases h0 : n = 0
  · have hm : M.length = 0 := by have := h.len; rw [hl] at this; simp at this; omega
    rw [hm]
    subst h0
    have h1 : ((0 : Int) == 0) = true := rfl
    go_enter Tryz.func53, Tryz.ntmps53
    go_wp2
    go_ret
    exact ⟨rfl, rfl⟩
  · have h1 : ((n : Int) == 0) = false := by simp; omega
    have h2 : (bs [48]).toList.isEmpty = false := by rw [bs_toList]; rfl
    have h3 : (bs [48]).size = 1 := rfl
    have h4 : ((bs [48])[0]'(by decide)).toNat = 48 := rfl
    have HT := hide (trb_calls B A n c z M l w h hl hM hn)
    clear h hl hM hn
    go_enter Tryz.func53, Tryz.ntmps53
    go_wp2_with fail
    refine (unhide HT).mono ?_
    rintro e w' ⟨rfl, rfl⟩
    go_wp2
    go_ret
    exact ⟨rfl, rfl⟩
/-- A byte is stored. -/
theorem Ow.set {w : World} {B n c g : Nat} {A : Option Addr} {l : List UInt8} (h : Ow w B A n c l) (hA : A = some ⟨g, 0, none⟩) {i : Nat} (hi : i < n) (x : UInt8) : Ow (w.setCell ⟨g, i, none⟩ (.int .u8 (x.toNat : Int))) B A n c (l.set i x) := by
  obtain ⟨g', cur, hA', hb, hg, h1, h2, h3, h4⟩ := h.at_ (by omega)
  rw [hA] at hA'
  injection hA' with e
  injection e with e1
  subst e1 hA
  have hl := h.len
  refine ⟨by simp [u8s]; omega, .inr ⟨g, c, cur.set! i (.int .u8 (x.toNat : Int)), rfl, hb, ?_, h1, h2, by simp [h3], ?_⟩⟩
  · have hgl := (Array.getElem?_eq_some_iff.1 hg)
    obtain ⟨hlt, hget⟩ := hgl
    show (w.heap.modify g _)[g]? = _
    rw [Array.getElem?_modify, if_pos rfl, hg]
    rfl
  · rw [Nat.mul_one, u8s, List.map_set, ← u8s, ← h4]
    simp [List.take_set]
theorem Ow.lt {w : World} {B n c g : Nat} {A : Option Addr} {l : List UInt8} (h : Ow w B A n c l) (hn : 0 < n) (hA : A = some ⟨g, 0, none⟩) : B ≤ g ∧ g < w.heap.size := by
  obtain ⟨g', hA', h1, h2, -⟩ := h.cell hn
  rw [hA] at hA'
  injection hA' with e
  injection e with e1
  subst e1
  exact ⟨h1, h2⟩
/-- The list with its first i and last i bytes swapped. -/
def Rvi (l : List UInt8) (n i : Nat) (L : List UInt8) : Prop := L.length = n ∧ ∀ k, k < n → L[k]? = if k < i ∨ n ≤ k + i then l[n - 1 - k]? else l[k]?
theorem Rvi.step {l L : List UInt8} {n i : Nat} {x y : UInt8} (hl : l.length = n) (h : Rvi l n i L) (hi : i + i + 1 < n) (hx : L[i]? = some x) (hy : L[n - 1 - i]? = some y) : Rvi l n (i + 1) ((L.set i y).set (n - 1 - i) x) := by
  obtain ⟨h1, h2⟩ := h
  refine ⟨by simp [h1], fun k hk => ?_⟩
  have ei := h2 i (by omega)
  have ej := h2 (n - 1 - i) (by omega)
  rw [if_neg (by omega), hx] at ei
  rw [if_neg (by omega), hy] at ej
  rw [List.getElem?_set, List.getElem?_set]
  by_cases e1 : n - 1 - i = k
  · rw [if_pos e1, if_pos (by simp [h1]; omega), if_pos (by omega), ei]
    congr 1
    omega
  · rw [if_neg e1]
    by_cases e2 : i = k
    · subst e2
      rw [if_pos rfl, if_pos (by omega), if_pos (by omega), ej]
    · rw [if_neg e2, h2 k hk]
      by_cases e3 : k < i ∨ n ≤ k + i
      · rw [if_pos e3, if_pos (by omega)]
      · rw [if_neg e3, if_neg (by omega)]
theorem Rvi.done {l L : List UInt8} {n i : Nat} (hl : l.length = n) (h : Rvi l n i L) (hi : n ≤ i + i + 1) : L = l.reverse := by
  apply List.ext_getElem?
  intro k
  by_cases hk : k < n
  · rw [h.2 k hk, List.getElem?_reverse (by omega), hl]
    split
    · rfl
    · congr 1
      omega
  · rw [List.getElem?_eq_none (by rw [h.1]; omega), List.getElem?_eq_none (by simp; omega)]
theorem rev_calls (B : Nat) (A : Option Addr) (n c : Nat) (l : List UInt8) (w : World) (h : Ow w B A n c l) (hB : B ≤ w.heap.size) (hn : n ≤ 1000000) :
    Calls Tryz.prog 54 #[.slice A n c] w fun e w' => e = .returned (.tuple #[]) ∧ Ow w' B A n c l.reverse ∧ Below B w w' := by
  have hl := h.len
  go_enter Tryz.func54, Tryz.ntmps54
  go_wp2
  go_loopw [2, 3] (fun iv jv wr => ∃ (i : Nat) (L : List UInt8), i + i ≤ n + 1 ∧ iv = .int .i64 (i : Int) ∧ jv = .int .i64 ((n : Int) - 1 - (i : Int)) ∧ Ow wr B A n c L ∧ Hid (Rvi l n i L) ∧ Below B w wr) (fun iv _ _ => n + 1 - (intOf iv).toNat)
  case atStart => exact ⟨0, l, by omega, rfl, by simp, h, ⟨hl, fun k hk => by rw [if_neg (by omega)]⟩, Below.refl _ _⟩
  case round =>
    obtain ⟨i, L, hi, rfl, rfl, ho, HR, hb⟩ := hrel
    by_cases hlt : i + i + 1 < n
    · have hd : decide ((i : Int) < (n : Int) - 1 - (i : Int)) = true := by simp; omega
      obtain ⟨g, rfl, hbg, hg, x, hx, hcx⟩ := ho.cell (j := i) (by omega)
      obtain ⟨g', hg', -, -, y, hy, hcy⟩ := ho.cell (j := n - 1 - i) (by omega)
      injection hg' with e
      injection e with e1
      subst e1
      have hfi := ho.frozen (by omega) rfl i
      have hfj := ho.frozen (by omega) rfl (n - 1 - i)
      have hj : (n : Int) - 1 - (i : Int) = ((n - 1 - i : Nat) : Int) := by omega
      have hcap : n ≤ c := by obtain ⟨_, _, _, _, _, h1, _⟩ := ho.at_ (by omega); exact h1
      have hs1 := ho.set rfl (i := i) (by omega) y
      have hs2 := hs1.set rfl (i := n - 1 - i) (by omega) x
      have HS := hide (HR.out.step hl hlt hx hy)
      rw [hj] at hd ⊢
      clear hs1 h
      go_wp2_with fail
      go_region
      all_goals go_wp2
      all_goals go_roundw
      case rel => exact ⟨i + 1, _, by omega, by go_num, by rw [← hj]; congr 1; omega, hs2, HS, ((hb.setCell (p := ⟨g, i, none⟩) hbg _).setCell (p := ⟨g, n - 1 - i, none⟩) hbg _).drew⟩
      case measure => simp [intOf]; omega
    · obtain ⟨j, hj⟩ : ∃ j : Int, (n : Int) - 1 - (i : Int) = j := ⟨_, rfl⟩
      have hd : decide ((i : Int) < j) = false := by simp; omega
      have hd2 : ¬ ((i : Int) < j) := by omega
      have e := HR.out.done hl (by omega)
      subst e
      rw [hj]
      clear hj h
      go_wp2
      go_end0
      exact ⟨rfl, ho, hb⟩
end Go.Proofs.YtjpchbcenbjibaaGreatDoor
