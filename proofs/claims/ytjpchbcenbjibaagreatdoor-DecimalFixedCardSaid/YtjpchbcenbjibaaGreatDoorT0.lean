/-
  The program's way with digits: from the last one to the first one, in groups of nine; the parser's states: mathematics.
-/
import Derived.Test.YtjpchbcenbjibaaGreatDoorD0
namespace Go.Proofs.YtjpchbcenbjibaaGreatDoor
open Go.RowKit
set_option linter.unusedVariables false
set_option linter.unusedSimpArgs false

/-- The last j digits, from the last one to the first one. -/
def rd : Nat → Nat → List UInt8
  | 0, _ => []
  | j + 1, x => UInt8.ofNat (48 + x % 10) :: rd j (x / 10)
theorem rd_len (j x : Nat) : (rd j x).length = j := by
  induction j generalizing x with
  | zero => rfl
  | succ j ih => simp [rd, ih]
theorem rd_add (a b x : Nat) : rd (a + b) x = rd a x ++ rd b (x / 10 ^ a) := by
  induction a generalizing x with
  | zero => simp [rd]
  | succ a ih =>
    rw [show a + 1 + b = (a + b) + 1 by omega, rd, rd, ih, Nat.div_div_eq_div_mul, show 10 * 10 ^ a = 10 ^ (a + 1) by rw [Nat.pow_succ, Nat.mul_comm]]
    rfl
theorem rd_mod (j x : Nat) : rd j (x % 10 ^ j) = rd j x := by
  induction j generalizing x with
  | zero => rfl
  | succ j ih =>
    have e : 10 ^ (j + 1) = 10 * 10 ^ j := by rw [Nat.pow_succ, Nat.mul_comm]
    rw [rd, rd, e, Nat.mod_mul_right_mod, Nat.mod_mul_right_div_self, ih]
theorem rd_snoc (j x : Nat) : rd (j + 1) x = rd j x ++ [UInt8.ofNat (48 + x / 10 ^ j % 10)] := by rw [rd_add]; rfl
theorem rep_snoc (k : Nat) (c : UInt8) : List.replicate (k + 1) c = List.replicate k c ++ [c] := by
  rw [List.replicate_succ']
theorem rd_dt (j x : Nat) (h : x < 10 ^ j) : ∃ z, rd j x = (dt x).reverse ++ List.replicate z 48 := by
  induction j generalizing x with
  | zero =>
    obtain rfl : x = 0 := by simpa using h
    exact ⟨0, rfl⟩
  | succ j ih =>
    obtain ⟨z, hz⟩ := ih (x / 10) (by rw [Nat.pow_succ] at h; omega)
    by_cases h0 : x = 0
    · subst h0
      refine ⟨z + 1, ?_⟩
      rw [rd, hz]
      rfl
    · refine ⟨z, ?_⟩
      rw [rd, hz, dt_pos h0, List.reverse_append]
      rfl
theorem dt_first (x : Nat) : (dt x).head? ≠ some 48 := by
  induction x using Nat.strongRecOn with
  | _ x ih =>
    by_cases h0 : x = 0
    · subst h0; simp [dt_zero]
    · rw [dt_pos h0]
      by_cases h1 : x / 10 = 0
      · rw [h1, dt_zero]
        simp only [List.nil_append, List.head?_cons, ne_eq, Option.some.injEq]
        intro e
        have := congrArg UInt8.toNat e
        rw [digit_nat (by omega)] at this
        have e48 : (48 : UInt8).toNat = 48 := rfl
        rw [e48] at this
        omega
      · have := ih (x / 10) (by omega)
        rw [List.head?_append]
        cases hd : (dt (x / 10)).head? with
        | none =>
          have : dt (x / 10) = [] := by simpa using hd
          exact absurd (dt_nil.1 this) h1
        | some c => rw [hd] at this; simpa using this
/-- At least k digits. -/
def pads (k : Nat) (l : List UInt8) : List UInt8 := List.replicate (k - l.length) 48 ++ l
theorem dtx_pads (n : Nat) : dtx n = pads 1 (dt n) := by
  unfold dtx pads
  split
  · rename_i h; subst h; rfl
  · rename_i h
    have : (dt n).length ≠ 0 := by
      intro e
      exact h (dt_nil.1 (List.length_eq_zero_iff.1 e))
    rw [show 1 - (dt n).length = 0 by omega]
    rfl
theorem padz_pads (p n : Nat) : padz p (dtx n) = pads (p + 1) (dt n) := by
  unfold padz
  rw [dtx_pads]
  unfold pads
  rw [List.length_append, List.length_replicate, ← List.append_assoc, List.replicate_append_replicate]
  congr 2
  omega
theorem pads_rev (k : Nat) (l : List UInt8) : (l.reverse ++ List.replicate (k - l.length) 48).reverse = pads k l := by
  rw [List.reverse_append, List.reverse_reverse, List.reverse_replicate]
  rfl
/-- The pieces of nine digits. -/
def ck (l : List UInt8) (k : Nat) : List UInt8 := (l.drop (9 * k)).take 9
def cks (l : List UInt8) (ks : List Nat) : List UInt8 := (ks.map (ck l)).flatten
theorem cks_snoc (l : List UInt8) (ks : List Nat) (k : Nat) : cks l (ks ++ [k]) = cks l ks ++ ck l k := by simp [cks]
theorem cks_take (l : List UInt8) (m : Nat) : cks l (List.range m) = l.take (9 * m) := by
  induction m with
  | zero => simp [cks]
  | succ m ih =>
    rw [List.range_succ, cks_snoc, ih, ck, show 9 * (m + 1) = 9 * m + 9 by omega, List.take_add]
theorem cks_all (l : List UInt8) (m : Nat) (h : l.length ≤ 9 * m) : cks l (List.range m) = l := by
  rw [cks_take, List.take_of_length_le h]
theorem ck_len (l : List UInt8) (k : Nat) : (ck l k).length ≤ 9 := List.length_take_le _ _
theorem ck_isd {l : List UInt8} (h : ∀ c ∈ l, isd c = true) (k : Nat) : ∀ c ∈ ck l k, isd c = true :=
  fun c hc => h c (List.mem_of_mem_drop (List.mem_of_mem_take hc))
theorem cks_isd {l : List UInt8} (h : ∀ c ∈ l, isd c = true) (ks : List Nat) : ∀ c ∈ cks l ks, isd c = true := by
  intro c hc
  simp only [cks, List.mem_flatten, List.mem_map] at hc
  obtain ⟨_, ⟨k, -, rfl⟩, hc⟩ := hc
  exact ck_isd h k c hc
theorem cks_len (l : List UInt8) (ks : List Nat) : (cks l ks).length ≤ 9 * ks.length := by
  induction ks with
  | nil => simp [cks]
  | cons k ks ih =>
    have := ck_len l k
    simp only [cks, List.map_cons, List.flatten_cons, List.length_append, List.length_cons] at *
    omega
theorem dval_take_succ {l : List UInt8} {i : Nat} {c : UInt8} (h : l[i]? = some c) : dval (l.take (i + 1)) = dval (l.take i) * 10 + (c.toNat - 48) := by
  rw [List.take_add_one, h, ← dval_snoc]
  rfl

/-! The parser. -/
structure PS where
  (i c e o : Nat)
/-- An error, unless there was one. -/
def PS.fail (s : PS) (o e : Nat) : PS := if s.e = 0 then ⟨s.i, s.c, e, o⟩ else s
def PS.len (l : List UInt8) (s : PS) : Nat := min (prun (l.drop s.i)) (4000 - s.c)
def PS.txt (l : List UInt8) (s : PS) : List UInt8 := (l.drop s.i).take (s.len l)
def PS.dig1 (l : List UInt8) (s : PS) : PS := if s.len l < prun (l.drop s.i) then PS.fail ⟨s.i + s.len l, s.c + s.len l, s.e, s.o⟩ (s.i + s.len l) 8 else ⟨s.i + s.len l, s.c + s.len l, s.e, s.o⟩
def PS.dig (l : List UInt8) (s : PS) : PS := if s.len l = 0 then (s.dig1 l).fail (s.i + s.len l) 4 else s.dig1 l
def PS.fin (l : List UInt8) (s : PS) : PS := if s.i < l.length then s.fail s.i 4 else s
def PS.skip (s : PS) : PS := ⟨s.i + 1, s.c, s.e, s.o⟩
theorem PS.fail_i (s : PS) (o e : Nat) : (s.fail o e).i = s.i := by unfold PS.fail; split <;> rfl
theorem PS.fail_c (s : PS) (o e : Nat) : (s.fail o e).c = s.c := by unfold PS.fail; split <;> rfl
theorem PS.dig1_i (l : List UInt8) (s : PS) : (s.dig1 l).i = s.i + s.len l := by unfold PS.dig1; split <;> simp [PS.fail_i]
theorem PS.dig1_c (l : List UInt8) (s : PS) : (s.dig1 l).c = s.c + s.len l := by unfold PS.dig1; split <;> simp [PS.fail_c]
theorem PS.dig_i (l : List UInt8) (s : PS) : (s.dig l).i = s.i + s.len l := by unfold PS.dig; split <;> simp [PS.fail_i, PS.dig1_i]
theorem PS.dig_c (l : List UInt8) (s : PS) : (s.dig l).c = s.c + s.len l := by unfold PS.dig; split <;> simp [PS.fail_c, PS.dig1_c]
theorem PS.fin_i (l : List UInt8) (s : PS) : (s.fin l).i = s.i := by unfold PS.fin; split <;> simp [PS.fail_i]
theorem PS.fin_c (l : List UInt8) (s : PS) : (s.fin l).c = s.c := by unfold PS.fin; split <;> simp [PS.fail_c]
theorem PS.txt_isd (l : List UInt8) (s : PS) : ∀ c ∈ s.txt l, isd c = true := fun c hc => take_isd (l.drop s.i) c (by
  unfold PS.txt at hc
  rw [show s.len l = min (s.len l) (prun (l.drop s.i)) from (Nat.min_eq_left (Nat.min_le_left _ _)).symm, ← List.take_take] at hc
  exact List.mem_of_mem_take hc)
theorem PS.len_room (l : List UInt8) (s : PS) : s.len l ≤ 4000 - s.c := Nat.min_le_right _ _
theorem PS.len_run (l : List UInt8) (s : PS) : s.len l ≤ prun (l.drop s.i) := Nat.min_le_left _ _
theorem PS.len_le (l : List UInt8) (s : PS) (h : s.i ≤ l.length) : s.i + s.len l ≤ l.length := by
  have h1 := s.len_run l
  have h2 := prun_le (l.drop s.i)
  rw [List.length_drop] at h2
  omega
theorem PS.txt_len (l : List UInt8) (s : PS) : (s.txt l).length = s.len l := by
  unfold PS.txt
  have h1 := s.len_run l
  have h2 := prun_le (l.drop s.i)
  rw [List.length_take]
  omega
theorem PS.fail_keep {s : PS} (h : s.e ≠ 0) (o e : Nat) : s.fail o e = s := by unfold PS.fail; rw [if_neg h]
theorem PS.fail_new {s : PS} (h : s.e = 0) (o e : Nat) : s.fail o e = ⟨s.i, s.c, e, o⟩ := by unfold PS.fail; rw [if_pos h]
theorem PS.dig_keep {l : List UInt8} {s : PS} (h : s.e ≠ 0) : (s.dig l).e = s.e ∧ (s.dig l).o = s.o := by
  have h1 : s.dig1 l = ⟨s.i + s.len l, s.c + s.len l, s.e, s.o⟩ := by
    unfold PS.dig1
    rw [PS.fail_keep (s := ⟨s.i + s.len l, s.c + s.len l, s.e, s.o⟩) h]
    split <;> rfl
  unfold PS.dig
  rw [h1, PS.fail_keep (s := ⟨s.i + s.len l, s.c + s.len l, s.e, s.o⟩) h]
  split <;> exact ⟨rfl, rfl⟩
theorem PS.fin_keep {l : List UInt8} {s : PS} (h : s.e ≠ 0) : s.fin l = s := by unfold PS.fin; rw [PS.fail_keep h]; split <;> rfl
theorem PS.dig_limit {l : List UInt8} {s : PS} (h : s.e = 0) (hk : 4000 - s.c < prun (l.drop s.i)) : (s.dig l).e = 8 ∧ (s.dig l).o = s.i + (4000 - s.c) := by
  have hm : s.len l = 4000 - s.c := Nat.min_eq_right (by omega)
  have h1 : s.dig1 l = ⟨s.i + s.len l, s.c + s.len l, 8, s.i + s.len l⟩ := by
    unfold PS.dig1
    rw [if_pos (by omega), PS.fail_new (s := ⟨s.i + s.len l, s.c + s.len l, s.e, s.o⟩) h]
  unfold PS.dig
  rw [h1, PS.fail_keep (by decide : (8 : Nat) ≠ 0)]
  split <;> exact ⟨rfl, by rw [hm]⟩
theorem PS.dig_none {l : List UInt8} {s : PS} (h : s.e = 0) (hk : prun (l.drop s.i) = 0) : (s.dig l).e = 4 ∧ (s.dig l).o = s.i := by
  have hm : s.len l = 0 := by have := s.len_run l; omega
  have h1 : s.dig1 l = ⟨s.i + s.len l, s.c + s.len l, s.e, s.o⟩ := by
    unfold PS.dig1
    rw [if_neg (by omega)]
  unfold PS.dig
  rw [if_pos hm, h1, PS.fail_new (s := ⟨s.i + s.len l, s.c + s.len l, s.e, s.o⟩) h]
  exact ⟨rfl, by rw [hm]; rfl⟩
theorem PS.dig_some {l : List UInt8} {s : PS} (hk : prun (l.drop s.i) ≤ 4000 - s.c) (h0 : prun (l.drop s.i) ≠ 0) : s.dig l = ⟨s.i + prun (l.drop s.i), s.c + prun (l.drop s.i), s.e, s.o⟩ ∧ s.len l = prun (l.drop s.i) := by
  have hm : s.len l = prun (l.drop s.i) := Nat.min_eq_left hk
  unfold PS.dig PS.dig1
  rw [if_neg (by omega), if_neg (by omega), hm]
  exact ⟨rfl, rfl⟩
/-- What is handed back. -/
def PS.out (s : PS) (x : Rat) : Rat × Nat × Nat := if s.e = 0 then (x, 0, 0) else (0, s.o, s.e)
/-- The end: the rest of the text, and a denominator that is 0. -/
def PS.done (l : List UInt8) (s : PS) (t d : Nat) : PS := if d = 0 then (s.fin l).fail t 3 else s.fin l
theorem PS.done_keep {l : List UInt8} {s : PS} (h : s.e ≠ 0) (t d : Nat) : s.done l t d = s := by
  unfold PS.done
  rw [PS.fin_keep h, PS.fail_keep h]
  split <;> rfl
theorem PS.out_keep {s : PS} (h : s.e ≠ 0) (x : Rat) : s.out x = (0, s.o, s.e) := by unfold PS.out; rw [if_neg h]
/-- The state behind the sign. -/
def st1 (l : List UInt8) : PS := if l[0]? = some 45 then ⟨1, 0, 0, 0⟩ else ⟨0, 0, 0, 0⟩
def sgn1 (l : List UInt8) : Bool := decide (l[0]? = some 45)
def st2 (l : List UInt8) : PS := (st1 l).dig l
section
variable {l : List UInt8}
theorem st1_i : (st1 l).i = if l.head? = some 45 then 1 else 0 := by
  unfold st1
  rw [List.head?_eq_getElem?]
  split <;> rfl
theorem st1_e : (st1 l).e = 0 := by unfold st1; split <;> rfl
theorem st1_c : (st1 l).c = 0 := by unfold st1; split <;> rfl
theorem sgn1_a : sgn1 l = ((if l.head? = some 45 then 1 else 0) == 1) := by
  unfold sgn1
  rw [List.head?_eq_getElem?]
  split
  · rename_i h; rw [h]; rfl
  · rename_i h; simp [h]
theorem byte_at {i : Nat} {c d : UInt8} (h1 : l[i]? = some c) (h2 : l[i]? = some d) : c = d := by rw [h1] at h2; exact Option.some.inj h2
/-- What follows the first run of digits, where there was an error. -/
theorem one_bad (h : (st2 l).e ≠ 0) : pparse l = (0, (st2 l).o, (st2 l).e) := by
  have ha : (if l.head? = some 45 then 1 else 0) = (st1 l).i := st1_i.symm
  have e0 : (st1 l).e = 0 := st1_e
  have c0 : (st1 l).c = 0 := st1_c
  rcases Nat.lt_or_ge 4000 (prun (l.drop (st1 l).i)) with hk | hk
  · rw [pp_limit ha rfl hk]
    have := PS.dig_limit (l := l) e0 (by rw [c0]; exact hk)
    unfold st2
    rw [this.1, this.2, c0]
  · by_cases h0 : prun (l.drop (st1 l).i) = 0
    · rw [pp_none ha rfl h0]
      have := PS.dig_none (l := l) e0 h0
      unfold st2
      rw [this.1, this.2]
    · have := (PS.dig_some (l := l) (s := st1 l) (by rw [c0]; exact hk) h0).1
      unfold st2 at h
      rw [this] at h
      exact absurd e0 h
theorem one_good (h : (st2 l).e = 0) : prun (l.drop (st1 l).i) ≤ 4000 ∧ prun (l.drop (st1 l).i) ≠ 0 ∧ st2 l = ⟨(st1 l).i + prun (l.drop (st1 l).i), prun (l.drop (st1 l).i), 0, (st1 l).o⟩ ∧ (st1 l).txt l = (l.drop (st1 l).i).take (prun (l.drop (st1 l).i)) := by
  have e0 : (st1 l).e = 0 := st1_e
  have c0 : (st1 l).c = 0 := st1_c
  rcases Nat.lt_or_ge 4000 (prun (l.drop (st1 l).i)) with hk | hk
  · have := PS.dig_limit (l := l) e0 (by rw [c0]; exact hk)
    unfold st2 at h
    omega
  · by_cases h0 : prun (l.drop (st1 l).i) = 0
    · have := PS.dig_none (l := l) e0 h0
      unfold st2 at h
      omega
    · have := PS.dig_some (l := l) (s := st1 l) (by rw [c0]; exact hk) h0
      refine ⟨hk, h0, ?_, ?_⟩
      · unfold st2; rw [this.1, c0, e0, Nat.zero_add]
      · unfold PS.txt; rw [this.2]
theorem div_1 (x : Rat) : x / ((1 : Nat) : Rat) = x := by
  rw [Rat.div_def, show (((1 : Nat) : Rat))⁻¹ = 1 by decide +kernel, Rat.mul_one]
/-- No separator. -/
theorem run_plain (h7 : l[(st2 l).i]? ≠ some 47) (h6 : l[(st2 l).i]? ≠ some 46) (t : Nat) (V : Nat) (hV : dval ((st1 l).txt l) = V) :
    ((st2 l).done l t 1).out (sgnq (sgn1 l) ((V : Rat) / ((1 : Nat) : Rat))) = pparse l := by
  subst hV
  have ha : (if l.head? = some 45 then 1 else 0) = (st1 l).i := st1_i.symm
  by_cases h : (st2 l).e = 0
  · obtain ⟨hk, h0, hs, ht⟩ := one_good h
    have hd : (st2 l).done l t 1 = (st2 l).fin l := by unfold PS.done; rw [if_neg (by decide)]
    rw [hd]
    have hle : (st1 l).i ≤ l.length := by
      rw [st1_i]
      split
      · rename_i hh
        cases l with
        | nil => simp at hh
        | cons c l => simp
      · omega
    have hkl := prun_le (l.drop (st1 l).i)
    rw [List.length_drop] at hkl
    by_cases he : (st1 l).i + prun (l.drop (st1 l).i) = l.length
    · rw [pp_int ha rfl hk h0 he, ht, sgn1_a, ha, hs]
      unfold PS.fin
      rw [if_neg (by simp; omega)]
      unfold PS.out
      rw [if_pos rfl, div_1]
    · rw [hs] at h7 h6
      rw [pp_other ha rfl hk h0 he (by rintro (h | h); exact h7 h; exact h6 h), hs]
      unfold PS.fin
      rw [if_pos (by simp; omega), PS.fail_new rfl]
      rfl
  · rw [PS.done_keep h, PS.out_keep h, one_bad h]
theorem sep_end {c : UInt8} (hc : l[(st2 l).i]? = some c) (hs : st2 l = ⟨(st1 l).i + prun (l.drop (st1 l).i), prun (l.drop (st1 l).i), 0, (st1 l).o⟩) : (st1 l).i + prun (l.drop (st1 l).i) < l.length ∧ l[(st1 l).i + prun (l.drop (st1 l).i)]? = some c := by
  rw [hs] at hc
  exact ⟨(List.getElem?_eq_some_iff.1 hc).1, hc⟩
/-- Behind a separator. -/
theorem run_sep {c : UInt8} (hc : l[(st2 l).i]? = some c) (h76 : c = 47 ∨ c = 46) (t D V : Nat) (ht : t = (st2 l).i + 1) (x : Rat)
    (hD : c = 47 → D = dval ((st2 l).skip.txt l)) (hD2 : c = 46 → D ≠ 0)
    (hx : (st2 l).e = 0 → prun (l.drop (st2 l).skip.i) ≤ 4000 - (st2 l).c → c = 47 → D ≠ 0 → sgnq (sgn1 l) ((dval ((st1 l).txt l) : Nat) / (dval ((st2 l).skip.txt l) : Nat)) = x)
    (hx2 : c = 46 → sgnq (sgn1 l) ((dval ((st1 l).txt l) * 10 ^ ((st2 l).skip.len l) + dval ((st2 l).skip.txt l) : Nat) / (10 ^ ((st2 l).skip.len l) : Nat)) = x) :
    (((st2 l).skip.dig l).done l t D).out x = pparse l := by
  have ha : (if l.head? = some 45 then 1 else 0) = (st1 l).i := st1_i.symm
  by_cases h : (st2 l).e = 0
  · obtain ⟨hk, h0, hs, htx⟩ := one_good h
    obtain ⟨hlt, hc2⟩ := sep_end hc hs
    have he : (st1 l).i + prun (l.drop (st1 l).i) ≠ l.length := by omega
    have hcc : l[(st1 l).i + prun (l.drop (st1 l).i)]? = some 47 ∨ l[(st1 l).i + prun (l.drop (st1 l).i)]? = some 46 := by
      rcases h76 with rfl | rfl
      · exact .inl hc2
      · exact .inr hc2
    have e3 : (st2 l).skip.e = 0 := h
    have i3 : (st2 l).skip.i = (st1 l).i + prun (l.drop (st1 l).i) + 1 := by rw [hs]; rfl
    have c3 : (st2 l).skip.c = prun (l.drop (st1 l).i) := by rw [hs]; rfl
    obtain ⟨j, hj⟩ : ∃ j, prun (l.drop ((st1 l).i + prun (l.drop (st1 l).i) + 1)) = j := ⟨_, rfl⟩
    have hj3 : prun (l.drop (st2 l).skip.i) = j := by rw [i3]; exact hj
    rcases Nat.lt_or_ge 4000 (prun (l.drop (st1 l).i) + j) with h2 | h2
    · have hd := PS.dig_limit (l := l) e3 (by rw [c3, hj3]; omega)
      rw [PS.done_keep (by omega), PS.out_keep (by omega), hd.1, hd.2, i3, c3, pp_limit2 ha rfl hj hk h0 he hcc h2]
    · by_cases hj0 : j = 0
      · have hd := PS.dig_none (l := l) e3 (by rw [hj3]; exact hj0)
        rw [PS.done_keep (by omega), PS.out_keep (by omega), hd.1, hd.2, i3, pp_none2 ha rfl hj hk h0 he hcc hj0]
      · have hd := PS.dig_some (l := l) (s := (st2 l).skip) (by rw [hj3, c3]; omega) (by rw [hj3]; exact hj0)
        have hlen := hd.2
        have hd := hd.1
        rw [hj3] at hlen
        rw [hj3, i3, c3, e3] at hd
        have hx := hx h (by rw [hj3, hs]; show j ≤ 4000 - prun (l.drop (st1 l).i); omega)
        have htx3 : (st2 l).skip.txt l = (l.drop ((st1 l).i + prun (l.drop (st1 l).i) + 1)).take j := by unfold PS.txt; rw [hlen, i3]
        by_cases h4 : (st1 l).i + prun (l.drop (st1 l).i) + 1 + j = l.length
        · have hf : PS.fin l ((st2 l).skip.dig l) = (st2 l).skip.dig l := by
            unfold PS.fin
            rw [if_neg (by rw [hd]; simp; omega)]
          rcases h76 with rfl | rfl
          · have hD := hD rfl
            by_cases hd0 : D = 0
            · rw [pp_zero ha rfl hj hk h0 he hc2 h2 hj0 h4 (by rw [← htx3, ← hD]; exact hd0)]
              unfold PS.done
              rw [if_pos hd0, hf, hd, PS.fail_new rfl, ht, hs]
              rfl
            · rw [pp_frac ha rfl hj hk h0 he hc2 h2 hj0 h4 (by rw [← htx3, ← hD]; exact hd0)]
              unfold PS.done
              rw [if_neg hd0, hf, hd]
              unfold PS.out
              rw [if_pos rfl, ← hx rfl hd0, sgn1_a, ha, htx, htx3]
          · rw [pp_dec ha rfl hj hk h0 he hc2 h2 hj0 h4]
            unfold PS.done
            rw [if_neg (hD2 rfl), hf, hd]
            unfold PS.out
            rw [if_pos rfl, ← hx2 rfl, sgn1_a, ha, htx, htx3, hlen]
        · have hjl := prun_le (l.drop ((st1 l).i + prun (l.drop (st1 l).i) + 1))
          rw [List.length_drop, hj] at hjl
          rw [pp_more ha rfl hj hk h0 he hcc h2 hj0 h4]
          have hf : PS.fin l ((st2 l).skip.dig l) = ⟨(st1 l).i + prun (l.drop (st1 l).i) + 1 + j, prun (l.drop (st1 l).i) + j, 4, (st1 l).i + prun (l.drop (st1 l).i) + 1 + j⟩ := by
            unfold PS.fin
            rw [if_pos (by rw [hd]; simp; omega), hd, PS.fail_new rfl]
          have hdn : PS.done l ((st2 l).skip.dig l) t D = PS.fin l ((st2 l).skip.dig l) := by
            unfold PS.done
            rw [PS.fail_keep (by rw [hf]; exact (by decide : (4 : Nat) ≠ 0))]
            split <;> rfl
          rw [hdn, hf]
          rfl
  · have h3 : (st2 l).skip.e ≠ 0 := h
    have hk := PS.dig_keep (l := l) h3
    have h4 : ((st2 l).skip.dig l).e ≠ 0 := by rw [hk.1]; exact h
    rw [PS.done_keep h4, PS.out_keep h4, hk.1, hk.2, one_bad h]
    rfl
end
end Go.Proofs.YtjpchbcenbjibaaGreatDoor
