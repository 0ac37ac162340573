/-
  The bytes of a string.
-/
import Derived.Test.YtjpchbcenbjibaaGreatDoorD0
import Derived.Laws.DeepStrings4
import Derived.IntWalk
namespace Go.Proofs.YtjpchbcenbjibaaGreatDoor
open Go.RowKit
set_option linter.unusedVariables false
set_option linter.unusedSimpArgs false

/-- The bytes of a string. -/
def bs (l : List UInt8) : ByteArray := ⟨l.toArray⟩
theorem bs_size (l : List UInt8) : (bs l).size = l.length := by simp [bs, ByteArray.size]
theorem bs_append (l m : List UInt8) : bs l ++ bs m = bs (l ++ m) := by
  apply ByteArray.ext
  simp [bs, ByteArray.data_append]
theorem bs_of (s : ByteArray) : bs s.data.toList = s := by
  apply ByteArray.ext
  simp [bs]
theorem toList_loop (s : ByteArray) : ∀ (m i : Nat) (r : List UInt8), s.size - i = m → ByteArray.toList.loop s i r = r.reverse ++ s.data.toList.drop i := by
  intro m
  induction m with
  | zero =>
    intro i r h
    unfold ByteArray.toList.loop
    have hs : s.size = s.data.toList.length := Array.length_toList.symm
    rw [if_neg (by omega), List.drop_of_length_le (by omega), List.append_nil]
  | succ m ih =>
    intro i r h
    unfold ByteArray.toList.loop
    have hs : s.size = s.data.toList.length := Array.length_toList.symm
    rw [if_pos (by omega), ih (i + 1) _ (by omega), List.reverse_cons, List.append_assoc]
    have hd : s.data.toList.drop i = s.data.toList[i]'(by omega) :: s.data.toList.drop (i + 1) := List.drop_eq_getElem_cons (by omega)
    rw [hd]
    have hg : s.get! i = s.data.toList[i]'(by omega) := by
      have hi : i < s.data.size := (show i < s.size by omega)
      exact getElem!_pos s.data i hi
    rw [hg]
    rfl
theorem ba_toList (s : ByteArray) : s.toList = s.data.toList := by
  unfold ByteArray.toList
  rw [toList_loop s _ 0 [] rfl]
  simp
theorem bs_toList (l : List UInt8) : (bs l).toList = l := by rw [ba_toList]; simp [bs]
theorem bs_get (l : List UInt8) (i : Nat) (c : UInt8) (x : Nat) (hc : l[i]? = some c) (hx : c.toNat = x) (h : i < (bs l).size) : ((bs l)[i]'h).toNat = x := by
  have h1 : i < l.length := by rwa [bs_size] at h
  rw [List.getElem?_eq_getElem h1] at hc
  have h2 : (bs l)[i]'h = l[i]'h1 := rfl
  rw [h2, Option.some.inj hc, hx]
def strLen : Value → Nat
  | .string s => s.size
  | _ => 0
end Go.Proofs.YtjpchbcenbjibaaGreatDoor
