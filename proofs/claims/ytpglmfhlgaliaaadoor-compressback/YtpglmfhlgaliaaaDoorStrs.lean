/-
  Texts and their bytes as numbers: there and back, joined, cut. No Go text is named here but by the definitions of the files before; no condition.
-/
import Derived.Test.YtpglmfhlgaliaaaDoorStp3
namespace Go.Proofs.YtpglmfhlgaliaaaDoor
open Go.ChangeShapes Go.WideShapes Go.ChangeAt Go.RowKit
namespace Stp
open Bas
set_option linter.unusedVariables false

theorem strOf_go (l : List Int) (acc : ByteArray) : (l.foldl (fun r n => r.push (UInt8.ofNat n.toNat)) acc).data.toList = acc.data.toList ++ l.map fun n => UInt8.ofNat n.toNat := by
  induction l generalizing acc with
  | nil => simp
  | cons n r ih => rw [List.foldl_cons, ih]; simp [ByteArray.data_push]
theorem strOf_data (l : List Int) : (strOf l).data.toList = l.map fun n => UInt8.ofNat n.toNat := by
  unfold strOf; rw [strOf_go]; rfl
theorem str_ext {s t : ByteArray} (h : s.data.toList = t.data.toList) : s = t := by
  cases s; cases t; simp only [ByteArray.mk.injEq]; exact Array.toList_inj.1 h
theorem strOf_bytesL (s : ByteArray) : strOf (bytesL s) = s := by
  apply str_ext
  rw [strOf_data, bytesL, List.map_map]
  conv => rhs; rw [← List.map_id s.data.toList]
  apply List.map_congr_left
  intro b _
  simp
theorem bytesL_append (s t : ByteArray) : bytesL (s ++ t) = bytesL s ++ bytesL t := by
  unfold bytesL; rw [ByteArray.data_append, Array.toList_append, List.map_append]
theorem bytesL_extract (s : ByteArray) (a b : Nat) : bytesL (s.extract a b) = ((bytesL s).take b).drop a := by
  unfold bytesL; rw [ByteArray.data_extract, Array.toList_extract, List.extract_eq_take_drop, List.map_take, List.map_drop, List.drop_take]
theorem bytesL_take (s : ByteArray) (b : Nat) : bytesL (s.extract 0 b) = (bytesL s).take b := by rw [bytesL_extract]; rfl
theorem bytesL_drop (s : ByteArray) (a : Nat) : bytesL (s.extract a s.size) = (bytesL s).drop a := by
  rw [bytesL_extract, List.take_of_length_le (by rw [bytesL_length]; exact Nat.le_refl _)]
theorem strOf_take (s : ByteArray) (b : Nat) : strOf ((bytesL s).take b) = s.extract 0 b := by rw [← bytesL_take, strOf_bytesL]
theorem bytesL_inj {s t : ByteArray} (h : bytesL s = bytesL t) : s = t := by rw [← strOf_bytesL s, ← strOf_bytesL t, h]
end Stp
end Go.Proofs.YtpglmfhlgaliaaaDoor
