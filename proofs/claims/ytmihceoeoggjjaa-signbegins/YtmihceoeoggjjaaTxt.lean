/-
  Texts and their bytes as numbers, a slice of bytes as a text. No statement of the program; no condition.
-/
import Derived.Test.YtmihceoeoggjjaaMemS
import Derived.Laws.BytesString
namespace Go.Proofs.Ytmihceoeoggjjaa
open Go.ChangeShapes Go.WideShapes Go.ChangeAt Go.RowKit
namespace Txt
open Bas
set_option linter.unusedVariables false

theorem info_u8 : (Try.prog.info? 5).map (fun i => (i.zero, i.size, i.bytes)) = some (some (.int .u8 0), 1, 1) := by kernel_rfl
/-- The text of some bytes. -/
def strOf (l : List Int) : ByteArray := l.foldl (fun r n => r.push (UInt8.ofNat n.toNat)) ByteArray.empty
theorem row_loads {P : Program} {w : World} {ad : Addr} {l : List Int} (h : Row .u8 w (some ad) l) : (loadCells ad l.length).run P w = .ok (l.map (Value.int .u8)).toArray w := by
  have := run_loadCells_list (P := P) w ad (l.map (Value.int .u8)) (fun j u hu => by
    obtain ⟨hj, rfl⟩ := map_nth .u8 l j u hu
    obtain ⟨b, off, ha, hcell⟩ := h
    have hne : l ≠ [] := by intro e; subst e; simp at hj
    have := ha hne
    simp only [Option.some.injEq] at this
    subst this
    rw [add_at]; exact hcell j hj)
  simpa using this
theorem run_string (w : World) (a : Option Addr) (n c : Nat) (l : List Int) (h : Row .u8 w a l) (hl : l.length = n) :
    (convert 40 9 (.slice a n c)).run Try.prog w = .ok (.string (strOf l)) w := by
  subst hl
  rw [run_convert_bytes_string w 40 9 5 a l.length c Try.underlying40 Try.underlying5 Try.underlying9]
  cases a with
  | none =>
    have hl0 : l = [] := by
      obtain ⟨b, off, ha, _⟩ := h
      cases l with
      | nil => rfl
      | cons y r => exact absurd (ha (by simp)) (by simp)
    subst hl0
    rfl
  | some ad => exact run_bytesToString w ad l.length c l (row_loads h)
theorem strOf_go (l : List Int) (acc : ByteArray) : (l.foldl (fun r n => r.push (UInt8.ofNat n.toNat)) acc).data.toList = acc.data.toList ++ l.map fun n => UInt8.ofNat n.toNat := by
  induction l generalizing acc with
  | nil => simp
  | cons n r ih => rw [List.foldl_cons, ih]; simp [ByteArray.data_push]
theorem strOf_data (l : List Int) : (strOf l).data.toList = l.map fun n => UInt8.ofNat n.toNat := by
  unfold strOf; rw [strOf_go]; rfl
theorem str_ext {s t : ByteArray} (h : s.data.toList = t.data.toList) : s = t := by
  cases s; cases t; simp only [ByteArray.mk.injEq]; exact Array.toList_inj.1 h
theorem strOf_bytesL (s : ByteArray) : strOf (bytesL s) = s := by
  apply str_ext
  rw [strOf_data, bytesL, List.map_map]
  conv => rhs; rw [← List.map_id s.data.toList]
  apply List.map_congr_left
  intro b _
  simp
theorem bytesL_append (s t : ByteArray) : bytesL (s ++ t) = bytesL s ++ bytesL t := by
  unfold bytesL; rw [ByteArray.data_append, Array.toList_append, List.map_append]
theorem bytesL_inj {s t : ByteArray} (h : bytesL s = bytesL t) : s = t := by rw [← strOf_bytesL s, ← strOf_bytesL t, h]
theorem str_nth (str : ByteArray) (k : Nat) (h : k < str.size) : ((str[k]'h).toNat : Int) = nth (bytesL str) k := by
  unfold nth bytesL
  have h' : k < str.data.size := h
  rw [List.getElem?_map, Array.getElem?_toList, Array.getElem?_eq_getElem h']
  rfl
theorem bytesL_byte (str : ByteArray) : ∀ x ∈ bytesL str, 0 ≤ x ∧ x < 256 := by
  intro x hx
  unfold bytesL at hx
  simp at hx
  obtain ⟨a, _, rfl⟩ := hx
  have := a.toNat_lt
  omega
theorem strOf_size (l : List Int) : (strOf l).size = l.length := by
  show (strOf l).data.size = _
  rw [← Array.length_toList, strOf_data]; simp
theorem strOf_append (l m : List Int) : strOf (l ++ m) = strOf l ++ strOf m := by
  apply str_ext
  rw [ByteArray.data_append, Array.toList_append, strOf_data, strOf_data, strOf_data, List.map_append]
theorem bytesL_strOf (l : List Int) (h : ∀ x ∈ l, 0 ≤ x ∧ x < 256) : bytesL (strOf l) = l := by
  unfold bytesL
  rw [strOf_data, List.map_map]
  conv => rhs; rw [← List.map_id l]
  apply List.map_congr_left
  intro x hx
  have := h x hx
  obtain ⟨m, rfl⟩ := Int.eq_ofNat_of_zero_le this.1
  have hm : m < 256 := by omega
  simp
  omega
theorem seg_row {k : IntKind} {w : World} {a : Option Addr} {n c : Nat} {l : List Int} (h : Seg k w (.slice a n c) l) : Row k w a l ∧ l.length = n ∧ l.length ≤ maxLen := by
  obtain ⟨a', c', e, hr, hm, -⟩ := h.form
  simp only [Value.slice.injEq] at e
  rw [e.1]; exact ⟨hr, e.2.1.symm, hm⟩
end Txt
end Go.Proofs.Ytmihceoeoggjjaa
