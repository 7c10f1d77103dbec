/-
  Contracts of the calls of permute's Table, wherever it lies in memory, as walks over the translated text. The condition: its cells hold the two tables; texts are of at most a million bytes.
-/
import Derived.Test.YtmihceoeoggjjaaTxt
import Derived.Test.YtmihceoeoggjjaaPerMath
namespace Go.Proofs.Ytmihceoeoggjjaa
open Go.ChangeShapes Go.WideShapes Go.ChangeAt Go.RowKit
namespace Per
open Bas Txt
set_option linter.unusedVariables false

/-- 256 bytes in memory, from an offset of a block on. -/
def Arr (w : World) (b o : Nat) (l : List Int) : Prop := ∀ i, i < 256 → w.cell? ⟨b, o + i, none⟩ = some (.int .u8 (nth l i))
/-- A table in memory. -/
structure TabAt (w : World) (b : Nat) : Prop where
  to : Arr w b 0 tabL
  fr : Arr w b 256 frL
theorem Arr.below {w w' : World} {b o : Nat} {l : List Int} (h : Arr w b o l) (hb : Below w.heap.size w w') : Arr w' b o l := fun i hi => cell_later hb (h i hi)
theorem TabAt.below {w w' : World} {b : Nat} (h : TabAt w b) (hb : Below w.heap.size w w') : TabAt w' b := ⟨h.to.below hb, h.fr.below hb⟩
theorem TabAt.lt {w : World} {b : Nat} (h : TabAt w b) : b < w.heap.size := World.block_lt_of_cell? w _ (h.to 0 (by decide))

/-- make([]byte, n). -/
theorem made_eq (n : Nat) : madeCells (Value.int .u8 0).cells n = Array.replicate n (Value.int .u8 0) := by
  apply Array.ext
  · simp [madeCells]
  · intro i h1 h2
    simp [madeCells, Value.cells, Nat.mod_one]
theorem make_u8 (w : World) (n : Nat) (h : n ≤ 1000000) : (Instr.makeSlice 40 (.int .i64 (n : Int)) (.int .i64 (n : Int))).run Try.prog w = .ok (.slice (some ⟨w.heap.size, 0, none⟩) n n) (w.alloc (.cells (Array.replicate n (Value.int .u8 0)) 5)) := by
  obtain ⟨i, hi, hz, hsz, hby⟩ := info_parts info_u8
  have hr := run_make (P := Try.prog) w 40 5 i (.int .u8 0) Try.underlying40 hi hz .i64 .i64 n n (by omega) (by omega) (by rw [hby]; omega) (by omega)
  rw [hsz, made_eq] at hr
  simpa using hr
theorem seg_make (w : World) (n : Nat) (h : n ≤ 1000000) (t : TypeId) {g : Nat} (hg : g = w.heap.size) : Seg .u8 (w.alloc (.cells (Array.replicate n (Value.int .u8 0)) t)) (.slice (some ⟨g, 0, none⟩) n n) (List.replicate n 0) := by
  subst hg
  refine .inr ⟨w.heap.size, 0, n, by simp, by simp, by simp, by unfold maxLen; omega, fun i hi => ?_, fun i hi => ?_, fun o => by simp⟩
  · have hi' : i < n := by simpa using hi
    simp only [Nat.zero_add]
    rw [World.cell?_alloc_new]
    simp [nth, hi']
  · simp only [Nat.zero_add]
    rw [World.cell?_alloc_new]
    simp [hi]
/-- The bytes turned so far, and noughts behind. -/
def outK (T L : List Int) (k : Nat) : List Int := (turnL T L).take k ++ List.replicate (L.length - k) 0
theorem outK_zero (T L : List Int) : outK T L 0 = List.replicate L.length 0 := by simp [outK]
theorem outK_len (T L : List Int) (k : Nat) (h : k ≤ L.length) : (outK T L k).length = L.length := by
  simp [outK, turnL_len]; omega
theorem outK_succ (T L : List Int) (k : Nat) (h : k < L.length) : outK T L (k + 1) = (outK T L k).set k (at_ T (nth L k)) := by
  have hl : ((turnL T L).take k).length = k := by simp [turnL_len]; omega
  unfold outK
  rw [take_snoc _ _ (by rw [turnL_len]; exact h), nth_turnL _ _ _ h, List.set_append_right _ _ (by omega), hl, Nat.sub_self]
  rw [show L.length - k = (L.length - (k + 1)) + 1 by omega, List.replicate_succ]
  simp
theorem outK_all (T L : List Int) : outK T L L.length = turnL T L := by
  unfold outK
  rw [List.take_of_length_le (by rw [turnL_len]; exact Nat.le_refl _)]
  simp
/-- What is known of the bytes under way. -/
def OutAt (w wr : World) (g n : Nat) (l : List Int) : Prop := Seg .u8 wr (.slice (some ⟨g, 0, none⟩) n n) l ∧ w.heap.size ≤ g ∧ Below w.heap.size w wr

end Per
end Go.Proofs.Ytmihceoeoggjjaa
