/-
  Contracts of the calls of step's Row and In, wherever they lie in memory, as walks over the translated text. The condition: its cell is there, and may be written, and holds a slice of the program's own.
-/
import Derived.Test.YtpglmfhlgaliaaaDoorStp
namespace Go.Proofs.YtpglmfhlgaliaaaDoor
open Go.ChangeShapes Go.WideShapes Go.ChangeAt Go.RowKit
namespace Stp
open Bas
set_option linter.unusedVariables false

theorem info_u32 : (Tryd.prog.info? 35).map (fun i => (i.zero, i.size, i.bytes)) = some (some (.int .u32 0), 1, 4) := by kernel_rfl
/-- A Row (or a Pend) in memory: its one cell holds the slice v, of the numbers l. -/
structure RowAt (k : IntKind) (w : World) (b o : Nat) (v : Value) (l : List Int) : Prop where
  c : w.cell? ⟨b, o, none⟩ = some v
  f : w.frozen? ⟨b, o, none⟩ = false
  seg : Seg k w v l
  ne : v.ownBlock ≠ some b
/-- Its memory. -/
def footR (b o : Nat) (v : Value) (k j : Nat) : Prop := (k = b ∧ j = o) ∨ v.ownBlock = some k
theorem RowAt.chg {kd : IntKind} {S : Nat → Nat → Prop} {w w' : World} {b o : Nat} {v : Value} {l : List Int} (h : RowAt kd w b o v l) (hc : Chg S w w') (hS : ∀ k j, footR b o v k j → ¬ S k j) : RowAt kd w' b o v l :=
  ⟨hc.cellAt h.c (hS _ _ (.inl ⟨rfl, rfl⟩)), hc.freeAt h.c h.f, h.seg.chg hc (fun g o hg => hS _ _ (.inr hg)), h.ne⟩
theorem RowAt.below {kd : IntKind} {w w' : World} {b o : Nat} {v : Value} {l : List Int} (h : RowAt kd w b o v l) (hb : Below w.heap.size w w') : RowAt kd w' b o v l :=
  h.chg (chg_of_below hb (Nat.le_refl _) (fun _ _ => False)) (fun _ _ _ h => h)
theorem RowAt.lt {kd : IntKind} {w : World} {b o : Nat} {v : Value} {l : List Int} (h : RowAt kd w b o v l) : b < w.heap.size := World.block_lt_of_cell? w _ h.c
/-- How many of some may go. -/
def frontN (room : Int) (n : Nat) : Nat := if room < 0 then 0 else if room > n then n else room.toNat
theorem frontN_all {room : Int} {n : Nat} (h : (n : Int) ≤ room) : frontN room n = n := by
  unfold frontN
  rw [if_neg (by omega)]
  split
  · rfl
  · omega
theorem frontN_le (room : Int) (n : Nat) : frontN room n ≤ n := by
  unfold frontN; repeat' split
  all_goals omega

end Stp
end Go.Proofs.YtpglmfhlgaliaaaDoor
