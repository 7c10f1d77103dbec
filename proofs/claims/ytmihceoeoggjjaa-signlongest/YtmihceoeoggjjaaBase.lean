/-
  What all walks of this seat share: endings, rows of numbers in memory, draws. No statement of the program; no condition.
-/
import Derived.Test.YtmihceoeoggjjaaRows
import Derived.Test.YtmihceoeoggjjaaBasMath
import Derived.WalkKit
import Derived.ProofKit
import Derived.OpenShut
import Derived.ShutString
import Derived.ChangeOld
import Derived.WalkLawsBesides
import Derived.WalkSpells
import Derived.Below
import Derived.Outline
import Derived.Deep.QuietTactic
import Derived.BigQuiet
namespace Go.Proofs.Ytmihceoeoggjjaa
open Go.ChangeShapes Go.WideShapes Go.ChangeAt Go.RowKit
namespace Bas

theorem own : ownKnob Try.prog.godebug = none := by kernel_rfl
theorem laidOut : laidOutB Try.prog = true := by kernel_rfl

theorem ret_int {k : IntKind} {a b : Int} (h : a = b) : Ending.returned (.int k a) = .returned (.int k b) := by rw [h]
theorem ret_bool {a b : Bool} (h : a = b) : Ending.returned (.bool a) = .returned (.bool b) := by rw [h]

/-- A slice's address leads to the numbers of a list. -/
def Row (k : IntKind) (w : World) (a : Option Addr) (l : List Int) : Prop :=
  ∃ b off, (l ≠ [] → a = some ⟨b, off, none⟩) ∧ ∀ i, i < l.length → w.cell? ⟨b, off + i, none⟩ = some (.int k (nth l i))
theorem Row.mono {k : IntKind} {w w' : World} {a : Option Addr} {l : List Int} (h : Row k w a l) (hb : Below w.heap.size w w') : Row k w' a l := by
  obtain ⟨b, off, ha, hc⟩ := h
  exact ⟨b, off, ha, fun i hi => cell_later hb (hc i hi)⟩
theorem row_nil (k : IntKind) (w : World) (a : Option Addr) : Row k w a [] :=
  ⟨0, 0, fun h => absurd rfl h, fun i hi => by simp at hi⟩
theorem row_of (k : IntKind) (w : World) (x : Addr) (zs : List Int) (len : Nat) (hl : len ≤ zs.length)
    (hcell : ∀ i, i < zs.length → w.cell? (x.add i) = some (.int k (zs.getD i 0))) : Row k w (some x) (zs.take len) := by
  by_cases h : len = 0
  · subst h; exact row_nil _ _ _
  · obtain ⟨b, off, spot⟩ := x
    have hc := hcell 0 (by omega)
    have hspot : spot = none := by simpa [Addr.add] using World.cell?_spot hc
    subst hspot
    refine ⟨b, off, fun _ => rfl, fun i hi => ?_⟩
    have hi' : i < len := by simp at hi; omega
    have h1 := hcell i (by omega)
    rw [nth_take hi']
    have e : (⟨b, off, none⟩ : Addr).add i = ⟨b, off + i, none⟩ := by
      unfold Addr.add; split
      · simp_all
      · rfl
    rw [e] at h1
    simpa [nth] using h1
/-- What is known of a slice of numbers that came in. -/
structure Ints (k : IntKind) (w : World) (a : Option Addr) (n c : Nat) (l : List Int) : Prop where
  row : Row k w a l
  len : l.length = n
  max : n ≤ maxLen
  fits : ∀ x ∈ l, (Lit.int k x).wf = true
  nil : a = none → c = 0
theorem Ints.mono {k : IntKind} {w w' : World} {a : Option Addr} {n c : Nat} {l : List Int} (h : Ints k w a n c l) (hb : Below w.heap.size w w') : Ints k w' a n c l :=
  ⟨h.row.mono hb, h.len, h.max, h.fits, h.nil⟩
theorem row_new (k : IntKind) (w : World) (l : List Int) (t : TypeId) (n : Nat) (hn : n = w.heap.size) : Row k (w.alloc (.cells (l.map (Value.int k)).toArray t)) (some ⟨n, 0, none⟩) l := by
  refine ⟨n, 0, fun _ => rfl, fun i hi => ?_⟩
  rw [World.cell?_alloc_at _ _ _ _ hn]
  simp [nth, hi]
theorem row_old {k : IntKind} {w : World} {a : Option Addr} {l : List Int} (h : Row k w a l) (o : Obj) : Row k (w.alloc o) a l :=
  h.mono ((Below.refl _ _).alloc (Nat.le_refl _) _)
theorem row_drewN {k : IntKind} {w : World} {a : Option Addr} {l : List Int} (h : Row k w a l) (n : Nat) : Row k (w.drewN n) a l := h

theorem dn2 (w : World) (n m : Nat) : ∃ k, (w.drewN n).drewN m = w.drewN k := ⟨_, World.drewN_drewN ..⟩
theorem dn3 (w : World) (n m j : Nat) : ∃ k, ((w.drewN n).drewN m).drewN j = w.drewN k := by
  rw [World.drewN_drewN, World.drewN_drewN]; exact ⟨_, rfl⟩
theorem below_dn (w : World) (n : Nat) : Below w.heap.size w (w.drewN n) := below_drewN (Below.refl _ _) n
theorem below_two {w w1 w2 : World} (h : Below w.heap.size w w1) (k : Below w1.heap.size w1 w2) : Below w.heap.size w w2 := h.trans (k.mono h.size)
end Bas
end Go.Proofs.Ytmihceoeoggjjaa
