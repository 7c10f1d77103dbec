/-
  The places of a list's scalars that are not basic, in the order in which they are put in; and the memory in which puny.textOf works. Plain facts; no walk; no condition.
-/
import Derived.Test.YtemgbmacdpnepaaPunSrt
import Derived.Test.YtemgbmacdpnepaaBldB
import Derived.Test.YtemgbmacdpnepaaPunCur
namespace Go.Proofs.Ytemgbmacdpnepaa
open Go.ChangeShapes Go.WideShapes Go.ChangeAt Go.RowKit
namespace Bas
theorem Kp.below {X : Nat → Prop} {w w' : World} (h : Kp X w w') {B : Nat} (hB : B ≤ w.heap.size) (hX : ∀ k, k < B → ¬ X k) : Below B w w' :=
  ⟨h.os, h.tape, h.output, h.size, fun k hk => h.block k (by omega) (hX k hk)⟩
theorem kp_of_chg {S : Nat → Nat → Prop} {w w' : World} (h : Chg S w w') : Kp (fun k => ∃ j, S k j) w w' := ⟨h.os, h.tape, h.output, h.size, fun k hk hn => h.block k hk (fun o ho => hn ⟨o, ho⟩)⟩
theorem kp_of_below {w w' : World} (h : Below w.heap.size w w') : Kp (fun _ => False) w w' := ⟨h.os, h.tape, h.output, h.size, fun k hk _ => h.block k hk⟩
theorem Row.kp {kd : IntKind} {X : Nat → Prop} {w w' : World} {a : Option Addr} {l : List Int} (h : Row kd w a l) (hk : Kp X w w') (hX : ∀ b o, a = some ⟨b, o, none⟩ → ¬ X b) : Row kd w' a l := by
  obtain ⟨b, off, ha, hc⟩ := h
  by_cases e : l = []
  · subst e; exact row_nil _ _ _
  · exact ⟨b, off, ha, fun i hi => hk.cellAt (hc i hi) (hX b off (ha e))⟩
end Bas
namespace Fen
open Bas
theorem FenAt.kp {X : Nat → Prop} {w w' : World} {g N : Nat} {P : Nat → Bool} (h : FenAt w g N P) (hk : Kp X w w') (hX : ¬ X g) : FenAt w' g N P := by
  obtain ⟨p, h1, h2⟩ := h
  exact ⟨p, h1, h2.kp hk (fun k hk2 => by simp [Value.ownBlock] at hk2; subst hk2; exact hX)⟩
end Fen
namespace Pun
open Bas Cod Fen Stp
set_option linter.unusedVariables false

/-- The places, among the first k, of those that are not basic. -/
def othK (L : List Int) : Nat → List Nat
  | 0 => []
  | k + 1 => if nth L k < 128 then othK L k else othK L k ++ [k]
theorem othK_mem (L : List Int) (k j : Nat) : j ∈ othK L k ↔ j < k ∧ ¬ nth L j < 128 := by
  induction k with
  | zero => simp [othK]
  | succ k ih =>
    rw [othK]
    by_cases h : nth L k < 128
    · rw [if_pos h, ih]
      constructor
      · intro h1; exact ⟨by omega, h1.2⟩
      · intro h1
        refine ⟨?_, h1.2⟩
        rcases Nat.lt_or_ge j k with h2 | h2
        · exact h2
        · have : j = k := by omega
          subst this; exact absurd h h1.2
    · rw [if_neg h, List.mem_append, ih, List.mem_singleton]
      constructor
      · rintro (h1 | rfl)
        · exact ⟨by omega, h1.2⟩
        · exact ⟨by omega, h⟩
      · intro h1
        rcases Nat.lt_or_ge j k with h2 | h2
        · exact .inl ⟨h2, h1.2⟩
        · exact .inr (by omega)
theorem othK_nodup (L : List Int) (k : Nat) : (othK L k).Nodup := by
  induction k with
  | zero => simp [othK]
  | succ k ih =>
    rw [othK]
    split
    · exact ih
    · rw [List.nodup_append]
      refine ⟨ih, by simp, fun a ha b hb e => ?_⟩
      simp at hb
      have := ((othK_mem L k a).1 ha).1
      omega
theorem othK_len (L : List Int) (k : Nat) : (othK L k).length + cnt (bas L) k = k := by
  induction k with
  | zero => simp [othK, cnt]
  | succ k ih =>
    rw [othK, cnt]
    by_cases h : nth L k < 128
    · rw [if_pos h, show bas L k = true by unfold bas; simpa using h]; simp; omega
    · rw [if_neg h, show bas L k = false by unfold bas; simpa using h]; simp; omega
/-- A row that rises, within bounds that leave no gap. -/
theorem mono_exact {f : Nat → Nat} {m B : Nat} (h : ∀ i j, i < j → j < m → f i < f j) (lo : ∀ i, i < m → B ≤ f i) (hi : ∀ i, i < m → f i < B + m) {i : Nat} (hm : i < m) : f i = B + i := by
  have h1 : ∀ i, i < m → B + i ≤ f i := by
    intro i
    induction i with
    | zero => intro hi; have := lo 0 hi; omega
    | succ i ih => intro hi; have := ih (by omega); have := h i (i + 1) (by omega) hi; omega
  have h2 : ∀ d i, i + d + 1 = m → f i + d < B + m := by
    intro d
    induction d with
    | zero => intro i hi2; have := hi i (by omega); omega
    | succ d ih => intro i hi2; have := ih (i + 1) (by omega); have := h i (i + 1) (by omega) (by omega); omega
  have := h1 i hm
  have := h2 (m - 1 - i) i (by omega)
  omega
theorem rank_max {L : List Int} {i : Nat} (hi : i < L.length) : rank L i < L.length := by
  have h := cnt_lt (P := fun k => aheadT L k i) (Q := fun _ => true) (k := L.length) (i := i) (fun _ _ _ => rfl) hi (aheadT_self L i) rfl
  rw [cnt_all] at h
  exact h
/-- Sorted, each stands where its rank is. -/
theorem sorted_rank {L : List Int} {O' : List Nat} (h : Sorted L (othK L L.length) O') {k : Nat} (hk : k < O'.length) : plA O' k < L.length ∧ 128 ≤ nth L (plA O' k) ∧ rank L (plA O' k) = cnt (bas L) L.length + k := by
  have hlen : O'.length + cnt (bas L) L.length = L.length := by rw [h.perm.length_eq]; exact othK_len L L.length
  have hmem : ∀ i, i < O'.length → plA O' i < L.length ∧ 128 ≤ nth L (plA O' i) := by
    intro i hi
    have hin : plA O' i ∈ O' := by
      have : plA O' i = O'[i] := by simp [plA, hi]
      rw [this]; exact List.getElem_mem hi
    have := (othK_mem L L.length _).1 (h.perm.mem_iff.1 hin)
    exact ⟨this.1, by omega⟩
  have hord := List.pairwise_iff_getElem.1 (h.ord (othK_nodup L L.length))
  have hlt : ∀ i j, i < j → j < O'.length → rank L (plA O' i) < rank L (plA O' j) := by
    intro i j hij hj
    have h1 := hord i j (by omega) hj hij
    have e1 : plA O' i = O'[i] := by simp [plA, show i < O'.length by omega]
    have e2 : plA O' j = O'[j] := by simp [plA, hj]
    rw [← e1, ← e2] at h1
    have hi2 := hmem i (by omega)
    have hj2 := hmem j hj
    refine rank_lt hi2.1 ((aheadT_iff ..).2 (.inr (.inr ⟨hi2.2, hj2.2, h1⟩)))
  have hk2 := hmem k hk
  refine ⟨hk2.1, hk2.2, ?_⟩
  exact mono_exact (f := fun i => rank L (plA O' i)) (m := O'.length) hlt (fun i hi => rank_oth (hmem i hi).2) (fun i hi => by have := rank_max (hmem i hi).1; omega) hk
/-- The basic ones among the first k. -/
def basL (L : List Int) (k : Nat) : List Int := (L.take k).filter (fun y => decide (y < 128))
theorem basL_all (L : List Int) : basL L L.length = L.filter (fun y => decide (y < 128)) := by unfold basL; rw [List.take_of_length_le (Nat.le_refl _)]
theorem basL_yes {L : List Int} {k : Nat} (hk : k < L.length) (h : nth L k < 128) : basL L (k + 1) = basL L k ++ [nth L k] := by
  unfold basL
  rw [take_snoc L k hk, List.filter_append, List.filter_cons_of_pos (by simpa using h), List.filter_nil]
theorem basL_no {L : List Int} {k : Nat} (hk : k < L.length) (h : ¬ nth L k < 128) : basL L (k + 1) = basL L k := by
  unfold basL
  rw [take_snoc L k hk, List.filter_append, List.filter_cons_of_neg (by simpa using h), List.filter_nil, List.append_nil]
theorem basL_len (L : List Int) (k : Nat) : (basL L k).length ≤ k := by
  unfold basL
  have := List.length_filter_le (fun y => decide (y < 128)) (L.take k)
  rw [List.length_take] at this
  omega
/-- Which places are marked, behind the first k. -/
def markK (L : List Int) (k j : Nat) : Bool := decide (j < k) && bas L j

theorem CurAt.kp {X : Nat → Prop} {w w' : World} {b n i len : Nat} {bi : Int} {mv : Bool} (h : CurAt w b n i len bi mv) (hk : Kp X w w') (hX : ¬ X b) : CurAt w' b n i len bi mv :=
  ⟨hk.cellAt h.c0 hX, hk.cellAt h.c1 hX, hk.cellAt h.c2 hX, hk.cellAt h.c3 hX, hk.cellAt h.c4 hX, fun j => (hk.frozen h.lt hX).trans (h.f j)⟩
/-- Where 'textOf' stands in memory: the list's box is block B, its Builder B + 1, its sums B + 2. -/
structure TxtAt (w wr : World) (B : Nat) (al : Option Addr) (n cl : Nat) (L : List Int) (vb vo : Value) (c : ByteArray) (O : List Nat) (P : Nat → Bool) : Prop where
  box : wr.cell? ⟨B, 0, none⟩ = some (.slice al n cl)
  row : Row .u32 wr al L
  rb : ∀ b o, al = some ⟨b, o, none⟩ → b < B
  bld : Bld wr (B + 1) (B + 1) vb c
  fen : FenAt wr (B + 2) n P
  oth : Seg .i64 wr vo (natL O)
  apb : ∀ g, vb.ownBlock = some g → B + 3 ≤ g
  apo : ∀ g, vo.ownBlock = some g → B + 3 ≤ g ∧ vb.ownBlock ≠ some g
  bel : Below B w wr
  hB : B ≤ wr.heap.size
section
variable {w wr w' : World} {B : Nat} {al : Option Addr} {n cl : Nat} {L : List Int} {vb vo : Value} {c : ByteArray} {O : List Nat} {P : Nat → Bool}
/-- .. behind what touches none of it. -/
theorem TxtAt.kp {X : Nat → Prop} (h : TxtAt w wr B al n cl L vb vo c O P) (hk : Kp X wr w') (hX : ∀ k, X k → B + 3 ≤ k ∧ vb.ownBlock ≠ some k ∧ vo.ownBlock ≠ some k) : TxtAt w w' B al n cl L vb vo c O P := by
  have hs := hk.size
  have hB := h.hB
  refine ⟨hk.cellAt h.box (fun hh => by have := (hX _ hh).1; omega), h.row.kp hk (fun b o e hh => by have := h.rb b o e; have := (hX _ hh).1; omega), h.rb, h.bld.kp hk (fun k hk2 hh => ?_), h.fen.kp hk (fun hh => by have := (hX _ hh).1; omega), h.oth.kp hk (fun g hg hh => (hX g hh).2.2 hg), h.apb, h.apo, h.bel.trans (hk.below h.hB (fun k hk2 hh => by have := (hX k hh).1; omega)), by omega⟩
  rcases hk2 with e | e
  · have := (hX k hh).1; omega
  · exact (hX k hh).2.1 e
/-- .. behind what is written. -/
theorem TxtAt.put {v' : Value} {c' : ByteArray} (h : TxtAt w wr B al n cl L vb vo c O P) (hb : Bld w' (B + 1) (B + 1) v' c') (hk : Kp (footS (B + 1) vb) wr w') (hm : Mov wr vb v') : TxtAt w w' B al n cl L v' vo c' O P := by
  have hs := hk.size
  have hB := h.hB
  have hX : ∀ k, footS (B + 1) vb k → k = B + 1 ∨ B + 3 ≤ k := fun k hk2 => by
    rcases hk2 with e | e
    · exact .inl e
    · exact .inr (h.apb k e)
  have hf := h.fen.lt
  refine ⟨hk.cellAt h.box (fun hh => by have := hX _ hh; omega), h.row.kp hk (fun b o e hh => by have := h.rb b o e; have := hX _ hh; omega), h.rb, hb, h.fen.kp hk (fun hh => by have := hX _ hh; omega), h.oth.kp hk (fun g hg hh => ?_), fun g hg => ?_, fun g hg => ⟨(h.apo g hg).1, fun e => ?_⟩, h.bel.trans (hk.below h.hB (fun k hk2 hh => by have := hX k hh; omega)), by omega⟩
  · rcases hh with e | e
    · have := (h.apo g hg).1; omega
    · exact (h.apo g hg).2 e
  · rcases hm g hg with e | e
    · exact h.apb g e
    · omega
  · rcases hm g e with e2 | e2
    · exact (h.apo g hg).2 e2
    · have := h.oth.lt hg; omega
/-- .. behind other marks. -/
theorem TxtAt.mark {P' : Nat → Bool} (h : TxtAt w wr B al n cl L vb vo c O P) (hf : FenAt w' (B + 2) n P') (hc : Chg (fun k _ => k = B + 2) wr w') : TxtAt w w' B al n cl L vb vo c O P' := by
  have hk := kp_of_chg hc
  have hs := hc.size
  have hB := h.hB
  refine ⟨hk.cellAt h.box (fun ⟨_, hh⟩ => by omega), h.row.kp hk (fun b o e ⟨_, hh⟩ => by have := h.rb b o e; omega), h.rb, h.bld.kp hk (fun k hk2 ⟨_, hh⟩ => ?_), hf, h.oth.kp hk (fun g hg ⟨_, hh⟩ => by have := (h.apo g hg).1; omega), h.apb, h.apo, h.bel.trans (hk.below h.hB (fun k hk2 ⟨_, hh⟩ => by omega)), by omega⟩
  rcases hk2 with e | e
  · omega
  · have := h.apb k e; omega
/-- .. behind other places. -/
theorem TxtAt.app {v' : Value} {O' : List Nat} (h : TxtAt w wr B al n cl L vb vo c O P) (hs' : Seg .i64 w' v' (natL O')) (hc : Chg (fun k _ => vo.ownBlock = some k) wr w') (hm : Mov wr vo v') : TxtAt w w' B al n cl L vb v' c O' P := by
  have hk := kp_of_chg hc
  have hs := hc.size
  have hB := h.hB
  have hX : ∀ k, (∃ _j : Nat, vo.ownBlock = some k) → B + 3 ≤ k ∧ vb.ownBlock ≠ some k := fun k ⟨_, hh⟩ => h.apo k hh
  have hf := h.fen.lt
  refine ⟨hk.cellAt h.box (fun hh => by have := (hX _ hh).1; omega), h.row.kp hk (fun b o e hh => by have := h.rb b o e; have := (hX _ hh).1; omega), h.rb, h.bld.kp hk (fun k hk2 hh => ?_), h.fen.kp hk (fun hh => by have := (hX _ hh).1; omega), hs', h.apb, fun g hg => ?_, h.bel.trans (hk.below h.hB (fun k hk2 hh => by have := (hX k hh).1; omega)), by omega⟩
  · rcases hk2 with e | e
    · have := (hX k hh).1; omega
    · exact (hX k hh).2 e
  · rcases hm g hg with e | e
    · exact h.apo g e
    · refine ⟨by omega, fun e2 => ?_⟩
      have := (h.bld.own.lt g e2).2
      omega
end
end Pun
end Go.Proofs.Ytemgbmacdpnepaa
