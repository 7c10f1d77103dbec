/-
  What walks over machines share: what a call may change in memory (cell by cell), slices of numbers that lie anywhere in a block that the program itself made, and an append to them. No statement of the program; no condition.
-/
import Derived.Test.YtmihceoeoggjjaaOwn
import Derived.Deep.AppendSrc
import Derived.Deep.MidRow
import Derived.Deep.Upon
namespace Go.Proofs.Ytmihceoeoggjjaa
open Go.ChangeShapes Go.WideShapes Go.ChangeAt Go.RowKit
namespace Bas
set_option linter.unusedVariables false

/-- What was there is as it was, but for the cells that S names. -/
structure Chg (S : Nat → Nat → Prop) (w w' : World) : Prop where
  os : w'.os = w.os
  tape : w'.tape = w.tape
  output : w'.output = w.output
  size : w.heap.size ≤ w'.heap.size
  block : ∀ k, k < w.heap.size → (∀ o, ¬ S k o) → w'.heap[k]? = w.heap[k]?
  cell : ∀ k o, k < w.heap.size → ¬ S k o → w'.cell? ⟨k, o, none⟩ = w.cell? ⟨k, o, none⟩
  frozen : ∀ k o, k < w.heap.size → w'.frozen? ⟨k, o, none⟩ = w.frozen? ⟨k, o, none⟩
  there : ∀ k o, k < w.heap.size → (w.cell? ⟨k, o, none⟩).isSome = true → (w'.cell? ⟨k, o, none⟩).isSome = true

theorem Chg.refl (S : Nat → Nat → Prop) (w : World) : Chg S w w :=
  ⟨rfl, rfl, rfl, Nat.le_refl _, fun _ _ _ => rfl, fun _ _ _ _ => rfl, fun _ _ _ => rfl, fun _ _ _ h => h⟩
theorem Chg.mono {S T : Nat → Nat → Prop} {w w' : World} (h : Chg S w w') (hS : ∀ k o, k < w.heap.size → S k o → T k o) : Chg T w w' :=
  ⟨h.os, h.tape, h.output, h.size, fun k hk hn => h.block k hk (fun o ho => hn o (hS k o hk ho)), fun k o hk hn => h.cell k o hk (fun ho => hn (hS k o hk ho)), h.frozen, h.there⟩
theorem Chg.trans {S : Nat → Nat → Prop} {a b c : World} (h : Chg S a b) (g : Chg S b c) : Chg S a c :=
  ⟨g.os.trans h.os, g.tape.trans h.tape, g.output.trans h.output, Nat.le_trans h.size g.size,
   fun k hk hn => (g.block k (Nat.lt_of_lt_of_le hk h.size) hn).trans (h.block k hk hn),
   fun k o hk hn => (g.cell k o (Nat.lt_of_lt_of_le hk h.size) hn).trans (h.cell k o hk hn),
   fun k o hk => (g.frozen k o (Nat.lt_of_lt_of_le hk h.size)).trans (h.frozen k o hk),
   fun k o hk hs => g.there k o (Nat.lt_of_lt_of_le hk h.size) (h.there k o hk hs)⟩
theorem Chg.trans2 {S T U : Nat → Nat → Prop} {a b c : World} (h : Chg S a b) (g : Chg T b c) (hS : ∀ k o, k < a.heap.size → S k o → U k o) (hT : ∀ k o, k < a.heap.size → T k o → U k o) : Chg U a c :=
  ⟨g.os.trans h.os, g.tape.trans h.tape, g.output.trans h.output, Nat.le_trans h.size g.size,
   fun k hk hn => (g.block k (Nat.lt_of_lt_of_le hk h.size) (fun o ho => hn o (hT k o hk ho))).trans (h.block k hk (fun o ho => hn o (hS k o hk ho))),
   fun k o hk hn => (g.cell k o (Nat.lt_of_lt_of_le hk h.size) (fun ho => hn (hT k o hk ho))).trans (h.cell k o hk (fun ho => hn (hS k o hk ho))),
   fun k o hk => (g.frozen k o (Nat.lt_of_lt_of_le hk h.size)).trans (h.frozen k o hk),
   fun k o hk hs => g.there k o (Nat.lt_of_lt_of_le hk h.size) (h.there k o hk hs)⟩
theorem Chg.drewN {S : Nat → Nat → Prop} {a b : World} (h : Chg S a b) (n : Nat) : Chg S a (b.drewN n) :=
  ⟨h.os, h.tape, h.output, h.size, h.block, h.cell, h.frozen, h.there⟩
theorem Chg.drew {S : Nat → Nat → Prop} {a b : World} (h : Chg S a b) : Chg S a b.drew :=
  ⟨h.os, h.tape, h.output, h.size, h.block, h.cell, h.frozen, h.there⟩
theorem chg_of_below {B : Nat} {w w' : World} (h : Below B w w') (hB : w.heap.size ≤ B) (S : Nat → Nat → Prop) : Chg S w w' :=
  ⟨h.os, h.tape, h.output, h.size, fun k hk _ => h.block k (by omega), fun k o hk _ => h.cell (p := ⟨k, o, none⟩) (by show k < B; omega), fun k o hk => h.frozen (p := ⟨k, o, none⟩) (by show k < B; omega),
   fun k o hk hs => by rw [h.cell (p := ⟨k, o, none⟩) (by show k < B; omega)]; exact hs⟩
theorem Chg.below {S : Nat → Nat → Prop} {w w' : World} (h : Chg S w w') {B : Nat} (hB : B ≤ w.heap.size) (hS : ∀ k o, k < B → ¬ S k o) : Below B w w' :=
  ⟨h.os, h.tape, h.output, h.size, fun k hk => h.block k (by omega) (fun o => hS k o hk)⟩
theorem Chg.alloc {S : Nat → Nat → Prop} {a b : World} (h : Chg S a b) (o : Obj) : Chg S a (b.alloc o) :=
  h.trans (chg_of_below ((Below.refl _ _).alloc (Nat.le_refl _) _) (Nat.le_refl _) S)
theorem chg_setCell (w : World) (b o : Nat) (v : Value) : Chg (fun k j => k = b ∧ j = o) w (w.setCell ⟨b, o, none⟩ v) := by
  refine ⟨rfl, rfl, rfl, by simp, fun k hk hn => ?_, fun k j hk hn => ?_, fun k j hk => by simp, fun k j hk hs => ?_⟩
  · exact Below.heap_setCell _ _ _ _ (fun e => hn o ⟨e, rfl⟩)
  · exact World.cell?_setCell_other _ _ _ _ (fun e => by simp at e; exact hn ⟨e.1.symm, e.2.symm⟩)
  · by_cases e : (⟨b, o, none⟩ : Addr) = ⟨k, j, none⟩
    · obtain ⟨u, hu⟩ := Option.isSome_iff_exists.1 hs
      rw [← e] at hu ⊢
      rw [World.cell?_setCell_same _ _ _ hu]; rfl
    · rw [World.cell?_setCell_other _ _ _ _ e]; exact hs
theorem chg_setCells (w : World) (b o : Nat) (vs : List Value) : Chg (fun k j => k = b ∧ o ≤ j ∧ j < o + vs.length) w (w.setCells b o vs) := by
  induction vs generalizing w o with
  | nil => exact Chg.refl _ _
  | cons v r ih =>
    refine (chg_setCell w b o v).trans2 (ih (w.setCell ⟨b, o, none⟩ v) (o + 1)) (fun k j _ h => ?_) (fun k j _ h => ?_)
    · refine ⟨h.1, by omega, ?_⟩; have := h.2; simp; omega
    · refine ⟨h.1, by omega, ?_⟩; have := h.2.2; simp; omega
theorem Chg.cellAt {S : Nat → Nat → Prop} {w w' : World} (h : Chg S w w') {k o : Nat} {v : Value} (hc : w.cell? ⟨k, o, none⟩ = some v) (hS : ¬ S k o) : w'.cell? ⟨k, o, none⟩ = some v :=
  (h.cell k o (World.block_lt_of_cell? w _ hc) hS).trans hc
theorem Chg.freeAt {S : Nat → Nat → Prop} {w w' : World} (h : Chg S w w') {k o : Nat} {v : Value} (hc : w.cell? ⟨k, o, none⟩ = some v) (hf : w.frozen? ⟨k, o, none⟩ = false) : w'.frozen? ⟨k, o, none⟩ = false :=
  (h.frozen k o (World.block_lt_of_cell? w _ hc)).trans hf
theorem Row.chg {k : IntKind} {S : Nat → Nat → Prop} {w w' : World} {a : Option Addr} {l : List Int} (h : Row k w a l) (hb : Chg S w w') (hS : ∀ b o, a = some ⟨b, o, none⟩ → ∀ j, ¬ S b j) : Row k w' a l := by
  obtain ⟨b, off, ha, hc⟩ := h
  by_cases e : l = []
  · subst e; exact row_nil _ _ _
  · exact ⟨b, off, ha, fun i hi => hb.cellAt (hc i hi) (hS b off (ha e) _)⟩

/-- A slice of numbers in a block that the program made: its cells, and all its spare, are there, and may be written. -/
def Seg (k : IntKind) (w : World) (v : Value) (l : List Int) : Prop :=
  (v = .slice none 0 0 ∧ l = []) ∨ ∃ g off cap, v = .slice (some ⟨g, off, none⟩) l.length cap ∧ g < w.heap.size ∧ l.length ≤ cap ∧ cap ≤ maxLen ∧
    (∀ i, i < l.length → w.cell? ⟨g, off + i, none⟩ = some (.int k (nth l i))) ∧ (∀ i, i < cap → (w.cell? ⟨g, off + i, none⟩).isSome = true) ∧ ∀ o, w.frozen? ⟨g, o, none⟩ = false
theorem seg_nil (k : IntKind) (w : World) : Seg k w (.slice none 0 0) [] := .inl ⟨rfl, rfl⟩
theorem seg_empty (k : IntKind) (w : World) (t : TypeId) : Seg k (w.alloc (.cells #[] t)) (.slice (some ⟨w.heap.size, 0, none⟩) 0 0) [] :=
  .inr ⟨w.heap.size, 0, 0, rfl, by simp, by simp, by simp, fun i hi => by simp at hi, fun i hi => by omega, fun o => by simp⟩
theorem Seg.form {k : IntKind} {w : World} {v : Value} {l : List Int} (h : Seg k w v l) : ∃ a c, v = .slice a l.length c ∧ Row k w a l ∧ l.length ≤ maxLen ∧ l.length ≤ c ∧ c ≤ maxLen ∧ (a = none → c = 0) := by
  rcases h with ⟨rfl, rfl⟩ | ⟨g, off, cap, rfl, hg, h1, h2, h3, h4, h5⟩
  · exact ⟨none, 0, rfl, row_nil _ _ _, by simp [maxLen], by simp, by simp [maxLen], fun _ => rfl⟩
  · exact ⟨_, _, rfl, ⟨g, off, fun _ => rfl, h3⟩, by omega, h1, h2, fun h => by cases h⟩
theorem Seg.lt {k : IntKind} {w : World} {v : Value} {l : List Int} (h : Seg k w v l) {g : Nat} (hg : v.ownBlock = some g) : g < w.heap.size := by
  rcases h with ⟨rfl, rfl⟩ | ⟨g', off, cap, rfl, h1, _⟩
  · simp [Value.ownBlock] at hg
  · simp [Value.ownBlock] at hg; omega
theorem Seg.chg {k : IntKind} {S : Nat → Nat → Prop} {w w' : World} {v : Value} {l : List Int} (h : Seg k w v l) (hb : Chg S w w') (hS : ∀ g o, v.ownBlock = some g → ¬ S g o) : Seg k w' v l := by
  rcases h with h | ⟨g, off, cap, rfl, hg, h1, h2, h3, h4, h5⟩
  · exact .inl h
  · have hS' : ∀ o, ¬ S g o := fun o => hS g o rfl
    exact .inr ⟨g, off, cap, rfl, Nat.lt_of_lt_of_le hg hb.size, h1, h2, fun i hi => hb.cellAt (h3 i hi) (hS' _), fun i hi => hb.there g _ hg (h4 i hi), fun o => (hb.frozen g o hg).trans (h5 o)⟩
theorem Own.seg {k : IntKind} {e : TypeId} {w : World} {base : Nat} {v : Value} {l : List Int} (h : Own k e w base v l) : Seg k w v l := by
  rcases h.2 with ⟨rfl, hn⟩ | ⟨g, cap, cur, rfl, hb, hg, hnc, hcm, hcur, htake⟩
  · have : l = [] := List.length_eq_zero_iff.1 hn
    subst this
    exact seg_nil _ _
  · refine .inr ⟨g, 0, cap, rfl, (Array.getElem?_eq_some_iff.1 hg).1, hnc, hcm, fun i hi => ?_, fun i hi => ?_, fun o => World.ownsRow.frozenAt h o⟩
    · have := World.ownsRow.cells h (g := g) rfl i (.int k (nth l i)) (by simp [nth, hi])
      rw [add_at] at this
      exact this
    · simp only [Nat.zero_add]
      have hlt : i < cur.size := by omega
      simp [World.cell?, hg, hlt]
/-- Where a slice lies now: where it lay, or in new memory. -/
def Mov (w : World) (v v' : Value) : Prop := ∀ g, v'.ownBlock = some g → v.ownBlock = some g ∨ w.heap.size ≤ g

section
variable {P : Program} {w : World}
theorem append_none_src (t tx ty e : TypeId) (i : TypeInfo) (ht : P.underlying t = some (.slice e)) (hi : P.info? e = some i) (x : Value) (hs : Src P i.size tx x 0 [] w) :
    (Builtin.append_ #[t, tx] ty #[.slice none 0 0, x]).run P w = .ok (.slice none 0 0) w := by
  rcases hs.kind with ⟨e', hk⟩ | hk <;> simp [Builtin.append_, run_underlying ht, run_underlying hk, sizeOf, typeInfo, hi, hs.len, hs.cells]
theorem map_nth (k : IntKind) (l : List Int) (j : Nat) (u : Value) (h : (l.map (Value.int k))[j]? = some u) : j < l.length ∧ u = .int k (nth l j) := by
  have hj : j < l.length := by have := (List.getElem?_eq_some_iff.1 h).1; simpa using this
  refine ⟨hj, ?_⟩
  simp [hj] at h
  rw [← h]; simp [nth, hj]
/-- The run of an append of numbers, out of whatever source, to a slice of the program's own. -/
theorem run_append_segK (t tx ty : TypeId) (k : IntKind) (e : TypeId) (bytes : Nat) (ht : P.underlying t = some (.slice e))
    (hinfo : (P.info? e).map (fun i => (i.zero, i.size, i.bytes)) = some (some (.int k 0), 1, bytes))
    (v : Value) (l l2 : List Int) (hv : Seg k w v l) (x : Value) (hx : Src P 1 tx x l2.length (l2.map (Value.int k)) w)
    (h63 : l.length + l2.length ≤ maxLen) (hbytes : (l.length + l2.length) * bytes ≤ 140737488355328) :
    ∃ v' w', (Builtin.append_ #[t, tx] ty #[v, x]).run P w = .ok v' w' ∧ Seg k w' v' (l ++ l2) ∧ Chg (fun b o => v.ownBlock = some b) w w' ∧ Mov w v v' ∧ Seg k w' v l := by
  obtain ⟨i, hi, hz, hsz, hby⟩ := info_parts hinfo
  subst hby
  have hx' : Src P i.size tx x l2.length (l2.map (Value.int k)) w := by rw [hsz]; exact hx
  have grow : ∀ (base : Option Addr) (cap : Nat), v = .slice base l.length cap → cap < l.length + l2.length →
      (Builtin.firstCells i.size l.length (.slice base l.length cap)).run P w.drew = .ok (l.map (Value.int k)).toArray w.drew →
      ∃ v' w', (Builtin.append_ #[t, tx] ty #[v, x]).run P w = .ok v' w' ∧ Seg k w' v' (l ++ l2) ∧ Chg (fun b o => v.ownBlock = some b) w w' ∧ Mov w v v' ∧ Seg k w' v l := by
    intro base cap hvv hlt hold
    subst hvv
    have hr := run_append_grow_src (P := P) w t tx ty e i (.int k 0) ht hi hz base l.length cap (l.map (Value.int k)) hold x l2.length (l2.map (Value.int k)) hx' hlt (by unfold maxLen at h63; omega) (growslice_fits hlt hbytes)
    have hge := grownCap_ge w (l.length + l2.length) cap e
    have hmx := grownCap_le_maxLen w (l.length + l2.length) cap e h63
    have hcs : ((List.map (Value.int k) l ++ List.map (Value.int k) l2).toArray ++ Builtin.zeroCells (Value.int k 0).cells (grownCap w (l.length + l2.length) cap e - (l.length + l2.length))).size = grownCap w (l.length + l2.length) cap e := by
      simp [size_zeroCells, Value.cells]; omega
    refine ⟨_, _, hr, ?_, ?_, ?_, ?_⟩
    · refine .inr ⟨w.heap.size, 0, grownCap w (l.length + l2.length) cap e, by simp, by simp, by simp; omega, hmx, fun j hj => ?_, fun j hj => ?_, fun o => ?_⟩
      · rw [World.alloc_drew]
        simp only [World.cell?_drew, Nat.zero_add]
        rw [World.cell?_alloc_new]
        have hj' : j < (List.map (Value.int k) (l ++ l2)).length := by simpa using hj
        rw [← List.map_append, Array.getElem?_append_left (by simpa using hj), List.getElem?_toArray, List.getElem?_map, List.getElem?_eq_getElem hj]
        rw [nth, List.getElem?_eq_getElem hj]
        rfl
      · rw [World.alloc_drew]
        simp only [World.cell?_drew, Nat.zero_add]
        rw [World.cell?_alloc_new, Array.getElem?_eq_getElem (by rw [hcs]; exact hj)]
        rfl
      · rw [World.alloc_drew]
        simp
    · rw [World.alloc_drew]
      exact ((Chg.refl _ _).alloc _).drew
    · intro g hg
      simp [Value.ownBlock] at hg
      right; omega
    · rw [World.alloc_drew]
      exact hv.chg (((Chg.refl (fun _ _ => False) w).alloc _).drew) (fun _ _ _ h => h)
  rcases hv with ⟨rfl, rfl⟩ | ⟨g, off, cap, rfl, hg, hlc, hcm, hcell, hthere, hfree⟩
  · by_cases h0 : l2 = []
    · subst h0
      exact ⟨_, _, append_none_src t tx ty e i ht hi x (by simpa using hx'), by simpa using seg_nil k w, Chg.refl _ _, fun g hg => .inl hg, seg_nil k w⟩
    · refine grow none 0 rfl ?_ ?_
      · have : 0 < l2.length := List.length_pos_iff.2 h0
        simpa using this
      · simpa using run_firstCells_none (P := P) w.drew i.size 0 0 0
  · by_cases hroom : l.length + l2.length ≤ cap
    · have hlen : (l2.map (Value.int k)).length = l2.length := by simp
      have hr := run_append_room_src (P := P) w t tx ty e i ht hi g off l.length cap x l2.length (l2.map (Value.int k)) hx' hroom
        (fun j hj => by have := hthere (l.length + j) (by omega); rw [hsz, Nat.mul_one, Nat.add_assoc]; exact this) (fun j hj => hfree _)
      rw [hsz, Nat.mul_one] at hr
      have hc := chg_setCells w g (off + l.length) (l2.map (Value.int k))
      refine ⟨_, _, hr, .inr ⟨g, off, cap, by simp, Nat.lt_of_lt_of_le hg hc.size, by simpa using hroom, hcm, fun j hj => ?_, fun j hj => hc.there g _ hg (hthere j hj), fun o => (hc.frozen g o hg).trans (hfree o)⟩, hc.mono (fun b o hb hh => by simp [Value.ownBlock, hh.1]), fun g' hg' => .inl hg',
        .inr ⟨g, off, cap, rfl, Nat.lt_of_lt_of_le hg hc.size, hlc, hcm, fun j hj => hc.cellAt (hcell j hj) (by intro hh; have := hh.2.1; omega), fun j hj => hc.there g _ hg (hthere j hj), fun o => (hc.frozen g o hg).trans (hfree o)⟩⟩
      by_cases hjl : j < l.length
      · rw [hc.cellAt (hcell j hjl) (by intro hh; have := hh.2.1; omega), nth_append_left hjl]
      · have hj2 : j - l.length < l2.length := by simp at hj; omega
        have := World.cell?_setCells_in g (l2.map (Value.int k)) (off + l.length) w (fun q hq => by
          have := hthere (l.length + q) (by omega); rw [Nat.add_assoc]; exact this) (j - l.length) (by simpa using hj2)
        rw [show off + j = off + l.length + (j - l.length) by omega, this, nth_append_right (by omega)]
        simp [nth, hj2]
    · exact grow _ cap rfl (by omega) (run_firstCells_some (P := P) w.drew i.size l.length ⟨g, off, none⟩ l.length cap (l.map (Value.int k)) (by simp [hsz]) (fun j u hu => by
        obtain ⟨hj, rfl⟩ := map_nth k l j u hu
        rw [add_at]; exact hcell j hj))
theorem run_append_seg (t tx ty : TypeId) (k : IntKind) (e : TypeId) (bytes : Nat) (ht : P.underlying t = some (.slice e))
    (hinfo : (P.info? e).map (fun i => (i.zero, i.size, i.bytes)) = some (some (.int k 0), 1, bytes))
    (v : Value) (l l2 : List Int) (hv : Seg k w v l) (x : Value) (hx : Src P 1 tx x l2.length (l2.map (Value.int k)) w)
    (h63 : l.length + l2.length ≤ maxLen) (hbytes : (l.length + l2.length) * bytes ≤ 140737488355328) :
    ∃ v' w', (Builtin.append_ #[t, tx] ty #[v, x]).run P w = .ok v' w' ∧ Seg k w' v' (l ++ l2) ∧ Chg (fun b o => v.ownBlock = some b) w w' ∧ Mov w v v' := by
  obtain ⟨v', w', hr, h1, h2, h3, _⟩ := run_append_segK t tx ty k e bytes ht hinfo v l l2 hv x hx h63 hbytes
  exact ⟨v', w', hr, h1, h2, h3⟩
/-- .. as an operation of a walk, with what the old slice reads. -/
theorem wpList_append_segK {ops : Array Oper} {rest : List Oper} {o : Oper} {a : Act} {Q : Exit → Act → World → Prop} (hgd : o.guard = none) (s x : Operand) (t tx : TypeId)
    (ho : o.op = .call { callee := .builtin .append, args := #[s, x], argTypes := #[t, tx] })
    (k : IntKind) (e : TypeId) (bytes : Nat) (ht : P.underlying t = some (.slice e))
    (hinfo : (P.info? e).map (fun i => (i.zero, i.size, i.bytes)) = some (some (.int k 0), 1, bytes))
    (v : Value) (l l2 : List Int) (hs : a.eval s = v) (hv : Seg k w v l) (xv : Value) (hxv : a.eval x = xv) (hx : Src P 1 tx xv l2.length (l2.map (Value.int k)) w)
    (h63 : l.length + l2.length ≤ maxLen) (hbytes : (l.length + l2.length) * bytes ≤ 140737488355328)
    (h : ∀ v' w', Seg k w' v' (l ++ l2) → Chg (fun b o => v.ownBlock = some b) w w' → Mov w v v' → Seg k w' v l → wpList P ops Q rest (a.put o.dst v') w') : wpList P ops Q (o :: rest) a w := by
  obtain ⟨v', w', hr, h1, h2, h3, h4⟩ := run_append_segK t tx o.type k e bytes ht hinfo v l l2 hv xv hx h63 hbytes
  exact Lib.wpList_append_run w hgd s x t tx ho v xv hs hxv v' w' hr (h v' w' h1 h2 h3 h4)
/-- .. as an operation of a walk. -/
theorem wpList_append_seg {ops : Array Oper} {rest : List Oper} {o : Oper} {a : Act} {Q : Exit → Act → World → Prop} (hgd : o.guard = none) (s x : Operand) (t tx : TypeId)
    (ho : o.op = .call { callee := .builtin .append, args := #[s, x], argTypes := #[t, tx] })
    (k : IntKind) (e : TypeId) (bytes : Nat) (ht : P.underlying t = some (.slice e))
    (hinfo : (P.info? e).map (fun i => (i.zero, i.size, i.bytes)) = some (some (.int k 0), 1, bytes))
    (v : Value) (l l2 : List Int) (hs : a.eval s = v) (hv : Seg k w v l) (xv : Value) (hxv : a.eval x = xv) (hx : Src P 1 tx xv l2.length (l2.map (Value.int k)) w)
    (h63 : l.length + l2.length ≤ maxLen) (hbytes : (l.length + l2.length) * bytes ≤ 140737488355328)
    (h : ∀ v' w', Seg k w' v' (l ++ l2) → Chg (fun b o => v.ownBlock = some b) w w' → Mov w v v' → wpList P ops Q rest (a.put o.dst v') w') : wpList P ops Q (o :: rest) a w := by
  obtain ⟨v', w', hr, h1, h2, h3⟩ := run_append_seg t tx o.type k e bytes ht hinfo v l l2 hv xv hx h63 hbytes
  exact Lib.wpList_append_run w hgd s x t tx ho v xv hs hxv v' w' hr (h v' w' h1 h2 h3)
theorem src_row {k : IntKind} {a : Option Addr} {n c : Nat} {l : List Int} {tx e' : TypeId} (hk : P.underlying tx = some (.slice e')) (h : Row k w a l) (hl : l.length = n) (hc : a = none → c = 0) :
    Src P 1 tx (.slice a n c) l.length (l.map (Value.int k)) w := by
  subst hl
  cases a with
  | none =>
    have hnil : l = [] := by
      obtain ⟨b, off, ha, _⟩ := h
      cases l with
      | nil => rfl
      | cons y r => exact absurd (ha (by simp)) (by simp)
    subst hnil
    exact Src.ofNil w hk c
  | some ad =>
    refine Src.ofSlice w hk ad l.length c (l.map (Value.int k)) (by simp) (fun j u hu => ?_) (ints_one k l)
    obtain ⟨hj, rfl⟩ := map_nth k l j u hu
    obtain ⟨b, off, ha, hcell⟩ := h
    have hne : l ≠ [] := by intro e; subst e; simp at hj
    have := ha hne
    simp only [Option.some.injEq] at this
    subst this
    rw [add_at]; exact hcell j hj
/-- The numbers of a string's bytes. -/
def bytesL (s : ByteArray) : List Int := s.data.toList.map fun b => (b.toNat : Int)
theorem bytesL_length (s : ByteArray) : (bytesL s).length = s.size := by unfold bytesL; rw [List.length_map, Array.length_toList]; rfl
theorem src_string {tx : TypeId} (hk : P.underlying tx = some .string) (s : ByteArray) : Src P 1 tx (.string s) (bytesL s).length ((bytesL s).map (Value.int .u8)) w := by
  have := Src.ofString (P := P) w hk s
  have e : (bytesL s).map (Value.int .u8) = byteCells s := by simp [bytesL, byteCells]
  rw [e, bytesL_length]; exact this
end
end Bas
end Go.Proofs.Ytmihceoeoggjjaa
