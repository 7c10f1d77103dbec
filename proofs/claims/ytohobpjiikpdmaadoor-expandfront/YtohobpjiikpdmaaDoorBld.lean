/-
  Contracts of the calls of the library's Builder that the program makes in a call of its own, with all that they leave as it was, as walks over the translated text. No condition but that the text stays below 2^30 bytes.
-/
import Derived.Test.YtohobpjiikpdmaaDoorStrs
import Derived.Lib.Builder
import Derived.Lib.AppendStr
import Derived.Lib.UnsafeStr
namespace Go.Proofs.YtohobpjiikpdmaaDoor
open Go.ChangeShapes Go.WideShapes Go.ChangeAt Go.RowKit
namespace Bas
set_option linter.unusedVariables false

/-- All blocks are as they were, but those of X (and new ones). -/
structure Kp (X : Nat → Prop) (w w' : World) : Prop where
  os : w'.os = w.os
  tape : w'.tape = w.tape
  output : w'.output = w.output
  size : w.heap.size ≤ w'.heap.size
  block : ∀ k, k < w.heap.size → ¬ X k → w'.heap[k]? = w.heap[k]?
theorem Kp.cell {X : Nat → Prop} {w w' : World} (h : Kp X w w') {k o : Nat} (hk : k < w.heap.size) (hX : ¬ X k) : w'.cell? ⟨k, o, none⟩ = w.cell? ⟨k, o, none⟩ := World.cell?_of_block (h.block k hk hX)
theorem Kp.cellAt {X : Nat → Prop} {w w' : World} (h : Kp X w w') {k o : Nat} {v : Value} (hc : w.cell? ⟨k, o, none⟩ = some v) (hX : ¬ X k) : w'.cell? ⟨k, o, none⟩ = some v := (h.cell (World.block_lt_of_cell? w _ hc) hX).trans hc
theorem Kp.frozen {X : Nat → Prop} {w w' : World} (h : Kp X w w') {k o : Nat} (hk : k < w.heap.size) (hX : ¬ X k) : w'.frozen? ⟨k, o, none⟩ = w.frozen? ⟨k, o, none⟩ := World.frozen?_of_block (h.block k hk hX)
theorem Kp.freeAt {X : Nat → Prop} {w w' : World} (h : Kp X w w') {k o : Nat} {v : Value} (hc : w.cell? ⟨k, o, none⟩ = some v) (hf : w.frozen? ⟨k, o, none⟩ = false) (hX : ¬ X k) : w'.frozen? ⟨k, o, none⟩ = false := (h.frozen (World.block_lt_of_cell? w _ hc) hX).trans hf
theorem Chg.kp {X : Nat → Prop} {S : Nat → Nat → Prop} {w a b : World} (h : Chg S w a) (g : Kp X a b) (hX : ∀ k, k < w.heap.size → ¬ X k) : Chg S w b :=
  have hb : ∀ k, k < w.heap.size → b.heap[k]? = a.heap[k]? := fun k hk => g.block k (Nat.lt_of_lt_of_le hk h.size) (hX k hk)
  ⟨g.os.trans h.os, g.tape.trans h.tape, g.output.trans h.output, Nat.le_trans h.size g.size, fun k hk hn => (hb k hk).trans (h.block k hk hn),
   fun k o hk hn => (World.cell?_of_block (a := ⟨k, o, none⟩) (hb k hk)).trans (h.cell k o hk hn), fun k o hk => (World.frozen?_of_block (a := ⟨k, o, none⟩) (hb k hk)).trans (h.frozen k o hk),
   fun k o hk hs => by rw [World.cell?_of_block (a := ⟨k, o, none⟩) (hb k hk)]; exact h.there k o hk hs⟩
theorem Seg.kp {X : Nat → Prop} {kd : IntKind} {w w' : World} {v : Value} {l : List Int} (h : Seg kd w v l) (hc : Kp X w w') (hX : ∀ g, v.ownBlock = some g → ¬ X g) : Seg kd w' v l := by
  rcases h with h | ⟨g, off, cap, rfl, hg, h1, h2, h3, h4, h5⟩
  · exact .inl h
  · have hS := hX g rfl
    exact .inr ⟨g, off, cap, rfl, Nat.lt_of_lt_of_le hg hc.size, h1, h2, fun i hi => hc.cellAt (h3 i hi) hS, fun i hi => by rw [hc.cell hg hS]; exact h4 i hi, fun o => (hc.frozen hg hS).trans (h5 o)⟩
theorem kp_setCell (w : World) (b o : Nat) (v : Value) : Kp (fun k => k = b) w (w.setCell ⟨b, o, none⟩ v) :=
  ⟨rfl, rfl, rfl, by simp, fun k hk hn => Below.heap_setCell _ _ _ _ hn⟩
theorem Kp.trans {X Y Z : Nat → Prop} {a b c : World} (h : Kp X a b) (g : Kp Y b c) (hX : ∀ k, k < a.heap.size → X k → Z k) (hY : ∀ k, k < a.heap.size → Y k → Z k) : Kp Z a c :=
  ⟨g.os.trans h.os, g.tape.trans h.tape, g.output.trans h.output, Nat.le_trans h.size g.size, fun k hk hn => (g.block k (Nat.lt_of_lt_of_le hk h.size) (fun e => hn (hY k hk e))).trans (h.block k hk (fun e => hn (hX k hk e)))⟩
theorem Kp.refl (X : Nat → Prop) (w : World) : Kp X w w := ⟨rfl, rfl, rfl, Nat.le_refl _, fun _ _ _ => rfl⟩

end Bas
namespace Stp
open Bas
set_option linter.unusedVariables false
theorem BaseAt.kp {X : Nat → Prop} {w w' : World} {b o : Nat} {p q : Int} {en : Bool} (h : BaseAt w b o p q en) (hc : Kp X w w') (hX : ¬ X b) : BaseAt w' b o p q en :=
  ⟨hc.cellAt h.c0 hX, hc.cellAt h.c1 hX, hc.cellAt h.c2 hX, hc.freeAt h.c0 h.f0 hX, hc.freeAt h.c1 h.f1 hX, hc.freeAt h.c2 h.f2 hX⟩
theorem RowAt.kp {X : Nat → Prop} {kd : IntKind} {w w' : World} {b o : Nat} {v : Value} {l : List Int} (h : RowAt kd w b o v l) (hc : Kp X w w') (hX : ∀ k j, footR b o v k j → ¬ X k) : RowAt kd w' b o v l :=
  ⟨hc.cellAt h.c (hX _ _ (.inl ⟨rfl, rfl⟩)), hc.freeAt h.c h.f (hX _ _ (.inl ⟨rfl, rfl⟩)), h.seg.kp hc (fun g hg => hX g 0 (.inr hg)), h.ne⟩
theorem strCells_eq (s : ByteArray) : Lib.strCells s = (bytesL s).map (Value.int .u8) := by
  unfold Lib.strCells bytesL; rw [List.map_map]; rfl
section
variable {P : Program} {w : World}
/-- An append of a text to a row of the call's own. -/
theorem wpList_append_str {ops : Array Oper} {rest : List Oper} {o : Oper} {a : Act} {Q : Exit → Act → World → Prop} (hgd : o.guard = none) (s x : Operand) (t tx : TypeId)
    (ho : o.op = .call { callee := .builtin .append, args := #[s, x], argTypes := #[t, tx] })
    (base : Nat) (e : TypeId) (ht : P.underlying t = some (.slice e)) (hk : P.underlying tx = some .string)
    (hinfo : (P.info? e).map (fun i => (i.zero, i.size, i.bytes)) = some (some (.int .u8 0), 1, 1))
    (v : Value) (c : ByteArray) (hs : a.eval s = v) (hown : Own .u8 e w base v (bytesL c)) (xs : ByteArray) (hxv : a.eval x = .string xs)
    (h30 : c.size + xs.size ≤ 1073741824) (hbase : base ≤ w.heap.size)
    (h : ∀ v' w', Own .u8 e w' base v' (bytesL (c ++ xs)) → w.grownBy w' v.ownBlock → Mov w v v' → (v' = .slice none 0 0 ↔ v = .slice none 0 0 ∧ xs.size = 0) → wpList P ops Q rest (a.put o.dst v') w') : wpList P ops Q (o :: rest) a w := by
  obtain ⟨i, hi, hz, hsz, hby⟩ := info_parts hinfo
  have hl := bytesL_length c
  have hlx := bytesL_length xs
  have hown' : w.ownsRow base e 1 v (bytesL c).length ((bytesL c).map (Value.int .u8)) := hown
  obtain ⟨v1, w1, hr1, h2, h3, h4⟩ := Lib.run_append_own_string (P := P) w base t tx o.type e i ht hk hi hz hsz hby v (bytesL c).length ((bytesL c).map (Value.int .u8)) hown' xs (by unfold maxLen; omega) (by omega) hbase
  obtain ⟨v2, w2, hr2, -, -, hmv⟩ := run_append_seg (P := P) (w := w) t tx o.type .u8 e 1 ht hinfo v (bytesL c) (bytesL xs) hown.seg (.string xs) (src_string hk xs) (by unfold maxLen; omega) (by omega)
  rw [hr1] at hr2
  simp only [Result.ok.injEq] at hr2
  obtain ⟨rfl, rfl⟩ := hr2
  refine Lib.wpList_append_run w hgd s x t tx ho v (.string xs) hs hxv v1 w1 hr1 (h v1 w1 ?_ h3 hmv h4)
  rw [bytesL_append]
  show w1.ownsRow base e 1 v1 (bytesL c ++ bytesL xs).length ((bytesL c ++ bytesL xs).map (Value.int .u8))
  rw [List.length_append, List.map_append, hlx, ← strCells_eq xs]
  exact h2
end
end Stp
end Go.Proofs.YtohobpjiikpdmaaDoor
