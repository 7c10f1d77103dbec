/-
  Contracts of the calls of the library's Builder that the program makes in a call of its own, with all that they leave as it was, as walks over the translated text. No condition but that the text stays below 2^30 bytes.
-/
import Derived.Test.YtpglmfhlgaliaaaDoorStrs
import Derived.Lib.Builder
import Derived.Lib.AppendStr
import Derived.Lib.UnsafeStr
namespace Go.Proofs.YtpglmfhlgaliaaaDoor
open Go.ChangeShapes Go.WideShapes Go.ChangeAt Go.RowKit
namespace Bas
set_option linter.unusedVariables false

/-- All blocks are as they were, but those of X (and new ones). -/
structure Kp (X : Nat → Prop) (w w' : World) : Prop where
  os : w'.os = w.os
  tape : w'.tape = w.tape
  output : w'.output = w.output
  size : w.heap.size ≤ w'.heap.size
  block : ∀ k, k < w.heap.size → ¬ X k → w'.heap[k]? = w.heap[k]?
theorem Kp.cell {X : Nat → Prop} {w w' : World} (h : Kp X w w') {k o : Nat} (hk : k < w.heap.size) (hX : ¬ X k) : w'.cell? ⟨k, o, none⟩ = w.cell? ⟨k, o, none⟩ := World.cell?_of_block (h.block k hk hX)
theorem Kp.cellAt {X : Nat → Prop} {w w' : World} (h : Kp X w w') {k o : Nat} {v : Value} (hc : w.cell? ⟨k, o, none⟩ = some v) (hX : ¬ X k) : w'.cell? ⟨k, o, none⟩ = some v := (h.cell (World.block_lt_of_cell? w _ hc) hX).trans hc
theorem Kp.frozen {X : Nat → Prop} {w w' : World} (h : Kp X w w') {k o : Nat} (hk : k < w.heap.size) (hX : ¬ X k) : w'.frozen? ⟨k, o, none⟩ = w.frozen? ⟨k, o, none⟩ := World.frozen?_of_block (h.block k hk hX)
theorem Kp.freeAt {X : Nat → Prop} {w w' : World} (h : Kp X w w') {k o : Nat} {v : Value} (hc : w.cell? ⟨k, o, none⟩ = some v) (hf : w.frozen? ⟨k, o, none⟩ = false) (hX : ¬ X k) : w'.frozen? ⟨k, o, none⟩ = false := (h.frozen (World.block_lt_of_cell? w _ hc) hX).trans hf
theorem Chg.kp {X : Nat → Prop} {S : Nat → Nat → Prop} {w a b : World} (h : Chg S w a) (g : Kp X a b) (hX : ∀ k, k < w.heap.size → ¬ X k) : Chg S w b :=
  have hb : ∀ k, k < w.heap.size → b.heap[k]? = a.heap[k]? := fun k hk => g.block k (Nat.lt_of_lt_of_le hk h.size) (hX k hk)
  ⟨g.os.trans h.os, g.tape.trans h.tape, g.output.trans h.output, Nat.le_trans h.size g.size, fun k hk hn => (hb k hk).trans (h.block k hk hn),
   fun k o hk hn => (World.cell?_of_block (a := ⟨k, o, none⟩) (hb k hk)).trans (h.cell k o hk hn), fun k o hk => (World.frozen?_of_block (a := ⟨k, o, none⟩) (hb k hk)).trans (h.frozen k o hk),
   fun k o hk hs => by rw [World.cell?_of_block (a := ⟨k, o, none⟩) (hb k hk)]; exact h.there k o hk hs⟩
theorem Seg.kp {X : Nat → Prop} {kd : IntKind} {w w' : World} {v : Value} {l : List Int} (h : Seg kd w v l) (hc : Kp X w w') (hX : ∀ g, v.ownBlock = some g → ¬ X g) : Seg kd w' v l := by
  rcases h with h | ⟨g, off, cap, rfl, hg, h1, h2, h3, h4, h5⟩
  · exact .inl h
  · have hS := hX g rfl
    exact .inr ⟨g, off, cap, rfl, Nat.lt_of_lt_of_le hg hc.size, h1, h2, fun i hi => hc.cellAt (h3 i hi) hS, fun i hi => by rw [hc.cell hg hS]; exact h4 i hi, fun o => (hc.frozen hg hS).trans (h5 o)⟩
theorem kp_setCell (w : World) (b o : Nat) (v : Value) : Kp (fun k => k = b) w (w.setCell ⟨b, o, none⟩ v) :=
  ⟨rfl, rfl, rfl, by simp, fun k hk hn => Below.heap_setCell _ _ _ _ hn⟩
theorem Kp.trans {X Y Z : Nat → Prop} {a b c : World} (h : Kp X a b) (g : Kp Y b c) (hX : ∀ k, k < a.heap.size → X k → Z k) (hY : ∀ k, k < a.heap.size → Y k → Z k) : Kp Z a c :=
  ⟨g.os.trans h.os, g.tape.trans h.tape, g.output.trans h.output, Nat.le_trans h.size g.size, fun k hk hn => (g.block k (Nat.lt_of_lt_of_le hk h.size) (fun e => hn (hY k hk e))).trans (h.block k hk (fun e => hn (hX k hk e)))⟩
theorem Kp.refl (X : Nat → Prop) (w : World) : Kp X w w := ⟨rfl, rfl, rfl, Nat.le_refl _, fun _ _ _ => rfl⟩

end Bas
namespace Stp
open Bas
set_option linter.unusedVariables false
theorem BaseAt.kp {X : Nat → Prop} {w w' : World} {b o : Nat} {p q : Int} {en : Bool} (h : BaseAt w b o p q en) (hc : Kp X w w') (hX : ¬ X b) : BaseAt w' b o p q en :=
  ⟨hc.cellAt h.c0 hX, hc.cellAt h.c1 hX, hc.cellAt h.c2 hX, hc.freeAt h.c0 h.f0 hX, hc.freeAt h.c1 h.f1 hX, hc.freeAt h.c2 h.f2 hX⟩
theorem RowAt.kp {X : Nat → Prop} {kd : IntKind} {w w' : World} {b o : Nat} {v : Value} {l : List Int} (h : RowAt kd w b o v l) (hc : Kp X w w') (hX : ∀ k j, footR b o v k j → ¬ X k) : RowAt kd w' b o v l :=
  ⟨hc.cellAt h.c (hX _ _ (.inl ⟨rfl, rfl⟩)), hc.freeAt h.c h.f (hX _ _ (.inl ⟨rfl, rfl⟩)), h.seg.kp hc (fun g hg => hX g 0 (.inr hg)), h.ne⟩
theorem strCells_eq (s : ByteArray) : Lib.strCells s = (bytesL s).map (Value.int .u8) := by
  unfold Lib.strCells bytesL; rw [List.map_map]; rfl
section
variable {P : Program} {w : World}
/-- An append of a text to a row of the call's own. -/
theorem wpList_append_str {ops : Array Oper} {rest : List Oper} {o : Oper} {a : Act} {Q : Exit → Act → World → Prop} (hgd : o.guard = none) (s x : Operand) (t tx : TypeId)
    (ho : o.op = .call { callee := .builtin .append, args := #[s, x], argTypes := #[t, tx] })
    (base : Nat) (e : TypeId) (ht : P.underlying t = some (.slice e)) (hk : P.underlying tx = some .string)
    (hinfo : (P.info? e).map (fun i => (i.zero, i.size, i.bytes)) = some (some (.int .u8 0), 1, 1))
    (v : Value) (c : ByteArray) (hs : a.eval s = v) (hown : Own .u8 e w base v (bytesL c)) (xs : ByteArray) (hxv : a.eval x = .string xs)
    (h30 : c.size + xs.size ≤ 1073741824) (hbase : base ≤ w.heap.size)
    (h : ∀ v' w', Own .u8 e w' base v' (bytesL (c ++ xs)) → w.grownBy w' v.ownBlock → Mov w v v' → (v' = .slice none 0 0 ↔ v = .slice none 0 0 ∧ xs.size = 0) → wpList P ops Q rest (a.put o.dst v') w') : wpList P ops Q (o :: rest) a w := by
  obtain ⟨i, hi, hz, hsz, hby⟩ := info_parts hinfo
  have hl := bytesL_length c
  have hlx := bytesL_length xs
  have hown' : w.ownsRow base e 1 v (bytesL c).length ((bytesL c).map (Value.int .u8)) := hown
  obtain ⟨v1, w1, hr1, h2, h3, h4⟩ := Lib.run_append_own_string (P := P) w base t tx o.type e i ht hk hi hz hsz hby v (bytesL c).length ((bytesL c).map (Value.int .u8)) hown' xs (by unfold maxLen; omega) (by omega) hbase
  obtain ⟨v2, w2, hr2, -, -, hmv⟩ := run_append_seg (P := P) (w := w) t tx o.type .u8 e 1 ht hinfo v (bytesL c) (bytesL xs) hown.seg (.string xs) (src_string hk xs) (by unfold maxLen; omega) (by omega)
  rw [hr1] at hr2
  simp only [Result.ok.injEq] at hr2
  obtain ⟨rfl, rfl⟩ := hr2
  refine Lib.wpList_append_run w hgd s x t tx ho v (.string xs) hs hxv v1 w1 hr1 (h v1 w1 ?_ h3 hmv h4)
  rw [bytesL_append]
  show w1.ownsRow base e 1 v1 (bytesL c ++ bytesL xs).length ((bytesL c ++ bytesL xs).map (Value.int .u8))
  rw [List.length_append, List.map_append, hlx, ← strCells_eq xs]
  exact h2
end
/-- A Builder that the call made: its text. -/
structure Bld (w : World) (B b : Nat) (v : Value) (c : ByteArray) : Prop where
  at' : ∃ p, (p = .pointer none ∨ p = .pointer (some ⟨b, 0, none⟩)) ∧ w.heap[b]? = some (.cells #[p, v] 63 (0, 0))
  own : Own .u8 5 w B v (bytesL c)
  nil : c.size = 0 → v = .slice none 0 0
  low : B ≤ b
/-- Its memory. -/
def footS (b : Nat) (v : Value) (k : Nat) : Prop := k = b ∨ v.ownBlock = some k
theorem Bld.ne {w : World} {B b : Nat} {v : Value} {c : ByteArray} (h : Bld w B b v c) : v.ownBlock ≠ some b := by
  obtain ⟨p, _, hb⟩ := h.at'
  exact Lib.ownBlock_ne h.own hb (by decide)
theorem Bld.lt {w : World} {B b : Nat} {v : Value} {c : ByteArray} (h : Bld w B b v c) : b < w.heap.size := by
  obtain ⟨p, _, hb⟩ := h.at'
  exact (Array.getElem?_eq_some_iff.1 hb).1
theorem Bld.foot_low {w : World} {B b : Nat} {v : Value} {c : ByteArray} (h : Bld w B b v c) {k : Nat} (hk : footS b v k) : B ≤ k ∧ k < w.heap.size := by
  rcases hk with rfl | hk
  · exact ⟨h.low, h.lt⟩
  · exact h.own.lt k hk
theorem Bld.kp {X : Nat → Prop} {w w' : World} {B b : Nat} {v : Value} {c : ByteArray} (h : Bld w B b v c) (hc : Kp X w w') (hX : ∀ k, footS b v k → ¬ X k) : Bld w' B b v c := by
  obtain ⟨p, hp, hb⟩ := h.at'
  refine ⟨⟨p, hp, (hc.block b h.lt (hX b (.inl rfl))).trans hb⟩, ?_, h.nil, h.low⟩
  refine ⟨h.own.1, ?_⟩
  rcases h.own.2 with hn | ⟨g, cap, cur, rfl, hbb, hg, rest⟩
  · exact .inl hn
  · exact .inr ⟨g, cap, cur, rfl, hbb, (hc.block g (Array.getElem?_eq_some_iff.1 hg).1 (hX g (.inr rfl))).trans hg, rest⟩
theorem Bld.chg {S : Nat → Nat → Prop} {w w' : World} {B b : Nat} {v : Value} {c : ByteArray} (h : Bld w B b v c) (hc : Chg S w w') (hX : ∀ k j, footS b v k → ¬ S k j) : Bld w' B b v c :=
  h.kp (X := fun k => ∃ j, S k j) ⟨hc.os, hc.tape, hc.output, hc.size, fun k hk hn => hc.block k hk (fun o ho => hn ⟨o, ho⟩)⟩ (fun k hk ⟨j, hj⟩ => hX k j hk hj)
theorem bld_new (w : World) (B : Nat) (hB : B ≤ w.heap.size) {b : Nat} (hb : b = w.heap.size) : Bld (w.alloc (.cells #[.pointer none, .slice none 0 0] 63)) B b (.slice none 0 0) ByteArray.empty := by
  subst hb
  exact ⟨⟨_, .inl rfl, by show (w.heap.push _)[w.heap.size]? = _; simp⟩, Own.nil _ _ _ _, fun _ => rfl, hB⟩

theorem infoB : ∃ j, Tryd.prog.info? 63 = some j ∧ j.size = 2 := Option.map_eq_some_iff.1 (show (Tryd.prog.info? 63).map (·.size) = some 2 by kernel_rfl)
theorem liesB : liesAt Tryd.prog Tryd.prog.depth 63 (2 / Tryd.prog.cellsOf 63) 0 63 1 = true := by kernel_rfl

set_option maxHeartbeats 1000000 in
set_option maxRecDepth 100000 in
theorem check_used (b : Nat) (w : World) (h0 : w.cell? ⟨b, 0, none⟩ = some (.pointer (some ⟨b, 0, none⟩))) :
    Calls Tryd.prog 40 #[.pointer (some ⟨b, 0, none⟩)] w fun e w' => e = .returned (.tuple #[]) ∧ w' = w := by
  obtain ⟨j, hj, -⟩ := infoB
  have hq := Lib.run_neq_ptr_same (P := Tryd.prog) w ⟨b, 0, none⟩ Tryd.underlying61 hj
  go_enter Tryd.func40, Tryd.ntmps40
  go_wp2
  go_end0
  exact ⟨rfl, rfl⟩

set_option maxHeartbeats 1000000 in
set_option maxRecDepth 100000 in
theorem check_fresh (b : Nat) (w : World) (h0 : w.cell? ⟨b, 0, none⟩ = some (.pointer none)) (hsh : w.shape? b = some (63, 2)) (hfz : w.frozen? ⟨b, 0, none⟩ = false) :
    Calls Tryd.prog 40 #[.pointer (some ⟨b, 0, none⟩)] w fun e w' => e = .returned (.tuple #[]) ∧ w' = w.setCell ⟨b, 0, none⟩ (.pointer (some ⟨b, 0, none⟩)) := by
  obtain ⟨j, hj, hjs⟩ := infoB
  have k1 := Lib.run_to_unsafe (P := Tryd.prog) w ⟨b, 0, none⟩ Tryd.underlying61 Tryd.underlying92 hj (by rw [hjs]; decide) hsh (Nat.zero_lt_succ 1)
  have k2 := Lib.run_from_unsafe (P := Tryd.prog) w ⟨b, 0, none⟩ Tryd.underlying92 Tryd.underlying61 hj hsh liesB
  have k3 : (callFunc 49 #[.pointer (some ⟨b, 0, none⟩)]).run Tryd.prog w = .ok (.value (.pointer (some ⟨b, 0, none⟩))) w := by
    rw [run_callFunc_extern Tryd.func49 (by kernel_rfl) (by kernel_rfl) (by kernel_rfl) (e := Extern.AbiNoEscape.same) (by kernel_rfl), Lib.run_noEscape]
    rfl
  clear hsh hj hjs
  go_enter Tryd.func40, Tryd.ntmps40
  go_wp2
  go_end0
  exact ⟨rfl, rfl⟩
theorem check_any (B b : Nat) (v : Value) (c : ByteArray) (w : World) (h : Bld w B b v c) :
    Calls Tryd.prog 40 #[.pointer (some ⟨b, 0, none⟩)] w fun e w' => e = .returned (.tuple #[]) ∧ Bld w' B b v c ∧ w'.heap[b]? = some (.cells #[.pointer (some ⟨b, 0, none⟩), v] 63 (0, 0)) ∧ Kp (fun k => k = b) w w' ∧ w'.heap.size = w.heap.size := by
  obtain ⟨p, hp, hb⟩ := h.at'
  have c0 : w.cell? ⟨b, 0, none⟩ = some p := by rw [Lib.cell_of_heap hb]; rfl
  rcases hp with rfl | rfl
  · refine (check_fresh b w c0 (by simp [World.shape?, hb]) (Lib.frozen_of_heap hb 0)).mono ?_
    rintro e w' ⟨rfl, rfl⟩
    have hk := kp_setCell w b 0 (.pointer (some ⟨b, 0, none⟩))
    have hb' : (w.setCell ⟨b, 0, none⟩ (.pointer (some ⟨b, 0, none⟩))).heap[b]? = some (.cells #[.pointer (some ⟨b, 0, none⟩), v] 63 (0, 0)) := by
      simp [World.setCell, Array.getElem?_modify, hb]
    refine ⟨rfl, ⟨⟨_, .inr rfl, hb'⟩, ?_, h.nil, h.low⟩, hb', hk, by simp⟩
    refine ⟨h.own.1, ?_⟩
    rcases h.own.2 with hn | ⟨g, cap, cur, rfl, hbb, hg, rest⟩
    · exact .inl hn
    · exact .inr ⟨g, cap, cur, rfl, hbb, (hk.block g (Array.getElem?_eq_some_iff.1 hg).1 (fun e => h.ne (by simp [Value.ownBlock, e]))).trans hg, rest⟩
  · refine (check_used b w c0).mono ?_
    rintro e w' ⟨rfl, rfl⟩
    exact ⟨rfl, h, hb, Kp.refl _ _, rfl⟩

set_option maxHeartbeats 2000000 in
set_option maxRecDepth 100000 in
theorem writeS_any (B b : Nat) (v : Value) (c s : ByteArray) (w : World) (h : Bld w B b v c) (hlen : c.size + s.size ≤ 1073741824) (hB : B ≤ w.heap.size) :
    Calls Tryd.prog 26 #[.pointer (some ⟨b, 0, none⟩), .string s] w fun e w' => e = .returned (.tuple #[.int .i64 s.size, .nilIface]) ∧ ∃ v', Bld w' B b v' (c ++ s) ∧ Kp (footS b v) w w' ∧ Mov w v v' := by
  go_enter Tryd.func26, Tryd.ntmps26
  go_wp2_with fail
  refine (check_any B b v c w h).mono ?_
  rintro e w1 ⟨rfl, h1, hb1, hk1, hz1⟩
  have hne := h1.ne
  have HNE : Hid (v.ownBlock ≠ some b) := hne
  have c1 : w1.cell? ⟨b, 1, none⟩ = some v := by rw [Lib.cell_of_heap hb1]; rfl
  have H1 : Hid (Bld w1 B b v c) := h1
  have HB1 : Hid (w1.heap[b]? = some (.cells #[.pointer (some ⟨b, 0, none⟩), v] 63 (0, 0))) := hb1
  have HO : Hid (Own .u8 5 w1 B v (bytesL c)) := h1.own
  have HK1 : Hid (Kp (fun k => k = b) w w1 ∧ w1.heap.size = w.heap.size ∧ b < w.heap.size) := ⟨hk1, hz1, by have := h.lt; exact this⟩
  have HH : Hid (Bld w B b v c) := h
  clear h h1 hb1 hk1 hz1 hne
  go_wp2_with (at_builtin; go_must (refine wpList_append_str rfl _ _ 42 9 rfl B 5 Tryd.underlying42 Tryd.underlying9 info_u8 v c rfl HO.out s rfl hlen (by have := HK1.out.2.1; omega) ?_; intro v' w2 hown' hgrow hmov hnil; have hb2 : w2.heap[b]? = some (.cells #[.pointer (some ⟨b, 0, none⟩), v] 63 (0, 0)) := (hgrow.block b (by have := HK1.out; omega) (fun e => HNE.out e.symm)).trans HB1.out; have d1 : w2.cell? ⟨b, 1, none⟩ = some v := (by rw [Lib.cell_of_heap hb2]; rfl); have f1 : w2.frozen? ⟨b, 1, none⟩ = false := Lib.frozen_of_heap hb2 1; clear c1; obtain ⟨a1, k1, hv1, -⟩ := hown'.row; generalize (bytesL (c ++ s)).length = ln at hv1; subst hv1))
  go_ret2
  generalize hvv : Value.slice a1 ln k1 = v' at *
  refine ⟨rfl, v', ⟨⟨_, .inr rfl, ?_⟩, ?_, ?_, HH.out.low⟩, ?_, ?_⟩
  · simp [World.setCell, Array.getElem?_modify, hb2]
  · have hkk := kp_setCell w2 b 1 v'
    refine ⟨hown'.1, ?_⟩
    rcases hown'.2 with hn | ⟨g, cap, cur, rfl, hbb, hg, rest⟩
    · exact .inl hn
    · refine .inr ⟨g, cap, cur, rfl, hbb, (hkk.block g (Array.getElem?_eq_some_iff.1 hg).1 (fun e => ?_)).trans hg, rest⟩
      subst e
      rw [hb2] at hg
      simp at hg
  · intro hz
    have hz' : c.size + s.size = 0 := by rw [← hz, ByteArray.size_append]
    exact hnil.2 ⟨HH.out.nil (by omega), by omega⟩
  · have hk2 : Kp (fun k => v.ownBlock = some k) w1 w2 := ⟨hgrow.os, hgrow.tape, hgrow.output, hgrow.size, fun k hk hn => hgrow.block k hk (fun e => hn e.symm)⟩
    exact (HK1.out.1.trans hk2 (Z := footS b v) (fun k _ h => .inl h) (fun k _ h => .inr h)).trans (kp_setCell w2 b 1 v') (fun k _ h => h) (fun k _ h => .inl h)
  · intro g hg
    rcases hmov g hg with e | e
    · exact .inl e
    · right; have := HK1.out.2.1; omega

set_option maxHeartbeats 1000000 in
theorem lenS_any (B b : Nat) (v : Value) (c : ByteArray) (w : World) (h : Bld w B b v c) :
    Calls Tryd.prog 34 #[.pointer (some ⟨b, 0, none⟩)] w fun e w' => e = .returned (.int .i64 c.size) ∧ w' = w := by
  obtain ⟨p, hp, hb⟩ := h.at'
  obtain ⟨a, k, hv, -⟩ := h.own.row
  have c1 : w.cell? ⟨b, 1, none⟩ = some v := by rw [Lib.cell_of_heap hb]; rfl
  rw [bytesL_length] at hv
  subst hv
  clear h hp hb
  go_enter Tryd.func34, Tryd.ntmps34
  go_wp2
  go_ret
  exact ⟨rfl, rfl⟩

theorem kp_drew (X : Nat → Prop) (w : World) : Kp X w w.drew := ⟨rfl, rfl, rfl, Nat.le_refl _, fun _ _ _ => rfl⟩
theorem kp_freeze (w : World) (g n : Nat) : Kp (fun k => k = g) w (w.drew.freeze ⟨g, 0, none⟩ n) := by
  unfold World.freeze
  split
  · exact kp_drew _ _
  · exact ⟨rfl, rfl, rfl, by simp, fun k hk hn => by
      simp only [Array.getElem?_modify]
      rw [if_neg (by intro e; exact hn e.symm)]
      rfl⟩
set_option maxHeartbeats 2000000 in
set_option maxRecDepth 100000 in
theorem strS_any (B b : Nat) (v : Value) (c : ByteArray) (w : World) (h : Bld w B b v c) (hlen : c.size ≤ 1073741824) :
    Calls Tryd.prog 35 #[.pointer (some ⟨b, 0, none⟩)] w fun e w' => e = .returned (.string c) ∧ Kp (footS b v) w w' := by
  obtain ⟨p, hp, hb⟩ := h.at'
  have c1 : w.drew.cell? ⟨b, 1, none⟩ = some v := by
    have : w.drew.heap[b]? = some (.cells #[p, v] 63 (0, 0)) := hb
    rw [Lib.cell_of_heap this]; rfl
  by_cases h0 : c.size = 0
  · have hv := h.nil h0
    subst hv
    have hc : c = ByteArray.empty := by
      apply str_ext
      have : c.data.toList.length = 0 := by rw [Array.length_toList]; exact h0
      rw [List.length_eq_zero_iff.1 this]; rfl
    subst hc
    have hUS : (Builtin.unsafeString_ #[89, 3] 9 #[.pointer none, .int .i64 0]).run Tryd.prog w.drew = .ok (.string .empty) w.drew := Lib.run_unsafeString_none w.drew _ _ _ none
    have hSD : (Builtin.unsafeSliceData_ #[42] 89 #[.slice none 0 0]).run Tryd.prog w.drew = .ok (.pointer none) w.drew := rfl
    clear h hp hb h0 hlen
    go_enter Tryd.func35, Tryd.ntmps35
    go_wp2
    go_region
    all_goals (go_wp2; go_ret; exact ⟨rfl, kp_drew _ _⟩)
  · have hl0 : c.data.toList ≠ [] := by
      intro e
      have : c.data.toList.length = 0 := by rw [e]; rfl
      rw [Array.length_toList] at this
      exact h0 this
    have hsz : c.data.toList.length = c.size := by rw [Array.length_toList]; rfl
    have hln := bytesL_length c
    rcases h.own.2 with ⟨_, hn⟩ | ⟨g, cap, cur, rfl, hbb, hg, hnc, hcm, hcur, htake⟩
    · omega
    have hg' : w.drew.heap[g]? = some (.cells cur 5 (0, 0)) := hg
    have hSD : (Builtin.unsafeSliceData_ #[42] 89 #[.slice (some ⟨g, 0, none⟩) (bytesL c).length cap]).run Tryd.prog w.drew = .ok (.pointer (some ⟨g, 0, none⟩)) w.drew :=
      Lib.run_unsafeSliceData_row w.drew _ _ _ _ _ (by omega)
    have hUS : (Builtin.unsafeString_ #[89, 3] 9 #[.pointer (some ⟨g, 0, none⟩), .int .i64 c.data.toList.length]).run Tryd.prog w.drew = .ok (.string ⟨c.data.toList.toArray⟩) (w.drew.freeze ⟨g, 0, none⟩ c.data.toList.length) := by
      refine Lib.run_unsafeString_row w.drew 89 3 9 5 Tryd.underlying89 (by kernel_rfl) g cur.size (by simp [World.shape?, hg']) c.data.toList hl0 (by omega) (by omega) ?_
      intro j x hx
      have := World.ownsRow.cells h.own (g := g) rfl j (.int .u8 x.toNat) (by simp [bytesL, hx])
      exact this
    have hres : (⟨c.data.toList.toArray⟩ : ByteArray) = c := by cases c; simp
    rw [hres, hsz] at hUS
    rw [hln] at hSD c1
    have hk : Kp (footS b (.slice (some ⟨g, 0, none⟩) (bytesL c).length cap)) w (w.drew.freeze ⟨g, 0, none⟩ c.size) :=
      (Kp.refl (fun _ => False) w).trans (kp_freeze w g c.size) (fun _ _ h => h.elim) (fun k _ e => .inr (by rw [e]; rfl))
    have HK : Hid (Kp (footS b (.slice (some ⟨g, 0, none⟩) (bytesL c).length cap)) w (w.drew.freeze ⟨g, 0, none⟩ c.size)) := hk
    clear hk h hp hb h0 hl0 hsz hln hbb hg hg' hnc hcm hcur htake hres hlen
    go_enter Tryd.func35, Tryd.ntmps35
    go_wp2
    go_region
    all_goals (go_wp2; go_ret; exact ⟨rfl, HK.out⟩)
end Stp
end Go.Proofs.YtpglmfhlgaliaaaDoor
