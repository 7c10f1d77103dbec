/-
  The contract of the library's Builder's WriteByte, with all that it leaves as it was, as a walk over the translated text. No condition but that the text stays below 2^30 bytes.
-/
import Derived.Test.YtemgbmacdpnepaaBld
import Derived.Test.YtemgbmacdpnepaaCod
namespace Go.Proofs.Ytemgbmacdpnepaa
open Go.ChangeShapes Go.WideShapes Go.ChangeAt Go.RowKit
namespace Stp
open Bas
set_option linter.unusedVariables false

section
variable {P : Program} {w : World}
/-- An append of a byte to a row of the call's own. -/
theorem wpList_append_byte {ops : Array Oper} {rest : List Oper} {o : Oper} {a : Act} {Q : Exit → Act → World → Prop} (hgd : o.guard = none) (s x : Operand) (t : TypeId)
    (ho : o.op = .call { callee := .builtin .append, args := #[s, x], argTypes := #[t, t] })
    (base : Nat) (e : TypeId) (ht : P.underlying t = some (.slice e))
    (hinfo : (P.info? e).map (fun i => (i.zero, i.size, i.bytes)) = some (some (.int .u8 0), 1, 1))
    (v : Value) (l : List Int) (hs : a.eval s = v) (hown : Own .u8 e w base v l) (ad : Addr) (y : Int) (hxv : a.eval x = .slice (some ad) 1 1) (hrow : Row .u8 w (some ad) [y])
    (h30 : l.length ≤ 1073741823) (hbase : base ≤ w.heap.size)
    (h : ∀ v' w', Own .u8 e w' base v' (l ++ [y]) → w.grownBy w' v.ownBlock → Mov w v v' → v' ≠ .slice none 0 0 → wpList P ops Q rest (a.put o.dst v') w') : wpList P ops Q (o :: rest) a w := by
  obtain ⟨i, hi, hz, hsz, hby⟩ := info_parts hinfo
  obtain ⟨b, off, ha, hc⟩ := hrow
  have hadd := ha (by simp)
  simp only [Option.some.injEq] at hadd
  subst hadd
  obtain ⟨v1, w1, hr1, h2, h3, h4⟩ := run_append_own (P := P) w base t o.type e i (.int .u8 0) 1 1 ht hi hz hsz hby rfl (by decide) v l.length (l.map (Value.int .u8)) hown ⟨b, off, none⟩ 1 1 ([y].map (Value.int .u8)) rfl
    (fun j u hu => by
      obtain ⟨hj, rfl⟩ := map_nth .u8 [y] j u hu
      rw [add_at]; exact hc j hj) (ints_one .u8 [y]) (by unfold maxLen; omega) (by omega) hbase
  obtain ⟨v2, w2, hr2, -, -, hmv⟩ := run_append_seg (P := P) (w := w) t t o.type .u8 e 1 ht hinfo v l [y] hown.seg (.slice (some ⟨b, off, none⟩) 1 1) (src_row ht ⟨b, off, fun _ => rfl, hc⟩ rfl (fun h => by cases h)) (by unfold maxLen; simp; omega) (by simp; omega)
  rw [hr1] at hr2
  simp only [Result.ok.injEq] at hr2
  obtain ⟨rfl, rfl⟩ := hr2
  refine Lib.wpList_append_run w hgd s x t t ho v _ hs hxv v1 w1 hr1 (h v1 w1 ?_ h3 hmv (fun e => by have := (h4.1 e).2; omega))
  show w1.ownsRow base e 1 v1 (l ++ [y]).length ((l ++ [y]).map (Value.int .u8))
  rw [List.length_append, List.map_append]
  exact h2
end
theorem bytesL_push (c : ByteArray) (x : Nat) (hx : x < 256) : bytesL (c ++ Stp.strOf [(x : Int)]) = bytesL c ++ [(x : Int)] := by
  rw [bytesL_append, Cod.bytesL_strOf _ (fun y hy => by simp at hy; omega)]

set_option maxHeartbeats 2000000 in
set_option maxRecDepth 100000 in
theorem writeB_any (B b : Nat) (v : Value) (c : ByteArray) (x : Nat) (w : World) (h : Bld w B b v c) (hlen : c.size ≤ 1000000) (hB : B ≤ w.heap.size) (hx : x < 256) :
    Calls Try.prog 63 #[.pointer (some ⟨b, 0, none⟩), .int .u8 x] w fun e w' => e = .returned .nilIface ∧ ∃ v', Bld w' B b v' (c ++ Stp.strOf [(x : Int)]) ∧ Kp (footS b v) w w' ∧ Mov w v v' := by
  have HP : Hid (bytesL (c ++ Stp.strOf [(x : Int)]) = bytesL c ++ [(x : Int)] ∧ (bytesL c).length = c.size ∧ (c ++ Stp.strOf [(x : Int)]).size ≠ 0) := ⟨bytesL_push c x hx, bytesL_length c, by rw [ByteArray.size_append, Cod.strOf_size]; simp⟩
  go_enter Try.func63, Try.ntmps63
  go_wp2_with fail
  refine (check_any B b v c w h).mono ?_
  rintro e w1 ⟨rfl, h1, hb1, hk1, hz1⟩
  have HNE : Hid (v.ownBlock ≠ some b) := h1.ne
  have c1 : w1.cell? ⟨b, 1, none⟩ = some v := by rw [Lib.cell_of_heap hb1]; rfl
  have HB1 : Hid (w1.heap[b]? = some (.cells #[.pointer (some ⟨b, 0, none⟩), v] 107 (0, 0))) := hb1
  have HO : Hid (∀ o, Own .u8 5 (w1.alloc o) B v (bytesL c)) := fun o => h1.own.alloc o
  have HK1 : Hid (Kp (fun k => k = b) w w1 ∧ w1.heap.size = w.heap.size ∧ b < w.heap.size) := ⟨hk1, hz1, h.lt⟩
  have HH : Hid (Bld w B b v c) := h
  have HOL : Hid (∀ g, v.ownBlock = some g → g < w1.heap.size) := fun g hg => (h1.own.lt g hg).2
  clear h h1 hb1 hk1 hz1
  go_wp2_with (at_builtin; go_must (refine wpList_append_byte rfl _ _ 43 rfl B 5 Try.underlying43 info_u8 v (bytesL c) rfl (HO.out _) _ x rfl (by exact row_new .u8 w1 [(x : Int)] _ _ rfl) (by have := HP.out.2.1; omega) (by have := HK1.out.2.1; simp; omega) ?_; intro v' w2 hown' hgrow hmov hnil; have hb2 : w2.heap[b]? = some (.cells #[.pointer (some ⟨b, 0, none⟩), v] 107 (0, 0)) := (hgrow.block b (by have := HK1.out; simp; omega) (fun e => HNE.out e.symm)).trans ((Below.refl w1.heap.size w1).alloc (Nat.le_refl _) _ |>.block b (by have := HK1.out; omega) |>.trans HB1.out); have c2 : w2.cell? ⟨b, 1, none⟩ = some v := (by rw [Lib.cell_of_heap hb2]; rfl); have f2 : w2.frozen? ⟨b, 1, none⟩ = false := Lib.frozen_of_heap hb2 1; obtain ⟨a1, k1, hv1, -⟩ := hown'.row; obtain ⟨ln, hln⟩ : ∃ ln, (bytesL c ++ [(x : Int)]).length = ln := ⟨_, rfl⟩; rw [hln] at hv1; subst hv1))
  go_ret
  generalize hvv : Value.slice a1 ln k1 = v' at *
  refine ⟨rfl, v', ⟨⟨_, .inr rfl, ?_⟩, ?_, ?_, HH.out.low⟩, ?_, ?_⟩
  · simp [World.setCell, Array.getElem?_modify, hb2]
  · have hkk := kp_setCell w2 b 1 v'
    rw [HP.out.1]
    refine ⟨hown'.1, ?_⟩
    rcases hown'.2 with hn | ⟨g, cap, cur, rfl, hbb, hg, rest⟩
    · exact .inl hn
    · refine .inr ⟨g, cap, cur, rfl, hbb, (hkk.block g (Array.getElem?_eq_some_iff.1 hg).1 (fun e => ?_)).trans hg, rest⟩
      subst e
      rw [hb2] at hg
      simp at hg
  · intro hz
    exact absurd hz HP.out.2.2
  · have hk2 : Kp (fun k => v.ownBlock = some k) w1 w2 := by
      have hb := (Below.refl w1.heap.size w1).alloc (Nat.le_refl _) (.cells #[.int .u8 (x : Int)] 5)
      exact ⟨hgrow.os.trans hb.os, hgrow.tape.trans hb.tape, hgrow.output.trans hb.output, Nat.le_trans hb.size hgrow.size, fun k hk hn => (hgrow.block k (by have := hb.size; omega) (fun e => hn e.symm)).trans (hb.block k hk)⟩
    exact (HK1.out.1.trans hk2 (Z := footS b v) (fun k _ h => .inl h) (fun k _ h => .inr h)).trans (kp_setCell w2 b 1 v') (fun k _ h => h) (fun k _ h => .inl h)
  · intro g hg
    rcases hmov g hg with e | e
    · exact .inl e
    · right; have := HK1.out.2.1; simp at e; omega
end Stp
end Go.Proofs.Ytemgbmacdpnepaa
