/-
  Contracts of permute's rows, pair and New, as walks over the translated text. No condition.
-/
import Derived.Test.YtjbgcclbomimiaaDoorPer1
import Derived.Deep.WholeRow
import Derived.Lib.Builder
import Derived.Deep.CutBlock
import Derived.Deep.DeepCutAuto
namespace Go.Proofs.YtjbgcclbomimiaaDoor
open Go.ChangeShapes Go.WideShapes Go.ChangeAt Go.RowKit
namespace Per
open Bas Txt
set_option linter.unusedVariables false

/-- The cells of a list of bytes. -/
def cellsOf (l : List Int) : Array Value := (l.map (Value.int .u8)).toArray
theorem cellsOf_size (l : List Int) : (cellsOf l).size = l.length := by simp [cellsOf]
theorem cellsOf_at (l : List Int) (k : Nat) (h : k < l.length) : (cellsOf l)[k]? = some (.int .u8 (nth l k)) := by simp [cellsOf, nth, h]

/-- Noughts. -/
def zeroA (n : Nat) : Array Value := Array.replicate n (.int .u8 0)
theorem zero160 : ∀ w, (zeroValue 118).run Tryd.prog w = .ok (.agg (zeroA 160)) w := (zero_of_info (P := Tryd.prog) (t := 118) (v := .agg (zeroA 160)) (n := 160) (by kernel_rfl)).1

theorem size160 : (Tryd.prog.info? 118).map (·.size) = some 160 := by kernel_rfl
section
variable {P : Program} {w : World}
/-- A literal, as an operation of a walk. -/
theorem wpList_build {ops : Array Oper} {rest : List Oper} {o : Oper} {a : Act} {Q : Exit → Act → World → Prop} (hgd : o.guard = none) (t : TypeId) (parts : Array (Nat × Operand)) (ho : o.op = .build t parts)
    (v : Value) (hrun : ∀ w, (Instr.build t (parts.map fun (i, x) => (i, a.eval x))).run P w = .ok v w) (h : wpList P ops Q rest (a.put o.dst v) w) : wpList P ops Q (o :: rest) a w := by
  refine wpList_plain hgd fun K hK' => ?_
  unfold Oper.wp
  simp only [execOp, ho, Sem.run_bind, Sem.run_pure, hrun, Result.andThen]
  exact hK' _ _ h
end
/-- An element of an array by value. -/
theorem run_index_u8 (t : TypeId) (n : Nat) (cs : Array Value) (k : Nat) (v : Value) (w : World) (h : Tryd.prog.underlying t = some (.array n 5)) (hk : k < n) (hv : cs[k]? = some v) :
    (Instr.index t (.agg cs) (.int .i64 (k : Int))).run Tryd.prog w = .ok v w := by
  have h0 : (0 : Int) ≤ k ∧ (k : Int) < n := ⟨by omega, by omega⟩
  obtain ⟨i, hi, -, hsz, -⟩ := info_parts info_u8
  have hlt := (Array.getElem?_eq_some_iff.1 hv).1
  simp [Instr.index, run_underlying h, asIntOf, h0, part, isAgg, run_underlying Tryd.underlying5, sizeOf, typeInfo, hi, hsz, hv]
  omega
theorem info_bool : (Tryd.prog.info? 4).map (fun i => (i.zero, i.size, i.bytes)) = some (some (.bool false), 1, 1) := by kernel_rfl
theorem run_index_bool (t : TypeId) (n : Nat) (cs : Array Value) (k : Nat) (v : Value) (w : World) (h : Tryd.prog.underlying t = some (.array n 4)) (hk : k < n) (hv : cs[k]? = some v) :
    (Instr.index t (.agg cs) (.int .i64 (k : Int))).run Tryd.prog w = .ok v w := by
  have h0 : (0 : Int) ≤ k ∧ (k : Int) < n := ⟨by omega, by omega⟩
  obtain ⟨i, hi, -, hsz, -⟩ := info_parts info_bool
  have hlt := (Array.getElem?_eq_some_iff.1 hv).1
  simp [Instr.index, run_underlying h, asIntOf, h0, part, isAgg, run_underlying Tryd.underlying4, sizeOf, typeInfo, hi, hsz, hv]
  omega

set_option maxHeartbeats 4000000 in
set_option maxRecDepth 100000 in
theorem rows_any (w : World) :
    Calls Tryd.prog 78 #[] w fun e w' => e = .returned (.agg (cellsOf rowL)) ∧ Below w.heap.size w w' ∧ w'.heap.size = w.heap.size + 1 := by
  have hz := zero160
  have hst := run_storeCells_new (P := Tryd.prog) w 118 (zeroA 160) (cellsOf rowL) (by rw [size160, cellsOf_size, rowL_len]) (by simp [zeroA, cellsOf_size, rowL_len]) (by simp [cellsOf, Value.oneCell'])
  have HLD : Hid ((Instr.loadAt 118 (.pointer (some ⟨w.heap.size, 0, none⟩))).run Tryd.prog (w.alloc (.cells (cellsOf rowL) 118)) = .ok (.agg (cellsOf rowL)) (w.alloc (.cells (cellsOf rowL) 118))) :=
    run_loadAt_new (P := Tryd.prog) w 118 (cellsOf rowL) 160 5 Tryd.underlying118 (by rw [size160, cellsOf_size, rowL_len])
  go_enter Tryd.func78, Tryd.ntmps78
  go_upto_region 1 with fail
  go_wp2_with (refine wpList_build rfl _ _ rfl (.agg (cellsOf rowL)) (fun w => by kernel_rfl) ?_)
  go_wp2
  refine bodyPost_ret (v := .agg (cellsOf rowL)) ?_ rfl ⟨rfl, (Below.refl _ _).alloc (Nat.le_refl _) _, by simp⟩
  have hld := HLD.out
  simp only [Instr.loadAt, Instr.sureAddr, Sem.run_bind, Sem.run_pure, Result.andThen] at hld
  simp [results, Tryd.results78, asAddr, hld]

/-- Both tables under way, in a block of their own. -/
structure LayAt (w : World) (b : Nat) (l : List Int) : Prop where
  len : l.length = 512
  cell : ∀ i, i < 512 → w.cell? ⟨b, i, none⟩ = some (.int .u8 (nth l i))
  free : ∀ i, w.frozen? ⟨b, i, none⟩ = false
theorem LayAt.lt {w : World} {b : Nat} {l : List Int} (h : LayAt w b l) : b < w.heap.size := World.block_lt_of_cell? w _ (h.cell 0 (by decide))
theorem LayAt.chg {S : Nat → Nat → Prop} {w w' : World} {b : Nat} {l : List Int} (h : LayAt w b l) (hc : Chg S w w') (hS : ∀ j, ¬ S b j) : LayAt w' b l :=
  ⟨h.len, fun i hi => hc.cellAt (h.cell i hi) (hS _), fun i => (hc.frozen b i h.lt).trans (h.free i)⟩
theorem LayAt.set {w : World} {b : Nat} {l : List Int} (h : LayAt w b l) (j : Nat) (x : Int) (hj : j < 512) : LayAt (w.setCell ⟨b, j, none⟩ (.int .u8 x)) b (l.set j x) := by
  have hc := chg_setCell w b j (.int .u8 x)
  refine ⟨by rw [List.length_set, h.len], fun i hi => ?_, fun i => (hc.frozen b i h.lt).trans (h.free i)⟩
  rw [nth_set l j i x (by rw [h.len]; exact hj)]
  by_cases e : i = j
  · subst e; rw [if_pos rfl]; exact World.cell?_setCell_same _ _ _ (h.cell i hi)
  · rw [if_neg e]; exact hc.cellAt (h.cell i hi) (by omega)

set_option maxHeartbeats 400000 in
theorem pair_any (b x y : Nat) (l : List Int) (w : World) (h : LayAt w b l) (hx : x < 256) (hy : y < 256) :
    Calls Tryd.prog 79 #[.pointer (some ⟨b, 0, none⟩), .int .u8 x, .int .u8 y] w fun e w' => e = .returned (.tuple #[]) ∧ LayAt w' b (pairL l x y) ∧ Chg (fun k _ => k = b) w w' ∧ w'.heap.size = w.heap.size := by
  have h1 := h.set x (y : Int) (by omega)
  have h2 := h1.set (256 + y) (x : Int) (by omega)
  have c1 := h.cell x (by omega)
  have f1 := h.free x
  have c2 := h1.cell (256 + y) (by omega)
  have f2 := h1.free (256 + y)
  have H2 : Hid (LayAt ((w.setCell ⟨b, x, none⟩ (.int .u8 (y : Int))).setCell ⟨b, 256 + y, none⟩ (.int .u8 (x : Int))) b (pairL l x y)) := h2
  have i1 : (x : Int) < 256 := by omega
  have i2 : (y : Int) < 256 := by omega
  clear h h1 h2
  go_enter Tryd.func79, Tryd.ntmps79
  go_wp2
  go_end0
  exact ⟨rfl, H2.out, (chg_setCell w b x _).trans2 (chg_setCell _ b (256 + y) _) (fun k j _ h => h.1) (fun k j _ h => h.1), by simp⟩

/-- The cells of a list of bools. -/
def cellsB (l : List Bool) : Array Value := (l.map Value.bool).toArray
theorem cellsB_size (l : List Bool) : (cellsB l).size = l.length := by simp [cellsB]
def falseA (n : Nat) : Array Value := Array.replicate n (.bool false)
theorem zero256 : ∀ w, (zeroValue 117).run Tryd.prog w = .ok (.agg (falseA 256)) w := (zero_of_info (P := Tryd.prog) (t := 117) (v := .agg (falseA 256)) (n := 256) (by kernel_rfl)).1
theorem size256 : (Tryd.prog.info? 117).map (·.size) = some 256 := by kernel_rfl
theorem zeroTab : ∀ w, (zeroValue 116).run Tryd.prog w = .ok (.agg (zeroA 512)) w := (zero_of_info (P := Tryd.prog) (t := 116) (v := .agg (zeroA 512)) (n := 512) (by kernel_rfl)).1

theorem falseA_eq (n : Nat) : falseA n = cellsB (List.replicate n false) := by simp [falseA, cellsB]
theorem zeroA_at (n i : Nat) (h : i < n) : (zeroA n)[i]? = some (.int .u8 (nth (List.replicate n 0) i)) := by simp [zeroA, nth, h]
/-- Which bytes are taken, in a block of their own. -/
def TkAt (w : World) (g : Nat) (l : List Bool) : Prop := w.heap[g]? = some (.cells (cellsB l) 117 (0, 0))
theorem TkAt.chg {S : Nat → Nat → Prop} {w w' : World} {g : Nat} {l : List Bool} (h : TkAt w g l) (hc : Chg S w w') (hS : ∀ j, ¬ S g j) : TkAt w' g l :=
  (hc.block g (Array.getElem?_eq_some_iff.1 h).1 hS).trans h
theorem TkAt.set {w : World} {g : Nat} {l : List Bool} (h : TkAt w g l) (j : Nat) : TkAt (w.setCell ⟨g, j, none⟩ (.bool true)) g (l.set j true) := by
  have hlt := (Array.getElem?_eq_some_iff.1 h).1
  unfold TkAt at h ⊢
  unfold World.setCell
  simp [Array.getElem?_modify, h, cellsB, List.map_set]
theorem TkAt.at {w : World} {g : Nat} {l : List Bool} (h : TkAt w g l) {j : Nat} (hj : j < l.length) : (∃ c, w.cell? ⟨g, j, none⟩ = some (.bool c)) ∧ w.frozen? ⟨g, j, none⟩ = false := by
  refine ⟨⟨l[j], ?_⟩, Lib.frozen_of_heap h j⟩
  rw [Lib.cell_of_heap h]; simp [cellsB, hj]

set_option maxHeartbeats 4000000 in
set_option maxRecDepth 100000 in
theorem new_at (w : World) :
    Calls Tryd.prog 56 #[] w fun e w' => e = .returned (.pointer (some ⟨w.heap.size, 0, none⟩)) ∧ TabAt w' w.heap.size ∧ Below w.heap.size w w' ∧ w'.heap.size = w.heap.size + 4 := by
  have hz1 := zero160
  have hz2 := zero256
  have hz3 := zeroTab
  have HL0 : Hid (LayAt ((w.alloc (.cells (zeroA 512) 116)).alloc (.cells (falseA 256) 117)) w.heap.size (lay1 0) ∧ TkAt ((w.alloc (.cells (zeroA 512) 116)).alloc (.cells (falseA 256) 117)) (w.heap.size + 1) (tk1 0) ∧ Below w.heap.size w ((w.alloc (.cells (zeroA 512) 116)).alloc (.cells (falseA 256) 117)) ∧ ((w.alloc (.cells (zeroA 512) 116)).alloc (.cells (falseA 256) 117)).heap.size = w.heap.size + 2) := by
    have hB : Below w.heap.size w ((w.alloc (.cells (zeroA 512) 116)).alloc (.cells (falseA 256) 117)) := ((Below.refl _ _).alloc (Nat.le_refl _) _).alloc (by simp) _
    refine ⟨⟨lay1_len 0, fun i hi => ?_, fun i => ?_⟩, ?_, hB, by simp⟩
    · rw [World.cell?_alloc2_first]
      exact zeroA_at 512 i hi
    · simp
    · show _ = _
      have := heap_alloc_last (w.alloc (.cells (zeroA 512) 116)) (.cells (falseA 256) 117)
      simp only [World.size_alloc] at this
      rw [this, falseA_eq, tk1]
  go_enter Tryd.func56, Tryd.ntmps56
  go_wp2_with fail
  obtain ⟨W2, hW2⟩ : ∃ W2, (w.alloc (.cells (zeroA 512) 116)).alloc (.cells (falseA 256) 117) = W2 := ⟨_, rfl⟩
  rw [hW2] at HL0 ⊢
  clear hW2
  refine (rows_any W2).mono ?_
  rintro e w3 ⟨rfl, hb3, hz3b⟩
  have HB3 : Hid (Below W2.heap.size W2 w3 ∧ w3.heap.size = W2.heap.size + 1) := ⟨hb3, hz3b⟩
  clear hb3 hz3b
  have hst := run_storeCells_new (P := Tryd.prog) w3 118 (zeroA 160) (cellsOf rowL) (by rw [size160, cellsOf_size, rowL_len]) (by simp [zeroA, cellsOf_size, rowL_len]) (by simp [cellsOf, Value.oneCell'])
  have HLD : Hid ((w3.alloc (.cells (cellsOf rowL) 118)).heap[w3.heap.size]? = some (.cells (cellsOf rowL) 118 (0, 0)) ∧ (Tryd.prog.info? 118).map (·.size) = some (cellsOf rowL).size) := ⟨heap_alloc_last w3 _, by rw [size160, cellsOf_size, rowL_len]⟩
  have HA : Hid (∀ k, k < 160 → (cellsOf rowL)[k]? = some (.int .u8 (nth rowL k))) := fun k hk => cellsOf_at _ _ (by rw [rowL_len]; exact hk)
  have hsz : (cellsOf rowL).size = 160 := by rw [cellsOf_size, rowL_len]
  obtain ⟨A, hA⟩ : ∃ A, cellsOf rowL = A := ⟨_, rfl⟩
  rw [hA] at hst HLD HA hsz ⊢
  clear hA
  go_wp2_with (refine wpList_load_row rfl 118 _ rfl w3.heap.size rfl 118 A (0, 0) _ HLD.out.1 Tryd.underlying118 rfl HLD.out.2 ?_)
  have HW4 : Hid (LayAt (w3.alloc (.cells A 118)) w.heap.size (lay1 0) ∧ TkAt (w3.alloc (.cells A 118)) (w.heap.size + 1) (tk1 0) ∧ Below w.heap.size w (w3.alloc (.cells A 118)) ∧ (w3.alloc (.cells A 118)).heap.size = w.heap.size + 4) := by
    obtain ⟨h1, h2, h3, h4⟩ := HL0.out
    have hb : Below W2.heap.size W2 (w3.alloc (.cells A 118)) := HB3.out.1.alloc HB3.out.1.size _
    have hc := chg_of_below hb (Nat.le_refl _) (fun _ _ => False)
    exact ⟨h1.chg hc (fun _ h => h), h2.chg hc (fun _ h => h), below_two h3 hb, by have := HB3.out.2; simp; omega⟩
  clear hst HLD HL0 HB3 hz1 hz2 hz3
  go_loopw [12] (fun i wr => ∃ k : Nat, i = .int .i64 k ∧ k ≤ 160 ∧ LayAt wr w.heap.size (lay1 k) ∧ TkAt wr (w.heap.size + 1) (tk1 k) ∧ Below w.heap.size w wr ∧ wr.heap.size = w.heap.size + 4) (fun i _ => 160 - (intOf i).toNat)
  case atStart => exact ⟨0, rfl, Nat.zero_le _, HW4.out⟩
  case round =>
    obtain ⟨k, rfl, hk, hO⟩ := hrel
    have HO : Hid (LayAt wr w.heap.size (lay1 k) ∧ TkAt wr (w.heap.size + 1) (tk1 k) ∧ Below w.heap.size w wr ∧ wr.heap.size = w.heap.size + 4) := hO
    clear hO HW4
    by_cases hlt : k < 160
    · have hAk := run_index_u8 118 160 A k _ wr Tryd.underlying118 hlt (HA.out k hlt)
      obtain ⟨hr, hrn⟩ := rowN_lt hlt
      rw [← hrn] at hAk
      have i1 : (k : Int) < 160 := by omega
      have HN : Hid (LayAt wr w.heap.size (lay1 k) ∧ TkAt wr (w.heap.size + 1) (tk1 k) ∧ Below w.heap.size w wr ∧ lay1 (k + 1) = pairL (lay1 k) k (rowN k) ∧ tk1 (k + 1) = (tk1 k).set (rowN k) true ∧ wr.heap.size = w.heap.size + 4) := ⟨HO.out.1, HO.out.2.1, HO.out.2.2.1, rfl, rfl, HO.out.2.2.2⟩
      obtain ⟨r, hrr⟩ : ∃ r, rowN k = r := ⟨_, rfl⟩
      rw [hrr] at hr hAk HN
      clear hrr hrn HO
      have i2 : (r : Int) < 256 := by omega
      go_wp2_with fail
      refine (pair_any w.heap.size k r (lay1 k) wr HN.out.1 (by omega) hr).mono ?_
      rintro e w4 ⟨rfl, hl4, hc4, hz4⟩
      have h4 : TkAt w4 (w.heap.size + 1) (tk1 k) := HN.out.2.1.chg hc4 (fun j h => by omega)
      obtain ⟨⟨cc, hcc⟩, hcf⟩ := h4.at (j := r) (by rw [tk1_len]; exact hr)
      have h5 := h4.set r
      have hc5 := chg_setCell w4 (w.heap.size + 1) r (.bool true)
      have HF : Hid (LayAt (w4.setCell ⟨w.heap.size + 1, r, none⟩ (.bool true)) w.heap.size (lay1 (k + 1)) ∧ TkAt (w4.setCell ⟨w.heap.size + 1, r, none⟩ (.bool true)) (w.heap.size + 1) (tk1 (k + 1)) ∧ Below w.heap.size w (w4.setCell ⟨w.heap.size + 1, r, none⟩ (.bool true)) ∧ (w4.setCell ⟨w.heap.size + 1, r, none⟩ (.bool true)).heap.size = w.heap.size + 4) := by
        obtain ⟨g1, g2, g3, g4, g5, g6⟩ := HN.out
        refine ⟨by rw [g4]; exact hl4.chg hc5 (fun j h => by omega), by rw [g5]; exact h5, ?_, by simp; omega⟩
        refine (g3.trans (hc4.below g3.size (fun k' j hk' hh => by omega))).trans (hc5.below ?_ (fun k' j hk' hh => by omega))
        have := g3.size; have := hc4.size; omega
      clear hl4 hc4 hz4 h4 h5 hc5 HN hAk
      go_wp2
      go_roundw
      case rel => exact ⟨k + 1, by go_num, by omega, HF.out⟩
      case measure => simp [intOf]; omega
    · obtain rfl : k = 160 := by omega
      have HN : Hid (LayAt wr w.heap.size (lay2 0) ∧ Below w.heap.size w wr ∧ wr.heap.size = w.heap.size + 4) := ⟨HO.out.1, HO.out.2.2⟩
      have HLD : Hid (wr.heap[w.heap.size + 1]? = some (.cells (cellsB (tk1 160)) 117 (0, 0)) ∧ (Tryd.prog.info? 117).map (·.size) = some (cellsB (tk1 160)).size) := ⟨HO.out.2.1, by rw [size256, cellsB_size, tk1_len]⟩
      have HB : Hid (∀ k, k < 256 → (cellsB (tk1 160))[k]? = some (.bool (inR k))) := fun k hk => by
        have := tk1_at k hk
        simp only [cellsB, List.getElem?_toArray, List.getElem?_map, this]
        rfl
      obtain ⟨B, hB⟩ : ∃ B, cellsB (tk1 160) = B := ⟨_, rfl⟩
      rw [hB] at HLD HB
      clear hB HO HA hlt hk hsz
      have hsz : B.size = 256 := by have := HLD.out.2; rw [size256] at this; exact (Option.some.inj this).symm
      go_wp2_with (refine wpList_load_row rfl 117 _ rfl (w.heap.size + 1) rfl 117 B (0, 0) _ HLD.out.1 Tryd.underlying117 rfl HLD.out.2 ?_)
      go_loopw [6, 25] (fun x i wq => ∃ k : Nat, x = .int .i64 (nx k) ∧ i = .int .i64 k ∧ k ≤ 256 ∧ LayAt wq w.heap.size (lay2 k) ∧ Below w.heap.size w wq ∧ wq.heap.size = w.heap.size + 4) (fun _ i _ => 256 - (intOf i).toNat)
      case atStart => exact ⟨0, rfl, rfl, Nat.zero_le _, HN.out⟩
      case round =>
        obtain ⟨k, rfl, rfl, hk, hO⟩ := hrel
        have HO : Hid (LayAt wr w.heap.size (lay2 k) ∧ Below w.heap.size w wr ∧ wr.heap.size = w.heap.size + 4) := hO
        clear hO HN HLD
        by_cases hlt : k < 256
        · have hBk := run_index_bool 117 256 B k _ wr Tryd.underlying117 hlt (HB.out k hlt)
          have i1 : (k : Int) < 256 := by omega
          cases hr : inR k with
          | true =>
            rw [hr] at hBk
            have HN : Hid (LayAt wr w.heap.size (lay2 (k + 1)) ∧ (Below w.heap.size w wr ∧ wr.heap.size = w.heap.size + 4) ∧ nx (k + 1) = nx k) := by
              refine ⟨?_, HO.out.2, ?_⟩
              · rw [lay2, if_pos hr]; exact HO.out.1
              · rw [nx, if_pos hr]
            clear hr
            go_wp2
            go_roundw
            case rel => exact ⟨k + 1, by rw [HN.out.2.2], by go_num, by omega, HN.out.1, HN.out.2.1⟩
            case measure => simp [intOf]; omega
          | false =>
            rw [hr] at hBk
            have hnl := nx_lt hlt hr
            have HN : Hid (LayAt wr w.heap.size (lay2 k) ∧ (Below w.heap.size w wr ∧ wr.heap.size = w.heap.size + 4) ∧ nx (k + 1) = nx k + 1 ∧ lay2 (k + 1) = pairL (lay2 k) (nx k) k) := by
              refine ⟨HO.out.1, HO.out.2, ?_, ?_⟩
              · rw [nx, hr]; rfl
              · rw [lay2, hr]; rfl
            clear hr HO
            obtain ⟨n, hn⟩ : ∃ n, nx k = n := ⟨_, rfl⟩
            rw [hn] at hnl HN ⊢
            clear hn
            have i2 : (n : Int) < 256 := by omega
            go_wp2_with fail
            refine (pair_any w.heap.size n k (lay2 k) wr HN.out.1 hnl hlt).mono ?_
            rintro e w4 ⟨rfl, hl4, hc4, hz4⟩
            have HF : Hid (LayAt w4 w.heap.size (lay2 (k + 1)) ∧ (Below w.heap.size w w4 ∧ w4.heap.size = w.heap.size + 4) ∧ nx (k + 1) = n + 1) := by
              obtain ⟨g1, g2, g3, g4⟩ := HN.out
              exact ⟨by rw [g4]; exact hl4, ⟨g2.1.trans (hc4.below g2.1.size (fun k' j hk' hh => by omega)), by omega⟩, g3⟩
            clear hl4 hc4 hz4 HN hBk
            go_wp2
            go_roundw
            case rel => exact ⟨k + 1, by rw [HF.out.2.2]; go_num, by go_num, by omega, HF.out.1, HF.out.2.1⟩
            case measure => simp [intOf]; omega
        · obtain rfl : k = 256 := by omega
          have HF : Hid (TabAt wr w.heap.size ∧ Below w.heap.size w wr ∧ wr.heap.size = w.heap.size + 4) := by
            have h := HO.out.1
            rw [lay2_all] at h
            refine ⟨⟨fun i hi => ?_, fun i hi => ?_⟩, HO.out.2⟩
            · rw [Nat.zero_add, h.cell i (by omega), nth_append_left (by rw [tabL_len]; exact hi)]
            · rw [h.cell (256 + i) (by omega), nth_append_right (by rw [tabL_len]; omega), tabL_len]
              simp
          clear HO HB hlt hk hsz
          go_wp2
          go_ret
          exact ⟨rfl, HF.out⟩
theorem new_any (w : World) :
    Calls Tryd.prog 56 #[] w fun e w' => ∃ b, e = .returned (.pointer (some ⟨b, 0, none⟩)) ∧ TabAt w' b ∧ Below w.heap.size w w' :=
  (new_at w).mono fun _ _ h => ⟨_, h.1, h.2.1, h.2.2.1⟩
end Per
end Go.Proofs.YtjbgcclbomimiaaDoor
