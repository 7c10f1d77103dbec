/-
  The program's Windows in memory, wherever they lie, and the contracts of their calls; the contract of Index: as walks over the translated text. The condition: the tables are as the program's text lays them.
-/
import Derived.Test.YtohobpjiikpdmaaDoorWin1
namespace Go.Proofs.YtohobpjiikpdmaaDoor
open Go.ChangeShapes Go.WideShapes Go.ChangeAt Go.RowKit
namespace Win
open Bas
set_option linter.unusedVariables false

/-- Windows in memory, from an offset of a block on. -/
structure WinV (w : World) (b o : Nat) (offs used : List Int) : Prop where
  lo : offs.length = 8
  lu : used.length = 8
  co : ∀ i : Nat, i < 8 → w.cell? ⟨b, o + i, none⟩ = some (.int .u32 (nth offs i))
  cu : ∀ i : Nat, i < 8 → w.cell? ⟨b, o + 8 + i, none⟩ = some (.int .i64 (nth used i))
  fr : ∀ i : Nat, w.frozen? ⟨b, i, none⟩ = false
  wo : ∀ i : Nat, i < 8 → 0 ≤ nth offs i ∧ nth offs i < 4294967296
/-- The cells of Windows. -/
def footW (b o : Nat) (k j : Nat) : Prop := k = b ∧ o ≤ j ∧ j < o + 16
theorem WinV.lt {w : World} {b o : Nat} {offs used : List Int} (h : WinV w b o offs used) : b < w.heap.size := World.block_lt_of_cell? w _ (h.co 0 (by decide))
theorem WinV.chg {S : Nat → Nat → Prop} {w w' : World} {b o : Nat} {offs used : List Int} (h : WinV w b o offs used) (hc : Chg S w w') (hS : ∀ k j, footW b o k j → ¬ S k j) : WinV w' b o offs used :=
  ⟨h.lo, h.lu, fun i hi => hc.cellAt (h.co i hi) (hS _ _ ⟨rfl, by omega, by omega⟩), fun i hi => hc.cellAt (h.cu i hi) (hS _ _ ⟨rfl, by omega, by omega⟩), fun i => (hc.frozen b i h.lt).trans (h.fr i), h.wo⟩
theorem WinV.below {w w' : World} {b o : Nat} {offs used : List Int} (h : WinV w b o offs used) (hb : Below w.heap.size w w') : WinV w' b o offs used :=
  h.chg (chg_of_below hb (Nat.le_refl _) (fun _ _ => False)) (fun _ _ _ h => h)
theorem WinV.setO {w : World} {b o : Nat} {offs used : List Int} (h : WinV w b o offs used) (k : Nat) (x : Int) (hk : k < 8) (x0 : 0 ≤ x) (x1 : x < 4294967296) : WinV (w.setCell ⟨b, o + k, none⟩ (.int .u32 x)) b o (offs.set k x) used := by
  have hc := chg_setCell w b (o + k) (.int .u32 x)
  refine ⟨by rw [List.length_set, h.lo], h.lu, fun i hi => ?_, fun i hi => hc.cellAt (h.cu i hi) (by omega), fun i => (hc.frozen b i h.lt).trans (h.fr i), fun i hi => ?_⟩
  · rw [nth_set offs k i x (by rw [h.lo]; exact hk)]
    by_cases e : i = k
    · subst e; rw [if_pos rfl]; exact World.cell?_setCell_same _ _ _ (h.co i hi)
    · rw [if_neg e]; exact hc.cellAt (h.co i hi) (by omega)
  · rw [nth_set offs k i x (by rw [h.lo]; exact hk)]
    split
    · exact ⟨x0, x1⟩
    · exact h.wo i hi
theorem WinV.setU {w : World} {b o : Nat} {offs used : List Int} (h : WinV w b o offs used) (k : Nat) (x : Int) (hk : k < 8) : WinV (w.setCell ⟨b, o + 8 + k, none⟩ (.int .i64 x)) b o offs (used.set k x) := by
  have hc := chg_setCell w b (o + 8 + k) (.int .i64 x)
  refine ⟨h.lo, by rw [List.length_set, h.lu], fun i hi => hc.cellAt (h.co i hi) (by omega), fun i hi => ?_, fun i => (hc.frozen b i h.lt).trans (h.fr i), h.wo⟩
  rw [nth_set used k i x (by rw [h.lu]; exact hk)]
  by_cases e : i = k
  · subst e; rw [if_pos rfl]; exact World.cell?_setCell_same _ _ _ (h.cu i hi)
  · rw [if_neg e]; exact hc.cellAt (h.cu i hi) (by omega)

theorem new_cells (w : World) {n : Nat} (hn : n = w.heap.size) : WinV (w.alloc (.cells #[.int .u32 128, .int .u32 192, .int .u32 1024, .int .u32 1536, .int .u32 2304, .int .u32 12352, .int .u32 12448, .int .u32 65280, .int .i64 7, .int .i64 6, .int .i64 5, .int .i64 4, .int .i64 3, .int .i64 2, .int .i64 1, .int .i64 0] 80)) n 0 firstL8 used0 := by
  subst hn
  refine ⟨rfl, rfl, fun i hi => ?_, fun i hi => ?_, fun i => by simp, fun i hi => ?_⟩
  · rw [World.cell?_alloc_at _ _ _ _ rfl]
    match i, hi with
    | 0, _ => rfl
    | 1, _ => rfl
    | 2, _ => rfl
    | 3, _ => rfl
    | 4, _ => rfl
    | 5, _ => rfl
    | 6, _ => rfl
    | 7, _ => rfl
  · rw [World.cell?_alloc_at _ _ _ _ rfl]
    match i, hi with
    | 0, _ => rfl
    | 1, _ => rfl
    | 2, _ => rfl
    | 3, _ => rfl
    | 4, _ => rfl
    | 5, _ => rfl
    | 6, _ => rfl
    | 7, _ => rfl
  · have hcs : i = 0 ∨ i = 1 ∨ i = 2 ∨ i = 3 ∨ i = 4 ∨ i = 5 ∨ i = 6 ∨ i = 7 := by omega
    rcases hcs with rfl | rfl | rfl | rfl | rfl | rfl | rfl | rfl <;> decide
set_option maxHeartbeats 1000000 in
theorem new_at (w : World) : Calls Tryd.prog 23 #[] w fun e w' => e = .returned (.pointer (some ⟨w.heap.size, 0, none⟩)) ∧ WinV w' w.heap.size 0 firstL8 used0 ∧ Below w.heap.size w w' ∧ w'.heap.size = w.heap.size + 1 := by
  have HN : Hid _ := new_cells w rfl
  go_enter Tryd.func23, Tryd.ntmps23
  go_wp2
  go_ret
  exact ⟨rfl, HN.out, (Below.refl _ _).alloc (Nat.le_refl _) _, by simp⟩
set_option maxHeartbeats 1000000 in
theorem at_any (b o : Nat) (n : Int) (offs used : List Int) (w : World) (h : WinV w b o offs used) :
    Calls Tryd.prog 54 #[.pointer (some ⟨b, o, none⟩), .int .i64 n] w fun e w' => e = .returned (.int .u32 (atW offs n)) ∧ w' = w := by
  by_cases hn : 0 ≤ n ∧ n ≤ 7
  · obtain ⟨k, rfl⟩ := Int.eq_ofNat_of_zero_le hn.1
    have hk : k < 8 := by omega
    have hc := h.co k hk
    have HI : Hid (∀ w, Calls Tryd.prog 60 #[.int .i64 (k : Int)] w fun e w' => e = .returned (.bool true) ∧ w' = w) := by have := is_any (k : Int); rwa [isW_yes hn.1 hn.2] at this
    rw [atW_yes _ k hk]
    clear h hn
    go_enter Tryd.func54, Tryd.ntmps54
    go_wp2_with fail
    refine (HI.out w).mono ?_
    rintro e w1 ⟨rfl, hw⟩
    subst hw
    go_wp2
    go_ret
    exact ⟨rfl, rfl⟩
  · have HI : Hid (∀ w, Calls Tryd.prog 60 #[.int .i64 n] w fun e w' => e = .returned (.bool false) ∧ w' = w) := by have := is_any n; rwa [isW_no (by omega)] at this
    rw [atW_no _ (by omega)]
    clear h hn
    go_enter Tryd.func54, Tryd.ntmps54
    go_wp2_with fail
    refine (HI.out w).mono ?_
    rintro e w1 ⟨rfl, hw⟩
    subst hw
    go_wp2
    go_ret
    exact ⟨rfl, rfl⟩
/-- A window has another offset. -/
def setL (l : List Int) (n x : Int) : List Int := if 0 ≤ n ∧ n ≤ 7 then l.set n.toNat x else l
theorem setL_yes (l : List Int) (k : Nat) (x : Int) (h : k < 8) : setL l (k : Int) x = l.set k x := by unfold setL; rw [if_pos ⟨by omega, by omega⟩]; rfl
theorem setL_no (l : List Int) {n : Int} (x : Int) (h : n < 0 ∨ 7 < n) : setL l n x = l := by unfold setL; rw [if_neg (by omega)]
set_option maxHeartbeats 1000000 in
theorem set_any (b o : Nat) (n x : Int) (offs used : List Int) (w : World) (h : WinV w b o offs used) (x0 : 0 ≤ x) (x1 : x < 4294967296) :
    Calls Tryd.prog 63 #[.pointer (some ⟨b, o, none⟩), .int .i64 n, .int .u32 x] w fun e w' => e = .returned (.tuple #[]) ∧ WinV w' b o (setL offs n x) used ∧ Chg (footW b o) w w' ∧ w'.heap.size = w.heap.size := by
  by_cases hn : 0 ≤ n ∧ n ≤ 7
  · obtain ⟨k, rfl⟩ := Int.eq_ofNat_of_zero_le hn.1
    have hk : k < 8 := by omega
    have hc := h.co k hk
    have hf := h.fr (o + k)
    have HS : Hid (WinV (w.setCell ⟨b, o + k, none⟩ (.int .u32 x)) b o (setL offs (k : Int) x) used) := by rw [setL_yes _ k x hk]; exact h.setO k x hk x0 x1
    have HI : Hid (∀ w, Calls Tryd.prog 60 #[.int .i64 (k : Int)] w fun e w' => e = .returned (.bool true) ∧ w' = w) := by have := is_any (k : Int); rwa [isW_yes hn.1 hn.2] at this
    clear h hn
    go_enter Tryd.func63, Tryd.ntmps63
    go_wp2_with fail
    refine (HI.out w).mono ?_
    rintro e w1 ⟨rfl, hw⟩
    subst hw
    go_wp2
    go_end0
    exact ⟨rfl, HS.out, (chg_setCell _ b (o + k) _).mono (fun q j _ hq => ⟨hq.1, by omega, by omega⟩), by simp⟩
  · have HI : Hid (∀ w, Calls Tryd.prog 60 #[.int .i64 n] w fun e w' => e = .returned (.bool false) ∧ w' = w) := by have := is_any n; rwa [isW_no (by omega)] at this
    have HS : Hid (WinV w b o (setL offs n x) used) := by rw [setL_no _ x (by omega)]; exact h
    clear h hn
    go_enter Tryd.func63, Tryd.ntmps63
    go_wp2_with fail
    refine (HI.out w).mono ?_
    rintro e w1 ⟨rfl, hw⟩
    subst hw
    go_wp2
    go_end0
    exact ⟨rfl, HS.out, Chg.refl _ _, rfl⟩
/-- What is told of a number. -/
def idxV (x : Int) : Int := if x < 0 then 0 else x
def idxB (x : Int) : Bool := decide (0 ≤ x)
theorem idx_yes {x : Int} (h : 0 ≤ x) : idxV x = x ∧ idxB x = true := by unfold idxV idxB; rw [if_neg (by omega)]; exact ⟨rfl, by simp; exact h⟩
theorem idx_not {x : Int} (h : x = -1) : idxV x = 0 ∧ idxB x = false := by subst h; exact ⟨rfl, rfl⟩
theorem info_u32 : (Tryd.prog.info? 44).map (fun i => (i.zero, i.size, i.bytes)) = some (some (.int .u32 0), 1, 4) := by kernel_rfl
theorem info_i64 : (Tryd.prog.info? 3).map (fun i => (i.zero, i.size, i.bytes)) = some (some (.int .i64 0), 1, 8) := by kernel_rfl
/-- An element of an array by value. -/
theorem run_index_u32 (t : TypeId) (n : Nat) (cs : Array Value) (k : Nat) (v : Value) (w : World) (h : Tryd.prog.underlying t = some (.array n 44)) (hk : k < n) (hv : cs[k]? = some v) :
    (Instr.index t (.agg cs) (.int .i64 (k : Int))).run Tryd.prog w = .ok v w := by
  have h0 : (0 : Int) ≤ k ∧ (k : Int) < n := ⟨by omega, by omega⟩
  obtain ⟨i, hi, -, hsz, -⟩ := info_parts info_u32
  have hlt := (Array.getElem?_eq_some_iff.1 hv).1
  simp [Instr.index, run_underlying h, asIntOf, h0, part, isAgg, run_underlying Tryd.underlying44, sizeOf, typeInfo, hi, hsz, hv]
  omega
theorem run_index_i64 (t : TypeId) (n : Nat) (cs : Array Value) (k : Nat) (v : Value) (w : World) (h : Tryd.prog.underlying t = some (.array n 3)) (hk : k < n) (hv : cs[k]? = some v) :
    (Instr.index t (.agg cs) (.int .i64 (k : Int))).run Tryd.prog w = .ok v w := by
  have h0 : (0 : Int) ≤ k ∧ (k : Int) < n := ⟨by omega, by omega⟩
  obtain ⟨i, hi, -, hsz, -⟩ := info_parts info_i64
  have hlt := (Array.getElem?_eq_some_iff.1 hv).1
  simp [Instr.index, run_underlying h, asIntOf, h0, part, isAgg, run_underlying Tryd.underlying3, sizeOf, typeInfo, hi, hsz, hv]
  omega
theorem size7 : (Tryd.prog.info? 104).map (·.size) = some 7 := by kernel_rfl
theorem size8 : (Tryd.prog.info? 77).map (·.size) = some 8 := by kernel_rfl
theorem size8i : (Tryd.prog.info? 78).map (·.size) = some 8 := by kernel_rfl
/-- The offsets of the indexes 249 to 255. -/
def fixL : List Int := [192, 592, 880, 1328, 12352, 12448, 65376]
theorem fixL_at {i : Nat} (h : i < 7) : nth fixL i = fixI (249 + (i : Int)) := by
  have hcs : i = 0 ∨ i = 1 ∨ i = 2 ∨ i = 3 ∨ i = 4 ∨ i = 5 ∨ i = 6 := by omega
  rcases hcs with rfl | rfl | rfl | rfl | rfl | rfl | rfl <;> decide
theorem range_of {k : IntKind} {w : World} {b o : Nat} {l : List Int} (h : ∀ i, i < l.length → w.cell? ⟨b, o + i, none⟩ = some (.int k (nth l i))) : w.rangeAt b o (l.map (Value.int k)) := by
  intro j v hv
  obtain ⟨hj, rfl⟩ := map_nth k l j v hv
  exact h j hj
theorem map_at {k : IntKind} {l : List Int} {j : Nat} (h : j < l.length) : ((l.map (Value.int k)).toArray)[j]? = some (.int k (nth l j)) := by simp [nth, h]
/-- The order under way: the others of the first ones, and what stood behind. -/
def midT (U : List Int) (n : Int) (j : Nat) : List Int := others (U.take j) n ++ U.drop (others (U.take j) n).length
def keptT (U : List Int) (n : Int) (j : Nat) : Nat := (others (U.take j) n).length
theorem mid_zero (U : List Int) (n : Int) : midT U n 0 = U ∧ keptT U n 0 = 0 := by
  unfold midT keptT; simp [others]
theorem kept_le (U : List Int) (n : Int) (j : Nat) : keptT U n j ≤ j := by
  unfold keptT others
  refine Nat.le_trans (List.length_filter_le _ _) ?_
  simp; omega
theorem others_snoc (l : List Int) (x n : Int) : others (l ++ [x]) n = if x = n then others l n else others l n ++ [x] := by
  unfold others
  rw [List.filter_append]
  by_cases h : x = n
  · simp [h]
  · simp [h]
theorem mid_same {U : List Int} {n : Int} {j : Nat} (hj : j < U.length) (h : nth U j = n) : midT U n (j + 1) = midT U n j ∧ keptT U n (j + 1) = keptT U n j := by
  have e : others (U.take (j + 1)) n = others (U.take j) n := by rw [take_snoc U j hj, others_snoc, if_pos h]
  unfold midT keptT; rw [e]; exact ⟨rfl, rfl⟩
theorem mid_next {U : List Int} {n : Int} {j : Nat} (hj : j < U.length) (h : ¬ nth U j = n) : midT U n (j + 1) = (midT U n j).set (keptT U n j) (nth U j) ∧ keptT U n (j + 1) = keptT U n j + 1 := by
  have e : others (U.take (j + 1)) n = others (U.take j) n ++ [nth U j] := by rw [take_snoc U j hj, others_snoc, if_neg h]
  have hk := kept_le U n j
  unfold keptT at hk
  refine ⟨?_, by unfold keptT; rw [e]; simp⟩
  unfold midT keptT
  rw [e, List.set_append_right _ _ (Nat.le_refl _), Nat.sub_self, drop_at U (others (List.take j U) n).length (by omega)]
  simp
theorem mid_len {U : List Int} {n : Int} {j : Nat} (hU : U.length = 8) (hj : j ≤ 8) : (midT U n j).length = 8 := by
  have hk := kept_le U n j
  unfold keptT at hk
  unfold midT; simp; omega
theorem mid_end {U : List Int} {n : Int} (h : Eight U) (h0 : 0 ≤ n) (h1 : n ≤ 7) : (midT U n 8).set 7 n = touchL U n ∧ keptT U n 8 = 7 := by
  have hl := others_len h h0 h1
  have e : U.take 8 = U := List.take_of_length_le (by rw [h.1]; omega)
  unfold midT keptT
  rw [e, hl]
  refine ⟨?_, rfl⟩
  rw [List.set_append_right _ _ (by omega), hl, Nat.sub_self, drop_at U 7 (by rw [h.1]; omega)]
  unfold touchL
  rw [if_pos ⟨h0, h1⟩]
  have : U.drop (7 + 1) = [] := List.drop_of_length_le (by rw [h.1]; omega)
  rw [this]; rfl
theorem touch_no (U : List Int) {n : Int} (h : n < 0 ∨ 7 < n) : touchL U n = U := by unfold touchL; rw [if_neg (by omega)]
end Win
end Go.Proofs.YtohobpjiikpdmaaDoor
