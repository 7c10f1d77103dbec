/-
  The program's Windows in memory, wherever they lie, and the contracts of their calls; the contract of Index: as walks over the translated text. The condition: the tables are as the program's text lays them.
-/
import Derived.Test.YtpglmfhlgaliaaaDoorWin1
namespace Go.Proofs.YtpglmfhlgaliaaaDoor
open Go.ChangeShapes Go.WideShapes Go.ChangeAt Go.RowKit
namespace Win
open Bas
set_option linter.unusedVariables false

/-- Windows in memory, from an offset of a block on. -/
structure WinV (w : World) (b o : Nat) (offs used : List Int) : Prop where
  lo : offs.length = 8
  lu : used.length = 8
  co : ∀ i : Nat, i < 8 → w.cell? ⟨b, o + i, none⟩ = some (.int .u32 (nth offs i))
  cu : ∀ i : Nat, i < 8 → w.cell? ⟨b, o + 8 + i, none⟩ = some (.int .i64 (nth used i))
  fr : ∀ i : Nat, w.frozen? ⟨b, i, none⟩ = false
  wo : ∀ i : Nat, i < 8 → 0 ≤ nth offs i ∧ nth offs i < 4294967296
/-- The cells of Windows. -/
def footW (b o : Nat) (k j : Nat) : Prop := k = b ∧ o ≤ j ∧ j < o + 16
theorem WinV.lt {w : World} {b o : Nat} {offs used : List Int} (h : WinV w b o offs used) : b < w.heap.size := World.block_lt_of_cell? w _ (h.co 0 (by decide))
theorem WinV.chg {S : Nat → Nat → Prop} {w w' : World} {b o : Nat} {offs used : List Int} (h : WinV w b o offs used) (hc : Chg S w w') (hS : ∀ k j, footW b o k j → ¬ S k j) : WinV w' b o offs used :=
  ⟨h.lo, h.lu, fun i hi => hc.cellAt (h.co i hi) (hS _ _ ⟨rfl, by omega, by omega⟩), fun i hi => hc.cellAt (h.cu i hi) (hS _ _ ⟨rfl, by omega, by omega⟩), fun i => (hc.frozen b i h.lt).trans (h.fr i), h.wo⟩
theorem WinV.below {w w' : World} {b o : Nat} {offs used : List Int} (h : WinV w b o offs used) (hb : Below w.heap.size w w') : WinV w' b o offs used :=
  h.chg (chg_of_below hb (Nat.le_refl _) (fun _ _ => False)) (fun _ _ _ h => h)
theorem WinV.setO {w : World} {b o : Nat} {offs used : List Int} (h : WinV w b o offs used) (k : Nat) (x : Int) (hk : k < 8) (x0 : 0 ≤ x) (x1 : x < 4294967296) : WinV (w.setCell ⟨b, o + k, none⟩ (.int .u32 x)) b o (offs.set k x) used := by
  have hc := chg_setCell w b (o + k) (.int .u32 x)
  refine ⟨by rw [List.length_set, h.lo], h.lu, fun i hi => ?_, fun i hi => hc.cellAt (h.cu i hi) (by omega), fun i => (hc.frozen b i h.lt).trans (h.fr i), fun i hi => ?_⟩
  · rw [nth_set offs k i x (by rw [h.lo]; exact hk)]
    by_cases e : i = k
    · subst e; rw [if_pos rfl]; exact World.cell?_setCell_same _ _ _ (h.co i hi)
    · rw [if_neg e]; exact hc.cellAt (h.co i hi) (by omega)
  · rw [nth_set offs k i x (by rw [h.lo]; exact hk)]
    split
    · exact ⟨x0, x1⟩
    · exact h.wo i hi
theorem WinV.setU {w : World} {b o : Nat} {offs used : List Int} (h : WinV w b o offs used) (k : Nat) (x : Int) (hk : k < 8) : WinV (w.setCell ⟨b, o + 8 + k, none⟩ (.int .i64 x)) b o offs (used.set k x) := by
  have hc := chg_setCell w b (o + 8 + k) (.int .i64 x)
  refine ⟨h.lo, by rw [List.length_set, h.lu], fun i hi => hc.cellAt (h.co i hi) (by omega), fun i hi => ?_, fun i => (hc.frozen b i h.lt).trans (h.fr i), h.wo⟩
  rw [nth_set used k i x (by rw [h.lu]; exact hk)]
  by_cases e : i = k
  · subst e; rw [if_pos rfl]; exact World.cell?_setCell_same _ _ _ (h.cu i hi)
  · rw [if_neg e]; exact hc.cellAt (h.cu i hi) (by omega)

theorem new_cells (w : World) {n : Nat} (hn : n = w.heap.size) : WinV (w.alloc (.cells #[.int .u32 128, .int .u32 192, .int .u32 1024, .int .u32 1536, .int .u32 2304, .int .u32 12352, .int .u32 12448, .int .u32 65280, .int .i64 7, .int .i64 6, .int .i64 5, .int .i64 4, .int .i64 3, .int .i64 2, .int .i64 1, .int .i64 0] 79)) n 0 firstL8 used0 := by
  subst hn
  refine ⟨rfl, rfl, fun i hi => ?_, fun i hi => ?_, fun i => by simp, fun i hi => ?_⟩
  · rw [World.cell?_alloc_at _ _ _ _ rfl]
    match i, hi with
    | 0, _ => rfl
    | 1, _ => rfl
    | 2, _ => rfl
    | 3, _ => rfl
    | 4, _ => rfl
    | 5, _ => rfl
    | 6, _ => rfl
    | 7, _ => rfl
  · rw [World.cell?_alloc_at _ _ _ _ rfl]
    match i, hi with
    | 0, _ => rfl
    | 1, _ => rfl
    | 2, _ => rfl
    | 3, _ => rfl
    | 4, _ => rfl
    | 5, _ => rfl
    | 6, _ => rfl
    | 7, _ => rfl
  · have hcs : i = 0 ∨ i = 1 ∨ i = 2 ∨ i = 3 ∨ i = 4 ∨ i = 5 ∨ i = 6 ∨ i = 7 := by omega
    rcases hcs with rfl | rfl | rfl | rfl | rfl | rfl | rfl | rfl <;> decide
set_option maxHeartbeats 1000000 in
theorem new_at (w : World) : Calls Tryd.prog 22 #[] w fun e w' => e = .returned (.pointer (some ⟨w.heap.size, 0, none⟩)) ∧ WinV w' w.heap.size 0 firstL8 used0 ∧ Below w.heap.size w w' ∧ w'.heap.size = w.heap.size + 1 := by
  have HN : Hid _ := new_cells w rfl
  go_enter Tryd.func22, Tryd.ntmps22
  go_wp2
  go_ret
  exact ⟨rfl, HN.out, (Below.refl _ _).alloc (Nat.le_refl _) _, by simp⟩
set_option maxHeartbeats 1000000 in
theorem at_any (b o : Nat) (n : Int) (offs used : List Int) (w : World) (h : WinV w b o offs used) :
    Calls Tryd.prog 70 #[.pointer (some ⟨b, o, none⟩), .int .i64 n] w fun e w' => e = .returned (.int .u32 (atW offs n)) ∧ w' = w := by
  by_cases hn : 0 ≤ n ∧ n ≤ 7
  · obtain ⟨k, rfl⟩ := Int.eq_ofNat_of_zero_le hn.1
    have hk : k < 8 := by omega
    have hc := h.co k hk
    have HI : Hid (∀ w, Calls Tryd.prog 79 #[.int .i64 (k : Int)] w fun e w' => e = .returned (.bool true) ∧ w' = w) := by have := is_any (k : Int); rwa [isW_yes hn.1 hn.2] at this
    rw [atW_yes _ k hk]
    clear h hn
    go_enter Tryd.func70, Tryd.ntmps70
    go_wp2_with fail
    refine (HI.out w).mono ?_
    rintro e w1 ⟨rfl, hw⟩
    subst hw
    go_wp2
    go_ret
    exact ⟨rfl, rfl⟩
  · have HI : Hid (∀ w, Calls Tryd.prog 79 #[.int .i64 n] w fun e w' => e = .returned (.bool false) ∧ w' = w) := by have := is_any n; rwa [isW_no (by omega)] at this
    rw [atW_no _ (by omega)]
    clear h hn
    go_enter Tryd.func70, Tryd.ntmps70
    go_wp2_with fail
    refine (HI.out w).mono ?_
    rintro e w1 ⟨rfl, hw⟩
    subst hw
    go_wp2
    go_ret
    exact ⟨rfl, rfl⟩
/-- A window has another offset. -/
def setL (l : List Int) (n x : Int) : List Int := if 0 ≤ n ∧ n ≤ 7 then l.set n.toNat x else l
theorem setL_yes (l : List Int) (k : Nat) (x : Int) (h : k < 8) : setL l (k : Int) x = l.set k x := by unfold setL; rw [if_pos ⟨by omega, by omega⟩]; rfl
theorem setL_no (l : List Int) {n : Int} (x : Int) (h : n < 0 ∨ 7 < n) : setL l n x = l := by unfold setL; rw [if_neg (by omega)]
set_option maxHeartbeats 1000000 in
theorem set_any (b o : Nat) (n x : Int) (offs used : List Int) (w : World) (h : WinV w b o offs used) (x0 : 0 ≤ x) (x1 : x < 4294967296) :
    Calls Tryd.prog 75 #[.pointer (some ⟨b, o, none⟩), .int .i64 n, .int .u32 x] w fun e w' => e = .returned (.tuple #[]) ∧ WinV w' b o (setL offs n x) used ∧ Chg (footW b o) w w' ∧ w'.heap.size = w.heap.size := by
  by_cases hn : 0 ≤ n ∧ n ≤ 7
  · obtain ⟨k, rfl⟩ := Int.eq_ofNat_of_zero_le hn.1
    have hk : k < 8 := by omega
    have hc := h.co k hk
    have hf := h.fr (o + k)
    have HS : Hid (WinV (w.setCell ⟨b, o + k, none⟩ (.int .u32 x)) b o (setL offs (k : Int) x) used) := by rw [setL_yes _ k x hk]; exact h.setO k x hk x0 x1
    have HI : Hid (∀ w, Calls Tryd.prog 79 #[.int .i64 (k : Int)] w fun e w' => e = .returned (.bool true) ∧ w' = w) := by have := is_any (k : Int); rwa [isW_yes hn.1 hn.2] at this
    clear h hn
    go_enter Tryd.func75, Tryd.ntmps75
    go_wp2_with fail
    refine (HI.out w).mono ?_
    rintro e w1 ⟨rfl, hw⟩
    subst hw
    go_wp2
    go_end0
    exact ⟨rfl, HS.out, (chg_setCell _ b (o + k) _).mono (fun q j _ hq => ⟨hq.1, by omega, by omega⟩), by simp⟩
  · have HI : Hid (∀ w, Calls Tryd.prog 79 #[.int .i64 n] w fun e w' => e = .returned (.bool false) ∧ w' = w) := by have := is_any n; rwa [isW_no (by omega)] at this
    have HS : Hid (WinV w b o (setL offs n x) used) := by rw [setL_no _ x (by omega)]; exact h
    clear h hn
    go_enter Tryd.func75, Tryd.ntmps75
    go_wp2_with fail
    refine (HI.out w).mono ?_
    rintro e w1 ⟨rfl, hw⟩
    subst hw
    go_wp2
    go_end0
    exact ⟨rfl, HS.out, Chg.refl _ _, rfl⟩
set_option maxHeartbeats 400000 in
theorem oldest_any (b o : Nat) (offs used : List Int) (w : World) (h : WinV w b o offs used) :
    Calls Tryd.prog 74 #[.pointer (some ⟨b, o, none⟩)] w fun e w' => e = .returned (.int .i64 (nth used 0)) ∧ w' = w := by
  have hc := h.cu 0 (by decide)
  rw [Nat.add_zero] at hc
  clear h
  go_enter Tryd.func74, Tryd.ntmps74
  go_wp2
  go_ret
  exact ⟨rfl, rfl⟩
/-- What is told of a number. -/
def idxV (x : Int) : Int := if x < 0 then 0 else x
def idxB (x : Int) : Bool := decide (0 ≤ x)
theorem idx_yes {x : Int} (h : 0 ≤ x) : idxV x = x ∧ idxB x = true := by unfold idxV idxB; rw [if_neg (by omega)]; exact ⟨rfl, by simp; exact h⟩
theorem idx_not {x : Int} (h : x = -1) : idxV x = 0 ∧ idxB x = false := by subst h; exact ⟨rfl, rfl⟩
theorem info_u32 : (Tryd.prog.info? 35).map (fun i => (i.zero, i.size, i.bytes)) = some (some (.int .u32 0), 1, 4) := by kernel_rfl
theorem info_i64 : (Tryd.prog.info? 3).map (fun i => (i.zero, i.size, i.bytes)) = some (some (.int .i64 0), 1, 8) := by kernel_rfl
/-- An element of an array by value. -/
theorem run_index_u32 (t : TypeId) (n : Nat) (cs : Array Value) (k : Nat) (v : Value) (w : World) (h : Tryd.prog.underlying t = some (.array n 35)) (hk : k < n) (hv : cs[k]? = some v) :
    (Instr.index t (.agg cs) (.int .i64 (k : Int))).run Tryd.prog w = .ok v w := by
  have h0 : (0 : Int) ≤ k ∧ (k : Int) < n := ⟨by omega, by omega⟩
  obtain ⟨i, hi, -, hsz, -⟩ := info_parts info_u32
  have hlt := (Array.getElem?_eq_some_iff.1 hv).1
  simp [Instr.index, run_underlying h, asIntOf, h0, part, isAgg, run_underlying Tryd.underlying35, sizeOf, typeInfo, hi, hsz, hv]
  omega
theorem run_index_i64 (t : TypeId) (n : Nat) (cs : Array Value) (k : Nat) (v : Value) (w : World) (h : Tryd.prog.underlying t = some (.array n 3)) (hk : k < n) (hv : cs[k]? = some v) :
    (Instr.index t (.agg cs) (.int .i64 (k : Int))).run Tryd.prog w = .ok v w := by
  have h0 : (0 : Int) ≤ k ∧ (k : Int) < n := ⟨by omega, by omega⟩
  obtain ⟨i, hi, -, hsz, -⟩ := info_parts info_i64
  have hlt := (Array.getElem?_eq_some_iff.1 hv).1
  simp [Instr.index, run_underlying h, asIntOf, h0, part, isAgg, run_underlying Tryd.underlying3, sizeOf, typeInfo, hi, hsz, hv]
  omega
theorem size7 : (Tryd.prog.info? 119).map (·.size) = some 7 := by kernel_rfl
theorem size8 : (Tryd.prog.info? 76).map (·.size) = some 8 := by kernel_rfl
theorem size8i : (Tryd.prog.info? 77).map (·.size) = some 8 := by kernel_rfl
/-- The offsets of the indexes 249 to 255. -/
def fixL : List Int := [192, 592, 880, 1328, 12352, 12448, 65376]
theorem fixL_at {i : Nat} (h : i < 7) : nth fixL i = fixI (249 + (i : Int)) := by
  have hcs : i = 0 ∨ i = 1 ∨ i = 2 ∨ i = 3 ∨ i = 4 ∨ i = 5 ∨ i = 6 := by omega
  rcases hcs with rfl | rfl | rfl | rfl | rfl | rfl | rfl <;> decide
theorem range_of {k : IntKind} {w : World} {b o : Nat} {l : List Int} (h : ∀ i, i < l.length → w.cell? ⟨b, o + i, none⟩ = some (.int k (nth l i))) : w.rangeAt b o (l.map (Value.int k)) := by
  intro j v hv
  obtain ⟨hj, rfl⟩ := map_nth k l j v hv
  exact h j hj
theorem map_at {k : IntKind} {l : List Int} {j : Nat} (h : j < l.length) : ((l.map (Value.int k)).toArray)[j]? = some (.int k (nth l j)) := by simp [nth, h]
set_option maxHeartbeats 4000000 in
theorem index_any (c : Int) (w : World) (hT : Tabs w) (c0 : 0 ≤ c) (c1 : c < 4294967296) :
    Calls Tryd.prog 76 #[.int .u32 c] w fun e w' => e = .returned (.tuple #[.int .u8 (idxV (idxI c)), .bool (idxB (idxI c))]) ∧ w' = w := by
  have HH : Hid (∀ j : Nat, j < 7 → (∀ i : Nat, i < j → hasI (fixI (249 + (i : Int))) c = false) → hasI (fixI (249 + (j : Int))) c = true → idxI c = 249 + (j : Int)) := by
    intro j hj hno hh
    refine idx_fix (by omega) (by omega) (by rw [off_fix (by omega) (by omega)]; exact hh) (fun y h1 h2 => ?_)
    rw [off_fix h1 (by omega)]
    have := hno (y - 249).toNat (by omega)
    rwa [show 249 + ((y - 249).toNat : Int) = y by omega] at this
  have HL : Hid ((∀ i : Nat, i < 7 → hasI (fixI (249 + (i : Int))) c = false) → idxI c = lowI c) := by
    intro hno
    refine idx_low (fun y h1 h2 => ?_)
    rw [off_fix h1 h2]
    have := hno (y - 249).toNat (by omega)
    rwa [show 249 + ((y - 249).toNat : Int) = y by omega] at this
  obtain ⟨x, hx⟩ : ∃ x, idxI c = x := ⟨_, rfl⟩
  rw [hx] at HH HL ⊢
  clear hx
  have HG : Hid (w.rangeAt 0 0 (fixL.map (Value.int .u32)) ∧ (Tryd.prog.info? 119).map (·.size) = some (fixL.map (Value.int .u32)).length) := ⟨range_of (fun i hi => by rw [Nat.zero_add, fixL_at hi]; exact hT.nm i hi), by rw [size7]; rfl⟩
  have HA : Hid (∀ j : Nat, j < 7 → ∀ w, (Instr.index 119 (.agg (fixL.map (Value.int .u32)).toArray) (.int .i64 (j : Int))).run Tryd.prog w = .ok (.int .u32 (fixI (249 + (j : Int)))) w) :=
    fun (j : Nat) hj w => run_index_u32 119 7 _ j _ w Tryd.underlying119 hj (by rw [← fixL_at hj]; exact map_at hj)
  have HO : Hid (∀ o : Int, 0 ≤ o → o < 4294967296 → ∀ w, Calls Tryd.prog 69 #[.int .u32 o, .int .u32 c] w fun e w' => e = .returned (.bool (hasI o c)) ∧ w' = w) := fun o h1 h2 w => holds_any o c w h1 h2 c0 c1
  obtain ⟨cs, hcs⟩ : ∃ cs, fixL.map (Value.int .u32) = cs := ⟨_, rfl⟩
  rw [hcs] at HG HA
  clear hcs hT
  go_enter Tryd.func76, Tryd.ntmps76
  go_upto_region 1 with fail
  go_wp2_with (refine wpList_load_mid rfl _ _ rfl 0 0 rfl cs _ HG.out.1 Tryd.underlying119 rfl HG.out.2 ?_)
  generalize cs.toArray = A at HA ⊢
  clear HG
  go_loopw [7] (fun i wr => ∃ (j : Nat), i = .int .i64 j ∧ j ≤ 7 ∧ (∀ i : Nat, i < j → hasI (fixI (249 + (i : Int))) c = false) ∧ wr = w) (fun i _ => 7 - (intOf i).toNat)
  case atStart => exact ⟨0, rfl, Nat.zero_le _, fun i hi => by omega, rfl⟩
  case round =>
    obtain ⟨j, rfl, hj, hno, hw⟩ := hrel
    subst hw
    have HNO : Hid (∀ i : Nat, i < j → hasI (fixI (249 + (i : Int))) c = false) := hno
    clear hno
    by_cases hj7 : j < 7
    · have hxi := HA.out j hj7 wr
      have i4 : (j : Int) < 7 := by omega
      have hrg := fix_rng (249 + (j : Int))
      have HJ : Hid (hasI (fixI (249 + (j : Int))) c = true → x = 249 + (j : Int)) := HH.out j hj7 HNO.out
      have HN : Hid (hasI (fixI (249 + (j : Int))) c = false → ∀ i : Nat, i < j + 1 → hasI (fixI (249 + (i : Int))) c = false) := fun h i hi => by
        by_cases e : i = j
        · rw [e]; exact h
        · exact HNO.out i (by omega)
      obtain ⟨F, hF⟩ : ∃ F, fixI (249 + (j : Int)) = F := ⟨_, rfl⟩
      rw [hF] at hxi hrg HJ HN
      clear hF HH HL HNO
      go_wp2_with fail
      refine (HO.out F (by omega) (by omega) wr).mono ?_
      rintro e w2 ⟨rfl, hw⟩
      rw [hw]
      clear hw w2 hxi
      by_cases hb : hasI F c = true
      · have HX : Hid (idxV x = 249 + (j : Int) ∧ idxB x = true) := by
          have := HJ.out hb
          subst this
          exact idx_yes (by omega)
        rw [hb]
        clear hb
        go_wp2
        go_ret2
        exact ⟨ret_bb HX.out.1.symm HX.out.2.symm, rfl⟩
      · have hb' := Bool.eq_false_iff.2 hb
        rw [hb']
        have HN' : Hid _ := HN.out hb'
        clear hb hb'
        go_wp2
        go_roundw
        case rel => exact ⟨j + 1, by go_num, by omega, HN'.out, trivial⟩
        case measure => simp [intOf]; omega
    · obtain rfl : j = 7 := by omega
      have HX : Hid (x = lowI c) := HL.out HNO.out
      clear HH HL HNO HA HO
      by_cases h1 : 128 ≤ c ∧ c < 13312
      · have HY : Hid (idxV x = c / 128 ∧ idxB x = true) := by
          rw [HX.out]; unfold lowI; rw [if_pos h1]; exact idx_yes (by omega)
        obtain ⟨h1, h2⟩ := h1
        have e1 : c / 128 < 256 := by omega
        go_wp2
        go_ret2
        exact ⟨ret_bb HY.out.1.symm HY.out.2.symm, rfl⟩
      · by_cases h2 : 57344 ≤ c ∧ c < 65536
        · have HY : Hid (idxV x = (c - 44032) / 128 ∧ idxB x = true) := by
            rw [HX.out]; unfold lowI; rw [if_neg h1, if_pos h2]; exact idx_yes (by omega)
          obtain ⟨h2, h3⟩ := h2
          have e1 : IntKind.u32.wrap (c - 44032) = c - 44032 := by rw [IntKind.wrap_u32]; omega
          have e2 : IntKind.u8.wrap ((c - 44032) / 128) = (c - 44032) / 128 := by rw [IntKind.wrap_u8]; omega
          have e3 : ¬ c < 13312 := by omega
          clear h1
          go_wp2
          go_ret2
          exact ⟨ret_bb HY.out.1.symm HY.out.2.symm, rfl⟩
        · have HY : Hid (idxV x = 0 ∧ idxB x = false) := by
            rw [HX.out]; unfold lowI; rw [if_neg h1, if_neg h2]; exact ⟨rfl, rfl⟩
          have HB : Hid (decide (128 ≤ c) = true → decide (c < 13312) = false) := fun h => by simp at h ⊢; omega
          by_cases h3 : 128 ≤ c
          · have h4 : ¬ c < 13312 := by omega
            by_cases h5 : 57344 ≤ c
            · have h6 : ¬ c < 65536 := by omega
              clear h1 h2
              go_wp2
              go_ret2
              exact ⟨ret_bb HY.out.1.symm HY.out.2.symm, rfl⟩
            · clear h1 h2
              go_wp2
              go_ret2
              exact ⟨ret_bb HY.out.1.symm HY.out.2.symm, rfl⟩
          · have h5 : ¬ 57344 ≤ c := by omega
            clear h1 h2
            go_wp2
            go_ret2
            exact ⟨ret_bb HY.out.1.symm HY.out.2.symm, rfl⟩
set_option maxHeartbeats 4000000 in
theorem find_any (b o : Nat) (c : Int) (offs used : List Int) (w : World) (h : WinV w b o offs used) (c0 : 0 ≤ c) (c1 : c < 4294967296) :
    Calls Tryd.prog 60 #[.pointer (some ⟨b, o, none⟩), .int .u32 c] w fun e w' => e = .returned (.tuple #[.int .i64 (idxV (findL offs c)), .bool (idxB (findL offs c))]) ∧ w' = w := by
  have hl := h.lo
  have HH : Hid (∀ j : Nat, j < 8 → (∀ i : Nat, i < j → hasI (nth offs i) c = false) → hasI (nth offs j) c = true → findL offs c = (j : Int)) := by
    intro j hj hno hh
    have := find_hit offs 0 j (by omega) hh hno
    rwa [Nat.zero_add] at this
  have HL : Hid ((∀ i : Nat, i < 8 → hasI (nth offs i) c = false) → findL offs c = -1) := fun hno => find_none offs 0 (fun j hj => hno j (by omega))
  obtain ⟨x, hx⟩ : ∃ x, findL offs c = x := ⟨_, rfl⟩
  rw [hx] at HH HL ⊢
  clear hx
  have HG : Hid (w.rangeAt b o (offs.map (Value.int .u32)) ∧ (Tryd.prog.info? 76).map (·.size) = some (offs.map (Value.int .u32)).length) := ⟨range_of (fun i hi => h.co i (by omega)), by rw [size8, List.length_map, hl]⟩
  have HA : Hid (∀ j : Nat, j < 8 → ∀ w, (Instr.index 76 (.agg (offs.map (Value.int .u32)).toArray) (.int .i64 (j : Int))).run Tryd.prog w = .ok (.int .u32 (nth offs j)) w) :=
    fun (j : Nat) hj w => run_index_u32 76 8 _ j _ w Tryd.underlying76 hj (map_at (by omega))
  have HW : Hid (∀ j : Nat, j < 8 → 0 ≤ nth offs j ∧ nth offs j < 4294967296) := h.wo
  have HO : Hid (∀ o : Int, 0 ≤ o → o < 4294967296 → ∀ w, Calls Tryd.prog 69 #[.int .u32 o, .int .u32 c] w fun e w' => e = .returned (.bool (hasI o c)) ∧ w' = w) := fun o h1 h2 w => holds_any o c w h1 h2 c0 c1
  obtain ⟨cs, hcs⟩ : ∃ cs, offs.map (Value.int .u32) = cs := ⟨_, rfl⟩
  rw [hcs] at HG HA
  clear hcs h hl
  go_enter Tryd.func60, Tryd.ntmps60
  go_upto_region 1 with fail
  go_wp2_with (refine wpList_load_mid rfl _ _ rfl b o rfl cs _ HG.out.1 Tryd.underlying76 rfl HG.out.2 ?_)
  generalize cs.toArray = A at HA ⊢
  clear HG
  go_loopw [12] (fun i wr => ∃ (j : Nat), i = .int .i64 j ∧ j ≤ 8 ∧ (∀ i : Nat, i < j → hasI (nth offs i) c = false) ∧ wr = w) (fun i _ => 8 - (intOf i).toNat)
  case atStart => exact ⟨0, rfl, Nat.zero_le _, fun i hi => by omega, rfl⟩
  case round =>
    obtain ⟨j, rfl, hj, hno, hw⟩ := hrel
    subst hw
    have HNO : Hid (∀ i : Nat, i < j → hasI (nth offs i) c = false) := hno
    clear hno
    by_cases hj8 : j < 8
    · have hxi := HA.out j hj8 wr
      have i4 : (j : Int) < 8 := by omega
      have hrg := HW.out j hj8
      have HJ : Hid (hasI (nth offs j) c = true → x = (j : Int)) := HH.out j hj8 HNO.out
      have HN : Hid (hasI (nth offs j) c = false → ∀ i : Nat, i < j + 1 → hasI (nth offs i) c = false) := fun h i hi => by
        by_cases e : i = j
        · rw [e]; exact h
        · exact HNO.out i (by omega)
      obtain ⟨F, hF⟩ : ∃ F, nth offs j = F := ⟨_, rfl⟩
      rw [hF] at hxi hrg HJ HN
      clear hF HH HL HNO
      go_wp2_with fail
      refine (HO.out F hrg.1 hrg.2 wr).mono ?_
      rintro e w2 ⟨rfl, hw⟩
      rw [hw]
      clear hw w2 hxi
      by_cases hb : hasI F c = true
      · have HX : Hid (idxV x = (j : Int) ∧ idxB x = true) := by
          have := HJ.out hb
          subst this
          exact idx_yes (by omega)
        rw [hb]
        clear hb
        go_wp2
        go_ret2
        exact ⟨ret_ib HX.out.1.symm HX.out.2.symm, rfl⟩
      · have hb' := Bool.eq_false_iff.2 hb
        rw [hb']
        have HN' : Hid _ := HN.out hb'
        clear hb hb'
        go_wp2
        go_roundw
        case rel => exact ⟨j + 1, by go_num, by omega, HN'.out, trivial⟩
        case measure => simp [intOf]; omega
    · obtain rfl : j = 8 := by omega
      have HX : Hid (idxV x = 0 ∧ idxB x = false) := idx_not (HL.out HNO.out)
      clear HH HL HNO HA HO
      go_wp2
      go_ret2
      exact ⟨ret_ib HX.out.1.symm HX.out.2.symm, rfl⟩
/-- The order under way: the others of the first ones, and what stood behind. -/
def midT (U : List Int) (n : Int) (j : Nat) : List Int := others (U.take j) n ++ U.drop (others (U.take j) n).length
def keptT (U : List Int) (n : Int) (j : Nat) : Nat := (others (U.take j) n).length
theorem mid_zero (U : List Int) (n : Int) : midT U n 0 = U ∧ keptT U n 0 = 0 := by
  unfold midT keptT; simp [others]
theorem kept_le (U : List Int) (n : Int) (j : Nat) : keptT U n j ≤ j := by
  unfold keptT others
  refine Nat.le_trans (List.length_filter_le _ _) ?_
  simp; omega
theorem others_snoc (l : List Int) (x n : Int) : others (l ++ [x]) n = if x = n then others l n else others l n ++ [x] := by
  unfold others
  rw [List.filter_append]
  by_cases h : x = n
  · simp [h]
  · simp [h]
theorem mid_same {U : List Int} {n : Int} {j : Nat} (hj : j < U.length) (h : nth U j = n) : midT U n (j + 1) = midT U n j ∧ keptT U n (j + 1) = keptT U n j := by
  have e : others (U.take (j + 1)) n = others (U.take j) n := by rw [take_snoc U j hj, others_snoc, if_pos h]
  unfold midT keptT; rw [e]; exact ⟨rfl, rfl⟩
theorem mid_next {U : List Int} {n : Int} {j : Nat} (hj : j < U.length) (h : ¬ nth U j = n) : midT U n (j + 1) = (midT U n j).set (keptT U n j) (nth U j) ∧ keptT U n (j + 1) = keptT U n j + 1 := by
  have e : others (U.take (j + 1)) n = others (U.take j) n ++ [nth U j] := by rw [take_snoc U j hj, others_snoc, if_neg h]
  have hk := kept_le U n j
  unfold keptT at hk
  refine ⟨?_, by unfold keptT; rw [e]; simp⟩
  unfold midT keptT
  rw [e, List.set_append_right _ _ (Nat.le_refl _), Nat.sub_self, drop_at U (others (List.take j U) n).length (by omega)]
  simp
theorem mid_len {U : List Int} {n : Int} {j : Nat} (hU : U.length = 8) (hj : j ≤ 8) : (midT U n j).length = 8 := by
  have hk := kept_le U n j
  unfold keptT at hk
  unfold midT; simp; omega
theorem mid_end {U : List Int} {n : Int} (h : Eight U) (h0 : 0 ≤ n) (h1 : n ≤ 7) : (midT U n 8).set 7 n = touchL U n ∧ keptT U n 8 = 7 := by
  have hl := others_len h h0 h1
  have e : U.take 8 = U := List.take_of_length_le (by rw [h.1]; omega)
  unfold midT keptT
  rw [e, hl]
  refine ⟨?_, rfl⟩
  rw [List.set_append_right _ _ (by omega), hl, Nat.sub_self, drop_at U 7 (by rw [h.1]; omega)]
  unfold touchL
  rw [if_pos ⟨h0, h1⟩]
  have : U.drop (7 + 1) = [] := List.drop_of_length_le (by rw [h.1]; omega)
  rw [this]; rfl
theorem touch_no (U : List Int) {n : Int} (h : n < 0 ∨ 7 < n) : touchL U n = U := by unfold touchL; rw [if_neg (by omega)]
set_option maxHeartbeats 8000000 in
set_option maxRecDepth 100000 in
theorem touch_any (b o : Nat) (n : Int) (offs used : List Int) (w : World) (h : WinV w b o offs used) (h8 : Eight used) :
    Calls Tryd.prog 72 #[.pointer (some ⟨b, o, none⟩), .int .i64 n] w fun e w' => e = .returned (.tuple #[]) ∧ WinV w' b o offs (touchL used n) ∧ Chg (footW b o) w w' ∧ w'.heap.size = w.heap.size := by
  by_cases hn : 0 ≤ n ∧ n ≤ 7
  · have HI : Hid (∀ w, Calls Tryd.prog 79 #[.int .i64 n] w fun e w' => e = .returned (.bool true) ∧ w' = w) := by have := is_any n; rwa [isW_yes hn.1 hn.2] at this
    have hl := h.lu
    have HG : Hid (w.rangeAt b (o + 8) (used.map (Value.int .i64)) ∧ (Tryd.prog.info? 77).map (·.size) = some (used.map (Value.int .i64)).length) := ⟨range_of (fun i hi => h.cu i (by omega)), by rw [size8i, List.length_map, hl]⟩
    have HA : Hid (∀ j : Nat, j < 8 → ∀ w, (Instr.index 77 (.agg (used.map (Value.int .i64)).toArray) (.int .i64 (j : Int))).run Tryd.prog w = .ok (.int .i64 (nth used j)) w) :=
      fun (j : Nat) hj w => run_index_i64 77 8 _ j _ w Tryd.underlying77 hj (map_at (by omega))
    have HV : Hid (WinV w b o offs used ∧ Eight used ∧ used.length = 8) := ⟨h, h8, hl⟩
    have HE : Hid ((midT used n 8).set 7 n = touchL used n ∧ keptT used n 8 = 7) := mid_end h8 hn.1 hn.2
    obtain ⟨cs, hcs⟩ : ∃ cs, used.map (Value.int .i64) = cs := ⟨_, rfl⟩
    rw [hcs] at HG HA
    clear hcs h hl h8
    obtain ⟨n0, n7⟩ := hn
    go_enter Tryd.func72, Tryd.ntmps72
    go_wp2_with fail
    refine (HI.out w).mono ?_
    rintro e w1 ⟨rfl, hw⟩
    subst hw
    go_upto_region 2 with fail
    go_wp2_with (refine wpList_load_mid rfl _ _ rfl b (o + 8) rfl cs _ HG.out.1 Tryd.underlying77 rfl HG.out.2 ?_)
    generalize cs.toArray = A at HA ⊢
    clear HG
    go_loopw [4, 14] (fun q i wr => ∃ (j : Nat), i = .int .i64 j ∧ q = .int .i64 (keptT used n j) ∧ j ≤ 8 ∧ WinV wr b o offs (midT used n j) ∧ Chg (footW b o) w1 wr ∧ wr.heap.size = w1.heap.size) (fun _ i _ => 8 - (intOf i).toNat)
    case atStart => exact ⟨0, rfl, by rw [(mid_zero used n).2]; rfl, Nat.zero_le _, by rw [(mid_zero used n).1]; exact HV.out.1, Chg.refl _ _, rfl⟩
    case round =>
      obtain ⟨j, rfl, rfl, hj, hO⟩ := hrel
      have HO : Hid (WinV wr b o offs (midT used n j) ∧ Chg (footW b o) w1 wr ∧ wr.heap.size = w1.heap.size) := hO
      clear hO
      have hkl := kept_le used n j
      by_cases hj8 : j < 8
      · have hxi := HA.out j hj8 wr
        have i4 : (j : Int) < 8 := by omega
        by_cases he : nth used j = n
        · have HM : Hid (midT used n (j + 1) = midT used n j ∧ keptT used n (j + 1) = keptT used n j) := mid_same (by rw [HV.out.2.2]; exact hj8) he
          rw [he] at hxi
          obtain ⟨K, hK⟩ : ∃ K, keptT used n j = K := ⟨_, rfl⟩
          rw [hK] at HM hkl ⊢
          clear he hK
          go_wp2
          go_roundw
          case rel => exact ⟨j + 1, by go_num, by rw [HM.out.2], by omega, by rw [HM.out.1]; exact HO.out⟩
          case measure => simp [intOf]; omega
        · have HM : Hid (midT used n (j + 1) = (midT used n j).set (keptT used n j) (nth used j) ∧ keptT used n (j + 1) = keptT used n j + 1) := mid_next (by rw [HV.out.2.2]; exact hj8) he
          have hc := HO.out.1.cu (keptT used n j) (by omega)
          have hf := HO.out.1.fr (o + 8 + keptT used n j)
          have HS : Hid (WinV (wr.setCell ⟨b, o + 8 + keptT used n j, none⟩ (.int .i64 (nth used j))) b o offs (midT used n (j + 1)) ∧ Chg (footW b o) w1 (wr.setCell ⟨b, o + 8 + keptT used n j, none⟩ (.int .i64 (nth used j))) ∧ (wr.setCell ⟨b, o + 8 + keptT used n j, none⟩ (.int .i64 (nth used j))).heap.size = w1.heap.size) :=
            ⟨by rw [HM.out.1]; exact HO.out.1.setU _ _ (by omega), HO.out.2.1.trans ((chg_setCell _ b _ _).mono (fun q i _ hq => ⟨hq.1, by omega, by omega⟩)), by simpa using HO.out.2.2⟩
          have HK : Hid (keptT used n (j + 1) = keptT used n j + 1) := HM.out.2
          obtain ⟨K, hK⟩ : ∃ K, keptT used n j = K := ⟨_, rfl⟩
          rw [hK] at hc hf HS HK hkl ⊢
          obtain ⟨X, hX⟩ : ∃ X, nth used j = X := ⟨_, rfl⟩
          rw [hX] at hxi HS he
          obtain ⟨Y, hY⟩ : ∃ Y, nth (midT used n j) K = Y := ⟨_, rfl⟩
          rw [hY] at hc
          clear hK hX hY HM
          have i5 : (K : Int) < 8 := by omega
          go_wp2
          go_roundw
          case rel => exact ⟨j + 1, by go_num, by rw [HK.out]; go_num, by omega, HS.out⟩
          case measure => simp [intOf]; omega
      · obtain rfl : j = 8 := by omega
        have hc := HO.out.1.cu 7 (by decide)
        have hf := HO.out.1.fr (o + 8 + 7)
        have HS : Hid (WinV (wr.setCell ⟨b, o + 8 + 7, none⟩ (.int .i64 n)) b o offs (touchL used n) ∧ Chg (footW b o) w1 (wr.setCell ⟨b, o + 8 + 7, none⟩ (.int .i64 n)) ∧ (wr.setCell ⟨b, o + 8 + 7, none⟩ (.int .i64 n)).heap.size = w1.heap.size) :=
          ⟨by rw [← HE.out.1]; exact HO.out.1.setU 7 n (by decide), HO.out.2.1.trans ((chg_setCell _ b _ _).mono (fun q i _ hq => ⟨hq.1, by omega, by omega⟩)), by simpa using HO.out.2.2⟩
        rw [HE.out.2]
        obtain ⟨Y, hY⟩ : ∃ Y, nth (midT used n 8) 7 = Y := ⟨_, rfl⟩
        rw [hY] at hc
        clear hY hkl HO
        go_wp2
        go_end0
        exact ⟨rfl, HS.out⟩
  · have HI : Hid (∀ w, Calls Tryd.prog 79 #[.int .i64 n] w fun e w' => e = .returned (.bool false) ∧ w' = w) := by have := is_any n; rwa [isW_no (by omega)] at this
    rw [touch_no used (by omega)]
    have HV : Hid (WinV w b o offs used) := h
    clear h hn
    go_enter Tryd.func72, Tryd.ntmps72
    go_wp2_with fail
    refine (HI.out w).mono ?_
    rintro e w1 ⟨rfl, hw⟩
    subst hw
    go_wp2
    refine bodyPost_ret (results_none rfl _ _ _) rfl ?_
    exact ⟨rfl, HV.out, Chg.refl _ _, rfl⟩
end Win
end Go.Proofs.YtpglmfhlgaliaaaDoor
