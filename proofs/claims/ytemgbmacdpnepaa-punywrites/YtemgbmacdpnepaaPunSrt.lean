/-
  slices.SortFunc with puny's own comparison: places by rising scalars, of one scalar by rising places; by the library's contract, laid at this program, and walks over the comparison. The condition: the places lie within the list.
-/
import Derived.Test.YtemgbmacdpnepaaCod
import Derived.Test.YtemgbmacdpnepaaFen2
import Derived.Test.YtemgbmacdpnepaaPunLay
import Derived.Lib.RowBridge
import Derived.Lib.SortBridge
import Derived.Deep.RegionHeld3
import Derived.Deep.CutBlock
namespace Go.Proofs.Ytemgbmacdpnepaa
open Go.ChangeShapes Go.WideShapes Go.ChangeAt Go.RowKit
namespace Pun
open Bas Cod Fen
set_option linter.unusedVariables false

/-- math/bits.Len tells how many bits a number takes. -/
theorem lenOK : LenOK := fun n w hn => by
  have h := Any.bits_Len (SlLaysF0.n15.bits (P := Try.prog) (ρ := Lay.sortL_ren) { Lay.sortL with }) (n : Int) w (by omega) (by omega)
  rw [Int.toNat_natCast] at h
  exact h
/-- Which of two numbers is less. -/
def cmpN (x y : Int) : Int := if x < y then -1 else if y < x then 1 else 0
theorem nanU_any (x : Int) (w : World) : Calls Try.prog 89 #[.int .u32 x] w fun e w' => e = .returned (.bool false) ∧ w' = w := by
  go_enter Try.func89, Try.ntmps89
  go_wp2
  go_ret
  exact ⟨rfl, rfl⟩
theorem nanI_any (x : Int) (w : World) : Calls Try.prog 90 #[.int .i64 x] w fun e w' => e = .returned (.bool false) ∧ w' = w := by
  go_enter Try.func90, Try.ntmps90
  go_wp2
  go_ret
  exact ⟨rfl, rfl⟩
set_option maxHeartbeats 1000000 in
theorem cpU_any (x y : Int) (w : World) : Calls Try.prog 69 #[.int .u32 x, .int .u32 y] w fun e w' => e = .returned (.int .i64 (cmpN x y)) ∧ w' = w := by
  unfold cmpN
  by_cases h1 : x < y
  · rw [if_pos h1]
    go_enter Try.func69, Try.ntmps69
    go_wp2_with (go_at_call 89; refine (nanU_any _ _).mono ?_; rintro e w' ⟨rfl, rfl⟩)
    go_ret
    exact ⟨rfl, rfl⟩
  · rw [if_neg h1]
    by_cases h2 : y < x
    · rw [if_pos h2]
      have h3 : x > y := h2
      go_enter Try.func69, Try.ntmps69
      go_wp2_with (go_at_call 89; refine (nanU_any _ _).mono ?_; rintro e w' ⟨rfl, rfl⟩)
      go_ret
      exact ⟨rfl, rfl⟩
    · rw [if_neg h2]
      have h3 : ¬ x > y := h2
      go_enter Try.func69, Try.ntmps69
      go_wp2_with (go_at_call 89; refine (nanU_any _ _).mono ?_; rintro e w' ⟨rfl, rfl⟩)
      go_ret
      exact ⟨rfl, rfl⟩
set_option maxHeartbeats 1000000 in
theorem cpI_any (x y : Int) (w : World) : Calls Try.prog 70 #[.int .i64 x, .int .i64 y] w fun e w' => e = .returned (.int .i64 (cmpN x y)) ∧ w' = w := by
  unfold cmpN
  by_cases h1 : x < y
  · rw [if_pos h1]
    go_enter Try.func70, Try.ntmps70
    go_wp2_with (go_at_call 90; refine (nanI_any _ _).mono ?_; rintro e w' ⟨rfl, rfl⟩)
    go_ret
    exact ⟨rfl, rfl⟩
  · rw [if_neg h1]
    by_cases h2 : y < x
    · rw [if_pos h2]
      have h3 : x > y := h2
      go_enter Try.func70, Try.ntmps70
      go_wp2_with (go_at_call 90; refine (nanI_any _ _).mono ?_; rintro e w' ⟨rfl, rfl⟩)
      go_ret
      exact ⟨rfl, rfl⟩
    · rw [if_neg h2]
      have h3 : ¬ x > y := h2
      go_enter Try.func70, Try.ntmps70
      go_wp2_with (go_at_call 90; refine (nanI_any _ _).mono ?_; rintro e w' ⟨rfl, rfl⟩)
      go_ret
      exact ⟨rfl, rfl⟩
/-- The first of two numbers that isn't 0. -/
def orN (x y : Int) : Int := if x ≠ 0 then x else y
set_option maxHeartbeats 2000000 in
theorem or_any (g : Nat) (x y : Int) (w : World) (h0 : w.cell? ⟨g, 0, none⟩ = some (.int .i64 x)) (h1 : w.cell? ⟨g, 1, none⟩ = some (.int .i64 y)) :
    Calls Try.prog 68 #[.slice (some ⟨g, 0, none⟩) 2 2] w fun e w' => e = .returned (.int .i64 (orN x y)) ∧ w' = w := by
  unfold orN
  by_cases hx : x = 0
  · subst hx
    rw [if_neg (by simp)]
    by_cases hy : y = 0
    · subst hy
      go_enter Try.func68, Try.ntmps68
      go_wp2
      refine wp_loop_rounds 3 ?_
      rw [rounds_succ]
      go_wp2
      rw [rounds_succ]
      go_wp2
      rw [rounds_succ]
      go_wp2
      go_ret
      exact ⟨rfl, rfl⟩
    · have hy2 : (y == 0) = false := by simpa using hy
      go_enter Try.func68, Try.ntmps68
      go_wp2
      refine wp_loop_rounds 2 ?_
      rw [rounds_succ]
      go_wp2
      rw [rounds_succ]
      go_wp2
      go_ret
      exact ⟨rfl, rfl⟩
  · rw [if_pos hx]
    have hx2 : (x == 0) = false := by simpa using hx
    go_enter Try.func68, Try.ntmps68
    go_wp2
    refine wp_loop_rounds 1 ?_
    rw [rounds_succ]
    go_wp2
    go_ret
    exact ⟨rfl, rfl⟩
/-- By rising scalars, then by rising places. -/
def cfN (L : List Int) (a b : Nat) : Int := orN (cmpN (nth L a) (nth L b)) (cmpN a b)
theorem cfN_lt (L : List Int) (a b : Nat) : cfN L a b < 0 ↔ nth L a < nth L b ∨ (nth L a = nth L b ∧ a < b) := by
  unfold cfN orN cmpN
  repeat' split
  all_goals omega
theorem grow_alloc (w : World) (o : Obj) : w.alloc o = Sort.grow w #[o] := by
  unfold Sort.grow World.alloc
  simp
set_option maxHeartbeats 4000000 in
set_option maxRecDepth 100000 in
theorem clo_any (c : Nat) (al : Option Addr) (n cl : Nat) (L : List Int) (a b : Nat) (w : World) (hc : w.cell? ⟨c, 0, none⟩ = some (.slice al n cl)) (hr : Row .u32 w al L) (hl : L.length = n) (ha : a < n) (hb : b < n) :
    Calls Try.prog 67 #[.int .i64 a, .int .i64 b, .pointer (some ⟨c, 0, none⟩)] w fun e w' => e = .returned (.int .i64 (cfN L a b)) ∧ ∃ q os, w' = Sort.grow (w.drewN q) os := by
  obtain ⟨bl, of, hal, hcell⟩ := hr
  obtain rfl := hal (by intro e; rw [e] at hl; simp at hl; omega)
  have hca := hcell a (by omega)
  have hcb := hcell b (by omega)
  obtain ⟨x, hx⟩ : ∃ x, nth L a = x := ⟨_, rfl⟩
  obtain ⟨y, hy⟩ : ∃ y, nth L b = y := ⟨_, rfl⟩
  have HF : Hid (cfN L a b = orN (cmpN x y) (cmpN a b)) := by show _ = _; unfold cfN; rw [hx, hy]
  rw [hx] at hca
  rw [hy] at hcb
  rw [HF.out]
  have hF : w.drew.cell? ⟨c, 0, none⟩ = some (.slice (some ⟨bl, of, none⟩) n cl) ∧ w.drew.cell? ⟨bl, of + a, none⟩ = some (.int .u32 x) ∧ w.drew.cell? ⟨bl, of + b, none⟩ = some (.int .u32 y) := by
    simp only [World.cell?_drew]; exact ⟨hc, hca, hcb⟩
  have i1 : (a : Int) < (n : Int) := by omega
  have i2 : (b : Int) < (n : Int) := by omega
  obtain ⟨u, hu⟩ : ∃ u, cmpN x y = u := ⟨_, rfl⟩
  obtain ⟨v, hv⟩ : ∃ v, cmpN (a : Int) (b : Int) = v := ⟨_, rfl⟩
  have HU : Hid (∀ w, Calls Try.prog 69 #[.int .u32 x, .int .u32 y] w fun e w' => e = .returned (.int .i64 u) ∧ w' = w) := fun w => by have := cpU_any x y w; rw [hu] at this; exact this
  have HV : Hid (∀ w, Calls Try.prog 70 #[.int .i64 (a : Int), .int .i64 (b : Int)] w fun e w' => e = .returned (.int .i64 v) ∧ w' = w) := fun w => by have := cpI_any a b w; rw [hv] at this; exact this
  rw [hu, hv]
  clear hu hv hx hy hcell hal hca hcb hc HF
  go_enter Try.func67, Try.ntmps67
  go_upto_region 1 with fail
  go_region_held3 (fun w' => w'.cell? ⟨c, 0, none⟩ = some (.slice (some ⟨bl, of, none⟩) n cl) ∧ w'.cell? ⟨bl, of + a, none⟩ = some (.int .u32 x) ∧ w'.cell? ⟨bl, of + b, none⟩ = some (.int .u32 y)) (first | exact hF | exact ⟨cell_later ((Below.refl _ _).alloc (Nat.le_refl _) _) hF.1, cell_later ((Below.refl _ _).alloc (Nat.le_refl _) _) hF.2.1, cell_later ((Below.refl _ _).alloc (Nat.le_refl _) _) hF.2.2⟩) (first
    | (go_at_call 69; refine (HU.out _).mono ?_; rintro e w5 ⟨rfl, rfl⟩)
    | (go_at_call 70; refine (HV.out _).mono ?_; rintro e w5 ⟨rfl, rfl⟩)
    | (go_at_call 68; refine (or_any _ u v _ (by rw [World.cell?_drew, World.cell?_alloc_at _ _ _ _ (by rfl)]; rfl) (by rw [World.cell?_drew, World.cell?_alloc_at _ _ _ _ (by rfl)]; rfl)).mono ?_; rintro e w6 ⟨rfl, rfl⟩))
  go_wp2
  go_ret
  exact ⟨rfl, 1, _, by rw [grow_alloc]; rfl⟩
/-- Places within a list. -/
abbrev Plc (n : Nat) : Type := { k : Nat // k < n }
/-- .. as values. -/
def encP {n : Nat} (x : Plc n) : Value := .int .i64 (x.val : Int)
/-- .. compared. -/
def cfP (L : List Int) {n : Nat} (x y : Plc n) : Int := cfN L x.val y.val
theorem cfP_lt (L : List Int) {n : Nat} (x y : Plc n) : ltOf (cfP L) x y = decide (nth L x.val < nth L y.val ∨ (nth L x.val = nth L y.val ∧ x.val < y.val)) := by
  unfold ltOf cfP
  rw [decide_eq_decide]
  exact cfN_lt L x.val y.val
theorem cfP_swo (L : List Int) (n : Nat) : Sort.SWO (ltOf (cfP L (n := n))) where
  irrefl x := by rw [cfP_lt]; simp
  trans x y z h1 h2 := by rw [cfP_lt] at *; simp at *; omega
  ntrans x y z h1 h2 := by rw [cfP_lt] at *; simp at *; omega
theorem cfP_tot (L : List Int) (n : Nat) (x y : Plc n) (h1 : ltOf (cfP L) x y = false) (h2 : ltOf (cfP L) y x = false) : x = y := by
  rw [cfP_lt] at h1 h2
  simp at h1 h2
  exact Subtype.ext (by omega)
/-- The order of places. -/
def befP (L : List Int) (a b : Nat) : Prop := nth L a < nth L b ∨ (nth L a = nth L b ∧ a < b)
/-- Places put in order. -/
structure Sorted (L : List Int) (O O' : List Nat) : Prop where
  perm : O'.Perm O
  ord : O.Nodup → O'.Pairwise (befP L)
theorem sorted_of (L : List Int) {n : Nat} (O : List (Plc n)) : Sorted L (O.map Subtype.val) ((O.mergeSort fun x y => !(ltOf (cfP L)) y x).map Subtype.val) := by
  refine ⟨(List.mergeSort_perm O _).map _, fun hnd => ?_⟩
  have hp := List.pairwise_mergeSort (le := fun x y => !(ltOf (cfP L (n := n))) y x)
    (fun x y z h1 h2 => by rw [cfP_lt] at *; simp at *; omega) (fun x y => by rw [cfP_lt, cfP_lt]; simp; omega) O
  have hn : (O.mergeSort fun x y => !(ltOf (cfP L)) y x).Nodup := by
    refine (List.mergeSort_perm O _).symm.nodup ?_
    have h1 := List.pairwise_iff_getElem.1 (List.pairwise_map.1 hnd)
    exact List.pairwise_iff_getElem.2 (fun i j hi hj hij e => h1 i j hi hj hij (congrArg Subtype.val e))
  rw [List.pairwise_map]
  refine List.pairwise_iff_getElem.2 (fun i j hi hj hij => ?_)
  have h1 := List.pairwise_iff_getElem.1 hp i j hi hj hij
  have h2 := List.pairwise_iff_getElem.1 hn i j hi hj hij
  revert h1 h2
  generalize (O.mergeSort fun x y => !(ltOf (cfP L)) y x)[i] = x
  generalize (O.mergeSort fun x y => !(ltOf (cfP L)) y x)[j] = y
  intro h1 h2
  rw [cfP_lt] at h1
  simp at h1
  have hne : x.val ≠ y.val := fun e => h2 (Subtype.ext e)
  unfold befP
  omega
theorem chg_grow (S : Nat → Nat → Prop) (w : World) (os : Array Obj) : Chg S w (Sort.grow w os) := by
  have hb : ∀ k, k < w.heap.size → (Sort.grow w os).heap[k]? = w.heap[k]? := fun k hk => Sort.heap_grow_old w os hk
  exact ⟨rfl, rfl, rfl, by simp [Sort.grow], fun k hk _ => hb k hk, fun k o hk _ => World.cell?_of_block (hb k hk), fun k o hk => World.frozen?_of_block (hb k hk), fun k o hk hs => by rw [World.cell?_of_block (hb k hk)]; exact hs⟩
/-- Places as numbers. -/
def natL (O : List Nat) : List Int := O.map Int.ofNat
theorem natL_len (O : List Nat) : (natL O).length = O.length := by simp [natL]
/-- The place at a place. -/
def plA (O : List Nat) (k : Nat) : Nat := O[k]?.getD 0
theorem natL_nth (O : List Nat) {k : Nat} (h : k < O.length) : nth (natL O) k = (plA O k : Int) := by simp [nth, natL, plA, h]
/-- What sorting changes. -/
theorem chg_sorted {n : Nat} [Inhabited (Plc n)] (w : World) (blk off q : Nat) (d dk : Array (Plc n)) (os : Array Obj) (hH : Sort.Holds encP w blk off d) (hs : dk.size = d.size) :
    sortWorld encP w blk off q dk os = Sort.grow ((w.drewN q).setCells blk off (dk.toList.map encP)) os ∧ Chg (fun k j => k = blk ∧ off ≤ j ∧ j < off + dk.size) w (sortWorld encP w blk off q dk os) := by
  have e : sortWorld encP w blk off q dk os = Sort.grow ((w.drewN q).setCells blk off (dk.toList.map encP)) os := by
    have := Lib.sorted_world encP w blk off q d dk.toList os hH (by simpa using hs)
    rw [← this]
    rfl
  refine ⟨e, ?_⟩
  rw [e]
  have h1 : Chg (fun k j => k = blk ∧ off ≤ j ∧ j < off + dk.size) w (w.drewN q) := (Chg.refl _ _).drewN q
  have h2 := chg_setCells (w.drewN q) blk off (dk.toList.map encP)
  exact (h1.trans2 h2 (fun _ _ _ h => h) (fun k j _ h => ⟨h.1, h.2.1, by have := h.2.2; simpa using this⟩)).trans (chg_grow _ _ _)

set_option maxHeartbeats 2000000 in
set_option maxRecDepth 100000 in
/-- Places are sorted. -/
theorem sort_any (c : Nat) (al : Option Addr) (n cl : Nat) (L : List Int) (v : Value) (O : List Nat) (w : World) (hc : w.cell? ⟨c, 0, none⟩ = some (.slice al n cl)) (hr : Row .u32 w al L) (hl : L.length = n) (hO : Seg .i64 w v (natL O)) (hin : ∀ k ∈ O, k < n)
    (hv1 : v.ownBlock ≠ some c) (hv2 : ∀ b o, al = some ⟨b, o, none⟩ → v.ownBlock ≠ some b) (hsz : O.length ≤ 1000000) :
    Calls Try.prog 66 #[v, .func (.func 67) #[] #[.pointer (some ⟨c, 0, none⟩)]] w fun e w' => e = .returned (.tuple #[]) ∧ ∃ O', Sorted L O O' ∧ Seg .i64 w' v (natL O') ∧ Chg (fun k _ => v.ownBlock = some k) w w' := by
  by_cases h0 : O = []
  · subst h0
    obtain ⟨a, cp, rfl, -⟩ := hO.form
    have hS := AnyF.slices_SortFunc_none (P := Try.prog) (ρ := Lay.sortL_ren) { Lay.sortL with } a cp (.func (.func 67) #[] #[.pointer (some ⟨c, 0, none⟩)]) w
    refine Calls.mono (show Calls Try.prog 66 _ _ _ from hS) ?_
    rintro e w' ⟨rfl, rfl⟩
    exact ⟨rfl, [], ⟨List.Perm.refl _, fun _ => List.Pairwise.nil⟩, hO, Chg.refl _ _⟩
  · have hp : 0 < O.length := List.length_pos_iff.2 h0
    have hn : 0 < n := by
      cases O with
      | nil => exact absurd rfl h0
      | cons x r => have := hin x (by simp); omega
    have hinh : Inhabited (Plc n) := ⟨⟨0, hn⟩⟩
    rcases hO with ⟨_, he⟩ | ⟨g, off, cap, rfl, hg, h1, h2, h3, h4, h5⟩
    · exact absurd (List.length_eq_zero_iff.1 (by rw [← natL_len, he]; rfl)) h0
    obtain ⟨D, hD⟩ : ∃ D : List (Plc n), D.map Subtype.val = O := ⟨O.attach.map (fun k => ⟨k.val, hin k.val k.property⟩), by simp⟩
    have hDl : D.length = O.length := by rw [← hD]; simp
    have hH : Sort.Holds (encP (n := n)) w g off D.toArray := by
      intro j hj
      have hj' : j < D.length := by simpa using hj
      have := h3 j (by rw [natL_len]; omega)
      refine ⟨?_, h5 _⟩
      rw [this, natL_nth O (by omega), ← hD]
      simp [plA, encP, hj']
    have hcmp : CmpLays1 Try.prog 67 #[.pointer (some ⟨c, 0, none⟩)] (encP (n := n)) (cfP L (n := n)) g off D.toArray.size w := by
      intro m os dk hdk x y
      have hch := (chg_sorted w g off m D.toArray dk os hH hdk).2
      have hc' := hch.cellAt hc (fun hh => hv1 (by simp [Value.ownBlock, hh.1]))
      have hr' := hr.chg hch (fun b o e j hh => hv2 b o e (by simp [Value.ownBlock, hh.1]))
      exact clo_any c al n cl L x.val y.val _ hc' hr' hl x.property y.property
    have eg : ∀ args w, (callFunc 67 args).run Try.prog w = .ok (.enter 67 args) w := enters_of Try.func67 (by kernel_rfl) rfl
    have hS := Any.slices_SortFunc_total Lay.sortL (encP (n := n)) (fun _ => rfl) (cfP L (n := n)) (cfP_swo L n) 67 #[.pointer (some ⟨c, 0, none⟩)] g off cap D.toArray w eg hcmp hH hg (by simp; omega) (cfP_tot L n)
    have e1 : D.toArray.size = (natL O).length := by rw [natL_len]; simp [hDl]
    rw [e1] at hS
    refine Calls.mono (show Calls Try.prog 66 _ _ _ from hS) ?_
    rintro e w' ⟨rfl, q, os, hw⟩
    obtain ⟨D', hD'⟩ : ∃ D', D.toArray.toList.mergeSort (fun x y => !(ltOf (cfP L)) y x) = D' := ⟨_, rfl⟩
    rw [hD'] at hw
    have hso := sorted_of L D
    rw [hD, show D.mergeSort (fun x y => !(ltOf (cfP L)) y x) = D' from hD'] at hso
    have hl' : D'.length = D.length := by rw [← hD', List.length_mergeSort]
    obtain ⟨ew, hch⟩ := chg_sorted w g off q D.toArray D'.toArray os hH (by simp [hl'])
    rw [hw]
    refine ⟨rfl, D'.map Subtype.val, hso, ?_, hch.mono (fun k j _ hh => by simp [Value.ownBlock, hh.1])⟩
    have hlen : (D'.map Subtype.val).length = O.length := by simp [hl', hDl]
    rw [natL_len] at h1
    refine .inr ⟨g, off, cap, by rw [natL_len, natL_len, hlen], Nat.lt_of_lt_of_le hg hch.size, by rw [natL_len, hlen]; exact h1, h2, fun i hi => ?_, fun i hi => hch.there g _ hg (h4 i hi), fun o => (hch.frozen g o hg).trans (h5 o)⟩
    rw [natL_len] at hi
    have hi' : i < D'.length := by simpa using hi
    rw [natL_nth _ hi]
    have h7 := World.cell?_setCells_in g (D'.map encP) off (w.drewN q) (fun j hj => h4 j (by simp at hj; omega)) i (by simpa using hi')
    rw [ew]
    rw [Sort.cell?_grow _ os _ (by show g < _; have := (chg_setCells (w.drewN q) g off (D'.map encP)).size; exact Nat.lt_of_lt_of_le hg this)]
    rw [show D'.toArray.toList = D' from rfl, h7]
    simp [plA, encP, hi']
end Pun
end Go.Proofs.Ytemgbmacdpnepaa
