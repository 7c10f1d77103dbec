/-
  The document's Windows of layer 13 in memory, and the contracts of their calls, as walks over the translated text. No condition.
-/
import Derived.Test.YtgjmnghgpjfjmaaDoorWinRf1
namespace Go.Proofs.YtgjmnghgpjfjmaaDoor
open Go.ChangeShapes Go.WideShapes Go.ChangeAt Go.RowKit
namespace Win
open Bas
set_option linter.unusedVariables false

/-- The document's Windows in block b: its two slices lie in blocks above p, apart from b, and from each other. -/
structure RWin (w : World) (p b : Nat) (vo vu : Value) (offs used : List Int) : Prop where
  lo : offs.length = 8
  lu : used.length = 8
  c0 : w.cell? ⟨b, 0, none⟩ = some vo
  c1 : w.cell? ⟨b, 1, none⟩ = some vu
  fb : ∀ i : Nat, w.frozen? ⟨b, i, none⟩ = false
  so : Seg .u32 w vo offs
  su : Seg .i64 w vu used
  pb : p < b
  go : ∀ g, vo.ownBlock = some g → p < g ∧ g ≠ b
  gu : ∀ g, vu.ownBlock = some g → p < g ∧ g ≠ b
  ap : ∀ g, vo.ownBlock = some g → vu.ownBlock = some g → False
theorem RWin.lt {w : World} {p b : Nat} {vo vu : Value} {offs used : List Int} (h : RWin w p b vo vu offs used) : b < w.heap.size := World.block_lt_of_cell? w _ h.c0
theorem RWin.chg {S : Nat → Nat → Prop} {w w' : World} {p b : Nat} {vo vu : Value} {offs used : List Int} (h : RWin w p b vo vu offs used) (hc : Chg S w w') (hS : ∀ k j, S k j → k ≤ p) : RWin w' p b vo vu offs used :=
  ⟨h.lo, h.lu, hc.cellAt h.c0 (fun hh => by have := hS _ _ hh; have := h.pb; omega), hc.cellAt h.c1 (fun hh => by have := hS _ _ hh; have := h.pb; omega), fun i => (hc.frozen b i h.lt).trans (h.fb i),
   h.so.chg hc (fun g o hg hh => by have := hS _ _ hh; have := (h.go g hg).1; omega), h.su.chg hc (fun g o hg hh => by have := hS _ _ hh; have := (h.gu g hg).1; omega), h.pb, h.go, h.gu, h.ap⟩
theorem RWin.below {w w' : World} {p b : Nat} {vo vu : Value} {offs used : List Int} (h : RWin w p b vo vu offs used) (hb : Below w.heap.size w w') : RWin w' p b vo vu offs used :=
  h.chg (chg_of_below hb (Nat.le_refl _) (fun _ _ => False)) (fun _ _ h => h.elim)
theorem RWin.drewN {w : World} {p b : Nat} {vo vu : Value} {offs used : List Int} (h : RWin w p b vo vu offs used) (n : Nat) : RWin (w.drewN n) p b vo vu offs used := h.below (below_dn w n)
/-- A slice of eight numbers, opened. -/
theorem seg_open {k : IntKind} {w : World} {v : Value} {l : List Int} (h : Seg k w v l) (hl : l.length = 8) :
    ∃ g of c, v = .slice (some ⟨g, of, none⟩) 8 c ∧ ∀ i : Nat, i < 8 → w.cell? ⟨g, of + i, none⟩ = some (.int k (nth l i)) ∧ w.frozen? ⟨g, of + i, none⟩ = false := by
  rcases h with ⟨_, rfl⟩ | ⟨g, off, cap, hv, hg, h1, h2, h3, h4, h5⟩
  · simp at hl
  · rw [hl] at hv h3
    exact ⟨g, off, cap, hv, fun i hi => ⟨h3 i hi, h5 _⟩⟩
set_option maxHeartbeats 1000000 in
theorem rNew_any (w : World) (p : Nat) (hp : p < w.heap.size) : Calls Tryd.prog 22 #[] w fun e w' => ∃ b vo vu, e = .returned (.pointer (some ⟨b, 0, none⟩)) ∧ RWin w' p b vo vu firstL8 used0 ∧ Below w.heap.size w w' := by
  have HP : Hid (p < w.heap.size) := hp
  clear hp
  go_enter Tryd.func22, Tryd.ntmps22
  go_wp2_with fail
  refine (rFirsts_any w).mono ?_
  rintro e w1 ⟨rfl, hs, hB, hz⟩
  obtain ⟨g, hg⟩ : ∃ g, w.heap.size = g := ⟨_, rfl⟩
  have HS : Hid (Seg .u32 w1 (.slice (some ⟨g, 0, none⟩) 8 8) firstL8 ∧ Below w.heap.size w w1 ∧ w1.heap.size = g + 1 ∧ w.heap.size = g) := ⟨by rw [← hg]; exact hs, hB, by rw [← hg]; exact hz, hg⟩
  rw [hg]
  clear hs hB hz hg
  go_wp2
  go_ret
  have hz := HS.out.2.2.1
  obtain ⟨W, hW⟩ : ∃ W, w1.alloc (.cells (used0.map (Value.int .i64)).toArray 3) = W := ⟨_, rfl⟩
  have hW2 : w1.alloc (.cells #[.int .i64 7, .int .i64 6, .int .i64 5, .int .i64 4, .int .i64 3, .int .i64 2, .int .i64 1, .int .i64 0] 3) = W := hW
  have hu : Seg .i64 W (.slice (some ⟨w1.heap.size, 0, none⟩) 8 8) used0 := by rw [← hW]; exact seg_new .i64 w1 used0 3 rfl (by decide)
  have b1 : Below w1.heap.size w1 W := by rw [← hW]; exact (Below.refl _ _).alloc (Nat.le_refl _) _
  have zW : W.heap.size = w1.heap.size + 1 := by rw [← hW]; simp
  rw [hW2]
  have b2 : ∀ o, Below W.heap.size W (W.alloc o) := fun o => (Below.refl _ _).alloc (Nat.le_refl _) o
  have ho := HS.out.1
  have hp := HP.out
  have hg := HS.out.2.2.2
  refine ⟨_, _, _, rfl, ⟨rfl, rfl, by rw [World.cell?_alloc_at _ _ _ _ (by omega)]; rfl, by rw [World.cell?_alloc_at _ _ _ _ (by omega)]; rfl, fun i => ?_, ?_, ?_, by omega, fun g' hg' => ?_, fun g' hg' => ?_, fun g' h1 h2 => ?_⟩, below_two HS.out.2.1 (below_two b1 (b2 _))⟩
  · rw [show w1.heap.size + 1 = W.heap.size by omega]; simp
  · exact (ho.chg (chg_of_below b1 (Nat.le_refl _) (fun _ _ => False)) (fun _ _ _ h => h)).chg (chg_of_below (b2 _) (Nat.le_refl _) (fun _ _ => False)) (fun _ _ _ h => h)
  · exact hu.chg (chg_of_below (b2 _) (Nat.le_refl _) (fun _ _ => False)) (fun _ _ _ h => h)
  · simp [Value.ownBlock] at hg'; omega
  · simp [Value.ownBlock] at hg'; omega
  · simp [Value.ownBlock] at h1 h2; omega
set_option maxHeartbeats 4000000 in
theorem rFind_any (p b : Nat) (c : Int) (vo vu : Value) (offs used : List Int) (w : World) (h : RWin w p b vo vu offs used) (hw : ∀ i : Nat, i < 8 → 0 ≤ nth offs i ∧ nth offs i < 4294967296) (c0 : 0 ≤ c) (c1 : c < 4294967296) :
    Calls Tryd.prog 27 #[.pointer (some ⟨b, 0, none⟩), .int .u32 c] w fun e w' => e = .returned (.int .i64 (findL offs c)) ∧ w' = w := by
  have hl := h.lo
  have HH : Hid (∀ j : Nat, j < 8 → (∀ i : Nat, i < j → hasI (nth offs i) c = false) → hasI (nth offs j) c = true → findL offs c = (j : Int)) := by
    intro j hj hno hh
    have := find_hit offs 0 j (by omega) hh hno
    rwa [Nat.zero_add] at this
  have HL : Hid ((∀ i : Nat, i < 8 → hasI (nth offs i) c = false) → findL offs c = -1) := fun hno => find_none offs 0 (fun j hj => hno j (by omega))
  obtain ⟨x, hx⟩ : ∃ x, findL offs c = x := ⟨_, rfl⟩
  rw [hx] at HH HL ⊢
  clear hx
  have HW : Hid (∀ j : Nat, j < 8 → 0 ≤ nth offs j ∧ nth offs j < 4294967296) := hw
  have HO : Hid (∀ o : Int, 0 ≤ o → o < 4294967296 → ∀ w, Calls Tryd.prog 14 #[.int .u32 o, .int .u32 c] w fun e w' => e = .returned (.bool (hasI o c)) ∧ w' = w) := fun o h1 h2 w => rHolds_any o c w h1 h2 c0 c1
  obtain ⟨g, of, cp, hv, hcs⟩ := seg_open h.so hl
  have d0 := h.c0
  rw [hv] at d0
  have HC : Hid (∀ i : Nat, i < 8 → w.cell? ⟨g, of + i, none⟩ = some (.int .u32 (nth offs i))) := fun i hi => (hcs i hi).1
  clear h hl hv hcs hw
  go_enter Tryd.func27, Tryd.ntmps27
  go_wp2
  go_loopw [5] (fun i wr => ∃ (j : Nat), i = .int .i64 j ∧ j ≤ 8 ∧ (∀ i : Nat, i < j → hasI (nth offs i) c = false) ∧ wr = w) (fun i _ => 8 - (intOf i).toNat)
  case atStart => exact ⟨0, rfl, Nat.zero_le _, fun i hi => by omega, rfl⟩
  case round =>
    obtain ⟨j, rfl, hj, hno, hw⟩ := hrel
    subst hw
    have HNO : Hid (∀ i : Nat, i < j → hasI (nth offs i) c = false) := hno
    clear hno
    by_cases hj8 : j < 8
    · have hxi := HC.out j hj8
      have i4 : (j : Int) < 8 := by omega
      have hrg := HW.out j hj8
      have HJ : Hid (hasI (nth offs j) c = true → x = (j : Int)) := HH.out j hj8 HNO.out
      have HN : Hid (hasI (nth offs j) c = false → ∀ i : Nat, i < j + 1 → hasI (nth offs i) c = false) := fun h i hi => by
        by_cases e : i = j
        · rw [e]; exact h
        · exact HNO.out i (by omega)
      obtain ⟨F, hF⟩ : ∃ F, nth offs j = F := ⟨_, rfl⟩
      rw [hF] at hxi hrg HJ HN
      clear hF HH HL HNO
      go_wp2_with fail
      refine (HO.out F hrg.1 hrg.2 wr).mono ?_
      rintro e w2 ⟨rfl, hw⟩
      rw [hw]
      clear hw w2 hxi
      by_cases hb : hasI F c = true
      · have HX : Hid (x = (j : Int)) := HJ.out hb
        rw [hb]
        clear hb
        go_wp2
        go_ret
        exact ⟨ret_int HX.out.symm, rfl⟩
      · have hb' := Bool.eq_false_iff.2 hb
        rw [hb']
        have HN' : Hid _ := HN.out hb'
        clear hb hb'
        go_wp2
        go_roundw
        case rel => exact ⟨j + 1, by go_num, by omega, HN'.out, trivial⟩
        case measure => simp [intOf]; omega
    · obtain rfl : j = 8 := by omega
      have HX : Hid (x = -1) := HL.out HNO.out
      clear HH HL HNO HO HC HW d0
      go_wp2
      go_ret
      exact ⟨ret_int HX.out.symm, rfl⟩
/-- The order under way, in new memory. -/
def OutI (w wr : World) (o : Value) (t : List Int) : Prop := Seg .i64 wr o t ∧ (∀ g, o.ownBlock = some g → w.heap.size ≤ g) ∧ Below w.heap.size w wr
theorem OutI.below {w wr w2 : World} {o : Value} {t : List Int} (h : OutI w wr o t) (b : Below wr.heap.size wr w2) : OutI w w2 o t :=
  ⟨h.1.chg (chg_of_below b (Nat.le_refl _) (fun _ _ => False)) (fun _ _ _ h => h), h.2.1, below_two h.2.2 b⟩
theorem OutI.app {w wr w2 w3 : World} {o o' : Value} {t t' : List Int} (h : OutI w wr o t) (b : Below wr.heap.size wr w2) (hs : Seg .i64 w3 o' t') (hc : Chg (fun b _ => o.ownBlock = some b) w2 w3) (hm : Mov w2 o o') : OutI w w3 o' t' := by
  have hz := h.2.2.size
  have hb := below_two h.2.2 b
  refine ⟨hs, fun g hg => ?_, hb.trans (hc.below (by have := b.size; omega) (fun k j hk hh => by have := h.2.1 k hh; omega))⟩
  rcases hm g hg with e | e
  · exact h.2.1 g e
  · have := b.size; omega
theorem touch_fin {p b : Nat} {n : Int} {vo vu o o' : Value} {offs used T : List Int} {w wr w4 : World} {ob : Obj} (h : RWin w p b vo vu offs used) (h8 : Eight used) (hO : OutI w wr o T) (hT : T ++ [n] = touchL used n)
    (hs : Seg .i64 w4 o' (T ++ [n])) (hc4 : Chg (fun b _ => o.ownBlock = some b) (wr.alloc ob) w4) (hm : Mov (wr.alloc ob) o o') :
    ∃ av cv, o' = .slice av 8 cv ∧ w4.cell? ⟨b, 1, none⟩ = some vu ∧ w4.frozen? ⟨b, 1, none⟩ = false ∧ Hid (RWin (w4.setCell ⟨b, 1, none⟩ o') p b vo o' offs (touchL used n) ∧ Chg (fun k _ => k = b) w (w4.setCell ⟨b, 1, none⟩ o')) := by
  have ho : OutI w w4 o' (T ++ [n]) := hO.app ((Below.refl _ _).alloc (Nat.le_refl _) _) hs hc4 hm
  rw [hT] at ho
  have h' : RWin w4 p b vo vu offs used := h.below ho.2.2
  have hc := chg_setCell w4 b 1 o'
  obtain ⟨av, cv, hvv, -, -⟩ := ho.1.form
  rw [(touch_eight h8 n).1] at hvv
  refine ⟨av, cv, hvv, h'.c1, h'.fb 1, ⟨h'.lo, (touch_eight h8 n).1, hc.cellAt h'.c0 (by omega), World.cell?_setCell_same _ _ _ h'.c1, fun i => (hc.frozen b i h'.lt).trans (h'.fb i), h'.so.chg hc (fun g o hg hh => (h'.go g hg).2 hh.1), ho.1.chg hc (fun g o hg hh => by have := ho.2.1 g hg; have := hh.1; have := h.lt; omega), h'.pb, h'.go, fun g hg => ?_, fun g h1 h2 => ?_⟩, ?_⟩
  · have := ho.2.1 g hg
    have := h.pb
    have := h.lt
    omega
  · have := ho.2.1 g h2
    have := h.so.lt h1
    omega
  · exact (chg_of_below ho.2.2 (Nat.le_refl _) (fun k _ => k = b)).trans (hc.mono (fun k j _ hh => hh.1))
set_option maxHeartbeats 8000000 in
set_option maxRecDepth 100000 in
theorem rTouch_any (p b : Nat) (n : Int) (vo vu : Value) (offs used : List Int) (w : World) (h : RWin w p b vo vu offs used) (h8 : Eight used) :
    Calls Tryd.prog 25 #[.pointer (some ⟨b, 0, none⟩), .int .i64 n] w fun e w' => e = .returned (.tuple #[]) ∧ (∃ vu', RWin w' p b vo vu' offs (touchL used n)) ∧ Chg (fun k _ => k = b) w w' := by
  have HV : Hid (RWin w p b vo vu offs used ∧ Eight used) := ⟨h, h8⟩
  have hl := h.lu
  obtain ⟨g, of, cp, hv, hcs⟩ := seg_open h.su hl
  have HC : Hid (∀ i : Nat, i < 8 → w.cell? ⟨g, of + i, none⟩ = some (.int .i64 (nth used i))) := fun i hi => (hcs i hi).1
  have HD : Hid (w.cell? ⟨b, 1, none⟩ = some (.slice (some ⟨g, of, none⟩) 8 cp)) := by rw [← hv]; exact h.c1
  clear h h8 hl hcs hv
  go_enter Tryd.func25, Tryd.ntmps25
  go_wp2
  go_loopw [4, 5] (fun o i wr => ∃ j : Nat, i = .int .i64 j ∧ j ≤ 8 ∧ OutI w wr o (others (used.take j) n)) (fun _ i _ => 8 - (intOf i).toNat)
  case atStart => exact ⟨0, rfl, Nat.zero_le _, by rw [List.take_zero]; exact seg_empty_at .i64 w _ rfl, fun g hg => by simp [Value.ownBlock] at hg; omega, (Below.refl _ _).alloc (Nat.le_refl _) _⟩
  case round =>
    obtain ⟨j, rfl, hj, hO⟩ := hrel
    have HO : Hid (OutI w wr u4 (others (used.take j) n)) := hO
    clear hO
    by_cases hj8 : j < 8
    · have d1 := cell_later HO.out.2.2 HD.out
      have d2 := cell_later HO.out.2.2 (HC.out j hj8)
      have i4 : (j : Int) < 8 := by omega
      have HT : Hid (others (used.take (j + 1)) n = if nth used j = n then others (used.take j) n else others (used.take j) n ++ [nth used j]) := by
        show _ = _
        rw [take_snoc used j (by rw [HV.out.1.lu]; exact hj8), others_snoc]
      have HTL : Hid ((others (used.take j) n).length ≤ 8) := by
        have := kept_le used n j
        unfold keptT at this
        exact (by omega : (others (used.take j) n).length ≤ 8)
      obtain ⟨T, hTT⟩ : ∃ T, others (used.take j) n = T := ⟨_, rfl⟩
      obtain ⟨x, hx⟩ : ∃ x, nth used j = x := ⟨_, rfl⟩
      rw [hTT] at HO HT HTL
      rw [hx] at d2 HT
      clear hTT hx
      by_cases he : x = n
      · have HT' : Hid (others (used.take (j + 1)) n = T) := by show _ = _; rw [HT.out, if_pos he]
        subst he
        clear HT
        go_wp2
        go_roundw
        case rel => exact ⟨j + 1, by go_num, by omega, by rw [HT'.out]; exact HO.out⟩
        case measure => simp [intOf]; omega
      · have HT' : Hid (others (used.take (j + 1)) n = T ++ [x]) := by show _ = _; rw [HT.out, if_neg he]
        have HSA : Hid (∀ o, OutI w (wr.alloc o) u4 T) := fun o => HO.out.below ((Below.refl _ _).alloc (Nat.le_refl _) o)
        clear HT
        go_wp2_with (at_builtin; go_must (refine wpList_append_seg rfl _ _ 51 51 rfl .i64 3 8 Tryd.underlying51 info_i64 u4 T [x] rfl (HSA.out _).1 _ rfl (src_row (l := [x]) Tryd.underlying51 (by exact row_new .i64 wr [x] _ _ rfl) rfl (fun h => by cases h)) (by have := HTL.out; unfold maxLen; simp; omega) (by have := HTL.out; simp; omega) ?_; intro vo' w4 hs4 hc4 hm4))
        have HF4 : Hid (OutI w w4 vo' (T ++ [x])) := HO.out.app ((Below.refl _ _).alloc (Nat.le_refl _) _) hs4 hc4 hm4
        clear hs4 hc4 hm4 HSA
        exact ⟨⟨j + 1, by go_num, by omega, by rw [HT'.out]; exact HF4.out⟩, by simp [intOf]; omega⟩
    · obtain rfl : j = 8 := by omega
      have hta : used.take 8 = used := List.take_of_length_le (by rw [HV.out.1.lu]; omega)
      rw [hta] at HO
      clear hta hj8 hj HC HD
      by_cases hn : 0 ≤ n ∧ n ≤ 7
      · have hol : (others used n).length = 7 := others_len HV.out.2 hn.1 hn.2
        have HTE : Hid (others used n ++ [n] = touchL used n) := by show _ = _; unfold touchL; rw [if_pos hn]
        obtain ⟨T, hTT⟩ : ∃ T, others used n = T := ⟨_, rfl⟩
        rw [hTT] at HO hol HTE
        obtain ⟨ao, co, hvo, -, -⟩ := HO.out.1.form
        rw [hol] at hvo
        have HL : Hid (T.length = 7) := hol
        subst hvo
        have HSA : Hid (∀ o, OutI w (wr.alloc o) (.slice ao 7 co) T) := fun o => HO.out.below ((Below.refl _ _).alloc (Nat.le_refl _) o)
        clear hTT hol
        have hbz := HV.out.1.lt
        go_wp2_with (at_builtin; go_must (refine wpList_append_seg rfl _ _ 51 51 rfl .i64 3 8 Tryd.underlying51 info_i64 (.slice ao 7 co) T [n] rfl (HSA.out _).1 _ rfl (src_row (l := [n]) Tryd.underlying51 (by exact row_new .i64 wr [n] _ _ rfl) rfl (fun h => by cases h)) (by have := HL.out; unfold maxLen; simp; omega) (by have := HL.out; simp; omega) ?_; intro vo' w4 hs4 hc4 hm4; obtain ⟨av, cv, hvv, hd1, hf1, HF⟩ := touch_fin HV.out.1 HV.out.2 HO.out HTE.out hs4 hc4 hm4; clear hs4 hc4 hm4; subst hvv))
        go_wp2
        go_end0
        exact ⟨rfl, ⟨_, HF.out.1⟩, HF.out.2⟩
      · have hol : others used n = used := others_all HV.out.2 hn
        rw [hol] at HO
        obtain ⟨ao, co, hvo, -, -⟩ := HO.out.1.form
        rw [HV.out.1.lu] at hvo
        have HTE : Hid (touchL used n = used) := touch_no used (by omega)
        have HF : Hid (RWin wr p b vo vu offs used ∧ Chg (fun k _ => k = b) w wr) := ⟨HV.out.1.below HO.out.2.2, chg_of_below HO.out.2.2 (Nat.le_refl _) _⟩
        subst hvo
        clear hol hn HO HV
        go_wp2
        go_end0
        exact ⟨rfl, ⟨vu, by rw [HTE.out]; exact HF.out.1⟩, HF.out.2⟩
end Win
end Go.Proofs.YtgjmnghgpjfjmaaDoor
