/-
  The contracts of the document's Units and Bytes of layer 4, as walks over the translated text. The condition: scalars, and few.
-/
import Derived.Test.YtohobpjiikpdmaaDoorU16Math
import Derived.Test.YtohobpjiikpdmaaDoorStp3
import Derived.Test.YtohobpjiikpdmaaDoorCod
import Derived.Test.YtohobpjiikpdmaaDoorStrs
import Derived.Test.YtohobpjiikpdmaaDoorMemStep
import Derived.Deep.CutBlock
import Derived.Deep.DeepCutAuto
namespace Go.Proofs.YtohobpjiikpdmaaDoor
open Go.ChangeShapes Go.WideShapes Go.ChangeAt Go.RowKit
namespace U16
open Bas Sca Stp Scn Cod
set_option linter.unusedVariables false
variable {π : Par}

/-- A scalar's units. -/
def unitsN (c : Int) : List Int := if c < 65536 then [c] else [55296 + (c - 65536) / 1024, 56320 + (c - 65536) % 1024]
theorem one_units (π : Par) (c : Int) : oneN π c = bytesOf (unitB π) (unitsN c) := by
  unfold oneN unitsN
  split <;> simp [bytesOf]
theorem unitsN_bd {c : Int} (h0 : 0 ≤ c) (h : isB c = true) : ∀ u ∈ unitsN c, 0 ≤ u ∧ u < 65536 := by
  have hi := isB_iff.1 h
  intro u hu
  unfold unitsN at hu
  split at hu
  · simp at hu; omega
  · simp at hu; omega
theorem unitsN_len (c : Int) : 1 ≤ (unitsN c).length ∧ (unitsN c).length ≤ 2 := by
  unfold unitsN; split <;> simp
/-- What Units leaves. -/
def UnitsQ (c : Int) (e : Ending) (w w' : World) : Prop := ∃ a n, e = .returned (.slice a n n) ∧ Row .u32 w' a (unitsN c) ∧ (unitsN c).length = n ∧ (∀ b o, a = some ⟨b, o, none⟩ → w.heap.size ≤ b) ∧ Below w.heap.size w w'
set_option maxHeartbeats 2000000 in
theorem rUnits_any (c : Int) (w : World) (h0 : 0 ≤ c) (h : isB c = true) :
    Calls Tryd.prog 29 #[.int .u32 c] w fun e w' => UnitsQ c e w w' := by
  have hi := isB_iff.1 h
  clear h
  by_cases h1 : c < 65536
  · have HU : Hid (unitsN c = [c]) := by show _ = _; unfold unitsN; rw [if_pos h1]
    go_enter Tryd.func29, Tryd.ntmps29
    go_wp2
    go_ret
    exact ⟨_, 1, rfl, by rw [HU.out]; exact row_new .u32 w [c] _ _ rfl, by rw [HU.out]; rfl, fun b o e => by simp at e; omega, (Below.refl _ _).alloc (Nat.le_refl _) _⟩
  · have HU : Hid (unitsN c = [55296 + (c - 65536) / 1024, 56320 + (c - 65536) % 1024]) := by show _ = _; unfold unitsN; rw [if_neg h1]
    have h2 : 0 ≤ c - 65536 := by omega
    go_enter Tryd.func29, Tryd.ntmps29
    go_wp2
    go_ret
    exact ⟨_, 2, rfl, by rw [HU.out]; exact row_new .u32 w [_, _] _ _ rfl, by rw [HU.out]; rfl, fun b o e => by simp at e; omega, (Below.refl _ _).alloc (Nat.le_refl _) _⟩
/-- The bytes so far: the program's own, in new memory. -/
def OutOf (w wr : World) (o : Value) (t : List Int) : Prop := Seg .u8 wr o t ∧ (∀ g, o.ownBlock = some g → w.heap.size ≤ g) ∧ Below w.heap.size w wr
theorem OutOf.below {w wr w2 : World} {o : Value} {t : List Int} (h : OutOf w wr o t) (b : Below wr.heap.size wr w2) : OutOf w w2 o t :=
  ⟨h.1.chg (chg_of_below b (Nat.le_refl _) (fun _ _ => False)) (fun _ _ _ h => h), h.2.1, below_two h.2.2 b⟩
theorem OutOf.app {w wr w2 w3 : World} {o o' : Value} {t t' : List Int} (h : OutOf w wr o t) (b : Below wr.heap.size wr w2) (hs : Seg .u8 w3 o' t') (hc : Chg (fun b _ => o.ownBlock = some b) w2 w3) (hm : Mov w2 o o') : OutOf w w3 o' t' := by
  have hz := h.2.2.size
  have hb := below_two h.2.2 b
  refine ⟨hs, fun g hg => ?_, hb.trans (hc.below (by have := b.size; omega) (fun k j hk hh => by have := h.2.1 k hh; omega))⟩
  rcases hm g hg with e | e
  · exact h.2.1 g e
  · have := b.size; omega
set_option maxHeartbeats 8000000 in
set_option maxRecDepth 100000 in
theorem rBytes_any (a : Option Addr) (n cp : Nat) (l : List Int) (w : World) (hr : Row .u32 w a l) (hl : l.length = n) (hn : n ≤ 100000) (hs : ∀ c ∈ l, isB c = true ∧ 0 ≤ c) :
    Calls Tryd.prog 20 #[.slice a n cp, .bool π] w fun e w' => e = .returned (.string (Stp.strOf (bytesOf (oneN π) l))) ∧ Below w.heap.size w w' := by
  obtain ⟨b1, o1, n1, c1⟩ := hr
  have N1 : Hid (l ≠ [] → a = some ⟨b1, o1, none⟩) := n1
  have HC : Hid (∀ i, i < l.length → w.cell? ⟨b1, o1 + i, none⟩ = some (.int .u32 (nth l i))) := c1
  have HS : Hid ((∀ c ∈ l, isB c = true ∧ 0 ≤ c) ∧ l.length = n) := ⟨hs, hl⟩
  clear n1 c1 hs hl
  go_enter Tryd.func20, Tryd.ntmps20
  go_wp2
  go_loopw [5, 6] (fun o i wr => ∃ k : Nat, i = .int .i64 k ∧ k ≤ n ∧ OutOf w wr o (bytesOf (oneN π) (l.take k))) (fun _ i _ => n - (intOf i).toNat)
  case atStart => exact ⟨0, rfl, Nat.zero_le _, seg_empty _ _ _, fun g hg => by simp [Value.ownBlock] at hg; omega, (Below.refl _ _).alloc (Nat.le_refl _) _⟩
  case round =>
    obtain ⟨k, rfl, hk, hO⟩ := hrel
    have HO : Hid (OutOf w wr u5 (bytesOf (oneN π) (l.take k))) := hO
    clear hO
    by_cases hlt : (k : Int) < (n : Int)
    · have hkn : k < l.length := by have := HS.out.2; omega
      obtain rfl := N1.out (by intro e; subst e; simp at hkn)
      have hcell : wr.cell? ⟨b1, o1 + k, none⟩ = some (.int .u32 (nth l k)) := cell_later HO.out.2.2 (HC.out k hkn)
      have hsc := HS.out.1 _ (nth_mem hkn)
      have ht : bytesOf (oneN π) (l.take (k + 1)) = bytesOf (oneN π) (l.take k) ++ bytesOf (unitB π) (unitsN (nth l k)) := by rw [take_snoc l k hkn, bytesOf_append, bytesOf_one, one_units]
      have hz := bytesOf_le (oneN π) 4 (oneN_max π) (l.take k)
      rw [List.length_take] at hz
      obtain ⟨x, hx⟩ : ∃ x, nth l k = x := ⟨_, rfl⟩
      rw [hx] at hcell hsc ht
      obtain ⟨t, htt⟩ : ∃ t, bytesOf (oneN π) (l.take k) = t := ⟨_, rfl⟩
      rw [htt] at ht hz HO
      have HT : Hid (bytesOf (oneN π) (l.take (k + 1)) = t ++ bytesOf (unitB π) (unitsN x)) := ht
      have hz2 : t.length ≤ 400000 := by omega
      clear hx htt ht hz hkn
      go_wp2_with fail
      refine (rUnits_any x wr hsc.2 hsc.1).mono ?_
      rintro e w2 ⟨au, nu, rfl, hru, hlu, hfu, b2⟩
      have hub := unitsN_bd hsc.2 hsc.1
      have hul := unitsN_len x
      have HO2 : Hid (OutOf w w2 u5 t) := HO.out.below b2
      obtain ⟨bu, ou, hau, hcu⟩ := hru
      obtain rfl := hau (by intro e; rw [e] at hul; simp at hul)
      have HNE : Hid (∀ g, u5.ownBlock = some g → g ≠ bu) := fun g hg e => by
        have h1 := hfu bu ou rfl
        have h2 := HO.out.1.lt hg
        omega
      have HU : Hid ((∀ i, i < (unitsN x).length → w2.cell? ⟨bu, ou + i, none⟩ = some (.int .u32 (nth (unitsN x) i))) ∧ (unitsN x).length = nu ∧ (∀ u ∈ unitsN x, 0 ≤ u ∧ u < 65536) ∧ nu ≤ 2) := ⟨hcu, hlu, hub, by omega⟩
      clear hau hcu hlu hub hul b2 hcell HO hfu
      go_wp2
      go_loopw [5, 8] (fun o j w3 => ∃ m : Nat, j = .int .i64 m ∧ m ≤ nu ∧ OutOf w w3 o (t ++ bytesOf (unitB π) ((unitsN x).take m)) ∧ (∀ g, o.ownBlock = some g → g ≠ bu) ∧ ∀ i, i < (unitsN x).length → w3.cell? ⟨bu, ou + i, none⟩ = some (.int .u32 (nth (unitsN x) i))) (fun _ j _ => nu - (intOf j).toNat)
      case atStart => exact ⟨0, rfl, Nat.zero_le _, by simpa [bytesOf] using HO2.out, HNE.out, HU.out.1⟩
      case round =>
        obtain ⟨m, rfl, hm, hO3, hne, hcu⟩ := hrel
        have HO3 : Hid (OutOf w wr u5 (t ++ bytesOf (unitB π) ((unitsN x).take m))) := hO3
        have HCU : Hid (∀ i, i < (unitsN x).length → wr.cell? ⟨bu, ou + i, none⟩ = some (.int .u32 (nth (unitsN x) i))) := hcu
        clear hO3 hcu
        have hnu2 : nu ≤ 2 := HU.out.2.2.2
        by_cases hmn : (m : Int) < (nu : Int)
        · have hml : m < (unitsN x).length := by have := HU.out.2.1; omega
          have hcy := HCU.out m hml
          have hyb := HU.out.2.2.1 _ (nth_mem hml)
          have htm : t ++ bytesOf (unitB π) ((unitsN x).take (m + 1)) = (t ++ bytesOf (unitB π) ((unitsN x).take m)) ++ unitB π (nth (unitsN x) m) := by rw [take_snoc _ m hml, bytesOf_append, bytesOf_one, List.append_assoc]
          have hzm := bytesOf_le (unitB π) 2 (fun c => by rw [unitB_length]; omega) ((unitsN x).take m)
          rw [List.length_take] at hzm
          obtain ⟨y, hy⟩ : ∃ y, nth (unitsN x) m = y := ⟨_, rfl⟩
          rw [hy] at hcy hyb htm
          obtain ⟨tm, htme⟩ : ∃ tm, t ++ bytesOf (unitB π) ((unitsN x).take m) = tm := ⟨_, rfl⟩
          rw [htme] at htm HO3
          have HTM : Hid (t ++ bytesOf (unitB π) ((unitsN x).take (m + 1)) = tm ++ unitB π y) := htm
          have hzt : tm.length ≤ 400004 := by rw [← htme, List.length_append]; have := HU.out.2; omega
          have HFR : Hid (¬ u5.ownBlock = some bu) := fun e => hne bu e rfl
          clear hml htm hzm hy htme hne
          obtain ⟨y0, y1⟩ := hyb
          have hwy : IntKind.u8.wrap (y / 256) = y / 256 := by rw [IntKind.wrap_u8]; omega
          have hwy2 : IntKind.u8.wrap (y % 256) = y % 256 := by rw [IntKind.wrap_u8]; omega
          cases π
          · go_upto_region 11 with fail
            have hF : wr.drew.cell? ⟨bu, ou + m, none⟩ = some (.int .u32 y) := by rw [World.cell?_drew]; exact hcy
            have hBd : Below wr.heap.size wr (wr.alloc (.cells #[.int .u8 (IntKind.u8.wrap (y.tmod 256)), .int .u8 (IntKind.u8.wrap (IntKind.u32.wrap (y.tdiv 256)))] 5)).drew := ((Below.refl _ _).alloc (Nat.le_refl _) _).drew
            have hsg := HO3.out.below hBd
            have hrw : Row .u8 (wr.alloc (.cells #[.int .u8 (IntKind.u8.wrap (y.tmod 256)), .int .u8 (IntKind.u8.wrap (IntKind.u32.wrap (y.tdiv 256)))] 5)).drew (some ⟨wr.heap.size, 0, none⟩) [IntKind.u8.wrap (y.tmod 256), IntKind.u8.wrap (IntKind.u32.wrap (y.tdiv 256))] := (row_new .u8 wr [IntKind.u8.wrap (y.tmod 256), IntKind.u8.wrap (IntKind.u32.wrap (y.tdiv 256))] 5 _ rfl).mono ((Below.refl _ _).drew)
            have hF2 := cell_later hBd hcy
            go_region_held3 (fun w' => w'.cell? ⟨bu, ou + m, none⟩ = some (.int .u32 y)) (first | exact hF | exact hF2 | assumption)
              ((refine step_append_seg (by rfl) _ _ 45 45 (by rfl) .u8 5 1 Tryd.underlying45 info_u8 u5 tm [IntKind.u8.wrap (y.tmod 256), IntKind.u8.wrap (IntKind.u32.wrap (y.tdiv 256))] (by rfl) hsg.1 _ (by rfl) (src_row (l := [IntKind.u8.wrap (y.tmod 256), IntKind.u8.wrap (IntKind.u32.wrap (y.tdiv 256))]) Tryd.underlying45 hrw rfl (fun h => by cases h)) (by unfold maxLen; simp; omega) (by simp; omega) ?_; intro vo w4 hs4 hc4 hm4; have hFz := hc4.cellAt hF2 HFR.out))
            have hey : [IntKind.u8.wrap (y.tmod 256), IntKind.u8.wrap (IntKind.u32.wrap (y.tdiv 256))] = [y % 256, y / 256] := by
              rw [Int.tmod_eq_emod_of_nonneg y0, Int.tdiv_eq_ediv_of_nonneg y0, IntKind.wrap_u32, IntKind.wrap_u8, IntKind.wrap_u8]
              simp only [List.cons.injEq, and_true]
              omega
            rw [hey] at hs4
            have HF4 : Hid (OutOf w w4 vo (tm ++ [y % 256, y / 256]) ∧ (∀ g, vo.ownBlock = some g → g ≠ bu) ∧ ∀ i, i < (unitsN x).length → w4.cell? ⟨bu, ou + i, none⟩ = some (.int .u32 (nth (unitsN x) i))) := by
              refine ⟨HO3.out.app hBd hs4 hc4 hm4, fun g hg e => ?_, fun i hi => hc4.cellAt (cell_later hBd (HCU.out i hi)) HFR.out⟩
              rcases hm4 g hg with h | h
              · exact HFR.out (by rw [h, e])
              · have h1 : bu < wr.heap.size := World.block_lt_of_cell? _ _ hcy
                have h2 := hBd.size
                omega
            clear hF hBd hsg hrw hF2 hs4 hc4 hm4 hFz hey
            go_wp2
            go_roundw
            case rel => exact ⟨m + 1, by go_num, by omega, by rw [HTM.out]; exact HF4.out.1, HF4.out.2.1, HF4.out.2.2⟩
            case measure => simp [intOf]; omega
          · go_upto_region 10 with fail
            have hF : wr.drew.cell? ⟨bu, ou + m, none⟩ = some (.int .u32 y) := by rw [World.cell?_drew]; exact hcy
            have hBd : Below wr.heap.size wr (wr.alloc (.cells #[.int .u8 (IntKind.u8.wrap (IntKind.u32.wrap (y.tdiv 256))), .int .u8 (IntKind.u8.wrap (y.tmod 256))] 5)).drew := ((Below.refl _ _).alloc (Nat.le_refl _) _).drew
            have hsg := HO3.out.below hBd
            have hrw : Row .u8 (wr.alloc (.cells #[.int .u8 (IntKind.u8.wrap (IntKind.u32.wrap (y.tdiv 256))), .int .u8 (IntKind.u8.wrap (y.tmod 256))] 5)).drew (some ⟨wr.heap.size, 0, none⟩) [IntKind.u8.wrap (IntKind.u32.wrap (y.tdiv 256)), IntKind.u8.wrap (y.tmod 256)] := (row_new .u8 wr [IntKind.u8.wrap (IntKind.u32.wrap (y.tdiv 256)), IntKind.u8.wrap (y.tmod 256)] 5 _ rfl).mono ((Below.refl _ _).drew)
            have hF2 := cell_later hBd hcy
            go_region_held3 (fun w' => w'.cell? ⟨bu, ou + m, none⟩ = some (.int .u32 y)) (first | exact hF | exact hF2 | assumption)
              ((refine step_append_seg (by rfl) _ _ 45 45 (by rfl) .u8 5 1 Tryd.underlying45 info_u8 u5 tm [IntKind.u8.wrap (IntKind.u32.wrap (y.tdiv 256)), IntKind.u8.wrap (y.tmod 256)] (by rfl) hsg.1 _ (by rfl) (src_row (l := [IntKind.u8.wrap (IntKind.u32.wrap (y.tdiv 256)), IntKind.u8.wrap (y.tmod 256)]) Tryd.underlying45 hrw rfl (fun h => by cases h)) (by unfold maxLen; simp; omega) (by simp; omega) ?_; intro vo w4 hs4 hc4 hm4; have hFz := hc4.cellAt hF2 HFR.out))
            have hey : [IntKind.u8.wrap (IntKind.u32.wrap (y.tdiv 256)), IntKind.u8.wrap (y.tmod 256)] = [y / 256, y % 256] := by
              rw [Int.tmod_eq_emod_of_nonneg y0, Int.tdiv_eq_ediv_of_nonneg y0, IntKind.wrap_u32, IntKind.wrap_u8, IntKind.wrap_u8]
              simp only [List.cons.injEq, and_true]
              omega
            rw [hey] at hs4
            have HF4 : Hid (OutOf w w4 vo (tm ++ [y / 256, y % 256]) ∧ (∀ g, vo.ownBlock = some g → g ≠ bu) ∧ ∀ i, i < (unitsN x).length → w4.cell? ⟨bu, ou + i, none⟩ = some (.int .u32 (nth (unitsN x) i))) := by
              refine ⟨HO3.out.app hBd hs4 hc4 hm4, fun g hg e => ?_, fun i hi => hc4.cellAt (cell_later hBd (HCU.out i hi)) HFR.out⟩
              rcases hm4 g hg with h | h
              · exact HFR.out (by rw [h, e])
              · have h1 : bu < wr.heap.size := World.block_lt_of_cell? _ _ hcy
                have h2 := hBd.size
                omega
            clear hF hBd hsg hrw hF2 hs4 hc4 hm4 hFz hey
            go_wp2
            go_roundw
            case rel => exact ⟨m + 1, by go_num, by omega, by rw [HTM.out]; exact HF4.out.1, HF4.out.2.1, HF4.out.2.2⟩
            case measure => simp [intOf]; omega
        · have hmn' : m = nu := by omega
          have HF4 : Hid (OutOf w wr u5 (bytesOf (oneN π) (l.take (k + 1)))) := by
            have := HO3.out
            rw [List.take_of_length_le (by have := HU.out.2.1; omega), ← HT.out] at this
            exact this
          clear hmn' hne
          go_wp2
          go_roundw
          case rel => exact ⟨k + 1, by go_num, by omega, HF4.out⟩
          case measure => simp [intOf]; omega
    · have hkn : k = n := by omega
      have HF : Hid (l.take k = l) := by
        show _ = _
        rw [hkn, ← HS.out.2, List.take_length]
      clear hkn
      obtain ⟨ao, co, hvo, hro, -⟩ := HO.out.1.form
      obtain ⟨ln, hln⟩ : ∃ ln, (bytesOf (oneN π) (l.take k)).length = ln := ⟨_, rfl⟩
      rw [hln] at hvo
      subst hvo
      have hcv := run_string wr _ ln co (bytesOf (oneN π) (l.take k)) hro hln
      have HB : Hid (Below w.heap.size w wr) := HO.out.2.2
      clear hln hro HO
      go_wp2
      go_ret
      exact ⟨by rw [HF.out]; rfl, HB.out⟩
end U16
end Go.Proofs.YtohobpjiikpdmaaDoor
