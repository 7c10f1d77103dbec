/-
  Touched one by one, the one that was used longest ago, all eight windows come, each once, and again in the same order: the statement WindowOrder is proved, for every input. The condition is the card's own: the listed tables are as the program's text lays them.
-/
import Derived.Test.YtgjmnghgpjfjmaaDoorWinAwk
import Derived.Test.YtgjmnghgpjfjmaaDoorWinTab
import Derived.Test.YtgjmnghgpjfjmaaDoorOps3
import Derived.Deep.DeepCutAuto
import Derived.Deep.CutBlock
namespace Go.Proofs.YtgjmnghgpjfjmaaDoor.windowOrder
open Go.ChangeShapes Go.WideShapes Go.ChangeAt Go.RowKit
open Go.ChangeMaps (open_string shut_string)
open Bas Win Op3
set_option linter.unusedVariables false

/-- The windows, touched so far. -/
def Play (w1 w : World) (N : Nat) (used : List Int) : Prop := Below w1.heap.size w1 w ∧ WinV w N 0 firstL8 used ∧ Eight used ∧ w1.heap.size ≤ N
theorem Play.below {w2 w w' : World} {N : Nat} {used : List Int} (h : Play w2 w N used) (hb : Below w.heap.size w w') : Play w2 w' N used :=
  ⟨below_two h.1 hb, h.2.1.below hb, h.2.2⟩
theorem Play.own {w2 w w' : World} {N : Nat} {used used' : List Int} (h : Play w2 w N used) (hv : WinV w' N 0 firstL8 used') (h8 : Eight used') (hc : Chg (footW N 0) w w') : Play w2 w' N used' :=
  ⟨h.1.trans (hc.below h.1.size (fun k j hk hh => by have := hh.1; have := h.2.2.2; omega)), hv, h8, h.2.2.2⟩
theorem op_cell1 (w : World) (t : TypeId) (k n c : Int) {m : Nat} (hm : m = w.heap.size) : (w.alloc (.cells #[.int .i64 k, .int .i64 n, .int .u32 c] t)).cell? ⟨m, 1, none⟩ = some (.int .i64 n) := by
  subst hm; simp
/-- Which came, and in which order, behind so many turns. -/
structure Turn (w1 w : World) (N M : Nat) (U : List Int) (i : Nat) : Prop where
  play : Play w1 w N (turnT i U)
  fst : ∀ j : Nat, j < 8 → ∃ v, w.cell? ⟨M, j, none⟩ = some (.int .i64 v) ∧ (j < i → v = nth U j)
  fr1 : ∀ j : Nat, w.frozen? ⟨M, j, none⟩ = false
  seen : ∀ j : Nat, j < 8 → w.cell? ⟨M + 1, j, none⟩ = some (.bool (decide ((j : Int) ∈ U.take i)))
  fr2 : ∀ j : Nat, w.frozen? ⟨M + 1, j, none⟩ = false
  lt : N < M
  sz : M + 1 < w.heap.size
theorem turn_start {w1 w : World} {N M : Nat} {U : List Int} (t1 t2 : TypeId) (h : Play w1 w N U) (hM : w.heap.size = M) :
    Turn w1 ((w.alloc (.cells #[.int .i64 0, .int .i64 0, .int .i64 0, .int .i64 0, .int .i64 0, .int .i64 0, .int .i64 0, .int .i64 0] t1)).alloc (.cells #[.bool false, .bool false, .bool false, .bool false, .bool false, .bool false, .bool false, .bool false] t2)) N M U 0 := by
  subst hM
  refine ⟨(h.below ((Below.refl _ _).alloc (Nat.le_refl _) _)).below ((Below.refl _ _).alloc (Nat.le_refl _) _), fun j hj => ⟨0, ?_, fun h => by omega⟩, fun j => by simp, fun j hj => ?_, fun j => ?_, h.2.1.lt, by simp⟩
  · rw [World.cell?_alloc2_first]
    match j, hj with
    | 0, _ => rfl
    | 1, _ => rfl
    | 2, _ => rfl
    | 3, _ => rfl
    | 4, _ => rfl
    | 5, _ => rfl
    | 6, _ => rfl
    | 7, _ => rfl
  · rw [World.cell?_alloc_at _ _ _ _ (by simp)]
    match j, hj with
    | 0, _ => rfl
    | 1, _ => rfl
    | 2, _ => rfl
    | 3, _ => rfl
    | 4, _ => rfl
    | 5, _ => rfl
    | 6, _ => rfl
    | 7, _ => rfl
  · have : w.heap.size + 1 = (w.alloc (.cells #[.int .i64 0, .int .i64 0, .int .i64 0, .int .i64 0, .int .i64 0, .int .i64 0, .int .i64 0, .int .i64 0] t1)).heap.size := by simp
    rw [this]; simp
theorem eight_at {U : List Int} (h : Eight U) {i : Nat} (hi : i < 8) : ∃ m : Nat, nth U i = (m : Int) ∧ m < 8 ∧ ¬ (m : Int) ∈ U.take i := by
  have hm := (h.2.2 (nth U i)).1 (nth_mem (by rw [h.1]; exact hi))
  obtain ⟨m, e⟩ := Int.eq_ofNat_of_zero_le hm.1
  refine ⟨m, e, by omega, fun hin => ?_⟩
  obtain ⟨j, hj, he⟩ := List.mem_iff_getElem.1 hin
  have hj' : j < i := by simp at hj; omega
  have : nth U j = nth U i := by
    rw [e, ← he, List.getElem_take]
    simp [nth, List.getElem?_eq_getElem (show j < U.length by rw [h.1]; omega)]
  have := nth_nodup h (by omega) hi this
  omega
/-- A turn among the first eight. -/
theorem turn_one {w1 w w5 : World} {N M i m : Nat} {U : List Int} (h8 : Eight U) (h : Turn w1 w N M U i) (hi : i < 8) (he : nth U i = (m : Int)) (hm : m < 8)
    (hv : WinV w5 N 0 firstL8 (touchL (turnT i U) (m : Int))) (hc : Chg (footW N 0) ((w.setCell ⟨M, i, none⟩ (.int .i64 (m : Int))).setCell ⟨M + 1, m, none⟩ (.bool true)) w5) : Turn w1 w5 N M U (i + 1) := by
  have c1 := chg_setCell w M i (.int .i64 (m : Int))
  have c2 := chg_setCell (w.setCell ⟨M, i, none⟩ (.int .i64 (m : Int))) (M + 1) m (.bool true)
  have hlt := h.lt
  have hsz := h.sz
  obtain ⟨v0, hv0, -⟩ := h.fst i hi
  have ht : turnT (i + 1) U = touchL (turnT i U) (m : Int) := by
    show touchL (turnT i U) (nth (turnT i U) 0) = _
    rw [(turn_at h8 hi).1, he]
  have hN : w1.heap.size ≤ N := h.play.2.2.2
  have hB : Below w1.heap.size w1 w5 := ((h.play.1.trans (c1.below h.play.1.size (fun k j hk hh => by have := hh.1; omega))).trans (c2.below (by have := h.play.1.size; have := c1.size; omega) (fun k j hk hh => by have := hh.1; omega))).trans (hc.below (by have := h.play.1.size; have := c1.size; have := c2.size; omega) (fun k j hk hh => by have := hh.1; omega))
  refine ⟨⟨hB, by rw [ht]; exact hv, by rw [ht]; exact touch_eight h.play.2.2.1 _, hN⟩, fun j hj => ?_, fun j => ?_, fun j hj => ?_, fun j => ?_, hlt, by have := hc.size; have := c1.size; have := c2.size; omega⟩
  · obtain ⟨v, e1, e2⟩ := h.fst j hj
    by_cases e : j = i
    · subst e
      refine ⟨(m : Int), hc.cellAt (c2.cellAt (World.cell?_setCell_same _ _ _ e1) (by omega)) (fun hh => by have := hh.1; omega), fun _ => he.symm⟩
    · exact ⟨v, hc.cellAt (c2.cellAt (c1.cellAt e1 (by omega)) (by omega)) (fun hh => by have := hh.1; omega), fun hl => e2 (by omega)⟩
  · exact (hc.frozen M j (by have := c1.size; have := c2.size; omega)).trans ((c2.frozen M j (by have := c1.size; omega)).trans ((c1.frozen M j (by omega)).trans (h.fr1 j)))
  · have e1 := h.seen j hj
    have htk : U.take (i + 1) = U.take i ++ [(m : Int)] := by rw [take_snoc U i (by rw [h8.1]; exact hi), he]
    by_cases e : j = m
    · subst e
      have : decide ((j : Int) ∈ U.take (i + 1)) = true := by rw [htk]; simp
      rw [this]
      exact hc.cellAt (World.cell?_setCell_same _ _ _ (c1.cellAt e1 (by omega))) (fun hh => by have := hh.1; omega)
    · have : decide ((j : Int) ∈ U.take (i + 1)) = decide ((j : Int) ∈ U.take i) := by
        rw [htk]
        have : ¬ (j : Int) = (m : Int) := by omega
        simp [this]
      rw [this]
      exact hc.cellAt (c2.cellAt (c1.cellAt e1 (by omega)) (by omega)) (fun hh => by have := hh.1; omega)
  · exact (hc.frozen (M + 1) j (by have := c1.size; have := c2.size; omega)).trans ((c2.frozen (M + 1) j (by have := c1.size; omega)).trans ((c1.frozen (M + 1) j (by omega)).trans (h.fr2 j)))
/-- A turn behind them. -/
theorem turn_two {w1 w w5 : World} {N M k m : Nat} {U : List Int} (h8 : Eight U) (h : Turn w1 w N M U (8 + k)) (hk : k < 8) (he : nth U k = (m : Int))
    (hv : WinV w5 N 0 firstL8 (touchL (turnT (8 + k) U) (m : Int))) (hc : Chg (footW N 0) w w5) : Turn w1 w5 N M U (8 + (k + 1)) := by
  have hlt := h.lt
  have hsz := h.sz
  have ht : turnT (8 + (k + 1)) U = touchL (turnT (8 + k) U) (m : Int) := by
    show touchL (turnT (8 + k) U) (nth (turnT (8 + k) U) 0) = _
    rw [(turn_at h8 hk).2, he]
  have htk : U.take (8 + (k + 1)) = U.take (8 + k) := by rw [List.take_of_length_le (by rw [h8.1]; omega), List.take_of_length_le (by rw [h8.1]; omega)]
  refine ⟨h.play.own (by rw [ht]; exact hv) (by rw [ht]; exact touch_eight h.play.2.2.1 _) hc, fun j hj => ?_, fun j => (hc.frozen M j (by omega)).trans (h.fr1 j), fun j hj => ?_, fun j => (hc.frozen (M + 1) j (by omega)).trans (h.fr2 j), hlt, by have := hc.size; omega⟩
  · obtain ⟨v, e1, e2⟩ := h.fst j hj
    exact ⟨v, hc.cellAt e1 (fun hh => by have := hh.1; omega), fun hl => e2 (by omega)⟩
  · rw [htk]
    exact hc.cellAt (h.seen j hj) (fun hh => by have := hh.1; omega)
set_option maxHeartbeats 8000000 in
set_option maxRecDepth 100000 in
theorem walk (w : World) (hT : Tabs w) (a0 : Option Addr) (n0 c0 : Nat) (D0 : Nat → D3) (I0 : Script w a0 n0 c0 D0) :
    Calls Tryd.prog 7 #[.slice a0 n0 c0] w fun e w' => e = .returned (.bool true) ∧ Below w.heap.size w w' := by
  have HT : Hid (Tabs w) := hT
  clear hT
  go_enter Tryd.func7, Tryd.ntmps7
  go_wp2_with fail
  refine (awake_any w HT.out).mono ?_
  rintro e w1 ⟨rfl, b1⟩
  have HB1 : Hid (Below w.heap.size w w1 ∧ Tabs w1 ∧ Script w1 a0 n0 c0 D0) := ⟨b1, HT.out.below b1, I0.mono b1⟩
  clear I0 b1 HT
  by_cases hn : n0 ≤ 300
  · have hn' : ¬ (300 : Int) < (n0 : Int) := by omega
    go_wp2_with fail
    refine (new_at w1).mono ?_
    rintro e w2 ⟨rfl, hv, hB, hz⟩
    obtain ⟨N, hN⟩ : ∃ N, w1.heap.size = N := ⟨_, rfl⟩
    have HP : Hid (Play w1 w2 N used0) := ⟨hB, by rw [← hN]; exact hv, eight_0, by rw [hN]; exact Nat.le_refl _⟩
    rw [hN]
    clear hv hB hz hN
    obtain ⟨⟨b, off, ha, hc⟩, hm⟩ := HB1.out.2.2
    have HN : Hid (0 < n0 → a0 = some ⟨b, off, none⟩) := ha
    have HC : Hid (∀ i, i < n0 → At3 w1 b (off + i * 3) (D0 i)) := hc
    clear ha hc hm
    go_wp2
    go_loopw [21] (fun i wr => ∃ k : Nat, k ≤ n0 ∧ i = .int .i64 k ∧ ∃ used, Play w1 wr N used) (fun i _ => n0 - (intOf i).toNat)
    case atStart => exact ⟨0, Nat.zero_le _, rfl, _, HP.out⟩
    case round =>
      obtain ⟨k, hk, rfl, used, hP⟩ := hrel
      have HQ : Hid (Play w1 wr N used) := hP
      clear hP HP
      by_cases hlt : k < n0
      · obtain rfl := HN.out (by omega)
        have hop := (HC.out k hlt).mono HQ.out.1
        have hlt' : (k : Int) < (n0 : Int) := by omega
        generalize D0 k = d at hop
        obtain ⟨kd, nm, x⟩ := d
        obtain ⟨d0, d1, d2, -, -, -⟩ := hop
        dsimp only at d0 d1 d2
        have e1 := op_cell1 wr 49 kd nm x rfl
        have HQ1 : Hid (Play w1 (wr.alloc (.cells #[.int .i64 kd, .int .i64 nm, .int .u32 x] 49)) N used) := HQ.out.below ((Below.refl _ _).alloc (Nat.le_refl _) _)
        clear HQ
        go_wp2_with fail
        refine (touch_any N 0 nm firstL8 used _ HQ1.out.2.1 HQ1.out.2.2.1).mono ?_
        rintro e w5 ⟨rfl, hv5, hc5, hz5⟩
        have HF : Hid (Play w1 w5 N (touchL used nm)) := HQ1.out.own hv5 (touch_eight HQ1.out.2.2.1 nm) hc5
        clear hv5 hc5 hz5 HQ1 e1 d0 d1 d2
        go_wp2
        go_roundw
        case rel => exact ⟨k + 1, by omega, by go_num, _, HF.out⟩
        case measure => simp [intOf]; omega
      · clear hk HN HC
        obtain ⟨U, hU⟩ : ∃ U, used = U := ⟨_, rfl⟩
        rw [hU] at HQ
        clear hU used
        have HU : Hid (Eight U) := HQ.out.2.2.1
        obtain ⟨M, hM⟩ : ∃ M, wr.heap.size = M := ⟨_, rfl⟩
        have HT0 : Hid _ := turn_start 59 60 HQ.out hM
        go_wp2
        clear hM HQ
        generalize (wr.alloc (.cells #[.int .i64 0, .int .i64 0, .int .i64 0, .int .i64 0, .int .i64 0, .int .i64 0, .int .i64 0, .int .i64 0] 59)).alloc (.cells #[.bool false, .bool false, .bool false, .bool false, .bool false, .bool false, .bool false, .bool false] 60) = W at HT0 ⊢
        go_loopw [8, 9, 30] (fun _ _ i wx => ∃ j : Nat, i = .int .i64 j ∧ j ≤ 16 ∧ Turn w1 wx N M U j) (fun _ _ i _ => 16 - (intOf i).toNat)
        case atStart => exact ⟨0, rfl, Nat.zero_le _, HT0.out⟩
        case round =>
          clear HT0
          obtain ⟨i, rfl, hi, hTn⟩ := hrel
          have HTn : Hid (Turn w1 wr N M U i) := hTn
          clear hTn
          have HOL : Hid (Calls Tryd.prog 28 #[.pointer (some ⟨N, 0, none⟩)] wr fun e w' => e = .returned (.int .i64 (nth (turnT i U) 0)) ∧ w' = wr) := oldest_any N 0 firstL8 (turnT i U) wr HTn.out.play.2.1
          by_cases h8 : i < 8
          · obtain ⟨m, he, hm, hno⟩ := eight_at HU.out h8
            rw [(turn_at HU.out h8).1, he] at HOL
            have HE : Hid (nth U i = (m : Int)) := he
            obtain ⟨v, d0, -⟩ := HTn.out.fst i h8
            have d1 := HTn.out.seen m hm
            rw [show decide ((m : Int) ∈ U.take i) = false by simpa using hno] at d1
            have f0 := HTn.out.fr1 i
            have f1 := HTn.out.fr2 m
            have HTC : Hid (∀ w', Chg (footW N 0) ((wr.setCell ⟨M, i, none⟩ (.int .i64 (m : Int))).setCell ⟨M + 1, m, none⟩ (.bool true)) w' → WinV w' N 0 firstL8 (touchL (turnT i U) (m : Int)) → Turn w1 w' N M U (i + 1)) := fun w' hc hv => turn_one HU.out HTn.out h8 HE.out hm hv hc
            have HTV : Hid (WinV ((wr.setCell ⟨M, i, none⟩ (.int .i64 (m : Int))).setCell ⟨M + 1, m, none⟩ (.bool true)) N 0 firstL8 (turnT i U)) := by
              have hl := HTn.out.lt
              exact (HTn.out.play.2.1.chg (chg_setCell wr M i _) (fun k j hf hh => by have := hf.1; have := hh.1; omega)).chg (chg_setCell _ (M + 1) m _) (fun k j hf hh => by have := hf.1; have := hh.1; omega)
            have HT8 : Hid (Eight (turnT i U)) := HTn.out.play.2.2.1
            have i8 : (i : Int) < 8 := by omega
            have m8 : (m : Int) < 8 := by omega
            have m7 : ¬ (7 : Int) < (m : Int) := by omega
            clear he hno HTn HE
            go_wp2_with fail
            refine HOL.out.mono ?_
            rintro e w5 ⟨rfl, hw⟩
            rw [hw]
            clear hw w5 HOL
            go_wp2_with fail
            refine (touch_any N 0 (m : Int) firstL8 (turnT i U) _ HTV.out HT8.out).mono ?_
            rintro e w5 ⟨rfl, hv5, hc5, hz5⟩
            have HF : Hid (Turn w1 w5 N M U (i + 1)) := HTC.out w5 hc5 hv5
            clear hv5 hc5 hz5 HTC HTV HT8 d0 d1 f0 f1
            go_wp2
            go_roundw
            case rel => exact ⟨i + 1, by go_num, by omega, HF.out⟩
            case measure => simp [intOf]; omega
          · by_cases h16 : i < 16
            · obtain ⟨k, rfl⟩ : ∃ k, i = 8 + k := ⟨i - 8, by omega⟩
              have hk : k < 8 := by omega
              obtain ⟨m, he, hm, -⟩ := eight_at HU.out hk
              rw [(turn_at HU.out hk).2, he] at HOL
              obtain ⟨v, d0, hv⟩ := HTn.out.fst k hk
              have hv' := hv (by omega)
              rw [he] at hv'
              subst hv'
              have HTC : Hid (∀ w', Chg (footW N 0) wr w' → WinV w' N 0 firstL8 (touchL (turnT (8 + k) U) (m : Int)) → Turn w1 w' N M U (8 + (k + 1))) := fun w' hc hv => turn_two HU.out HTn.out hk he hv hc
              have HTV : Hid (WinV wr N 0 firstL8 (turnT (8 + k) U) ∧ Eight (turnT (8 + k) U)) := ⟨HTn.out.play.2.1, HTn.out.play.2.2.1⟩
              have m8 : (m : Int) < 8 := by omega
              have m7 : ¬ (7 : Int) < (m : Int) := by omega
              have k8 : (k : Int) < 8 := by omega
              have k16 : 8 + (k : Int) < 16 := by omega
              have e8 : IntKind.i64.wrap (8 + (k : Int) - 8) = (k : Int) := by rw [wrap_i64w _ (by omega) (by omega)]; omega
              have n8 : ¬ 8 + (k : Int) < 8 := by omega
              clear he hv HTn hi
              go_wp2_with fail
              refine HOL.out.mono ?_
              rintro e w5 ⟨rfl, hw⟩
              rw [hw]
              clear hw w5 HOL
              go_wp2_with fail
              refine (touch_any N 0 (m : Int) firstL8 (turnT (8 + k) U) _ HTV.out.1 HTV.out.2).mono ?_
              rintro e w5 ⟨rfl, hv5, hc5, hz5⟩
              have HF : Hid (Turn w1 w5 N M U (8 + (k + 1))) := HTC.out w5 hc5 hv5
              clear hv5 hc5 hz5 HTC HTV d0
              go_wp2
              go_roundw
              case rel => exact ⟨8 + (k + 1), by go_num, by omega, HF.out⟩
              case measure => simp [intOf]; omega
            · obtain rfl : i = 16 := by omega
              have HB : Hid (Below w.heap.size w wr) := below_two HB1.out.1 HTn.out.play.1
              clear HTn HOL
              go_wp2
              go_ret
              exact ⟨rfl, HB.out⟩
  · have hn' : (300 : Int) < (n0 : Int) := by omega
    go_wp2_with fail
    refine (awake_any w1 HB1.out.2.1).mono ?_
    rintro e w2 ⟨rfl, b2⟩
    have HB2 : Hid (Below w.heap.size w w2) := below_two HB1.out.1 b2
    clear b2
    go_wp2
    go_ret
    exact ⟨rfl, HB2.out⟩
theorem reads (os : Os) {H : Type} (enc : TypeId × Value → H) : ∃ places, DataW.whole enc Tryd.prog ((({ World.holding Tryd.prog os ⟨#[], #[], []⟩ with heap := (((World.holding Tryd.prog os ⟨#[], #[], []⟩).heap.modify 0 Win.lay0).modify 1 Win.lay1) } : World)).forCall (fun _ _ => 0) ⟨#[], #[.slice none 0 0], []⟩).memory Tryd.f7.params.toList Rows.windowOrderSpec.vars false #[.slice none 0 0].toList 8 = some ([.nil], [], places) :=
  ⟨[], by kernel_rfl⟩
set_option maxRecDepth 100000 in
theorem lifted (os : Os) (started : os.Started) (H : Type) (enc : TypeId × Value → H) (Fi : Stop.Interp) :
    ReturnsInHanded {} Tryd.checked os 7 .any ((OpenSpec.ofChange Rows.windowOrderSpec).preRow enc Tryd.prog Tryd.f7 Rows.windowOrderRow.domain false Rows.windowOrderRow.laid) (((OpenSpec.ofChange Rows.windowOrderSpec).at Fi).post enc Tryd.prog Tryd.f7 false true false false) := by
  obtain ⟨places, hx⟩ := reads os enc
  refine returnsInHanded_of_row (C := Tryd.checked) (s := OpenSpec.ofChange Rows.windowOrderSpec) Bas.own started (by kernel_rfl) Tryd.func7
    (witness_row_at (enc := enc) (C := Tryd.checked) false (({ World.holding Tryd.prog os ⟨#[], #[], []⟩ with heap := (((World.holding Tryd.prog os ⟨#[], #[], []⟩).heap.modify 0 Win.lay0).modify 1 Win.lay1) } : World)) #[.slice none 0 0] rfl (by kernel_rfl) (by kernel_rfl) (by kernel_rfl)
      (OpenSpec.preRow_of_cond 8 hx (by kernel_rfl) (fun k hk => by cases hk) (by kernel_rfl) (Win.laid_met os _))) ?_
  intro W base args ds gs before hval0 hW _ _ _ hL _ _
  have hval : ∀ (j : Nat) t v, Tryd.f7.params[j]? = some t → args[j]? = some v → Value.okWide Tryd.prog W .any base t v := hval0
  have hW' := hW
  obtain ⟨p, q, hA0, hV, rfl, hfz, hnd⟩ := hW
  have hA : DataW.TrodAll enc Tryd.prog W 0 (fun _ => true) true Tryd.f7.params.toList args.toList ds p := hA0
  rw [Tryd.params7] at hA hval
  obtain ⟨v0, vs0, d0, ds0, p0, q0, hargs, rfl, rfl, h0, r0⟩ := trodAll_cons hA
  obtain ⟨rfl, rfl, rfl⟩ := trodAll_nil r0
  obtain rfl : args = #[v0] := by cases args; simp_all
  obtain ⟨rfl, rfl⟩ := trodVars_none hV
  have k0 := h0
  have lt0 : ∀ x ∈ p0, x.block < W.heap.size := by obtain ⟨m, hm⟩ := k0; exact DataW.trod_lt m _ _ _ hm
  obtain ⟨a0, n0, c0, rfl⟩ := okWide_slice Tryd.underlying45 (hval 0 45 v0 rfl rfl)
  obtain ⟨D0, I0⟩ : ∃ D, Op3.Script W a0 n0 c0 D := by
    obtain ⟨fuel, hf⟩ := h0
    exact Op3.script_of Tryd.underlying45 Tryd.underlying49 (by kernel_rfl) rfl rfl rfl (by kernel_rfl) (by kernel_rfl) (by kernel_rfl) (by kernel_rfl) (by kernel_rfl) (by kernel_rfl) (by simpa [Value.cells] using hf)
  refine (walk W (Win.tabs_of hL) a0 n0 c0 D0 I0).mono fun e W' ⟨he, bel⟩ => ?_
  subst he
  exact ⟨_, rfl, _, _, _, [], _, [], hW', trodAll_mk1 (shut_bool Tryd.underlying4 _), (trodAll_cons_mk (Below.trod Bas.laidOut (by kernel_rfl) (of_decide_eq_true (by kernel_rfl)) k0 bel lt0) trodAll_mk0), rfl, bel.frame _, fun h => by cases h⟩


theorem over : Rows.windowOrderRow.holds Tryd.pinned (OpenSpec.ofChange Rows.windowOrderSpec) :=
  OpenClaim.holds_of_cond 7 Tryd.f7 rfl rfl rfl rfl rfl rfl rfl ⟨rfl, rfl, rfl, rfl, rfl⟩ rfl rfl rfl rfl rfl (by kernel_rfl) Tryd.func7 (by kernel_rfl)
    (of_decide_eq_true (by kernel_rfl)) (by unfold Func.isWrapper; first | (rw [if_pos (by decide +kernel)]; kernel_rfl) | (rw [if_neg (by decide +kernel)]; exact ⟨rfl, rfl⟩))
    (fun os started H enc _ Fi => by rw [OpenClaim.pre_eq_preRow]; exact lifted os started H enc Fi)
theorem plain (f : FuncId) (fn : Func) (hf : Tryd.pinned.checked.prog.funcNamed Rows.windowOrderRow.func = some f) (hfn : Tryd.pinned.checked.prog.funcs[f]? = some fn) :
    false = Tryd.pinned.checked.prog.looks [] ∧ ∀ (j : Nat) t, fn.params[j]? = some t → Tryd.pinned.checked.prog.wantsStandIn t = false := by
  obtain rfl : f = 7 := Option.some.inj ((show Tryd.prog.funcNamed Rows.windowOrderRow.func = some 7 by kernel_rfl).symm.trans hf) |>.symm
  obtain rfl : fn = Tryd.f7 := (Option.some.inj (Tryd.func7.symm.trans hfn)).symm
  refine ⟨by kernel_rfl, fun j t ht => ?_⟩
  rw [Tryd.params7] at ht
  have hm : t ∈ [45] := by simpa using Array.mem_of_getElem? ht
  have hall : ([45].all fun u => !Tryd.prog.wantsStandIn u) = true := by kernel_rfl
  exact (show Tryd.prog.wantsStandIn t = false by simpa using List.all_eq_true.1 hall t hm)
end Go.Proofs.YtgjmnghgpjfjmaaDoor.windowOrder
namespace Go.Proofs.YtgjmnghgpjfjmaaDoor
/-- The statement: the tied card. -/
theorem windowOrder_proved : Rows.WindowOrderCardSaid :=
  Claim7.holds_tied_plain_at .later [] _ _ _ _ windowOrder.over (fun _ h => by cases h) (by kernel_rfl) (fun _ h => by cases h) windowOrder_row_tie rfl ⟨rfl, rfl⟩ (by kernel_rfl) rfl windowOrder.plain (by kernel_rfl)
end Go.Proofs.YtgjmnghgpjfjmaaDoor
