/-
  In every order of calls the windows have the offsets that the document says, it tells the first that holds a number, and the one that was used longest ago: the statement WindowPlays is proved, for every input. The condition is the card's own: the listed tables are as the program's text lays them.
-/
import Derived.Test.YtgjmnghgpjfjmaaDoorWinAwk
import Derived.Test.YtgjmnghgpjfjmaaDoorWinRf2
import Derived.Test.YtgjmnghgpjfjmaaDoorWinTab
import Derived.Test.YtgjmnghgpjfjmaaDoorOps3
import Derived.Deep.DeepCutAuto
import Derived.Deep.CutBlock
namespace Go.Proofs.YtgjmnghgpjfjmaaDoor.windowPlays
open Go.ChangeShapes Go.WideShapes Go.ChangeAt Go.RowKit
open Go.ChangeMaps (open_string shut_string)
open Bas Win Op3
set_option linter.unusedVariables false

/-- The document's Windows and the program's, alike. -/
def Play (w2 w : World) (N B : Nat) (offs used : List Int) : Prop := Below w2.heap.size w2 w ∧ WinV w N 0 offs used ∧ (∃ vo vu, RWin w N B vo vu offs used) ∧ Eight used ∧ w2.heap.size ≤ N
theorem Play.below {w2 w w' : World} {N B : Nat} {offs used : List Int} (h : Play w2 w N B offs used) (hb : Below w.heap.size w w') : Play w2 w' N B offs used :=
  ⟨below_two h.1 hb, h.2.1.below hb, by obtain ⟨vo, vu, hr⟩ := h.2.2.1; exact ⟨vo, vu, hr.below hb⟩, h.2.2.2.1, h.2.2.2.2⟩
/-- The program's own Windows have changed. -/
theorem Play.own {w2 w w' : World} {N B : Nat} {offs used : List Int} {vo vu : Value} (h : Play w2 w N B offs used) (hr : RWin w N B vo vu offs used) (hc : Chg (footW N 0) w w') :
    Below w2.heap.size w2 w' ∧ RWin w' N B vo vu offs used :=
  ⟨h.1.trans (hc.below h.1.size (fun k j hk hh => by have := hh.1; have := h.2.2.2.2; omega)), hr.chg hc (fun k j hh => by have := hh.1; omega)⟩
theorem RWin.setO {w : World} {p b g of c : Nat} {vu : Value} {offs used : List Int} (h : RWin w p b (.slice (some ⟨g, of, none⟩) 8 c) vu offs used) (k : Nat) (x : Int) (hk : k < 8) :
    RWin (w.setCell ⟨g, of + k, none⟩ (.int .u32 x)) p b (.slice (some ⟨g, of, none⟩) 8 c) vu (offs.set k x) used := by
  have hc := chg_setCell w g (of + k) (.int .u32 x)
  have hg := h.go g rfl
  exact ⟨by rw [List.length_set, h.lo], h.lu, hc.cellAt h.c0 (by omega), hc.cellAt h.c1 (by omega), fun i => (hc.frozen b i h.lt).trans (h.fb i), h.so.set x (by rw [h.lo]; exact hk), h.su.chg hc (fun g' o hg' hh => by obtain rfl := hh.1; exact h.ap _ rfl hg'), h.pb, h.go, h.gu, h.ap⟩
theorem idxV_max (x : Int) : idxV x = max x 0 := by unfold idxV; split <;> omega
theorem idxB_ge (x : Int) : idxB x = decide (0 ≤ x) := rfl
theorem op_cells (w : World) (t : TypeId) (k n c : Int) {m : Nat} (hm : m = w.heap.size) : (w.alloc (.cells #[.int .i64 k, .int .i64 n, .int .u32 c] t)).cell? ⟨m, 0, none⟩ = some (.int .i64 k) ∧ (w.alloc (.cells #[.int .i64 k, .int .i64 n, .int .u32 c] t)).cell? ⟨m, 1, none⟩ = some (.int .i64 n) ∧ (w.alloc (.cells #[.int .i64 k, .int .i64 n, .int .u32 c] t)).cell? ⟨m, 2, none⟩ = some (.int .u32 c) := by
  subst hm; simp
set_option maxHeartbeats 8000000 in
set_option maxRecDepth 100000 in
theorem walk (w : World) (hT : Tabs w) (a0 : Option Addr) (n0 c0 : Nat) (D0 : Nat → D3) (I0 : Script w a0 n0 c0 D0) (c : Int) (wc : (Lit.int .u32 c).wf = true) :
    Calls Tryd.prog 6 #[.slice a0 n0 c0, .int .u32 c] w fun e w' => e = .returned (.bool true) ∧ Below w.heap.size w w' := by
  have hcr := u32_of wc
  have HT : Hid (Tabs w) := hT
  clear wc hT
  go_enter Tryd.func6, Tryd.ntmps6
  go_wp2_with fail
  refine (awake_any w HT.out).mono ?_
  rintro e w1 ⟨rfl, b1⟩
  have HB1 : Hid (Below w.heap.size w w1 ∧ Tabs w1 ∧ Script w1 a0 n0 c0 D0) := ⟨b1, HT.out.below b1, I0.mono b1⟩
  clear I0 b1 HT
  by_cases hn : n0 ≤ 300
  · have hn' : ¬ (300 : Int) < (n0 : Int) := by omega
    go_wp2_with fail
    refine (new_at w1).mono ?_
    rintro e w2 ⟨rfl, hv, hB, hz⟩
    obtain ⟨N, hN⟩ : ∃ N, w1.heap.size = N := ⟨_, rfl⟩
    have HB2 : Hid (Below w1.heap.size w1 w2 ∧ WinV w2 N 0 firstL8 used0 ∧ N < w2.heap.size ∧ w1.heap.size = N) := ⟨hB, by rw [← hN]; exact hv, by omega, hN⟩
    rw [hN]
    clear hv hB hz hN
    go_wp2_with fail
    refine (rNew_any w2 N HB2.out.2.2.1).mono ?_
    rintro e w3 ⟨B, vo, vu, rfl, hr, hB⟩
    have HP : Hid (Play w1 w3 N B firstL8 used0) := ⟨below_two HB2.out.1 hB, HB2.out.2.1.below hB, ⟨vo, vu, hr⟩, eight_0, by rw [HB2.out.2.2.2]; exact Nat.le_refl _⟩
    clear hr hB HB2 vo vu
    obtain ⟨⟨b, off, ha, hc⟩, hm⟩ := HB1.out.2.2
    have HN : Hid (0 < n0 → a0 = some ⟨b, off, none⟩) := ha
    have HC : Hid (∀ i, i < n0 → At3 w1 b (off + i * 3) (D0 i)) := hc
    clear ha hc hm
    go_wp2
    go_loopw [25] (fun i wr => ∃ k : Nat, k ≤ n0 ∧ i = .int .i64 k ∧ ∃ offs used, Play w1 wr N B offs used) (fun i _ => n0 - (intOf i).toNat)
    case atStart => exact ⟨0, Nat.zero_le _, rfl, _, _, HP.out⟩
    case round =>
      obtain ⟨k, hk, rfl, offs, used, hP⟩ := hrel
      have HQ : Hid (Play w1 wr N B offs used) := hP
      clear hP HP
      by_cases hlt : k < n0
      · obtain rfl := HN.out (by omega)
        have hop := (HC.out k hlt).mono HQ.out.1
        have hlt' : (k : Int) < (n0 : Int) := by omega
        generalize D0 k = d at hop
        obtain ⟨kd, nm, x⟩ := d
        obtain ⟨d0, d1, d2, -, -, wx⟩ := hop
        obtain ⟨x0, x1⟩ := u32_of wx
        clear wx
        dsimp only at d0 d1 d2 x0 x1
        obtain ⟨e0, e1, e2⟩ := op_cells wr 49 kd nm x rfl
        have HQ1 : Hid (Play w1 (wr.alloc (.cells #[.int .i64 kd, .int .i64 nm, .int .u32 x] 49)) N B offs used) := HQ.out.below ((Below.refl _ _).alloc (Nat.le_refl _) _)
        have hNw := HQ.out.2.1.lt
        clear HQ
        have HX : Hid (0 ≤ x ∧ x < 4294967296) := ⟨x0, x1⟩
        go_upto_block 2 with fail
        go_cut [] (fun wc => ∃ offs used, Play w1 wc N B offs used)
        case first =>
          by_cases h1 : kd = 1
          · subst h1
            obtain ⟨vo, vu, hr⟩ := HQ1.out.2.2.1
            have HR : Hid (RWin _ N B vo vu offs used) := hr
            clear hr
            go_wp2_with fail
            refine (set_any N 0 nm x offs used _ HQ1.out.2.1 x0 x1).mono ?_
            rintro e w5 ⟨rfl, hv5, hc5, hz5⟩
            have f1 := hc5.cellAt e1 (fun h => by have := h.1; omega)
            have f2 := hc5.cellAt e2 (fun h => by have := h.1; omega)
            have HO5 := HQ1.out.own HR.out hc5
            have H5 : Hid (Below w1.heap.size w1 w5 ∧ WinV w5 N 0 (setL offs nm x) used ∧ RWin w5 N B vo vu offs used ∧ Eight used ∧ w1.heap.size ≤ N) := ⟨HO5.1, hv5, HO5.2, HQ1.out.2.2.2.1, HQ1.out.2.2.2.2⟩
            clear hv5 hc5 hz5 HO5 HR e0 e1 e2 d0 d1 d2 hNw
            by_cases h2 : 0 ≤ nm
            · by_cases h3 : nm < 8
              · obtain ⟨j, rfl⟩ := Int.eq_ofNat_of_zero_le h2
                have hj : j < 8 := by omega
                obtain ⟨g, of, cp, hvo, hcs⟩ := seg_open H5.out.2.2.1.so H5.out.2.2.1.lo
                subst hvo
                have g0 := H5.out.2.2.1.c0
                have g1 := (hcs j hj).1
                have g2 := (hcs j hj).2
                have hgz := H5.out.2.2.1.so.lt (g := g) rfl
                have HS : Hid (RWin (w5.setCell ⟨g, of + j, none⟩ (.int .u32 x)) N B (.slice (some ⟨g, of, none⟩) 8 cp) vu (offs.set j x) used) := windowPlays.RWin.setO H5.out.2.2.1 j x hj
                have HW : Hid (WinV (w5.setCell ⟨g, of + j, none⟩ (.int .u32 x)) N 0 (offs.set j x) used ∧ Below w1.heap.size w1 (w5.setCell ⟨g, of + j, none⟩ (.int .u32 x))) := by
                  have hc := chg_setCell w5 g (of + j) (.int .u32 x)
                  have hg := (H5.out.2.2.1.go g rfl).1
                  have h1 := H5.out.2.1
                  rw [setL_yes offs j x hj] at h1
                  refine ⟨h1.chg hc (fun k' j' hf hh => by have := hf.1; omega), H5.out.1.trans (hc.below H5.out.1.size (fun k' j' hk' hh => by have := hh.1; have := H5.out.2.2.2.2; omega))⟩
                obtain ⟨y, hy⟩ : ∃ y, nth offs j = y := ⟨_, rfl⟩
                rw [hy] at g1
                clear hy hcs
                go_upto_region 11 with fail
                go_region
                all_goals
                  go_wp2
                  go_meet
                  case rel => exact ⟨_, _, Play.below (show Play w1 _ N B _ used from ⟨HW.out.2, HW.out.1, ⟨_, _, HS.out⟩, H5.out.2.2.2⟩) (below_dn _ _)⟩
              · have h4 : 8 ≤ nm := by omega
                have HS := H5.out.2.1
                rw [setL_no offs x (show nm < 0 ∨ 7 < nm by omega)] at HS
                have HF : Hid (Play w1 w5 N B offs used) := ⟨H5.out.1, HS, ⟨vo, vu, H5.out.2.2.1⟩, H5.out.2.2.2⟩
                clear HS
                go_wp2_with fail
                go_meet
                case rel => exact ⟨_, _, HF.out⟩
            · have HS := H5.out.2.1
              rw [setL_no offs x (show nm < 0 ∨ 7 < nm by omega)] at HS
              have HF : Hid (Play w1 w5 N B offs used) := ⟨H5.out.1, HS, ⟨vo, vu, H5.out.2.2.1⟩, H5.out.2.2.2⟩
              clear HS
              go_wp2_with fail
              go_meet
              case rel => exact ⟨_, _, HF.out⟩
          · by_cases h2 : kd = 2
            · subst h2
              obtain ⟨vo, vu, hr⟩ := HQ1.out.2.2.1
              have HR : Hid (RWin _ N B vo vu offs used) := hr
              clear hr
              go_wp2_with fail
              refine (touch_any N 0 nm offs used _ HQ1.out.2.1 HQ1.out.2.2.2.1).mono ?_
              rintro e w5 ⟨rfl, hv5, hc5, hz5⟩
              have f1 := hc5.cellAt e1 (fun h => by have := h.1; omega)
              have HO5 := HQ1.out.own HR.out hc5
              have H5 : Hid (Below w1.heap.size w1 w5 ∧ WinV w5 N 0 offs (touchL used nm) ∧ RWin w5 N B vo vu offs used ∧ Eight used ∧ w1.heap.size ≤ N) := ⟨HO5.1, hv5, HO5.2, HQ1.out.2.2.2.1, HQ1.out.2.2.2.2⟩
              clear hv5 hc5 hz5 HO5 HR e0 e1 e2 d0 d1 d2 hNw
              go_wp2_with fail
              refine (rTouch_any N B nm vo vu offs used w5 H5.out.2.2.1 H5.out.2.2.2.1).mono ?_
              rintro e w6 ⟨rfl, ⟨vu', hr6⟩, hc6⟩
              have HF : Hid (Play w1 w6 N B offs (touchL used nm)) := by
                have hp := H5.out.2.2.1.pb
                have hN := H5.out.2.2.2.2
                refine ⟨H5.out.1.trans (hc6.below H5.out.1.size (fun k' j' hk' hh => by omega)), H5.out.2.1.chg hc6 (fun k' j' hf hh => by have := hf.1; omega), ⟨vo, vu', hr6⟩, touch_eight H5.out.2.2.2.1 nm, hN⟩
              clear hr6 hc6 H5 f1
              go_wp2_with fail
              go_meet
              case rel => exact ⟨_, _, HF.out⟩
            · have g1 : (kd == 1) = false := by simp [h1]
              have g2 : (kd == 2) = false := by simp [h2]
              clear h1 h2 d0 d1 d2
              go_wp2_with fail
              go_meet
              case rel => exact ⟨_, _, HQ1.out⟩
        case rest =>
          obtain ⟨offs, used, hP⟩ := hcut
          have HP : Hid (Play w1 wc N B offs used) := hP
          obtain ⟨c0', c1'⟩ := hcr
          clear hP HQ1 e0 e1 e2 d0 d1 d2 HX x0 x1 hNw HC
          go_wp2_with fail
          refine (find_any N 0 c offs used wc HP.out.2.1 c0' c1').mono ?_
          rintro e w5 ⟨rfl, hw⟩
          rw [hw, idxV_max, idxB_ge]
          clear hw w5
          obtain ⟨vo, vu, hr⟩ := HP.out.2.2.1
          have HR : Hid (RWin wc N B vo vu offs used) := hr
          clear hr
          go_wp2_with fail
          refine (rFind_any N B c vo vu offs used wc HR.out HP.out.2.1.wo c0' c1').mono ?_
          rintro e w5 ⟨rfl, hw⟩
          rw [hw]
          clear hw w5
          have hfr := find_rng offs c HR.out.lo
          obtain ⟨y, hy⟩ : ∃ y, findL offs c = y := ⟨_, rfl⟩
          rw [hy] at hfr ⊢
          clear hy
          obtain ⟨g, of, cp, hvo, hcs⟩ := seg_open HR.out.so HR.out.lo
          subst hvo
          obtain ⟨g', of', cp', hvu, hcu⟩ := seg_open HR.out.su HR.out.lu
          subst hvu
          have r0 := HR.out.c0
          have r1 := HR.out.c1
          have r2 := (hcu 0 (by decide)).1
          rw [Nat.add_zero] at r2
          have HCS : Hid (∀ i : Nat, i < 8 → wc.cell? ⟨g, of + i, none⟩ = some (.int .u32 (nth offs i))) := fun i hi => (hcs i hi).1
          obtain ⟨z, hz⟩ : ∃ z, nth used 0 = z := ⟨_, rfl⟩
          have HOL : Hid (∀ n, Calls Tryd.prog 28 #[.pointer (some ⟨N, 0, none⟩)] (wc.drewN n) fun e w' => e = .returned (.int .i64 z) ∧ w' = wc.drewN n) := fun n => by
            have := oldest_any N 0 offs used (wc.drewN n) (HP.out.2.1.below (below_dn _ _))
            rwa [hz] at this
          rw [hz] at r2
          clear hz hcs hcu HR
          go_upto_region 17 with fail
          go_quiet (first | (go_at_call 28; exact Calls.quiet_of_same (HOL.out _)))
          have HW : Hid (Play w1 (wc.drewN nq) N B offs used ∧ (wc.drewN nq).cell? ⟨B, 0, none⟩ = some (.slice (some ⟨g, of, none⟩) 8 cp) ∧ ∀ i : Nat, i < 8 → (wc.drewN nq).cell? ⟨g, of + i, none⟩ = some (.int .u32 (nth offs i))) := ⟨HP.out.below (below_dn _ _), r0, HCS.out⟩
          clear HP HCS HOL r0 r1 r2
          generalize wc.drewN nq = W at HW ⊢
          clear hfr nq wc
          go_wp2
          go_loopw [12, 96] (fun _ i wx => ∃ j : Nat, i = .int .i64 j ∧ j ≤ 8 ∧ ∃ n, wx = W.drewN n) (fun _ i _ => 8 - (intOf i).toNat)
          case atStart => exact ⟨0, rfl, Nat.zero_le _, 0, rfl⟩
          case round =>
            obtain ⟨j, rfl, hj, n, hw⟩ := hrel
            have HJ : Hid (Play w1 wr N B offs used ∧ wr.cell? ⟨B, 0, none⟩ = some (.slice (some ⟨g, of, none⟩) 8 cp) ∧ (∀ i : Nat, i < 8 → wr.cell? ⟨g, of + i, none⟩ = some (.int .u32 (nth offs i))) ∧ wr = W.drewN n) := by rw [hw]; exact ⟨HW.out.1.below (below_dn _ _), HW.out.2.1, HW.out.2.2, rfl⟩
            clear hw
            by_cases hj8 : j < 8
            · have r0 := HJ.out.2.1
              have r1 := HJ.out.2.2.1 j hj8
              have i8 : (j : Int) < 8 := by omega
              have HA : Hid (∀ n, Calls Tryd.prog 15 #[.pointer (some ⟨N, 0, none⟩), .int .i64 (j : Int)] (wr.drewN n) fun e w' => e = .returned (.int .u32 (nth offs j)) ∧ w' = wr.drewN n) := fun n => by
                have := at_any N 0 (j : Int) offs used (wr.drewN n) (HJ.out.1.2.1.below (below_dn _ _))
                rwa [atW_yes _ j hj8] at this
              obtain ⟨y, hy⟩ : ∃ y, nth offs j = y := ⟨_, rfl⟩
              rw [hy] at r1 HA
              clear hy
              go_upto_region 22 with fail
              go_quiet (first | (go_at_call 15; exact Calls.quiet_of_same (HA.out _)))
              go_wp2
              go_roundw
              case rel => exact ⟨j + 1, by go_num, by omega, by rw [HJ.out.2.2.2]; exact dn2 _ _ _⟩
              case measure => simp [intOf]; omega
            · obtain rfl : j = 8 := by omega
              go_wp2
              go_roundw
              case rel => exact ⟨k + 1, by omega, by go_num, offs, used, HJ.out.1⟩
              case measure => simp [intOf]; omega
      · go_wp2
        go_ret
        exact ⟨rfl, below_two HB1.out.1 HQ.out.1⟩
  · have hn' : (300 : Int) < (n0 : Int) := by omega
    go_wp2_with fail
    refine (awake_any w1 HB1.out.2.1).mono ?_
    rintro e w2 ⟨rfl, b2⟩
    have HB2 : Hid (Below w.heap.size w w2) := below_two HB1.out.1 b2
    clear b2
    go_wp2
    go_ret
    exact ⟨rfl, HB2.out⟩
theorem reads (os : Os) {H : Type} (enc : TypeId × Value → H) : ∃ places, DataW.whole enc Tryd.prog ((({ World.holding Tryd.prog os ⟨#[], #[], []⟩ with heap := (((World.holding Tryd.prog os ⟨#[], #[], []⟩).heap.modify 0 Win.lay0).modify 1 Win.lay1) } : World)).forCall (fun _ _ => 0) ⟨#[], #[.slice none 0 0, .int .u32 0], []⟩).memory Tryd.f6.params.toList Rows.windowPlaysSpec.vars false #[.slice none 0 0, .int .u32 0].toList 8 = some ([.nil, .lit (.int .u32 0)], [], places) :=
  ⟨[], by kernel_rfl⟩
set_option maxRecDepth 100000 in
theorem lifted (os : Os) (started : os.Started) (H : Type) (enc : TypeId × Value → H) (Fi : Stop.Interp) :
    ReturnsInHanded {} Tryd.checked os 6 .any ((OpenSpec.ofChange Rows.windowPlaysSpec).preRow enc Tryd.prog Tryd.f6 Rows.windowPlaysRow.domain false Rows.windowPlaysRow.laid) (((OpenSpec.ofChange Rows.windowPlaysSpec).at Fi).post enc Tryd.prog Tryd.f6 false true false false) := by
  obtain ⟨places, hx⟩ := reads os enc
  refine returnsInHanded_of_row (C := Tryd.checked) (s := OpenSpec.ofChange Rows.windowPlaysSpec) Bas.own started (by kernel_rfl) Tryd.func6
    (witness_row_at (enc := enc) (C := Tryd.checked) false (({ World.holding Tryd.prog os ⟨#[], #[], []⟩ with heap := (((World.holding Tryd.prog os ⟨#[], #[], []⟩).heap.modify 0 Win.lay0).modify 1 Win.lay1) } : World)) #[.slice none 0 0, .int .u32 0] rfl (by kernel_rfl) (by kernel_rfl) (by kernel_rfl)
      (OpenSpec.preRow_of_cond 8 hx (by kernel_rfl) (fun k hk => by cases hk) (by kernel_rfl) (Win.laid_met os _))) ?_
  intro W base args ds gs before hval0 hW _ _ _ hL _ _
  have hval : ∀ (j : Nat) t v, Tryd.f6.params[j]? = some t → args[j]? = some v → Value.okWide Tryd.prog W .any base t v := hval0
  have hW' := hW
  obtain ⟨p, q, hA0, hV, rfl, hfz, hnd⟩ := hW
  have hA : DataW.TrodAll enc Tryd.prog W 0 (fun _ => true) true Tryd.f6.params.toList args.toList ds p := hA0
  rw [Tryd.params6] at hA hval
  obtain ⟨v0, vs0, d0, ds0, p0, q0, hargs, rfl, rfl, h0, r0⟩ := trodAll_cons hA
  obtain ⟨v1, vs1, d1, ds1, p1, q1, rfl, rfl, rfl, h1, r1⟩ := trodAll_cons r0
  obtain ⟨rfl, rfl, rfl⟩ := trodAll_nil r1
  obtain rfl : args = #[v0, v1] := by cases args; simp_all
  obtain ⟨rfl, rfl⟩ := trodVars_none hV
  have k0 := h0
  have lt0 : ∀ x ∈ p0, x.block < W.heap.size := by obtain ⟨m, hm⟩ := k0; exact DataW.trod_lt m _ _ _ hm
  have k1 := h1
  have lt1 : ∀ x ∈ p1, x.block < W.heap.size := by obtain ⟨m, hm⟩ := k1; exact DataW.trod_lt m _ _ _ hm
  obtain ⟨a0, n0, c0, rfl⟩ := okWide_slice Tryd.underlying45 (hval 0 45 v0 rfl rfl)
  obtain ⟨D0, I0⟩ : ∃ D, Op3.Script W a0 n0 c0 D := by
    obtain ⟨fuel, hf⟩ := h0
    exact Op3.script_of Tryd.underlying45 Tryd.underlying49 (by kernel_rfl) rfl rfl rfl (by kernel_rfl) (by kernel_rfl) (by kernel_rfl) (by kernel_rfl) (by kernel_rfl) (by kernel_rfl) (by simpa [Value.cells] using hf)
  obtain ⟨a1, rfl, rfl, rfl, w1⟩ := open_int Tryd.underlying22 (hval 1 22 v1 rfl rfl) h1
  refine (walk W (Win.tabs_of hL) a0 n0 c0 D0 I0 a1 w1).mono fun e W' ⟨he, bel⟩ => ?_
  subst he
  exact ⟨_, rfl, _, _, _, [], _, [], hW', trodAll_mk1 (shut_bool Tryd.underlying4 _), (trodAll_cons_mk (Below.trod Bas.laidOut (by kernel_rfl) (of_decide_eq_true (by kernel_rfl)) k0 bel lt0) (trodAll_cons_mk (Below.trod Bas.laidOut (by kernel_rfl) (of_decide_eq_true (by kernel_rfl)) k1 bel lt1) trodAll_mk0)), rfl, bel.frame _, fun h => by cases h⟩


theorem over : Rows.windowPlaysRow.holds Tryd.pinned (OpenSpec.ofChange Rows.windowPlaysSpec) :=
  OpenClaim.holds_of_cond 6 Tryd.f6 rfl rfl rfl rfl rfl rfl rfl ⟨rfl, rfl, rfl, rfl, rfl⟩ rfl rfl rfl rfl rfl (by kernel_rfl) Tryd.func6 (by kernel_rfl)
    (of_decide_eq_true (by kernel_rfl)) (by unfold Func.isWrapper; first | (rw [if_pos (by decide +kernel)]; kernel_rfl) | (rw [if_neg (by decide +kernel)]; exact ⟨rfl, rfl⟩))
    (fun os started H enc _ Fi => by rw [OpenClaim.pre_eq_preRow]; exact lifted os started H enc Fi)
theorem plain (f : FuncId) (fn : Func) (hf : Tryd.pinned.checked.prog.funcNamed Rows.windowPlaysRow.func = some f) (hfn : Tryd.pinned.checked.prog.funcs[f]? = some fn) :
    false = Tryd.pinned.checked.prog.looks [] ∧ ∀ (j : Nat) t, fn.params[j]? = some t → Tryd.pinned.checked.prog.wantsStandIn t = false := by
  obtain rfl : f = 6 := Option.some.inj ((show Tryd.prog.funcNamed Rows.windowPlaysRow.func = some 6 by kernel_rfl).symm.trans hf) |>.symm
  obtain rfl : fn = Tryd.f6 := (Option.some.inj (Tryd.func6.symm.trans hfn)).symm
  refine ⟨by kernel_rfl, fun j t ht => ?_⟩
  rw [Tryd.params6] at ht
  have hm : t ∈ [45, 22] := by simpa using Array.mem_of_getElem? ht
  have hall : ([45, 22].all fun u => !Tryd.prog.wantsStandIn u) = true := by kernel_rfl
  exact (show Tryd.prog.wantsStandIn t = false by simpa using List.all_eq_true.1 hall t hm)
end Go.Proofs.YtgjmnghgpjfjmaaDoor.windowPlays
namespace Go.Proofs.YtgjmnghgpjfjmaaDoor
/-- The statement: the tied card. -/
theorem windowPlays_proved : Rows.WindowPlaysCardSaid :=
  Claim7.holds_tied_plain_at .later [] _ _ _ _ windowPlays.over (fun _ h => by cases h) (by kernel_rfl) (fun _ h => by cases h) windowPlays_row_tie rfl ⟨rfl, rfl⟩ (by kernel_rfl) rfl windowPlays.plain (by kernel_rfl)
end Go.Proofs.YtgjmnghgpjfjmaaDoor
