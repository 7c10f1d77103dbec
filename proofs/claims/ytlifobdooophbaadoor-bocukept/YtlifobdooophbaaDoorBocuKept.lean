/-
  Proved: in the text of a list each byte that is kept for itself stands just as often as that scalar does; there are at most four bytes a scalar, and at least one. No condition.
-/
import Derived.Test.YtlifobdooophbaaDoorBOLaw2
import Derived.Test.YtlifobdooophbaaDoorDifRf1
import Derived.Test.YtlifobdooophbaaDoorDifTab
namespace Go.Proofs.YtlifobdooophbaaDoor
open Go.ChangeShapes Go.WideShapes Go.ChangeAt Go.RowKit
open Go.ChangeMaps (open_string shut_string)
namespace bocuKept
open Bas Sca Stp Scn Cod BO
set_option linter.unusedVariables false

theorem cnt_snoc (l : List Int) (x b : Int) : Boc.cntL (l ++ [x]) b = Boc.cntL l b + if x = b then 1 else 0 := by
  rw [Boc.cntL_append]
  congr 1
  unfold Boc.cntL
  by_cases h : x = b <;> simp [h]
theorem cnt_le (l : List Int) (b : Int) : Boc.cntL l b ≤ l.length := List.length_filter_le _ _
set_option maxHeartbeats 1000000 in
/-- How often is a number in a list? -/
theorem rCount_any (a : Option Addr) (n cp : Nat) (l : List Int) (x : Int) (w : World) (hr : Row .u32 w a l) (hl : l.length = n) (hn : n ≤ 100000) :
    Calls Tryd.prog 29 #[.slice a n cp, .int .u32 x] w fun e w' => e = .returned (.int .i64 (Boc.cntL l x)) ∧ w' = w := by
  obtain ⟨b1, o1, n1, c1⟩ := hr
  have N1 : Hid (l ≠ [] → a = some ⟨b1, o1, none⟩) := n1
  have HC : Hid (∀ i, i < l.length → w.cell? ⟨b1, o1 + i, none⟩ = some (.int .u32 (nth l i))) := c1
  have HL : Hid (l.length = n) := hl
  clear n1 c1 hl
  go_enter Tryd.func29, Tryd.ntmps29
  go_wp2
  go_loopw [5, 6] (fun m i wr => ∃ k : Nat, i = .int .i64 k ∧ k ≤ n ∧ m = .int .i64 (Boc.cntL (l.take k) x) ∧ wr = w) (fun _ i _ => n - (intOf i).toNat)
  case atStart => exact ⟨0, rfl, Nat.zero_le _, rfl, rfl⟩
  case round =>
    obtain ⟨k, rfl, hk, rfl, hw⟩ := hrel
    subst hw
    by_cases hlt : (k : Int) < (n : Int)
    · have hkn : k < l.length := by have := HL.out; omega
      obtain rfl := N1.out (by intro e; subst e; simp at hkn)
      have hcell := HC.out k hkn
      have hz := cnt_le (l.take k) x
      rw [List.length_take] at hz
      have hs := cnt_snoc (l.take k) (nth l k) x
      rw [← take_snoc l k hkn] at hs
      obtain ⟨y, hy⟩ : ∃ y, nth l k = y := ⟨_, rfl⟩
      obtain ⟨m, hm⟩ : ∃ m, Boc.cntL (l.take k) x = m := ⟨_, rfl⟩
      rw [hy] at hcell hs
      rw [hm] at hs hz ⊢
      clear hy hm hkn
      by_cases he : y = x
      · subst he
        have HS : Hid (Boc.cntL (l.take (k + 1)) y = m + 1) := by rw [if_pos rfl] at hs; exact hs
        clear hs
        go_wp2
        go_roundw
        case rel => exact ⟨k + 1, by go_num, by omega, by rw [HS.out]; go_num, trivial⟩
        case measure => simp [intOf]; omega
      · have HS : Hid (Boc.cntL (l.take (k + 1)) x = m) := by rw [if_neg he] at hs; exact hs
        have hne : (y == x) = false := by rw [beq_eq_false_iff_ne]; exact he
        clear hs
        go_wp2
        go_roundw
        case rel => exact ⟨k + 1, by go_num, by omega, by rw [HS.out], trivial⟩
        case measure => simp [intOf]; omega
    · have HF : Hid (l.take k = l) := by
        show _ = _
        rw [show k = l.length by have := HL.out; omega, List.take_length]
      obtain ⟨m, hm⟩ : ∃ m, Boc.cntL (l.take k) x = m := ⟨_, rfl⟩
      have HM : Hid (Boc.cntL (l.take k) x = m) := hm
      rw [hm]
      clear hm
      go_wp2
      go_ret
      exact ⟨ret_int (by rw [← HM.out, HF.out]), rfl⟩
set_option maxHeartbeats 8000000 in
set_option maxRecDepth 100000 in
theorem walk (w : World) (hT : Dif.Tabs w) (a0 : Option Addr) (n0 c0 : Nat) (l0 : List Int) (I0 : Ints .u32 w a0 n0 c0 l0) (J0 : Cap a0 n0 c0) :
    Calls Tryd.prog 9 #[.slice a0 n0 c0] w fun e w' => e = .returned (.bool true) ∧ Below w.heap.size w w' := by
  have HT : Hid (Dif.Tabs w) := hT
  obtain ⟨π, -⟩ : ∃ π : Par, π = π := ⟨(), rfl⟩
  have HI : Hid (Ints .u32 w a0 n0 c0 l0 ∧ Cap a0 n0 c0) := ⟨I0, J0⟩
  have hn0 := I0.max
  clear hT I0 J0
  go_enter Tryd.func9, Tryd.ntmps9
  go_wp2_with fail
  refine (awake_any w HT.out).mono ?_
  rintro e w1 ⟨rfl, b1⟩
  have HB1 : Hid (Below w.heap.size w w1) := b1
  have HAW : Hid (Dif.Tabs w1) := HT.out.below b1
  clear b1
  go_wp2_with fail
  refine (great_any _ none none 0 0 0 0 w1).mono ?_
  rintro e w1 ⟨rfl, rfl⟩
  obtain ⟨g, hg⟩ : ∃ g, (decide ((n0 : Int) > 400) || (decide (0 > 200) || decide (0 > 200))) = g := ⟨_, rfl⟩
  rw [hg]
  cases g with
  | true =>
    clear hg
    go_wp2_with fail
    refine (awake_any _ HAW.out).mono ?_
    rintro e w2 ⟨rfl, b2⟩
    go_wp2
    go_ret
    exact ⟨rfl, below_two HB1.out b2⟩
  | false =>
    obtain ⟨h400, -, -⟩ := great_no hg
    clear hg
    go_wp2_with fail
    refine (rFirst_any a0 n0 c0 l0 w1 (HI.out.1.row.mono HB1.out) HI.out.1.len HI.out.1.max).mono ?_
    rintro e w1 ⟨rfl, rfl⟩
    by_cases hok : okLen l0 < l0.length
    · rw [firstL_ok, if_pos hok]
      have hge : (okLen l0 : Int) ≥ 0 := by omega
      clear hok
      go_wp2_with fail
      refine (awake_any _ HAW.out).mono ?_
      rintro e w2 ⟨rfl, b2⟩
      go_wp2
      go_ret
      exact ⟨rfl, below_two HB1.out b2⟩
    · rw [firstL_ok, if_neg hok]
      have HS0 : Hid (∀ c ∈ l0, isB c = true ∧ 0 ≤ c) := scalars_of hok HI.out.1.fits
      clear hok
      go_wp2_with fail
      refine (newEn_any π _ rfl HAW.out).mono ?_
      rintro e w2 ⟨rfl, E2, z2, B2⟩
      obtain ⟨N, hN⟩ : ∃ N, N = w1.heap.size := ⟨_, rfl⟩
      have HN : Hid (w.heap.size ≤ N) := by show w.heap.size ≤ N; rw [hN]; exact HB1.out.size
      rw [← hN] at E2 z2 B2 ⊢
      have HB2 : Hid (Below w.heap.size w w2) := HB1.out.trans (B2.mono HN.out)
      clear hN
      go_wp2_with fail
      refine (write_any N _ a0 n0 c0 l0 none none 0 0 0 0 [] [] w2 E2 (came_of HI.out.2 HI.out.1.row HI.out.1.len HB2.out (fun k hk hf => by have := footE_nil hf; have := HN.out; omega)) (fun c hc => fits_u32' (HI.out.1.fits c hc)) (ints_none _ _) (ints_none _ _) (fun b' o' h0 e h => by omega) (fun b' o' h0 e h => by omega) (by omega) (by omega) (by have := HI.out.1.len; omega)).mono ?_
      rintro e w3 ⟨rfl, sg3, v3, E3, C3⟩
      have HB3 : Hid (Below w.heap.size w w3) := HB2.out.trans (C3.below HB2.out.size (fun k j hk h => by have := footE_nil h; have := HN.out; omega))
      obtain ⟨s, hs⟩ : ∃ s, Stp.strOf (txtS π l0) = s := ⟨_, rfl⟩
      have hbs : bytesL s = txtS π l0 := by rw [← hs]; exact bytesL_strOf _ (txt_byte π l0 HS0.out)
      have HCN : Hid (∀ b : Int, b ≤ 32 → Dif.wor b < 0 → Boc.cntL (bytesL s) b = Boc.cntL l0 b) := fun b h1 h2 => by rw [hbs]; exact Boc.cnt_all h1 h2 l0 64 Boc.ga_64 HS0.out
      have hal : l0.length ≤ (txtS π l0).length ∧ (txtS π l0).length ≤ 4 * l0.length := Boc.all_len l0 64 (fun c hc => (HS0.out c hc).1)
      have hsz : n0 ≤ s.size ∧ s.size ≤ 4 * n0 := by
        have := HI.out.1.len
        rw [← bytesL_length, hbs]
        exact ⟨by omega, by have h4 := hal.2; omega⟩
      rw [hs]
      have HSL : Hid ((bytesL s).length = s.size) := bytesL_length s
      obtain ⟨hz1, hz2⟩ := hsz
      clear hs hbs hal E2 z2 B2 E3 C3 HB2
      go_wp2
      go_loopw [27] (fun i wr => ∃ k : Nat, i = .int .i64 k ∧ k ≤ 33 ∧ Below w.heap.size w wr) (fun i _ => 33 - (intOf i).toNat)
      case atStart => exact ⟨0, rfl, Nat.zero_le _, HB3.out⟩
      case round =>
        obtain ⟨k, rfl, hk, hB⟩ := hrel
        have HB : Hid (Below w.heap.size w wr) := hB
        clear hB HB3
        by_cases hlt : (k : Int) < 33
        · go_wp2_with fail
          refine (Dif.rKept_any (k : Int) wr (by omega) (by omega)).mono ?_
          rintro e w4 ⟨rfl, b4⟩
          have HB4 : Hid (Below w.heap.size w w4) := below_two HB.out b4
          clear b4
          obtain ⟨t, ht⟩ : ∃ t, Dif.keptB (k : Int) = t := ⟨_, rfl⟩
          rw [ht]
          cases t with
          | false =>
            clear ht
            go_wp2
            go_roundw
            case rel => exact ⟨k + 1, by go_num, by omega, HB4.out⟩
            case measure => simp [intOf]; omega
          | true =>
            have hkp : (k : Int) ≤ 32 ∧ Dif.wor (k : Int) < 0 := by
              unfold Dif.keptB at ht
              simpa using ht
            have HC : Hid (Boc.cntL (bytesL s) (k : Int) = Boc.cntL l0 (k : Int)) := HCN.out _ hkp.1 hkp.2
            clear hkp ht
            go_wp2
            go_loopw [6, 7] (fun m j wr => ∃ i : Nat, j = .int .i64 i ∧ i ≤ s.size ∧ m = .int .i64 (Boc.cntL ((bytesL s).take i) (k : Int)) ∧ wr = w4) (fun _ j _ => s.size - (intOf j).toNat)
            case atStart => exact ⟨0, rfl, Nat.zero_le _, rfl, rfl⟩
            case round =>
              obtain ⟨i, rfl, hi, rfl, hw⟩ := hrel
              subst hw
              by_cases hlt2 : (i : Int) < (s.size : Int)
              · have his : i < s.size := by omega
                have hsn := str_nth s i his
                have hz := cnt_le ((bytesL s).take i) (k : Int)
                rw [List.length_take] at hz
                have hsn2 := cnt_snoc ((bytesL s).take i) (nth (bytesL s) i) (k : Int)
                rw [← take_snoc (bytesL s) i (by rw [HSL.out]; exact his)] at hsn2
                have hby := bytesL_byte s _ (nth_mem (l := bytesL s) (i := i) (by rw [HSL.out]; exact his))
                obtain ⟨y, hy⟩ : ∃ y, nth (bytesL s) i = y := ⟨_, rfl⟩
                obtain ⟨m, hm⟩ : ∃ m, Boc.cntL ((bytesL s).take i) (k : Int) = m := ⟨_, rfl⟩
                rw [hy] at hsn hsn2 hby
                rw [hm] at hsn2 hz ⊢
                clear hy hm
                by_cases he : y = (k : Int)
                · have HS : Hid (Boc.cntL ((bytesL s).take (i + 1)) (k : Int) = m + 1) := by rw [if_pos he] at hsn2; exact hsn2
                  have heq : (y == (k : Int)) = true := by rw [he]; simp
                  clear hsn2
                  go_wp2
                  go_roundw
                  case rel => exact ⟨i + 1, by go_num, by omega, by rw [HS.out]; go_num, trivial⟩
                  case measure => simp [intOf]; omega
                · have HS : Hid (Boc.cntL ((bytesL s).take (i + 1)) (k : Int) = m) := by rw [if_neg he] at hsn2; exact hsn2
                  have hne : (y == (k : Int)) = false := by rw [beq_eq_false_iff_ne]; exact he
                  clear hsn2
                  go_wp2
                  go_roundw
                  case rel => exact ⟨i + 1, by go_num, by omega, by rw [HS.out], trivial⟩
                  case measure => simp [intOf]; omega
              · have HF : Hid ((bytesL s).take i = bytesL s) := by
                  show _ = _
                  rw [List.take_of_length_le]; rw [HSL.out]; omega
                rw [HF.out, HC.out]
                obtain ⟨m, hm⟩ : ∃ m, Boc.cntL l0 (k : Int) = m := ⟨_, rfl⟩
                have HM : Hid (Boc.cntL l0 (k : Int) = m) := hm
                rw [hm]
                clear hm
                go_wp2_with fail
                refine (rCount_any a0 n0 c0 l0 (k : Int) _ (HI.out.1.row.mono HB4.out) HI.out.1.len (by omega)).mono ?_
                rintro e w5 ⟨rfl, hw⟩
                rw [hw, HM.out]
                clear hw w5
                go_wp2
                go_roundw
                case rel => exact ⟨k + 1, by go_num, by omega, HB4.out⟩
                case measure => simp [intOf]; omega
        · have hz3 : (s.size : Int) ≤ 4 * (n0 : Int) := by omega
          go_wp2
          go_ret
          exact ⟨by first | rfl | exact ret_bool (by simp), HB.out⟩
theorem reads (os : Os) {H : Type} (enc : TypeId × Value → H) : ∃ places, DataW.whole enc Tryd.prog ((({ World.holding Tryd.prog os ⟨#[], #[], []⟩ with heap := (((World.holding Tryd.prog os ⟨#[], #[], []⟩).heap.modify 0 Dif.lay0).modify 1 Dif.lay1) } : World)).forCall (fun _ _ => 0) ⟨#[], #[.slice none 0 0], []⟩).memory Tryd.f9.params.toList Rows.bocuKeptSpec.vars false #[.slice none 0 0].toList 8 = some ([.nil], [], places) :=
  ⟨[], by kernel_rfl⟩
set_option maxRecDepth 100000 in
theorem lifted (os : Os) (started : os.Started) (H : Type) (enc : TypeId × Value → H) (Fi : Stop.Interp) :
    ReturnsInHanded {} Tryd.checked os 9 .any ((OpenSpec.ofChange Rows.bocuKeptSpec).preRow enc Tryd.prog Tryd.f9 Rows.bocuKeptRow.domain false Rows.bocuKeptRow.laid) (((OpenSpec.ofChange Rows.bocuKeptSpec).at Fi).post enc Tryd.prog Tryd.f9 false true false false) := by
  obtain ⟨places, hx⟩ := reads os enc
  refine returnsInHanded_of_row (C := Tryd.checked) (s := OpenSpec.ofChange Rows.bocuKeptSpec) Bas.own started (by kernel_rfl) Tryd.func9
    (witness_row_at (enc := enc) (C := Tryd.checked) false (({ World.holding Tryd.prog os ⟨#[], #[], []⟩ with heap := (((World.holding Tryd.prog os ⟨#[], #[], []⟩).heap.modify 0 Dif.lay0).modify 1 Dif.lay1) } : World)) #[.slice none 0 0] rfl (by kernel_rfl) (by kernel_rfl) (by kernel_rfl)
      (OpenSpec.preRow_of_cond 8 hx (by kernel_rfl) (fun k hk => by cases hk) (by kernel_rfl) (Dif.laid_met os _))) ?_
  intro W base args ds gs before hval0 hW _ _ _ hL _ _
  have hval : ∀ (j : Nat) t v, Tryd.f9.params[j]? = some t → args[j]? = some v → Value.okWide Tryd.prog W .any base t v := hval0
  have hW' := hW
  obtain ⟨p, q, hA0, hV, rfl, hfz, hnd⟩ := hW
  have hA : DataW.TrodAll enc Tryd.prog W 0 (fun _ => true) true Tryd.f9.params.toList args.toList ds p := hA0
  rw [Tryd.params9] at hA hval
  obtain ⟨v0, vs0, d0, ds0, p0, q0, hargs, rfl, rfl, h0, r0⟩ := trodAll_cons hA
  obtain ⟨rfl, rfl, rfl⟩ := trodAll_nil r0
  obtain rfl : args = #[v0] := by cases args; simp_all
  obtain ⟨rfl, rfl⟩ := trodVars_none hV
  have k0 := h0
  have lt0 : ∀ x ∈ p0, x.block < W.heap.size := by obtain ⟨m, hm⟩ := k0; exact DataW.trod_lt m _ _ _ hm
  obtain ⟨a0, n0, c0, rfl⟩ := okWide_slice Tryd.underlying27 (hval 0 27 v0 rfl rfl)
  obtain ⟨l0, I0, J0⟩ : ∃ l : List Int, Bas.Ints .u32 W a0 n0 c0 l ∧ Cod.Cap a0 n0 c0 := by
    obtain ⟨fuel, hf⟩ := h0
    rcases open_ints Tryd.underlying27 Tryd.underlying43 (by kernel_rfl) hf with ⟨hcs, _⟩ | ⟨x, l, c, zs, hcs, _, hl, hm, hz, _, hcell, hwz⟩
    · simp [Value.cells] at hcs
      obtain ⟨rfl, rfl, rfl⟩ := hcs
      exact ⟨[], ⟨Bas.row_nil _ _ _, rfl, by unfold maxLen; omega, by simp, fun _ => rfl⟩, .inl ⟨rfl, rfl⟩⟩
    · simp [Value.cells] at hcs
      obtain ⟨rfl, rfl, rfl⟩ := hcs
      have hz' : zs.length = c0 := by simpa using hz
      exact ⟨zs.take n0, ⟨Bas.row_of _ _ _ _ _ (by omega) hcell, by simp; omega, by omega, fun n hn => hwz n (List.mem_of_mem_take hn), fun h => by cases h⟩, Cod.cap_of (by omega) (by omega) hz' hcell⟩
  refine (walk W (Dif.tabs_of hL) a0 n0 c0 l0 I0 J0).mono fun e W' ⟨he, bel⟩ => ?_
  subst he
  exact ⟨_, rfl, _, _, _, [], _, [], hW', trodAll_mk1 (shut_bool Tryd.underlying4 _), (trodAll_cons_mk (Below.trod Bas.laidOut (by kernel_rfl) (of_decide_eq_true (by kernel_rfl)) k0 bel lt0) trodAll_mk0), rfl, bel.frame _, fun h => by cases h⟩


theorem over : Rows.bocuKeptRow.holds Tryd.pinned (OpenSpec.ofChange Rows.bocuKeptSpec) :=
  OpenClaim.holds_of_cond 9 Tryd.f9 rfl rfl rfl rfl rfl rfl rfl ⟨rfl, rfl, rfl, rfl, rfl⟩ rfl rfl rfl rfl rfl (by kernel_rfl) Tryd.func9 (by kernel_rfl)
    (of_decide_eq_true (by kernel_rfl)) (by unfold Func.isWrapper; first | (rw [if_pos (by decide +kernel)]; kernel_rfl) | (rw [if_neg (by decide +kernel)]; exact ⟨rfl, rfl⟩))
    (fun os started H enc _ Fi => by rw [OpenClaim.pre_eq_preRow]; exact lifted os started H enc Fi)
theorem plain (f : FuncId) (fn : Func) (hf : Tryd.pinned.checked.prog.funcNamed Rows.bocuKeptRow.func = some f) (hfn : Tryd.pinned.checked.prog.funcs[f]? = some fn) :
    false = Tryd.pinned.checked.prog.looks [] ∧ ∀ (j : Nat) t, fn.params[j]? = some t → Tryd.pinned.checked.prog.wantsStandIn t = false := by
  obtain rfl : f = 9 := Option.some.inj ((show Tryd.prog.funcNamed Rows.bocuKeptRow.func = some 9 by kernel_rfl).symm.trans hf) |>.symm
  obtain rfl : fn = Tryd.f9 := (Option.some.inj (Tryd.func9.symm.trans hfn)).symm
  refine ⟨by kernel_rfl, fun j t ht => ?_⟩
  rw [Tryd.params9] at ht
  have hm : t ∈ [27] := by simpa using Array.mem_of_getElem? ht
  have hall : ([27].all fun u => !Tryd.prog.wantsStandIn u) = true := by kernel_rfl
  exact (show Tryd.prog.wantsStandIn t = false by simpa using List.all_eq_true.1 hall t hm)
end Go.Proofs.YtlifobdooophbaaDoor.bocuKept
namespace Go.Proofs.YtlifobdooophbaaDoor
/-- The statement: the tied card. -/
theorem bocuKept_proved : Rows.BocuKeptCardSaid :=
  Claim7.holds_tied_plain_at .later [] _ _ _ _ bocuKept.over (fun _ h => by cases h) (by kernel_rfl) (fun _ h => by cases h) bocuKept_row_tie rfl ⟨rfl, rfl⟩ (by kernel_rfl) rfl bocuKept.plain (by kernel_rfl)
end Go.Proofs.YtlifobdooophbaaDoor
