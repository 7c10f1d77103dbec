/-
  The contract of the document's Bytes of layer 10, as a walk over the translated text. The condition: lists are of at most 120 numbers.
-/
import Derived.Test.YtemgbmacdpnepaaPunRf3
import Derived.Test.YtemgbmacdpnepaaPunLaw
import Derived.Test.YtemgbmacdpnepaaBiaRf2
import Derived.Test.YtemgbmacdpnepaaBiaRf3
import Derived.Deep.RegionWith
import Derived.Deep.CutBlock
import Derived.Deep.DeepCutAuto
namespace Go.Proofs.Ytemgbmacdpnepaa
open Go.ChangeShapes Go.WideShapes Go.ChangeAt Go.RowKit
namespace Pun
open Bas Cod Bia Sca Fen Stp Scn
set_option linter.unusedVariables false

/-- The basic ones among the first. -/
def basK (L : List Int) (k : Nat) : List Int := (L.take k).filter (fun y => decide (y < 128))
theorem basK_yes {L : List Int} {k : Nat} (hk : k < L.length) (h : nth L k < 128) : basK L (k + 1) = basK L k ++ [nth L k] := by
  unfold basK; rw [take_snoc _ _ hk, List.filter_append]; simp [h]
theorem basK_no {L : List Int} {k : Nat} (hk : k < L.length) (h : ¬ nth L k < 128) : basK L (k + 1) = basK L k := by
  unfold basK; rw [take_snoc _ _ hk, List.filter_append]; simp; omega
theorem basK_all {L : List Int} : basK L L.length = L.filter (fun y => decide (y < 128)) := by unfold basK; rw [List.take_of_length_le (Nat.le_refl _)]
theorem basK_len (L : List Int) (k : Nat) : (basK L k).length ≤ k := by
  unfold basK
  have h1 := List.length_filter_le (fun y : Int => decide (y < 128)) (L.take k)
  rw [List.length_take] at h1
  omega
theorem joinT_app2 (bs t u : List Int) : joinT bs (t ++ u) = joinT bs t ++ u := by unfold joinT; split <;> simp
theorem ahead_pick {L : List Int} {d a k : Nat} (ha : a < L.length) (hr : rank L a = d) (h128 : 128 ≤ nth L a) (hk : k < L.length) : aheadB L k a = pick L d k := by
  rw [← aheadT_great h128]
  cases h : pick L d k with
  | true =>
    have := (pick_iff L d k).1 h
    exact (rank_iff hk ha).2 (by omega)
  | false =>
    cases h2 : aheadT L k a with
    | false => rfl
    | true =>
      have h3 := (rank_iff hk ha).1 h2
      have h4 := (pick_iff L d k).2 ⟨hk, by omega⟩
      rw [h4] at h
      cases h

set_option maxHeartbeats 8000000 in
set_option maxRecDepth 100000 in
theorem rBytes_any (a : Option Addr) (n c : Nat) (L : List Int) (w : World) (hr : Row .u32 w a L) (hl : L.length = n) (hfw : ∀ x ∈ L, (Lit.int .u32 x).wf = true) (hn : n ≤ 120) :
    Calls Try.prog 22 #[.slice a n c] w fun e w' => ∃ T, WrT L T ∧ e = .returned (.string (Stp.strOf T)) ∧ Below w.heap.size w w' := by
  have hf : ∀ x ∈ L, 0 ≤ x ∧ x < 4294967296 := fun x hx => fits_u32' (hfw x hx)
  have HFW : Hid (∀ x ∈ L, (Lit.int .u32 x).wf = true) := hfw
  clear hfw
  have HR : Hid (Row .u32 w a L ∧ L.length = n ∧ ∀ x ∈ L, 0 ≤ x ∧ x < 4294967296) := ⟨hr, hl, hf⟩
  clear hr hl hf
  go_enter Try.func22, Try.ntmps22
  go_wp2_with fail
  refine (rFirst_any a n c L w HR.out.1 HR.out.2.1 (by unfold maxLen; omega)).mono ?_
  rintro e w1 ⟨rfl, hw1⟩
  subst hw1
  by_cases hok : okLen L < L.length
  · rw [firstL_ok, if_pos hok]
    have hge : (okLen L : Int) ≥ 0 := by omega
    have HT : Hid (WrT L []) := by show WrT L []; unfold WrT; rw [if_pos hok]
    clear hok
    go_wp2
    go_ret
    exact ⟨[], HT.out, rfl, Below.refl _ _⟩
  · rw [firstL_ok, if_neg hok]
    have HOK : Hid (¬ okLen L < L.length) := hok
    clear hok
    go_wp2
    go_loopw [3, 4, 5] (fun o bc i wr => ∃ k : Nat, i = .int .i64 k ∧ k ≤ n ∧ o = .string (Stp.strOf (basK L k)) ∧ bc = .int .i64 (basK L k).length ∧ Below w1.heap.size w1 wr) (fun _ _ i _ => n - (intOf i).toNat)
    case atStart => exact ⟨0, rfl, Nat.zero_le _, rfl, rfl, Below.refl _ _⟩
    case round =>
      obtain ⟨k, rfl, hk, rfl, rfl, hb⟩ := hrel
      have HB : Hid (Below w1.heap.size w1 wr) := hb
      clear hb
      by_cases hlt : k < n
      · have hkL : k < L.length := by rw [HR.out.2.1]; exact hlt
        have i1 : (k : Int) < (n : Int) := by omega
        obtain ⟨g, of, hag, hcl⟩ := HR.out.1.mono HB.out
        have hag := hag (by intro e; rw [e] at hkL; simp at hkL)
        subst hag
        have hcell := hcl k hkL
        have hfit := HR.out.2.2 _ (nth_mem hkL)
        have hlen := basK_len L k
        by_cases hbas : nth L k < 128
        · have HN : Hid (basK L (k + 1) = basK L k ++ [nth L k]) := basK_yes hkL hbas
          obtain ⟨x, hx⟩ : ∃ x, nth L k = x := ⟨_, rfl⟩
          obtain ⟨T, hT⟩ : ∃ T, basK L k = T := ⟨_, rfl⟩
          rw [hx] at hcell hfit hbas HN
          rw [hT] at HN hlen ⊢
          clear hx hT hcl
          obtain ⟨S, hS⟩ : ∃ S, Stp.strOf T = S := ⟨_, rfl⟩
          have HS : Hid (Stp.strOf T = S ∧ S.size = T.length) := ⟨hS, by rw [← hS, strOf_size]⟩
          have hSs : S.size ≤ 120 := by rw [HS.out.2]; omega
          rw [hS]
          obtain ⟨tl, htl⟩ : ∃ tl, T.length = tl := ⟨_, rfl⟩
          have HTL : Hid (T.length = tl) := htl
          rw [htl] at hlen ⊢
          clear hS htl
          have hm : x % 256 = x := by omega
          have hcv := fun t (wq : World) => run_string (wq.alloc (.cells #[.int .u8 x] t)) (some ⟨wq.heap.size, 0, none⟩) 1 1 [x] (row_new .u8 wq [x] t _ rfl) rfl
          have h1s : (Stp.strOf [x]).size = 1 := by rw [strOf_size]; rfl
          have g1 : ¬ 9223372036854775807 < S.size + (Stp.strOf [x]).size := by omega
          go_wp2
          go_roundw
          case rel => exact ⟨k + 1, by go_num, by omega, by rw [HN.out, strOf_append, HS.out.1], by rw [HN.out, List.length_append, HTL.out]; rfl, HB.out.alloc HB.out.size _⟩
          case measure => simp [intOf]; omega
        · have HN : Hid (basK L (k + 1) = basK L k) := basK_no hkL hbas
          obtain ⟨x, hx⟩ : ∃ x, nth L k = x := ⟨_, rfl⟩
          obtain ⟨T, hT⟩ : ∃ T, basK L k = T := ⟨_, rfl⟩
          rw [hx] at hcell hfit hbas
          rw [hT] at HN ⊢
          clear hx hT hcl
          go_wp2
          go_roundw
          case rel => exact ⟨k + 1, by go_num, by omega, by rw [HN.out], by rw [HN.out], HB.out⟩
          case measure => simp [intOf]; omega
      · obtain rfl : k = n := by omega
        have i1 : ¬ (k : Int) < (k : Int) := by omega
        have hlen := basK_len L k
        have HBS : Hid (basK L k = L.filter (fun y => decide (y < 128))) := by have := basK_all (L := L); rw [HR.out.2.1] at this; exact this
        obtain ⟨bs, hbs⟩ : ∃ bs, basK L k = bs := ⟨_, rfl⟩
        rw [hbs] at HBS hlen ⊢
        clear hbs
        obtain ⟨bn, hbn⟩ : ∃ bn, bs.length = bn := ⟨_, rfl⟩
        have HBN : Hid (bs.length = bn) := hbn
        rw [hbn] at hlen ⊢
        clear hbn
        go_upto_if 44 with fail
        go_cut [3] (fun o wc => o = .string (Stp.strOf (joinT bs [])) ∧ wc = wr)
        case first =>
          by_cases hp : 0 < bn
          · have i2 : (bn : Int) > 0 := by omega
            have g1 : ¬ 9223372036854775807 < (Stp.strOf bs).size + 1 := by rw [strOf_size, HBN.out]; omega
            go_wp2
            go_meet
            case rel => exact ⟨by rw [joinT_some (by intro e; have := HBN.out; rw [e] at this; simp at this; omega), strOf_append]; rfl, rfl⟩
          · have i2 : ¬ (bn : Int) > 0 := by omega
            have HE : Hid (bs = []) := List.length_eq_zero_iff.1 (by have := HBN.out; omega)
            go_wp2
            go_meet
            case rel => exact ⟨by rw [HE.out, joinT_nil], rfl⟩
        case rest =>
          obtain ⟨rfl, rfl⟩ := hcut
          have HSC : Hid (∀ x ∈ L, isB x = true ∧ 0 ≤ x) := scalars_of HFW.out (by have := HOK.out; have := okLen_le L; omega)
          have HZ : Hid (BytRel L bs bn 128 0 72 [] ∧ (joinT bs []).length ≤ 121) := by
            refine ⟨?_, ?_⟩
            · have := BytRel.zero L
              rw [← HBS.out, HBN.out] at this
              exact this
            · unfold joinT
              split
              · simp
              · rw [List.length_append, HBN.out]; simp; omega
          clear HFW
          go_wp2
          go_loopw [3, 6, 7, 8, 9] (fun o nv wv bv dv wq => ∃ (d nn ws : Nat) (b : Int) (t : List Int), o = .string (Stp.strOf (joinT bs t)) ∧ nv = .int .u32 nn ∧ wv = .int .i64 ws ∧ bv = .int .i64 b ∧ dv = .int .i64 d ∧ BytRel L bs d nn ws b t ∧ (joinT bs t).length ≤ 121 + 21 * d ∧ d ≤ k ∧ Below w1.heap.size w1 wq) (fun _ _ _ _ dv _ => k - (intOf dv).toNat)
          case atStart => exact ⟨bn, 128, 0, 72, [], rfl, rfl, rfl, rfl, rfl, HZ.out.1, by have := HZ.out.2; omega, by omega, HB.out⟩
          case round =>
            clear HZ HB
            obtain ⟨d, nn, ws, b, t, rfl, rfl, rfl, rfl, rfl, hrl, htl, hdk, hb⟩ := hrel
            have HB : Hid (Below w1.heap.size w1 wr) := hb
            have HBR : Hid (BytRel L bs d nn ws b t) := hrl
            clear hb hrl
            by_cases hlt : d < k
            · obtain ⟨a', p, v, hN⟩ := HBR.out.find HBS.out (by rw [HR.out.2.1]; exact hlt)
              have HN : Hid (Next L bs d nn ws a' p v) := hN
              clear hN
              have i1' : (d : Int) < (k : Int) := by omega
              go_wp2
              go_loopw [10, 11] (fun av iv wq => ∃ (j a0 : Nat), iv = .int .i64 j ∧ av = .int .i64 a0 ∧ j ≤ k ∧ (∀ i, i < j → rank L i = d → a0 = i) ∧ Below w1.heap.size w1 wq) (fun _ iv _ => k - (intOf iv).toNat)
              case atStart => exact ⟨0, 0, rfl, rfl, Nat.zero_le _, fun i hi => by omega, HB.out⟩
              case round =>
                clear HB
                obtain ⟨j, a0, rfl, rfl, hj, hall, hb⟩ := hrel
                have HB : Hid (Below w1.heap.size w1 wr) := hb
                have HALL : Hid (∀ i, i < j → rank L i = d → a0 = i) := hall
                clear hb hall
                by_cases hjk : j < k
                · have i2 : (j : Int) < (k : Int) := by omega
                  go_wp2
                  go_loopw [12, 13] (fun bv kv wq => ∃ m : Nat, kv = .int .i64 m ∧ bv = .int .i64 (cnt (fun y => aheadT L y j) m) ∧ m ≤ k ∧ Below w1.heap.size w1 wq) (fun _ kv _ => k - (intOf kv).toNat)
                  case atStart => exact ⟨0, rfl, rfl, Nat.zero_le _, HB.out⟩
                  case round =>
                    clear HB
                    obtain ⟨m, rfl, rfl, hm, hb⟩ := hrel
                    have HB : Hid (Below w1.heap.size w1 wr) := hb
                    clear hb
                    by_cases hmk : m < k
                    · have i3 : (m : Int) < (k : Int) := by omega
                      obtain ⟨g, of, hag, hcl⟩ := HR.out.1.mono HB.out
                      have hag := hag (by intro e; have := HR.out.2.1; rw [e] at this; simp at this; omega)
                      subst hag
                      have hx := hcl m (by rw [HR.out.2.1]; exact hmk)
                      have hy := hcl j (by rw [HR.out.2.1]; exact hjk)
                      have HAH : Hid (Calls Try.prog 34 #[.slice (some ⟨g, of, none⟩) k c, .int .i64 m, .int .i64 j] wr fun e w' => e = .returned (.bool (aheadB L m j)) ∧ ∃ nd, w' = wr.drewN nd) := rAhead_any g of k c m j L wr (HR.out.1.mono HB.out) HR.out.2.1 hmk hjk
                      have HC1 : Hid (cnt (fun y => aheadT L y j) (m + 1) = cnt (fun y => aheadT L y j) m + if aheadT L m j then 1 else 0) := rfl
                      have hct := cnt_max (fun y => aheadT L y j) m
                      have HAT : Hid (aheadT L m j = (aheadB L m j || (decide (nth L m < 128) && decide (nth L j < 128) && decide (m < j)))) := rfl
                      obtain ⟨x, hxe⟩ : ∃ x, nth L m = x := ⟨_, rfl⟩
                      obtain ⟨y, hye⟩ : ∃ y, nth L j = y := ⟨_, rfl⟩
                      rw [hxe, hye] at HAT
                      rw [hxe] at hx
                      rw [hye] at hy
                      obtain ⟨ct, hcte⟩ : ∃ ct, cnt (fun y => aheadT L y j) m = ct := ⟨_, rfl⟩
                      rw [hcte] at HC1 hct ⊢
                      obtain ⟨ab, hab⟩ : ∃ ab, aheadB L m j = ab := ⟨_, rfl⟩
                      rw [hab] at HAH HAT
                      clear hxe hye hcte hab hcl
                      cases ab with
                      | true =>
                        have HT : Hid (cnt (fun y => aheadT L y j) (m + 1) = ct + 1) := by show _ = _; rw [HC1.out, HAT.out]; simp
                        clear HC1 HAT
                        go_wp2_with fail
                        refine HAH.out.mono ?_
                        rintro e5 w5 ⟨rfl, nd, hw5⟩
                        have HB5 : Hid (Below w1.heap.size w1 w5) := by rw [hw5]; exact below_drewN HB.out nd
                        clear HAH hx hy hw5
                        go_wp2
                        go_roundw
                        case rel => exact ⟨m + 1, by go_num, by rw [HT.out]; go_num, by omega, HB5.out⟩
                        case measure => simp [intOf]; omega
                      | false =>
                        rw [Bool.false_or] at HAT
                        by_cases hx1 : x < 128
                        · by_cases hy1 : y < 128
                          · by_cases hmj : m < j
                            · have HT : Hid (cnt (fun y => aheadT L y j) (m + 1) = ct + 1) := by show _ = _; rw [HC1.out, HAT.out]; simp [hx1, hy1, hmj]
                              have i4 : (m : Int) < (j : Int) := by omega
                              clear HC1 HAT
                              go_wp2_with fail
                              refine HAH.out.mono ?_
                              rintro e5 w5 ⟨rfl, nd, hw5⟩
                              subst hw5
                              clear HAH
                              go_wp2
                              go_roundw
                              case rel => exact ⟨m + 1, by go_num, by rw [HT.out]; go_num, by omega, below_drewN HB.out nd⟩
                              case measure => simp [intOf]; omega
                            · have HT : Hid (cnt (fun y => aheadT L y j) (m + 1) = ct) := by show _ = _; rw [HC1.out, HAT.out]; simp [hx1, hy1, hmj]
                              have i4 : ¬ (m : Int) < (j : Int) := by omega
                              clear HC1 HAT
                              go_wp2_with fail
                              refine HAH.out.mono ?_
                              rintro e5 w5 ⟨rfl, nd, hw5⟩
                              subst hw5
                              clear HAH
                              go_wp2
                              go_roundw
                              case rel => exact ⟨m + 1, by go_num, by rw [HT.out], by omega, below_drewN HB.out nd⟩
                              case measure => simp [intOf]; omega
                          · have HT : Hid (cnt (fun y => aheadT L y j) (m + 1) = ct) := by show _ = _; rw [HC1.out, HAT.out]; simp [hx1, hy1]
                            clear HC1 HAT
                            go_wp2_with fail
                            refine HAH.out.mono ?_
                            rintro e5 w5 ⟨rfl, nd, hw5⟩
                            subst hw5
                            clear HAH
                            go_wp2
                            go_roundw
                            case rel => exact ⟨m + 1, by go_num, by rw [HT.out], by omega, below_drewN HB.out nd⟩
                            case measure => simp [intOf]; omega
                        · have HT : Hid (cnt (fun y => aheadT L y j) (m + 1) = ct) := by show _ = _; rw [HC1.out, HAT.out]; simp [hx1]
                          clear HC1 HAT
                          go_wp2_with fail
                          refine HAH.out.mono ?_
                          rintro e5 w5 ⟨rfl, nd, hw5⟩
                          subst hw5
                          clear HAH
                          go_wp2
                          go_roundw
                          case rel => exact ⟨m + 1, by go_num, by rw [HT.out], by omega, below_drewN HB.out nd⟩
                          case measure => simp [intOf]; omega
                    · have i3 : ¬ (m : Int) < (k : Int) := by omega
                      have HRK : Hid (cnt (fun y => aheadT L y j) m = rank L j) := by
                        show _ = _
                        unfold rank
                        rw [HR.out.2.1, show m = k by omega]
                      rw [HRK.out]
                      by_cases hrd : rank L j = d
                      · rw [hrd]
                        go_wp2
                        go_roundw
                        case rel => exact ⟨j + 1, j, by go_num, rfl, by omega, fun i hi hr => rank_inj (by rw [HR.out.2.1]; omega) (by rw [HR.out.2.1]; omega) (by rw [hr, hrd]), HB.out⟩
                        case measure => simp [intOf]; omega
                      · obtain ⟨rk, hrk⟩ : ∃ rk, rank L j = rk := ⟨_, rfl⟩
                        have HRD : Hid (rank L j ≠ d) := hrd
                        rw [hrk] at hrd ⊢
                        have hrd2 : ((rk : Int) == (d : Int)) = false := by simp; omega
                        have hrd3 : ¬ (rk : Int) = (d : Int) := by omega
                        clear hrk HRK
                        go_wp2
                        go_roundw
                        case rel =>
                          refine ⟨j + 1, a0, by go_num, rfl, by omega, fun i hi hr => ?_, HB.out⟩
                          by_cases e : i = j
                          · rw [e] at hr; exact absurd hr HRD.out
                          · exact HALL.out i (by omega) hr
                        case measure => simp [intOf]; omega
                · have i2 : ¬ (j : Int) < (k : Int) := by omega
                  have ha0 : a0 = a' := HALL.out a' (by have := HN.out.ha; rw [HR.out.2.1] at this; omega) HN.out.hr
                  subst ha0
                  have ha0k : a0 < k := by have := HN.out.ha; rw [HR.out.2.1] at this; exact this
                  clear HALL
                  go_wp2
                  go_loopw [14, 15] (fun pv kv wq => ∃ m : Nat, kv = .int .i64 m ∧ pv = .int .i64 (cnt (pick L d) m) ∧ m ≤ a0 ∧ Below w1.heap.size w1 wq) (fun _ kv _ => a0 - (intOf kv).toNat)
                  case atStart => exact ⟨0, rfl, rfl, Nat.zero_le _, HB.out⟩
                  case round =>
                    clear HB
                    obtain ⟨m, rfl, rfl, hm, hb⟩ := hrel
                    have HB : Hid (Below w1.heap.size w1 wr) := hb
                    clear hb
                    obtain ⟨g, of, hag, hcl⟩ := HR.out.1.mono HB.out
                    have hag := hag (by intro e; have := HR.out.2.1; rw [e] at this; simp at this; omega)
                    subst hag
                    by_cases hma : m < a0
                    · have i3 : (m : Int) < (a0 : Int) := by omega
                      have HAH : Hid (Calls Try.prog 34 #[.slice (some ⟨g, of, none⟩) k c, .int .i64 m, .int .i64 a0] wr fun e w' => e = .returned (.bool (aheadB L m a0)) ∧ ∃ nd, w' = wr.drewN nd) := rAhead_any g of k c m a0 L wr (HR.out.1.mono HB.out) HR.out.2.1 (by omega) ha0k
                      have hap := ahead_pick HN.out.ha HN.out.hr (by have := HN.out.hv; have := HN.out.v0; omega) (k := m) (by rw [HR.out.2.1]; omega)
                      rw [hap] at HAH
                      have HC1 : Hid (cnt (pick L d) (m + 1) = cnt (pick L d) m + if pick L d m then 1 else 0) := rfl
                      have hct := cnt_max (pick L d) m
                      obtain ⟨ct, hcte⟩ : ∃ ct, cnt (pick L d) m = ct := ⟨_, rfl⟩
                      rw [hcte] at HC1 hct ⊢
                      obtain ⟨ab, hab⟩ : ∃ ab, pick L d m = ab := ⟨_, rfl⟩
                      rw [hab] at HAH HC1
                      clear hap hcte hab hcl
                      cases ab with
                      | true =>
                        go_wp2_with fail
                        refine HAH.out.mono ?_
                        rintro e5 w5 ⟨rfl, nd, hw5⟩
                        subst hw5
                        clear HAH
                        go_wp2
                        go_roundw
                        case rel => exact ⟨m + 1, by go_num, by rw [HC1.out, if_pos trivial]; go_num, by omega, below_drewN HB.out nd⟩
                        case measure => simp [intOf]; omega
                      | false =>
                        go_wp2_with fail
                        refine HAH.out.mono ?_
                        rintro e5 w5 ⟨rfl, nd, hw5⟩
                        subst hw5
                        clear HAH
                        go_wp2
                        go_roundw
                        case rel => exact ⟨m + 1, by go_num, by rw [HC1.out]; rfl, by omega, below_drewN HB.out nd⟩
                        case measure => simp [intOf]; omega
                    · have i3 : ¬ (m : Int) < (a0 : Int) := by omega
                      obtain rfl : m = a0 := by omega
                      rw [← HN.out.hp]
                      have hcell := hcl m HN.out.ha
                      rw [HN.out.hv] at hcell
                      have hpl := HN.out.pl
                      have hnv := HN.out.nv
                      have hws := HN.out.hw
                      have hsc := (HSC.out _ (nth_mem HN.out.ha)).1
                      rw [HN.out.hv] at hsc
                      have hv11 := (isB_iff.1 hsc).1
                      obtain ⟨D1, hD1⟩ : ∃ D1, v - nn = D1 := ⟨_, rfl⟩
                      obtain ⟨E, hE⟩ : ∃ E, d + 1 = E := ⟨_, rfl⟩
                      have hmul : D1 * E ≤ 1114111 * 121 := Nat.mul_le_mul (by omega) (by omega)
                      rw [hD1, hE] at hws
                      obtain ⟨X, hX⟩ : ∃ X, D1 * E = X := ⟨_, rfl⟩
                      rw [hX] at hmul hws
                      obtain ⟨x, hx⟩ : ∃ x, X + p - ws = x := ⟨_, rfl⟩
                      have HNX : Hid (BytRel L bs E v (p + 1) (adapt x E (decide (d = bn)) : Nat) (t ++ putL b 0 x)) := by
                        have := HBR.out.next HN.out hsc (x := x) (by rw [hD1, hE, hX]; exact hx.symm) (by unfold top; omega)
                        rw [hE, HBN.out] at this
                        exact this
                      have e1 : (v : Int) - (nn : Int) = (D1 : Int) := by omega
                      have e2 : (d : Int) + 1 = (E : Int) := by omega
                      have e3 : (D1 : Int) * (E : Int) = (X : Int) := by rw [← hX, Int.natCast_mul]
                      obtain ⟨Y, hY⟩ : ∃ Y, X + p = Y := ⟨_, rfl⟩
                      have e5 : (X : Int) + (p : Int) = (Y : Int) := by omega
                      have e4 : (Y : Int) - (ws : Int) = (x : Int) := by omega
                      have hY2 : Y ≤ 200000000 := by omega
                      have hX2 : X ≤ 200000000 := by omega
                      have hp2 : p ≤ 120 := by omega
                      have hws2 : ws ≤ Y := by omega
                      have hv2 : v ≤ 1114111 := by omega
                      have hD2 : D1 ≤ 1114111 := by omega
                      have hE2 : E ≤ 121 := by omega
                      have hx2 : x ≤ 200000000 := by omega
                      clear hX hD1 hE hws hsc hcl hmul hx hY hpl hv11
                      have HPUT : Hid (∀ w, Calls Try.prog 35 #[.int .u64 x, .int .i64 b] w fun e w' => e = .returned (.string (Stp.strOf (putL b 0 x))) ∧ w' = w) := fun w => rPut_any x b w (by omega)
                      have HADP : Hid (∀ w, Calls Try.prog 36 #[.int .u64 x, .int .u64 E, .bool (decide (d = bn))] w fun e w' => e = .returned (.int .i64 (adapt x E (decide (d = bn)))) ∧ w' = w) := fun w => rAdapt_any x E (decide (d = bn)) w (by omega) (by omega)
                      have hpl20 := put_len20 b x (by omega)
                      obtain ⟨S, hS⟩ : ∃ S, Stp.strOf (putL b 0 x) = S := ⟨_, rfl⟩
                      obtain ⟨T, hT⟩ : ∃ T, Stp.strOf (joinT bs t) = T := ⟨_, rfl⟩
                      have HJ : Hid (T ++ S = Stp.strOf (joinT bs (t ++ putL b 0 x)) ∧ (joinT bs (t ++ putL b 0 x)).length ≤ 121 + 21 * E) := by
                        rw [joinT_app2, strOf_append, hS, hT, List.length_append]
                        exact ⟨rfl, by omega⟩
                      have hSs : S.size ≤ 21 := by rw [← hS, strOf_size]; exact hpl20
                      have hTs : T.size ≤ 2700 := by rw [← hT, strOf_size]; omega
                      rw [hS] at HPUT
                      rw [hT]
                      clear hS hT hpl20
                      have g1 : ¬ 9223372036854775807 < T.size + S.size := by omega
                      have j9 : ((p + 1 : Nat) : Int) = (p : Int) + 1 := by omega
                      have hEk : E ≤ k := by omega
                      have hdE : E = d + 1 := by omega
                      have HEk : Hid (E ≤ k ∧ E = d + 1) := ⟨hEk, hdE⟩
                      clear hEk hdE
                      by_cases hfb : d = bn
                      · rw [decide_eq_true hfb] at HADP HNX
                        have hfi : (d : Int) = (bn : Int) := by omega
                        subst hfb
                        go_wp2_with fail
                        refine (HPUT.out wr).mono ?_
                        rintro e6 w6 ⟨rfl, hw6⟩
                        subst hw6
                        go_wp2_with fail
                        refine (HADP.out w6).mono ?_
                        rintro e7 w7 ⟨rfl, hw7⟩
                        subst hw7
                        clear HPUT HADP
                        go_wp2
                        go_roundw
                        case rel => exact ⟨E, v, p + 1, _, _, by rw [HJ.out.1], rfl, by rw [j9], rfl, by first | rfl | (rw [HEk.out.2]; go_num), HNX.out, HJ.out.2, HEk.out.1, HB.out⟩
                        case measure => have := HEk.out.2; simp [intOf]; omega
                      · rw [decide_eq_false hfb] at HADP HNX
                        have hfi : ((d : Int) == (bn : Int)) = false := by simp; omega
                        have hfi2 : ¬ (d : Int) = (bn : Int) := by omega
                        go_wp2_with fail
                        refine (HPUT.out wr).mono ?_
                        rintro e6 w6 ⟨rfl, hw6⟩
                        subst hw6
                        go_wp2_with fail
                        refine (HADP.out w6).mono ?_
                        rintro e7 w7 ⟨rfl, hw7⟩
                        subst hw7
                        clear HPUT HADP
                        go_wp2
                        go_roundw
                        case rel => exact ⟨E, v, p + 1, _, _, by rw [HJ.out.1], rfl, by rw [j9], rfl, by first | rfl | (rw [HEk.out.2]; go_num), HNX.out, HJ.out.2, HEk.out.1, HB.out⟩
                        case measure => have := HEk.out.2; simp [intOf]; omega
            · have i1' : ¬ (d : Int) < (k : Int) := by omega
              have HF : Hid (WrT L (joinT bs t)) := by
                show WrT L _
                unfold WrT
                rw [if_neg HOK.out]
                exact HBR.out.done HBS.out (fun x hx => (HSC.out x hx).2) (by rw [HR.out.2.1]; exact hlt)
              go_wp2
              go_ret
              exact ⟨_, HF.out, rfl, HB.out⟩
end Pun
end Go.Proofs.Ytemgbmacdpnepaa
