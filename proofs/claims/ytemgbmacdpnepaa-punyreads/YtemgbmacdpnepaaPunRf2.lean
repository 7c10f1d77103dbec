/-
  The contracts of the document's Denoted and Read of layer 10, as walks over the translated text. The condition: texts are of at most 4000 bytes.
-/
import Derived.Test.YtemgbmacdpnepaaPunRd
import Derived.Test.YtemgbmacdpnepaaBiaRf4
import Derived.Test.YtemgbmacdpnepaaBiaRf2
import Derived.Deep.RegionWith
import Derived.Deep.CutBlock
import Derived.Deep.DeepCutAuto
namespace Go.Proofs.Ytemgbmacdpnepaa
open Go.ChangeShapes Go.WideShapes Go.ChangeAt Go.RowKit
namespace Pun
open Bas Cod Bia Sca Fen Stp
set_option linter.unusedVariables false

theorem EntRel.at' (bs T : List Int) {a : Nat} (ha : a ≤ T.length) : EntRel (decL (PS.zero bs) (T.drop a)) bs T (PS.zero bs) a [] :=
  ⟨rfl, rfl, fun k hk => by simp at hk, fun k hk => by simp at hk, by simp [PS.zero], Nat.zero_le _, by simp [ha]⟩

/-- What an append to fresh cells keeps. -/
theorem app_keep {B g of n c : Nat} {w w' : World} {v v' : Value} {l : List Int} (hc : Chg (fun b _ => v.ownBlock = some b) w w') (hm : Mov w v v') (ho : ∀ k, v.ownBlock = some k → B ≤ k) (hB : B ≤ w.heap.size) (hg : g < B) (hl : Seg .u32 w (.slice (some ⟨g, of, none⟩) n c) l) :
    (∀ k, v'.ownBlock = some k → B ≤ k) ∧ Below B w w' ∧ Seg .u32 w' (.slice (some ⟨g, of, none⟩) n c) l := by
  refine ⟨fun k hk => ?_, hc.below hB (fun k j hk h => by have := ho k h; omega), hl.chg hc (fun k o hk h => by have := ho k h; simp [Value.ownBlock] at hk; omega)⟩
  rcases hm k hk with e | e
  · exact ho k e
  · omega
theorem seg_at {w : World} {v : Value} {l : List Int} {L : Nat} (h : Seg .u32 w v l) (hl : l.length = L) (h0 : 1 ≤ L) : ∃ g of c, v = .slice (some ⟨g, of, none⟩) L c := by
  obtain ⟨a, c, hv, -⟩ := h.form
  rw [hv] at h
  obtain ⟨g, of, hg, -⟩ := h.at (j := 0) (by omega)
  rw [hl, hg] at hv
  exact ⟨g, of, c, hv⟩

set_option maxHeartbeats 8000000 in
set_option maxRecDepth 100000 in
theorem rDen_any (s : ByteArray) (w : World) (hs : s.size ≤ 4000) (hb : ∀ x ∈ bytesL s, x < 128) :
    Calls Try.prog 30 #[.string s] w fun e w' => DenQ (textD (bytesL s)) w.heap.size e w' ∧ Below w.heap.size w w' := by
  have HL : Hid ((bytesL s).length = s.size) := bytesL_length s
  have HB : Hid (∀ x ∈ bytesL s, x < 128) := hb
  clear hb
  obtain ⟨R, hR⟩ : ∃ R, textD (bytesL s) = R := ⟨_, rfl⟩
  have HT : Hid (textD (bytesL s) = R) := hR
  rw [hR]
  clear hR
  go_enter Try.func30, Try.ntmps30
  go_wp2
  go_loopw [4, 5] (fun h i wr => ∃ k : Nat, i = .int .i64 k ∧ h = .int .i64 (hypK (bytesL s) k) ∧ k ≤ s.size ∧ wr = w) (fun _ i _ => s.size - (intOf i).toNat)
  case atStart => exact ⟨0, rfl, rfl, Nat.zero_le _, rfl⟩
  case round =>
    obtain ⟨k, rfl, rfl, hk, hw⟩ := hrel
    have hw := hw.symm
    subst hw
    by_cases hlt : k < s.size
    · have e1 : ((s[k]'hlt).toNat : Int) = nth (bytesL s) k := str_nth s _ hlt
      have hy : nth (bytesL s) k < 128 := HB.out _ (nth_mem (by rw [HL.out]; exact hlt))
      have i3 : (k : Int) < (s.size : Int) := by omega
      by_cases hh : nth (bytesL s) k = 45
      · have HF : Hid (hypK (bytesL s) (k + 1) = k) := hypK_hit hh
        rw [hh] at e1
        obtain ⟨h0, hh0⟩ : ∃ h0, hypK (bytesL s) k = h0 := ⟨_, rfl⟩
        rw [hh0]
        clear hh hh0 hy
        go_wp2
        go_roundw
        case rel => exact ⟨k + 1, by go_num, by rw [HF.out], by omega, trivial⟩
        case measure => simp [intOf]; omega
      · have HF : Hid (hypK (bytesL s) (k + 1) = hypK (bytesL s) k) := hypK_miss hh
        obtain ⟨h0, hh0⟩ : ∃ h0, hypK (bytesL s) k = h0 := ⟨_, rfl⟩
        rw [hh0] at HF ⊢
        obtain ⟨y, hye⟩ : ∃ y, nth (bytesL s) k = y := ⟨_, rfl⟩
        rw [hye] at e1 hh hy
        have hh2 : (y == 45) = false := by simpa using hh
        have hy2 : ¬ y > 127 := by omega
        clear hye hh0
        go_wp2
        go_roundw
        case rel => exact ⟨k + 1, by go_num, by rw [HF.out], by omega, trivial⟩
        case measure => simp [intOf]; omega
    · obtain rfl : k = s.size := by omega
      have hle := hypK_le (bytesL s) s.size
      have HH : Hid (hypK (bytesL s) s.size = hyp (bytesL s)) := by show _ = _; unfold hyp; rw [HL.out]
      rw [HH.out] at hle ⊢
      obtain ⟨h, hhe⟩ : ∃ h, hyp (bytesL s) = h := ⟨_, rfl⟩
      have HE : Hid (hyp (bytesL s) = h) := hhe
      rw [hhe] at hle ⊢
      have i3 : ¬ (s.size : Int) < (s.size : Int) := by omega
      clear hhe hlt hk HH
      go_upto_if 34 with fail
      have HZ : Hid (Seg .u32 (w.alloc (.cells #[] 64)) (.slice (some ⟨w.heap.size, 0, none⟩) 0 0) []) := seg_empty_at _ _ _ rfl
      have HA : Hid (Below w.heap.size w (w.alloc (.cells #[] 64))) := (Below.refl _ _).alloc (Nat.le_refl _) _
      go_cut [6, 7] (fun o a wc => ∃ (bs : List Int) (k g of n c : Nat), a = .int .i64 k ∧ o = .slice (some ⟨g, of, none⟩) n c ∧ EntRel R bs (bytesL s) (PS.zero bs) k [] ∧ Seg .u32 wc o bs ∧ w.heap.size ≤ g ∧ Below w.heap.size w wc ∧ bs.length ≤ k)
      case first =>
        by_cases hp : 0 < h
        · have j1 : (h : Int) > 0 := by omega
          have hhl := (hyp_part (t := bytesL s) (by rw [HE.out]; exact hp)).1
          rw [HE.out, HL.out] at hhl
          have HT2 : Hid (decL (PS.zero ((bytesL s).take h)) ((bytesL s).drop (h + 1)) = R) := by
            have := textD_some (t := bytesL s) (by rw [HE.out]; exact hp)
            rw [HE.out, HT.out] at this
            exact this.symm
          clear HE
          go_wp2
          go_loopw [6, 8] (fun o i wq => ∃ k : Nat, i = .int .i64 k ∧ k ≤ h ∧ Seg .u32 wq o ((bytesL s).take k) ∧ (∀ g, o.ownBlock = some g → w.heap.size ≤ g) ∧ Below w.heap.size w wq) (fun _ i _ => h - (intOf i).toNat)
          case atStart => exact ⟨0, rfl, Nat.zero_le _, HZ.out, fun g hg => by simp [Value.ownBlock] at hg; omega, HA.out⟩
          case round =>
            clear HZ HA HT
            obtain ⟨k, rfl, hk, hsg, hown, hbl⟩ := hrel
            have HK : Hid (Seg .u32 wr u6 ((bytesL s).take k) ∧ (∀ g, u6.ownBlock = some g → w.heap.size ≤ g) ∧ Below w.heap.size w wr) := ⟨hsg, hown, hbl⟩
            clear hsg hown hbl
            by_cases hlt : k < h
            · have hks : k < s.size := by omega
              have hkL : k < (bytesL s).length := by rw [HL.out]; exact hks
              have e1 : ((s[k]'hks).toNat : Int) = nth (bytesL s) k := str_nth s _ hks
              have hby := bytesL_byte s _ (nth_mem hkL)
              have HTS : Hid ((bytesL s).take (k + 1) = (bytesL s).take k ++ [nth (bytesL s) k] ∧ ((bytesL s).take k).length ≤ 4000) := ⟨take_snoc _ _ hkL, by rw [List.length_take]; omega⟩
              obtain ⟨x, hx⟩ : ∃ x, nth (bytesL s) k = x := ⟨_, rfl⟩
              rw [hx] at e1 hby HTS
              have j1 : (k : Int) < (h : Int) := by omega
              have j2 : (k : Int) < (s.size : Int) := by omega
              have HSA : Hid (∀ o, Seg .u32 (wr.alloc o) u6 ((bytesL s).take k)) := fun o => HK.out.1.chg ((Chg.refl (fun _ _ => False) wr).alloc o) (fun _ _ _ h => h)
              clear hx hkL
              go_wp2_with (at_builtin; go_must (refine wpList_append_seg rfl _ _ 27 27 rfl .u32 64 4 Try.underlying27 info_u32 u6 ((bytesL s).take k) [x] rfl (HSA.out _) _ rfl (src_row (l := [x]) Try.underlying27 (by exact row_new .u32 wr [x] _ _ rfl) rfl (fun h => by cases h)) (by have := HTS.out.2; unfold maxLen; simp; omega) (by have := HTS.out.2; simp; omega) ?_; intro vo4 w9 hs9 hc9 hm9))
              have HK9 : Hid (Seg .u32 w9 vo4 ((bytesL s).take (k + 1)) ∧ (∀ g, vo4.ownBlock = some g → w.heap.size ≤ g) ∧ Below w.heap.size w w9) := by
                rw [HTS.out.1]
                have hsz := HK.out.2.2.size
                refine ⟨hs9, fun g hg => ?_, (HK.out.2.2.alloc hsz _).trans (hc9.below (by simp; omega) (fun k' j hk' hh => by have := HK.out.2.1 k' hh; omega))⟩
                rcases hm9 g hg with e | e
                · exact HK.out.2.1 g e
                · simp at e; omega
              clear hs9 hc9 hm9 HSA HTS HK e1
              go_wp2
              go_roundw
              case rel => exact ⟨k + 1, by go_num, by omega, HK9.out.1, HK9.out.2.1, HK9.out.2.2⟩
              case measure => simp [intOf]; omega
            · obtain rfl : k = h := by omega
              have j1' : ¬ (k : Int) < (k : Int) := by omega
              obtain ⟨g, of, n, c, hv⟩ : ∃ g of n c, u6 = .slice (some ⟨g, of, none⟩) n c := by
                obtain ⟨a, c, hv, -⟩ := HK.out.1.form
                have hs := HK.out.1
                rw [hv] at hs
                obtain ⟨g, of, hg, -⟩ := hs.at (j := 0) (by rw [List.length_take, HL.out]; omega)
                rw [hg] at hv
                exact ⟨g, of, _, c, hv⟩
              subst hv
              have HRL : Hid (EntRel R ((bytesL s).take k) (bytesL s) (PS.zero ((bytesL s).take k)) (k + 1) []) := by
                have := EntRel.at' ((bytesL s).take k) (bytesL s) (a := k + 1) (by rw [HL.out]; omega)
                rw [HT2.out] at this
                exact this
              have j5 : ((k + 1 : Nat) : Int) = (k : Int) + 1 := by omega
              go_wp2
              go_meet
              case rel => exact ⟨_, k + 1, g, of, n, c, by rw [j5], rfl, HRL.out, HK.out.1, HK.out.2.1 g rfl, HK.out.2.2, by rw [List.length_take]; omega⟩
        · have j1 : ¬ (h : Int) > 0 := by omega
          have HRL : Hid (EntRel R [] (bytesL s) (PS.zero []) 0 []) := by
            have h1 := EntRel.at' [] (bytesL s) (a := 0) (by omega)
            have h2 := textD_none (t := bytesL s) (by rw [HE.out]; exact hp)
            rw [HT.out] at h2
            rw [List.drop_zero, ← h2] at h1
            exact h1
          go_wp2
          go_meet
          case rel => exact ⟨[], 0, w.heap.size, 0, 0, 0, rfl, rfl, HRL.out, HZ.out, Nat.le_refl _, HA.out, Nat.le_refl _⟩
      case rest =>
        clear HZ HA HT
        obtain ⟨bs, k0, g0, of0, n0, c0, rfl, rfl, hr0, hs0, hg0, hb0, hbk⟩ := hcut
        have HZ : Hid (EntRel R bs (bytesL s) (PS.zero bs) k0 [] ∧ Seg .u32 wc (.slice (some ⟨g0, of0, none⟩) n0 c0) bs ∧ w.heap.size ≤ g0 ∧ Below w.heap.size w wc) := ⟨hr0, hs0, hg0, hb0⟩
        have hbs : bs.length ≤ 4000 := by have := hr0.at_; rw [HL.out] at this; omega
        clear hr0 hs0 hg0 hb0
        go_wp2
        go_loopw [6, 7, 9, 10, 11, 12] (fun l at_ n i b one wq => ∃ (p g of ln c : Nat) (st : PS) (es : List (Nat × Nat)), at_ = .int .i64 p ∧ l = .slice (some ⟨g, of, none⟩) ln c ∧ n = .int .u64 st.n ∧ i = .int .u64 st.i ∧ b = .int .i64 st.b ∧ one = .bool st.one ∧ EntRel R bs (bytesL s) st p es ∧ Seg .u32 wq l st.l ∧ w.heap.size ≤ g ∧ Below w.heap.size w wq) (fun _ at_ _ _ _ _ _ => s.size - (intOf at_).toNat)
        case atStart => exact ⟨k0, g0, of0, n0, c0, PS.zero bs, [], rfl, rfl, rfl, rfl, rfl, rfl, HZ.out.1, HZ.out.2.1, HZ.out.2.2.1, HZ.out.2.2.2⟩
        case round =>
          clear HZ
          obtain ⟨p, g, of, ln, c, st, es, rfl, rfl, rfl, rfl, rfl, rfl, hr, hsg, hgw, hbl⟩ := hrel
          have HR : Hid (EntRel R bs (bytesL s) st p es) := hr
          have hln : st.l.length = ln := (seg_row hsg).2.1
          have hcap : ln ≤ c := by
            obtain ⟨a', c', hv, -, -, hc, -⟩ := hsg.form
            simp only [Value.slice.injEq] at hv
            omega
          have HK : Hid (Seg .u32 wr (.slice (some ⟨g, of, none⟩) ln c) st.l ∧ w.heap.size ≤ g ∧ Below w.heap.size w wr ∧ st.l.length = ln) := ⟨hsg, hgw, hbl, hln⟩
          have hat := hr.at_
          rw [HL.out] at hat
          have hsl : st.l.length = bs.length + es.length := by rw [hr.l, built_len]
          have hsi := hr.i
          have hsn := hr.n
          rw [hln] at hsl hsi
          have hln8 : ln ≤ 8000 := by omega
          clear hr hsg hgw hbl hln hsl
          by_cases hlt : p < s.size
          · have i1 : (p : Int) < (s.size : Int) := by omega
            have HG : Hid (∀ w, Calls Try.prog 50 #[.string s, .int .i64 p, .int .i64 st.b] w fun e w' => e = .returned (getV (getF st.b 0 p 0 1 ((bytesL s).drop p))) ∧ w' = w) := fun w => rGet_any s p st.b w (by omega) (by omega)
            obtain ⟨⟨d, e, er⟩, hg⟩ : ∃ g, getF st.b 0 p 0 1 ((bytesL s).drop p) = g := ⟨_, rfl⟩
            have HGE : Hid (getF st.b 0 p 0 1 ((bytesL s).drop p) = (d, e, er)) := hg
            have hd : d ≤ 4611686018427387904 := by
              have := getF_small st.b ((bytesL s).drop p) 0 p 0 1 (by omega)
              rw [hg] at this
              exact this
            rw [hg] at HG
            simp only [getV] at HG
            clear hg
            go_wp2_with fail
            refine (HG.out wr).mono ?_
            rintro e5 w5 ⟨rfl, hw5⟩
            subst hw5
            clear HG
            by_cases her : er = 0
            · subst her
              have hge := HR.out.get HGE.out
              rw [HL.out] at hge
              have he1 := hge.2.1
              have he2 := hge.2.2
              clear hge
              have hq := Nat.div_le_self (st.i + d) (ln + 1)
              have hrr := Nat.mod_lt (st.i + d) (y := ln + 1) (by omega)
              have HNX := @EntRel.next R bs (bytesL s) st p es HR.out d e HGE.out
              have HBD := @EntRel.bad R bs (bytesL s) st p es HR.out d e HGE.out
              rw [HK.out.2.2.2] at HNX HBD
              obtain ⟨L, hL⟩ : ∃ L, ln + 1 = L := ⟨_, rfl⟩
              have hLi : (ln : Int) + 1 = (L : Int) := by omega
              rw [hL] at hq hrr HNX HBD
              obtain ⟨S, hS⟩ : ∃ S, st.i + d = S := ⟨_, rfl⟩
              have hsi2 : (st.i : Int) + (d : Int) = (S : Int) := by omega
              rw [hS] at hq hrr HNX HBD
              obtain ⟨q, hqe⟩ : ∃ q, S / L = q := ⟨_, rfl⟩
              obtain ⟨r, hre⟩ : ∃ r, S % L = r := ⟨_, rfl⟩
              have hqi : (S : Int) / (L : Int) = (q : Int) := by rw [← hqe, Int.natCast_ediv]
              have hri : (S : Int) % (L : Int) = (r : Int) := by rw [← hre, Int.natCast_emod]
              rw [hqe] at hq HNX HBD
              rw [hre] at hrr HNX
              have hL1 : 1 ≤ L ∧ L ≤ 8001 := by omega
              have hs1 : S ≤ 4611686018428387904 := by omega
              obtain ⟨hL1, hL2⟩ := hL1
              obtain ⟨nn, hnn⟩ : ∃ nn, st.n + q = nn := ⟨_, rfl⟩
              have hni : (st.n : Int) + (q : Int) = (nn : Int) := by omega
              rw [hnn] at HNX HBD
              have HNX' : Hid (isB ((nn : Nat) : Int) = true → EntRel R bs (bytesL s) ⟨insL st.l r (nn : Int), nn, r + 1, (adapt d L st.one : Nat), false⟩ e (es ++ [(nn, r)])) := HNX
              have HBD' : Hid (isB ((nn : Nat) : Int) = false → R = none) := HBD
              have hnn2 : nn ≤ 4611686018430000000 := by omega
              clear HNX HBD hL hS hqe hre HR HGE hnn
              by_cases hbig : nn ≤ 1114111
              · have hb2 : ¬ (nn : Int) > 1114111 := by omega
                go_wp2_with fail
                refine (rIs_any _ _).mono ?_
                rintro e6 w6 ⟨rfl, hw6⟩
                subst hw6
                cases hsc : isB (nn : Int) with
                | false =>
                  have HF : Hid (R = none) := HBD'.out hsc
                  clear HBD' HNX' hsc
                  go_wp2
                  go_ret2
                  exact ⟨.inl ⟨HF.out, rfl⟩, HK.out.2.2.1⟩
                | true =>
                  have HN : Hid (EntRel R bs (bytesL s) ⟨insL st.l r (nn : Int), nn, r + 1, (adapt d L st.one : Nat), false⟩ e (es ++ [(nn, r)])) := HNX'.out hsc
                  clear HBD' HNX' hsc
                  have HA : Hid (∀ w, Calls Try.prog 36 #[.int .u64 d, .int .u64 L, .bool st.one] w fun e w' => e = .returned (.int .i64 (adapt d L st.one)) ∧ w' = w) := fun w => rAdapt_any d L st.one w (by omega) (by omega)
                  have hgl : g < w6.heap.size := HK.out.1.lt rfl
                  have HT1 : Hid ((st.l.take r).length = r ∧ (st.l.drop r).length = ln - r) := ⟨by rw [List.length_take, HK.out.2.2.2]; omega, by rw [List.length_drop, HK.out.2.2.2]⟩
                  have HLEN : Hid ((st.l.take r ++ [(nn : Int)]).length + (st.l.drop r).length ≤ 8001) := by show _ ≤ _; rw [List.length_append, HT1.out.1, HT1.out.2, List.length_singleton]; omega
                  have HE0 : Hid (Seg .u32 (w6.alloc (.cells #[] 64)) (.slice (some ⟨w6.heap.size, 0, none⟩) 0 0) []) := seg_empty_at _ _ _ rfl
                  have HE1 : Hid (Seg .u32 (w6.alloc (.cells #[] 64)) (.slice (some ⟨g, of, none⟩) ln c) st.l) := HK.out.1.chg ((Chg.refl (fun _ _ => False) w6).alloc _) (fun _ _ _ h => h)
                  have HE2 : Hid (Row .u32 (w6.alloc (.cells #[] 64)) (some ⟨g, of, none⟩) (st.l.take r)) := (seg_row (HE1.out.takeO (f := r) (by rw [HK.out.2.2.2]; omega))).1
                  have j1 : (r : Int) ≤ (ln : Int) := by omega
                  have j2 : (r : Int) ≤ (c : Int) := by omega
                  by_cases hcr : c = r
                  all_goals
                    have HSC : Hid (∀ w', Seg .u32 w' (.slice (some ⟨g, of, none⟩) ln c) st.l → Src Try.prog 1 27 (if c = r then .slice (some ⟨g, of, none⟩) (ln - r) 0 else .slice (some ⟨g, of + r, none⟩) (ln - r) (c - r)) (st.l.drop r).length ((st.l.drop r).map (Value.int .u32)) w') := fun w' hsg => by
                      have h1 := HT1.out.2
                      have h2 := HK.out.2.2.2
                      by_cases hc : c = r
                      · rw [if_pos hc]
                        exact src_row Try.underlying27 (seg_row (hsg.dropE (f := r) (by omega) h2 hc)).1 h1 (fun h => by cases h)
                      · rw [if_neg hc]
                        exact src_row Try.underlying27 (seg_row (hsg.dropM (f := r) (by omega) h2)).1 h1 (fun h => by cases h)
                    first | rw [if_pos hcr] at HSC | rw [if_neg hcr] at HSC
                    go_wp2_with (at_builtin; first
                      | (refine wpList_append_seg rfl _ _ 27 27 rfl .u32 64 4 Try.underlying27 info_u32 (.slice (some ⟨w6.heap.size, 0, none⟩) 0 0) [] (st.l.take r) rfl HE0.out _ rfl (src_row (l := st.l.take r) Try.underlying27 HE2.out HT1.out.1 (fun h => by cases h)) (by have := HT1.out.1; unfold maxLen; simp; omega) (by have := HT1.out.1; simp; omega) ?_; intro vo7 w7 hs7 hc7 hm7
                         have k7 := app_keep (B := w6.heap.size) hc7 hm7 (fun k hk => by simp [Value.ownBlock] at hk; omega) (by simp) hgl HE1.out
                         have H7 : Hid (Seg .u32 w7 vo7 (st.l.take r) ∧ (∀ k, vo7.ownBlock = some k → w6.heap.size ≤ k) ∧ Below w6.heap.size w6 w7 ∧ Seg .u32 w7 (.slice (some ⟨g, of, none⟩) ln c) st.l) := ⟨hs7, k7.1, ((Below.refl w6.heap.size w6).alloc (Nat.le_refl _) _).trans k7.2.1, k7.2.2⟩
                         clear k7 hs7 hc7 hm7 HE0 HE1 HE2
                         have S7 : Hid (∀ o, Seg .u32 (w7.alloc o) vo7 (st.l.take r) ∧ Seg .u32 (w7.alloc o) (.slice (some ⟨g, of, none⟩) ln c) st.l) := fun o => ⟨H7.out.1.chg ((Chg.refl (fun _ _ => False) w7).alloc o) (fun _ _ _ h => h), H7.out.2.2.2.chg ((Chg.refl (fun _ _ => False) w7).alloc o) (fun _ _ _ h => h)⟩)
                      | (refine wpList_append_seg rfl _ _ 27 27 rfl .u32 64 4 Try.underlying27 info_u32 vo7 (st.l.take r) [(nn : Int)] rfl (S7.out _).1 _ rfl (src_row (l := [(nn : Int)]) Try.underlying27 (by exact row_new .u32 w7 [(nn : Int)] _ _ rfl) rfl (fun h => by cases h)) (by have := HT1.out.1; unfold maxLen; simp; omega) (by have := HT1.out.1; simp; omega) ?_; intro vo8 w8 hs8 hc8 hm8
                         have k8 := app_keep (B := w6.heap.size) hc8 hm8 H7.out.2.1 (by have := H7.out.2.2.1.size; simp; omega) hgl (S7.out _).2
                         have H8 : Hid (Seg .u32 w8 vo8 (st.l.take r ++ [(nn : Int)]) ∧ (∀ k, vo8.ownBlock = some k → w6.heap.size ≤ k) ∧ Below w6.heap.size w6 w8 ∧ Seg .u32 w8 (.slice (some ⟨g, of, none⟩) ln c) st.l) := ⟨hs8, k8.1, (H7.out.2.2.1.alloc H7.out.2.2.1.size _).trans k8.2.1, k8.2.2⟩
                         clear k8 hs8 hc8 hm8 H7 S7)
                      | (refine wpList_append_seg rfl _ _ 27 27 rfl .u32 64 4 Try.underlying27 info_u32 vo8 (st.l.take r ++ [(nn : Int)]) (st.l.drop r) rfl H8.out.1 _ rfl (HSC.out w8 H8.out.2.2.2) (by have := HLEN.out; unfold maxLen; omega) (by have := HLEN.out; omega) ?_; intro vo9 w9 hs9 hc9 hm9
                         have k9 := app_keep (B := w6.heap.size) hc9 hm9 H8.out.2.1 H8.out.2.2.1.size hgl H8.out.2.2.2
                         have hl9 : st.l.take r ++ [(nn : Int)] ++ st.l.drop r = insL st.l r (nn : Int) := (by unfold insL; simp)
                         rw [hl9] at hs9
                         obtain ⟨g9, of9, c9, hv9⟩ := seg_at (L := L) hs9 (by rw [insL_len, HK.out.2.2.2]; omega) hL1
                         subst hv9
                         have H9 : Hid (Seg .u32 w9 (.slice (some ⟨g9, of9, none⟩) L c9) (insL st.l r (nn : Int)) ∧ w6.heap.size ≤ g9 ∧ Below w6.heap.size w6 w9) := ⟨hs9, k9.1 g9 rfl, H8.out.2.2.1.trans k9.2.1⟩
                         clear k9 hs9 hc9 hm9 hl9 H8 HSC HLEN HT1))
                    refine (HA.out w9).mono ?_
                    rintro e10 w10 ⟨rfl, hw10⟩
                    subst hw10
                    have j3 : ((r + 1 : Nat) : Int) = (r : Int) + 1 := by omega
                    have HW9 : Hid (Below w.heap.size w w10 ∧ w.heap.size ≤ g9) := ⟨below_two HK.out.2.2.1 H9.out.2.2, by have := HK.out.2.2.1.size; have := H9.out.2.1; omega⟩
                    go_wp2
                    go_roundw
                    case rel => exact ⟨e, g9, of9, L, c9, _, _, rfl, rfl, rfl, by rw [j3], rfl, rfl, HN.out, H9.out.1, HW9.out.2, HW9.out.1⟩
                    case measure => simp [intOf]; omega
              · have hb2 : (nn : Int) > 1114111 := by omega
                have HF : Hid (R = none) := HBD'.out (by
                  cases hb : isB (nn : Int) with
                  | false => rfl
                  | true => have := (isB_iff.1 hb).1; omega)
                clear HBD' HNX'
                go_wp2
                go_ret2
                exact ⟨.inl ⟨HF.out, rfl⟩, HK.out.2.2.1⟩
            · have HF : Hid (R = none) := HR.out.err (by rw [HL.out]; exact hlt) HGE.out her
              have her2 : ¬ (er : Int) = 0 := by omega
              have her3 : ((er : Int) == 0) = false := by simp [her]
              clear HR HGE
              go_wp2
              go_ret2
              exact ⟨.inl ⟨HF.out, rfl⟩, HK.out.2.2.1⟩
          · have i1 : ¬ (p : Int) < (s.size : Int) := by omega
            have HF : Hid (R = some st.l) := by
              have h1 := HR.out.done (by rw [HL.out]; exact hlt)
              rw [HR.out.l]
              exact h1
            go_wp2
            go_ret2
            exact ⟨den_fin HF.out HK.out.1 (fun g' hg => by simp [Value.ownBlock] at hg; have := HK.out.2.1; omega), HK.out.2.2.1⟩
end Pun
end Go.Proofs.Ytemgbmacdpnepaa
