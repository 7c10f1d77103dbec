/-
  Scalars that wait come out in their order, as many at a time as there is room for, none twice, none lost; what comes out is the caller's: the statement StepScalars is proved, for every input. Conditions: none.
-/
import Derived.Test.YtalifhgflngooaaAwk2
import Derived.Test.YtalifhgflngooaaMemS
import Derived.Test.YtalifhgflngooaaRefO
import Derived.Deep.DeepCutAuto
import Derived.Deep.CutBlock
namespace Go.Proofs.Ytalifhgflngooaa.stepScalars
open Go.ChangeShapes Go.WideShapes Go.ChangeAt Go.RowKit
open Go.ChangeMaps (open_string shut_string)
open Bas Stp Sca
set_option linter.unusedVariables false

theorem rSame_seg (va vb : Value) (l m : List Int) (w : World) (h : Seg .u32 w va l) (g : Seg .u32 w vb m) :
    Calls Try.prog 24 #[va, vb] w fun e w' => e = .returned (.bool (cmpL l m == 0)) ∧ ∃ n, w' = w.drewN n := by
  obtain ⟨a, c, rfl, hr, hm, -, -, -⟩ := h.form
  obtain ⟨a2, c2, rfl, hr2, hm2, -, -, -⟩ := g.form
  exact rSame_any _ _ _ _ _ _ _ _ _ hr hr2 rfl rfl hm hm2
set_option maxRecDepth 100000 in
set_option maxHeartbeats 4000000 in
theorem walk (w : World) (a0 : Option Addr) (n0 c0 : Nat) (D0 : Nat → OpD) (I0 : Script w a0 n0 c0 D0) :
    Calls Try.prog 5 #[.slice a0 n0 c0] w fun e w' => e = .returned (.bool true) ∧ Below w.heap.size w w' := by
  go_enter Try.func5, Try.ntmps5
  go_wp2_with fail
  refine (awake_any _).mono ?_
  rintro e w1 ⟨rfl, b1⟩
  have J0 := I0.mono b1
  clear I0
  go_wp2_with fail
  refine (great_any _ _ _ _ _ J0).mono ?_
  rintro e w2 ⟨hgr, b2⟩
  have B2 := below_two b1 b2
  have K0 := J0.mono b2
  clear J0 b1 b2
  rcases hgr with rfl | ⟨rfl, hn, hsm⟩
  · clear K0
    go_wp2_with fail
    refine (awake_any _).mono ?_
    rintro e w3 ⟨rfl, b3⟩
    go_wp2
    go_ret
    exact ⟨rfl, below_two B2 b3⟩
  · have HSM : Hid (∀ i, i < n0 → bigOp (D0 i) = false) := hsm
    obtain ⟨⟨b, off, ha, hc⟩, hm⟩ := K0
    have HN : Hid (0 < n0 → a0 = some ⟨b, off, none⟩) := ha
    have HC : Hid (∀ i, i < n0 → ∃ ai ci, OpAt w2 b (off + i * 4) (D0 i) ai ci) := hc
    clear hsm ha hc hm
    obtain ⟨N, hN⟩ : ∃ N, N = w2.heap.size := ⟨_, rfl⟩
    have HZ : Hid (N = w2.heap.size) := hN
    clear hN
    go_wp2
    rw [← HZ.out]
    go_loopw [4, 22] (fun vw i wr => ∃ k : Nat, k ≤ n0 ∧ i = .int .i64 k ∧ ∃ l v, Below N w2 wr ∧ RowAt .u32 wr N 0 v l ∧ Seg .u32 wr vw l ∧ (∀ g, v.ownBlock = some g → N < g) ∧ (∀ g, vw.ownBlock = some g → N < g) ∧ (∀ g, v.ownBlock = some g → vw.ownBlock ≠ some g) ∧ l.length ≤ k * 300) (fun _ i _ => n0 - (intOf i).toNat)
    case atStart =>
      have r0 := row0_new .u32 w2 48 HZ.out
      refine ⟨0, Nat.zero_le _, rfl, [], _, ((Below.refl _ _).alloc (Nat.le_of_eq HZ.out) _).alloc (by have := HZ.out; simp; omega) _, r0.below ((Below.refl _ _).alloc (Nat.le_refl _) _), seg_empty_at _ _ _ (by have := HZ.out; simp; omega), fun g hg => by simp [Value.ownBlock] at hg, fun g hg => by simp [Value.ownBlock] at hg; omega, fun g hg => by simp [Value.ownBlock] at hg, Nat.le_refl _⟩
    case round =>
      obtain ⟨k, hk, rfl, l, v, hbel, hR, hS, o1, o2, ap, hl⟩ := hrel
      obtain ⟨aw, cw, hvw, -, -, hcw, -, -⟩ := hS.form
      obtain ⟨lw, hlw⟩ : ∃ lw, l.length = lw := ⟨_, rfl⟩
      rw [hlw] at hvw
      subst hvw
      have HLW : Hid (l.length = lw) := hlw
      rw [hlw] at hl
      clear hlw hcw
      by_cases hlt : k < n0
      · obtain rfl := HN.out (by omega)
        obtain ⟨ai, ci, hop⟩ := HC.out k hlt
        have hlt' : (k : Int) < (n0 : Int) := by omega
        have crow2 := hop.row
        have hop' := hop.mono (hbel.mono (Nat.le_of_eq HZ.out.symm))
        have hsm := HSM.out k hlt
        clear hop
        generalize D0 k = d at hop' hsm crow2
        obtain ⟨kd, nm, tx, ls⟩ := d
        obtain ⟨c0, c1, c2, c3, crow, cnil, -, -, -, -, wn⟩ := hop'
        have hls : ls.length ≤ 300 := by
          unfold bigOp at hsm
          simp only [Bool.or_eq_false_iff, decide_eq_false_iff_not] at hsm
          omega
        clear hsm
        dsimp only at c0 c1 c2 c3 crow wn crow2
        have hrowN : ∀ b' o', ai = some ⟨b', o', none⟩ → ls ≠ [] → b' < N := fun b' o' e hne => by
          obtain ⟨bb, oo, hba, hbc⟩ := crow2
          have := hba hne
          rw [e] at this
          simp at this
          have hlt := World.block_lt_of_cell? w2 _ (hbc 0 (List.length_pos_iff.2 hne))
          have := HZ.out
          simp at hlt
          omega
        have al0 : Below wr.heap.size wr (wr.alloc (.cells #[.int .i64 kd, .int .i64 nm, .string tx, .slice ai ls.length ci] 35)) := (Below.refl _ _).alloc (Nat.le_refl _) _
        have hTz : N < wr.heap.size := hR.lt
        have hvT : ∀ g, v.ownBlock = some g → g < wr.heap.size := fun g hg => hR.seg.lt hg
        have hwT : ∀ g, (Value.slice aw lw cw).ownBlock = some g → g < wr.heap.size := fun g hg => hS.lt hg
        have hR1 := hR.below al0
        have hS1 := hS.chg (chg_of_below al0 (Nat.le_refl _) (fun _ _ => False)) (fun _ _ _ h => h)
        have hbel1 := hbel.trans (al0.mono (by omega))
        have e1 : (wr.alloc (.cells #[.int .i64 kd, .int .i64 nm, .string tx, .slice ai ls.length ci] 35)).cell? ⟨wr.heap.size, 1, none⟩ = some (.int .i64 nm) := by simp
        have e3 : (wr.alloc (.cells #[.int .i64 kd, .int .i64 nm, .string tx, .slice ai ls.length ci] 35)).cell? ⟨wr.heap.size, 3, none⟩ = some (.slice ai ls.length ci) := by simp
        have hrow := crow.mono al0
        have HLN : Hid (l.length ≤ (k + 1) * 300) := (by show l.length ≤ (k + 1) * 300; rw [HLW.out]; exact Nat.le_trans hl (Nat.mul_le_mul_right _ (Nat.le_succ k)))
        clear hR hS hbel al0 crow crow2
        go_upto_block 2 with fail
        go_cut [4] (fun vw wc => ∃ l' v', Below N w2 wc ∧ RowAt .u32 wc N 0 v' l' ∧ Seg .u32 wc vw l' ∧ (∀ g, v'.ownBlock = some g → N < g) ∧ (∀ g, vw.ownBlock = some g → N < g) ∧ (∀ g, v'.ownBlock = some g → vw.ownBlock ≠ some g) ∧ l'.length ≤ (k + 1) * 300)
        case first =>
          by_cases h4 : kd = 4
          · subst h4
            generalize hW : (wr.alloc (.cells #[.int .i64 4, .int .i64 nm, .string tx, .slice ai ls.length ci] 35)) = W1 at *
            have hWz : W1.heap.size = wr.heap.size + 1 := by rw [← hW]; simp
            have HWZ : Hid (W1.heap.size = wr.heap.size + 1) := hWz
            have hW1 : wr.heap.size < W1.heap.size := by omega
            clear hW hWz
            have hsE := seg_empty .u32 W1 50
            have hrE := row_old hrow (.cells #[] 50)
            have hRE := hR1.below ((Below.refl _ _).alloc (Nat.le_refl _) (.cells #[] 50))
            have hSE := hS1.chg (chg_of_below ((Below.refl _ _).alloc (Nat.le_refl _) (.cells #[] 50)) (Nat.le_refl _) (fun _ _ => False)) (fun _ _ _ h => h)
            have hbelE := hbel1.trans (((Below.refl _ _).alloc (Nat.le_refl _) (.cells #[] 50)).mono (by omega))
            go_upto_region 11 with (at_builtin; go_must (refine wpList_append_seg rfl _ _ 33 33 rfl .u32 50 4 Try.underlying33 info_u32 (.slice (some ⟨W1.heap.size, 0, none⟩) 0 0) [] ls rfl hsE _ rfl (src_row Try.underlying33 hrE rfl cnil) (by unfold maxLen; simp; omega) (by simp; omega) ?_; intro vl w3 hsl hchl hml))
            have e3E : (W1.alloc (.cells #[] 50)).cell? ⟨wr.heap.size, 3, none⟩ = some (.slice ai ls.length ci) := by rw [World.cell?_alloc_past _ _ _ hW1]; exact e3
            have no : ∀ g, g < W1.heap.size → (Value.slice (some ⟨W1.heap.size, 0, none⟩) 0 0).ownBlock ≠ some g := fun g hg h => by simp [Value.ownBlock] at h; omega
            have f3 := hchl.cellAt e3E (no _ hW1)
            have hR3 := hRE.chg hchl (fun k o hf h => by
              rcases hf with hf | hf
              · exact no k (by omega) h
              · exact no k (by have := hvT k hf; omega) h)
            have hS3 := hSE.chg hchl (fun g o hg h => no g (by have := hwT g hg; omega) h)
            have hrow3 : Row .u32 w3 ai ls := by
              by_cases hne : ls = []
              · rw [hne]; exact row_nil _ _ _
              · exact Row.chg hrE hchl (fun b' o' e j h => no b' (by have := hrowN b' o' e hne; omega) h)
            have hbel3 := below_step hbelE hchl (by simp; omega) (fun k o hk h => no k (by omega) h)
            have ol : ∀ g, vl.ownBlock = some g → W1.heap.size ≤ g := fun g hg => by
              rcases hml g hg with h | h
              · simp [Value.ownBlock] at h; omega
              · simp at h; omega
            rw [List.nil_append] at hsl
            obtain ⟨al, cl, hvl, hrl, -, -, -, hnl⟩ := hsl.form
            obtain ⟨ln, hln⟩ : ∃ ln, ls.length = ln := ⟨_, rfl⟩
            rw [hln] at hvl
            subst hvl
            have HLL : Hid (ls.length = ln) := hln
            have hln3 : ln ≤ 300 := by omega
            clear hln hsE hrE hRE hSE hbelE hchl hml e3E hR1 hS1 hbel1 hrow e1 e3 c0 c1 c2 c3
            go_wp2_with fail
            refine (hold_any _ _ _ _ _ _ _ _ _ hR3 hrl HLL.out hnl (by have := HLN.out; omega)).mono ?_
            rintro e w4 ⟨v4, rfl, hR4, k4, m4⟩
            have no4 : ∀ g, g ≠ N → v.ownBlock ≠ some g → ∀ j, ¬ footR N 0 v g j := fun g h1 h2 j h => by
              rcases h with h | h
              · exact h1 h.1
              · exact h2 h
            have f34 := k4.cellAt f3 (no4 _ (by omega) (fun h => by have := hvT _ h; omega) _)
            have hS4 := hS3.chg k4 (fun g o hg => no4 g (by have := o2 g hg; omega) (fun h => ap g h hg) o)
            have hsl4 := hsl.chg k4 (fun g o hg => no4 g (by have := ol g hg; omega) (fun h => by have := hvT _ h; have := ol g hg; omega) o)
            have hrow4 : Row .u32 w4 ai ls := by
              by_cases hne : ls = []
              · rw [hne]; exact row_nil _ _ _
              · exact Row.chg hrow3 k4 (fun b' o' e j => no4 b' (by have := hrowN b' o' e hne; omega) (fun h => by have := hrowN b' o' e hne; have := o1 _ h; omega) j)
            have hbel4 := below_step hbel3 k4 (by have := hR3.lt; omega) (fun k o hk h => by
              rcases h with h | h
              · omega
              · have := o1 _ h; omega)
            have hz4 := k4.size
            have o14 : ∀ g, v4.ownBlock = some g → N < g ∧ (v.ownBlock = some g ∨ w3.heap.size ≤ g) := fun g hg => by
              rcases m4 g hg with h | h
              · exact ⟨o1 g h, .inl h⟩
              · exact ⟨by have := hR3.lt; omega, .inr h⟩
            have hwl3 : ∀ g, (Value.slice aw lw cw).ownBlock = some g → g < w3.heap.size := fun g hg => hS3.lt hg
            have hll3 : ∀ g, (Value.slice al ln cl).ownBlock = some g → g < w3.heap.size := fun g hg => hsl.lt hg
            clear hR3 hS3 hsl hrow3 hbel3 k4 m4 f3 hrl
            go_upto_region 13 with (at_builtin; go_must (refine wpList_append_seg rfl _ _ 33 33 rfl .u32 50 4 Try.underlying33 info_u32 (.slice aw lw cw) l ls rfl hS4 _ rfl (src_row Try.underlying33 hrow4 rfl cnil) (by have := HLN.out; unfold maxLen; omega) (by have := HLN.out; omega) ?_; intro vw w5 hsw hchw hmw))
            have hR5 := hR4.chg hchw (fun k o hf h => by
              rcases hf with hf | hf
              · have := o2 k h; omega
              · rcases (o14 k hf).2 with h2 | h2
                · exact ap k h2 h
                · have := hwl3 k h; omega)
            have hsl5 := hsl4.chg hchw (fun g o hg h => by have := ol g hg; have := hwT g h; omega)
            have hbel5 := below_step hbel4 hchw (by have := hR4.lt; omega) (fun k o hk h => by have := o2 k h; omega)
            have o25 : ∀ g, vw.ownBlock = some g → N < g := fun g hg => by
              rcases hmw g hg with h | h
              · exact o2 g h
              · have := hR4.lt; omega
            have ap5 : ∀ g, v4.ownBlock = some g → vw.ownBlock ≠ some g := fun g hg h => by
              rcases hmw g h with h1 | h1
              · rcases (o14 g hg).2 with h2 | h2
                · exact ap g h2 h1
                · have := hwl3 g h1; omega
              · have := hR4.seg.lt hg; omega
            have olN : ∀ g, (Value.slice al ln cl).ownBlock = some g → N < g := fun g hg => by have := ol g hg; omega
            have apl4 : ∀ g, (Value.slice al ln cl).ownBlock = some g → v4.ownBlock ≠ some g := fun g hg h => by
              rcases (o14 g h).2 with h2 | h2
              · have := hvT g h2; have := ol g hg; omega
              · have := hll3 g hg; omega
            have aplw : ∀ g, (Value.slice al ln cl).ownBlock = some g → vw.ownBlock ≠ some g := fun g hg h => by
              rcases hmw g h with h1 | h1
              · have := hwT g h1; have := ol g hg; omega
              · have := hll3 g hg; omega
            clear hR4 hS4 hsl4 hrow4 hbel4 hchw hmw f34
            go_wp2_with fail
            go_loopw [42] (fun i wq => ∃ j : Nat, j ≤ ln ∧ i = .int .i64 j ∧ ∃ m, Seg .u32 wq (.slice al ln cl) m ∧ m.length = ln ∧ Chg (fun b o => (Value.slice al ln cl).ownBlock = some b) w5 wq) (fun i _ => ln - (intOf i).toNat)
            case atStart => exact ⟨0, Nat.zero_le _, rfl, _, hsl5, HLL.out, Chg.refl _ _⟩
            case round =>
              obtain ⟨j, hj, rfl, m, hsm, hml, hch⟩ := hrel
              have HML : Hid (m.length = ln) := hml
              clear hml
              by_cases hjl : j < ln
              · have hjl' : (j : Int) < (ln : Int) := by omega
                obtain ⟨g, of, hal, hcj, hfj⟩ := hsm.at (by have := HML.out; omega : j < m.length)
                subst hal
                have HSG : Hid (Seg .u32 wr (.slice (some ⟨g, of, none⟩) ln cl) m) := hsm
                have HCH : Hid (Chg (fun b o => (Value.slice (some ⟨g, of, none⟩) ln cl).ownBlock = some b) w5 wr) := hch
                clear hsm hch
                go_wp2_with fail
                refine ⟨⟨j + 1, by omega, by go_num, _, HSG.out.set (j := j) ((nth m j + 1) % 4294967296) (by have := HML.out; omega), by rw [List.length_set]; exact HML.out, HCH.out.trans2 (chg_setCell wr g (of + j) _) (fun k o _ h => h) (fun k o _ h => by simp [Value.ownBlock, h.1])⟩, by simp [intOf]; omega⟩
              · have hjl' : (ln : Int) ≤ (j : Int) := by omega
                have hR6 := hR5.chg hch (fun k o hf h => by
                  rcases hf with hf | hf
                  · have := olN _ h; omega
                  · exact apl4 k h hf)
                have hS6 := hsw.chg hch (fun g o hg h => aplw g h hg)
                have hbel6 := below_step hbel5 hch (by have := hR5.lt; omega) (fun k o hk h => by have := olN _ h; omega)
                go_wp2_with fail
                go_meet
                case rel => exact ⟨l ++ ls, v4, hbel6, hR6, hS6, fun g hg => (o14 g hg).1, o25, ap5, by rw [List.length_append]; have := HLW.out; have := HLL.out; omega⟩
          · by_cases h5 : kd = 5
            · subst h5
              generalize hW : (wr.alloc (.cells #[.int .i64 5, .int .i64 nm, .string tx, .slice ai ls.length ci] 35)) = W1 at *
              have hWz : W1.heap.size = wr.heap.size + 1 := by rw [← hW]; simp
              have hW1 : wr.heap.size < W1.heap.size := by omega
              clear hW hWz
              have hfl := frontN_le nm lw
              obtain ⟨f, hff⟩ : ∃ f, frontN nm lw = f := ⟨_, rfl⟩
              rw [hff] at hfl
              have HF0 : Hid (frontN nm lw = f) := hff
              have HF : Hid (frontN nm l.length = f) := (by show frontN nm l.length = f; rw [HLW.out]; exact hff)
              clear hff
              have hll : l.length ≤ 1000000000 := by have := HLN.out; omega
              clear hrow e3 c0 c1 c2 c3
              have HSW : Hid (Seg .u32 W1 (.slice aw lw cw) l) := hS1
              rcases hS1 with ⟨hv0, hl0⟩ | ⟨gw, ow, cap, hv0, hg, h1, h2, h3, h4, h5⟩
              · simp only [Value.slice.injEq] at hv0
                obtain ⟨rfl, rfl, rfl⟩ := hv0
                have hf0 : f = 0 := by omega
                subst hf0
                clear hl0
                go_wp2_with fail
                refine (rFront_any nm 0 _).mono ?_
                rintro e w4 ⟨rfl, hw⟩
                subst hw
                rw [HF0.out]
                go_wp2_with fail
                refine (tell_any _ _ _ _ _ _ hR1 wn hll).mono ?_
                rintro e w5 ⟨vr, v5, rfl, hR5, hsr, nr, k5, m5⟩
                rw [HF.out] at hR5 hsr
                have hS5 := HSW.out.chg k5 (fun g' o hg h => by have := o2 g' hg; omega)
                have hbel5 := below_step hbel1 k5 (by have := hR1.lt; omega) (fun k o hk h => by omega)
                have hlw5 : ∀ g, (Value.slice none 0 0).ownBlock = some g → g < w4.heap.size := fun g hg => HSW.out.lt hg
                obtain ⟨al, cl, hvl, -⟩ := hsr.form
                obtain ⟨ln, hln⟩ : ∃ ln, (l.take 0).length = ln := ⟨_, rfl⟩
                rw [hln] at hvl
                subst hvl
                have HLL : Hid ((l.take 0).length = ln) := hln
                have hlnf : ln ≤ 100000 := by have := HLN.out; rw [List.length_take] at hln; omega
                have HST : Hid (Seg .u32 w5 (.slice none 0 0) (l.take 0)) := hS5.takeO (by have := HLW.out; omega)
                have HS5 : Hid (Seg .u32 w5 (.slice none 0 0) l) := hS5
                have HSR : Hid (Seg .u32 w5 (.slice al ln cl) (l.take 0)) := hsr
                have olN : ∀ g, (Value.slice al ln cl).ownBlock = some g → N < g := fun g hg => by have := nr g hg; have := hR1.lt; omega
                have apl4 : ∀ g, (Value.slice al ln cl).ownBlock = some g → v5.ownBlock ≠ some g := fun g hg h => by have := hR1.seg.lt (m5 g h); have := nr g hg; omega
                have aplw : ∀ g, (Value.slice al ln cl).ownBlock = some g → (Value.slice none 0 0).ownBlock ≠ some g := fun g hg h => by have := hlw5 g h; have := nr g hg; omega
                have HR5 : Hid (RowAt .u32 w5 N 0 v5 (l.drop 0)) := hR5
                have hN5 := hR5.lt
                clear hln hsr hS5 hR5 hR1 hbel1 nr k5 hlw5 HSW e1
                go_wp2_with fail
                refine (rSame_seg _ _ (l.take 0) (l.take 0) _ HSR.out HST.out).mono ?_
                rintro e w6 ⟨rfl, nd, hw⟩
                subst hw
                rw [cmpL_self]
                go_wp2_with fail
                go_loopw [70] (fun i wq => ∃ j : Nat, j ≤ ln ∧ i = .int .i64 j ∧ ∃ m, Seg .u32 wq (.slice al ln cl) m ∧ m.length = ln ∧ Chg (fun b o => (Value.slice al ln cl).ownBlock = some b) (w5.drewN nd) wq) (fun i _ => ln - (intOf i).toNat)
                case atStart => exact ⟨0, Nat.zero_le _, rfl, _, HSR.out, HLL.out, Chg.refl _ _⟩
                case round =>
                  obtain ⟨j, hj, rfl, m, hsm, hml, hch⟩ := hrel
                  have HML : Hid (m.length = ln) := hml
                  clear hml
                  by_cases hjl : j < ln
                  · have hjl' : (j : Int) < (ln : Int) := by omega
                    obtain ⟨g, of, hal, hcj, hfj⟩ := hsm.at (by have := HML.out; omega : j < m.length)
                    subst hal
                    have HSG : Hid (Seg .u32 wr (.slice (some ⟨g, of, none⟩) ln cl) m) := hsm
                    have HCH : Hid (Chg (fun b o => (Value.slice (some ⟨g, of, none⟩) ln cl).ownBlock = some b) (w5.drewN nd) wr) := hch
                    clear hsm hch
                    go_wp2_with fail
                    refine ⟨⟨j + 1, by omega, by go_num, _, HSG.out.set (j := j) ((nth m j + 1) % 4294967296) (by have := HML.out; omega), by rw [List.length_set]; exact HML.out, HCH.out.trans2 (chg_setCell wr g (of + j) _) (fun k o _ h => h) (fun k o _ h => by simp [Value.ownBlock, h.1])⟩, by simp [intOf]; omega⟩
                  · have hjl' : (ln : Int) ≤ (j : Int) := by omega
                    have hR6 := RowAt.chg (w := w5.drewN nd) ⟨HR5.out.c, HR5.out.f, HR5.out.seg, HR5.out.ne⟩ hch (fun k o hf h => by
                      rcases hf with hf | hf
                      · have := olN _ h; omega
                      · exact apl4 k h hf)
                    have hS6 := Seg.chg (w := w5.drewN nd) HS5.out hch (fun g o hg h => aplw g h hg)
                    have hbel6 := below_step (w1 := w5.drewN nd) (below_drewN hbel5 nd) hch (by show N ≤ w5.heap.size; omega) (fun k o hk h => by have := olN _ h; omega)
                    have HS6 : Hid (Seg .u32 wr (.slice none 0 0) l) := hS6
                    clear hS6
                    go_wp2_with fail
                    go_meet
                    case rel => exact ⟨l.drop 0, v5, hbel6, hR6, by simpa using HS6.out, fun g hg => o1 g (m5 g hg), o2, fun g hg => ap g (m5 g hg), by rw [List.length_drop]; have := HLN.out; omega⟩
              · rw [HLW.out] at hv0 h1
                simp only [Value.slice.injEq] at hv0
                obtain ⟨rfl, -, rfl⟩ := hv0
                unfold maxLen at h2
                have hfc : f ≤ cw := by omega
                have hfc' : (f : Int) ≤ (cw : Int) := by omega
                have hfl' : (f : Int) ≤ (lw : Int) := by omega
                clear h3 h4 h5
                go_wp2_with fail
                refine (rFront_any nm lw _).mono ?_
                rintro e w4 ⟨rfl, hw⟩
                subst hw
                rw [HF0.out]
                go_wp2_with fail
                refine (tell_any _ _ _ _ _ _ hR1 wn hll).mono ?_
                rintro e w5 ⟨vr, v5, rfl, hR5, hsr, nr, k5, m5⟩
                rw [HF.out] at hR5 hsr
                have hS5 := HSW.out.chg k5 (fun g' o hg h => by have := o2 g' hg; omega)
                have hbel5 := below_step hbel1 k5 (by have := hR1.lt; omega) (fun k o hk h => by omega)
                have hlw5 : ∀ g, (Value.slice (some ⟨gw, ow, none⟩) lw cw).ownBlock = some g → g < w4.heap.size := fun g hg => HSW.out.lt hg
                obtain ⟨al, cl, hvl, -⟩ := hsr.form
                obtain ⟨ln, hln⟩ : ∃ ln, (l.take f).length = ln := ⟨_, rfl⟩
                rw [hln] at hvl
                subst hvl
                have HLL : Hid ((l.take f).length = ln) := hln
                have hlnf : ln ≤ 100000 := by have := HLN.out; rw [List.length_take] at hln; omega
                have HST : Hid (Seg .u32 w5 (.slice (some ⟨gw, ow, none⟩) f cw) (l.take f)) := hS5.takeO (by have := HLW.out; omega)
                have HS5 : Hid (Seg .u32 w5 (.slice (some ⟨gw, ow, none⟩) lw cw) l) := hS5
                have HSR : Hid (Seg .u32 w5 (.slice al ln cl) (l.take f)) := hsr
                have olN : ∀ g, (Value.slice al ln cl).ownBlock = some g → N < g := fun g hg => by have := nr g hg; have := hR1.lt; omega
                have apl4 : ∀ g, (Value.slice al ln cl).ownBlock = some g → v5.ownBlock ≠ some g := fun g hg h => by have := hR1.seg.lt (m5 g h); have := nr g hg; omega
                have aplw : ∀ g, (Value.slice al ln cl).ownBlock = some g → (Value.slice (some ⟨gw, ow, none⟩) lw cw).ownBlock ≠ some g := fun g hg h => by have := hlw5 g h; have := nr g hg; omega
                have HR5 : Hid (RowAt .u32 w5 N 0 v5 (l.drop f)) := hR5
                have hN5 := hR5.lt
                clear hln hsr hS5 hR5 hR1 hbel1 nr k5 hlw5 HSW e1
                go_wp2_with fail
                refine (rSame_seg _ _ (l.take f) (l.take f) _ HSR.out HST.out).mono ?_
                rintro e w6 ⟨rfl, nd, hw⟩
                subst hw
                rw [cmpL_self]
                go_wp2_with fail
                go_loopw [70] (fun i wq => ∃ j : Nat, j ≤ ln ∧ i = .int .i64 j ∧ ∃ m, Seg .u32 wq (.slice al ln cl) m ∧ m.length = ln ∧ Chg (fun b o => (Value.slice al ln cl).ownBlock = some b) (w5.drewN nd) wq) (fun i _ => ln - (intOf i).toNat)
                case atStart => exact ⟨0, Nat.zero_le _, rfl, _, HSR.out, HLL.out, Chg.refl _ _⟩
                case round =>
                  obtain ⟨j, hj, rfl, m, hsm, hml, hch⟩ := hrel
                  have HML : Hid (m.length = ln) := hml
                  clear hml
                  by_cases hjl : j < ln
                  · have hjl' : (j : Int) < (ln : Int) := by omega
                    obtain ⟨g, of, hal, hcj, hfj⟩ := hsm.at (by have := HML.out; omega : j < m.length)
                    subst hal
                    have HSG : Hid (Seg .u32 wr (.slice (some ⟨g, of, none⟩) ln cl) m) := hsm
                    have HCH : Hid (Chg (fun b o => (Value.slice (some ⟨g, of, none⟩) ln cl).ownBlock = some b) (w5.drewN nd) wr) := hch
                    clear hsm hch
                    go_wp2_with fail
                    refine ⟨⟨j + 1, by omega, by go_num, _, HSG.out.set (j := j) ((nth m j + 1) % 4294967296) (by have := HML.out; omega), by rw [List.length_set]; exact HML.out, HCH.out.trans2 (chg_setCell wr g (of + j) _) (fun k o _ h => h) (fun k o _ h => by simp [Value.ownBlock, h.1])⟩, by simp [intOf]; omega⟩
                  · have hjl' : (ln : Int) ≤ (j : Int) := by omega
                    have hR6 := RowAt.chg (w := w5.drewN nd) ⟨HR5.out.c, HR5.out.f, HR5.out.seg, HR5.out.ne⟩ hch (fun k o hf h => by
                      rcases hf with hf | hf
                      · have := olN _ h; omega
                      · exact apl4 k h hf)
                    have hS6 := Seg.chg (w := w5.drewN nd) HS5.out hch (fun g o hg h => aplw g h hg)
                    have hbel6 := below_step (w1 := w5.drewN nd) (below_drewN hbel5 nd) hch (by show N ≤ w5.heap.size; omega) (fun k o hk h => by have := olN _ h; omega)
                    have HS6 : Hid (Seg .u32 wr (.slice (some ⟨gw, ow, none⟩) lw cw) l) := hS6
                    clear hS6
                    by_cases hcf : cw = f
                    · have HD : Hid (Seg .u32 wr (.slice (some ⟨gw, ow, none⟩) (lw - f) 0) (l.drop f)) := HS6.out.dropE (by have := HLW.out; omega) HLW.out hcf
                      go_wp2_with fail
                      go_meet
                      case rel => exact ⟨l.drop f, v5, hbel6, hR6, HD.out, fun g hg => o1 g (m5 g hg), fun g hg => o2 g (by simpa [Value.ownBlock] using hg), fun g hg h => ap g (m5 g hg) (by simpa [Value.ownBlock] using h), by rw [List.length_drop]; have := HLN.out; omega⟩
                    · have HD : Hid (Seg .u32 wr (.slice (some ⟨gw, ow + f, none⟩) (lw - f) (cw - f)) (l.drop f)) := HS6.out.dropM (by have := HLW.out; omega) HLW.out
                      go_wp2_with fail
                      go_meet
                      case rel => exact ⟨l.drop f, v5, hbel6, hR6, HD.out, fun g hg => o1 g (m5 g hg), fun g hg => o2 g (by simpa [Value.ownBlock] using hg), fun g hg h => ap g (m5 g hg) (by simpa [Value.ownBlock] using h), by rw [List.length_drop]; have := HLN.out; omega⟩
            · have g4 : (kd == 4) = false := by simp [h4]
              have g5 : (kd == 5) = false := by simp [h5]
              clear h4 h5 c0 c1 c2 c3
              go_wp2_with fail
              go_meet
              case rel => exact ⟨l, v, hbel1, hR1, hS1, o1, o2, ap, HLN.out⟩
        case rest =>
          obtain ⟨l', v', hbel3, hR3, hS3, o13, o23, ap3, hl3⟩ := hcut
          obtain ⟨aw', cw', hvw', -⟩ := hS3.form
          obtain ⟨lw', hlw'⟩ : ∃ lw, l'.length = lw := ⟨_, rfl⟩
          rw [hlw'] at hvw' hl3
          subst hvw'
          have HL3 : Hid (l'.length = lw') := hlw'
          clear hlw'
          go_wp2_with fail
          refine (held_any _ _ _ _ _ hR3).mono ?_
          rintro e w7 ⟨rfl, hw⟩
          subst hw
          rw [HL3.out]
          go_wp2
          exact ⟨⟨k + 1, by omega, by go_num, l', v', hbel3, hR3, hS3, o13, o23, ap3, by rw [HL3.out]; exact hl3⟩, by simp [intOf]; omega⟩
      · have hlt' : (n0 : Int) ≤ (k : Int) := by omega
        go_wp2
        go_ret
        exact ⟨rfl, below_two B2 (hbel.mono (Nat.le_of_eq HZ.out.symm))⟩

set_option maxRecDepth 100000 in
theorem lifted (os : Os) (started : os.Started) (H : Type) (enc : TypeId × Value → H) :
    ReturnsInHanded {} Try.checked os 5 .any (Rows.stepScalarsSpec.pre6 enc Try.prog Try.f5 Rows.stepScalarsRow.domain false) (Rows.stepScalarsSpec.post enc Try.prog Try.f5 false true false false) := by
  refine returnsInHanded_of_change (C := Try.checked) Bas.own started (by kernel_rfl) Try.func5
    (ChangeSpec.witness6 (enc := enc) (C := Try.checked) false ⟨#[], #[.slice none 0 0], []⟩ 8 (by kernel_rfl) (by kernel_rfl) (by kernel_rfl) (by kernel_rfl)) ?_
  intro W base args ds gs before hval0 hW hcnd _
  have hval : ∀ (j : Nat) t v, Try.f5.params[j]? = some t → args[j]? = some v → Value.okWide Try.prog W .any base t v := hval0
  have hW' := hW
  obtain ⟨p, q, hA0, hV, rfl, hfz, hnd⟩ := hW
  have hA : DataW.TrodAll enc Try.prog W 0 (fun _ => true) true Try.f5.params.toList args.toList ds p := hA0
  rw [Try.params5] at hA hval
  obtain ⟨v0, vs0, d0, ds0, p0, q0, hargs, rfl, rfl, h0, r0⟩ := trodAll_cons hA
  obtain ⟨rfl, rfl, rfl⟩ := trodAll_nil r0
  obtain rfl : args = #[v0] := by cases args; simp_all
  obtain ⟨rfl, rfl⟩ := trodVars_none hV
  have k0 := h0
  have lt0 : ∀ x ∈ p0, x.block < W.heap.size := by obtain ⟨m, hm⟩ := k0; exact DataW.trod_lt m _ _ _ hm
  obtain ⟨a0, n0, c0, rfl⟩ := okWide_slice Try.underlying22 (hval 0 22 v0 rfl rfl)
  obtain ⟨D0, I0⟩ : ∃ D, Stp.Script W a0 n0 c0 D := by
    obtain ⟨fuel, hf⟩ := h0
    exact Stp.script_of (by simpa [Value.cells] using hf)
  refine (walk W a0 n0 c0 D0 I0).mono fun e W' ⟨he, bel⟩ => ?_
  subst he
  exact ⟨_, rfl, _, _, _, [], _, [], hW', trodAll_mk1 (shut_bool Try.underlying4 _), (trodAll_cons_mk (Below.trod Bas.laidOut (by kernel_rfl) (of_decide_eq_true (by kernel_rfl)) k0 bel lt0) trodAll_mk0), rfl, bel.frame _, fun h => by cases h⟩

theorem over : Rows.stepScalarsRow.holds Try.pinned (OpenSpec.ofChange Rows.stepScalarsSpec) :=
  OpenClaim.holds_of_wide 5 Try.f5 rfl rfl rfl rfl rfl rfl rfl ⟨rfl, rfl, rfl, rfl, rfl⟩ rfl rfl rfl rfl rfl (by kernel_rfl) Try.func5 (by kernel_rfl)
    (of_decide_eq_true (by kernel_rfl)) (by unfold Func.isWrapper; first | (rw [if_pos (by decide +kernel)]; kernel_rfl) | (rw [if_neg (by decide +kernel)]; exact ⟨rfl, rfl⟩))
    (fun os started H enc _ => lifted os started H enc)
end Go.Proofs.Ytalifhgflngooaa.stepScalars
namespace Go.Proofs.Ytalifhgflngooaa
/-- The statement. -/
theorem stepScalars_proved : Rows.StepScalarsSaid := stepScalars.over
end Go.Proofs.Ytalifhgflngooaa
