/-
  The contracts of the document's 'Run' and 'Read' of layer 14, as walks over the translated text: what they tell is what the machine that goes byte by byte tells. The condition: the text is small.
-/
import Derived.Test.YtpglmfhlgaliaaaDoorEXRf5
namespace Go.Proofs.YtpglmfhlgaliaaaDoor
open Go.ChangeShapes Go.WideShapes Go.ChangeAt Go.RowKit
namespace EX
open Bas Sca Stp Scn Cod Win
set_option linter.unusedVariables false
set_option linter.unusedSimpArgs false

/-- How a whole text ends. -/
def endQ (X : Res St) : Int := if X.bad = true then 3 else if rest X.st = true then 0 else 4
theorem rest_iff (s : St) : Exp.rest s = true ↔ s.beg = [] ∧ s.hi = 0 := by
  unfold Exp.rest
  rw [Bool.and_eq_true, List.isEmpty_iff, beq_iff_eq]
theorem part_any (T B : Nat) (str : ByteArray) (X : Res St) (m : Nat) (s : St) (l : List Int) (vo vw : Value) (a b : Int) (w : World) (h : PartH w T B str X m s l vo vw a b) :
    Calls Tryd.prog 38 #[.pointer (some ⟨T, 0, none⟩), .string str, .int .i64 (m : Int)] w fun e w' => ∃ n', e = .returned (.int .i64 n') ∧ RQ T B str X m w n' w' := by
  cases hu : s.uni with
  | true => exact partU_any T B str X m s l vo vw a b w h hu
  | false => exact partS_any T B str X m s l vo vw a b w h hu
set_option maxHeartbeats 1000000 in
theorem cutS_any (T B : Nat) (str : ByteArray) (s : St) (l : List Int) (vo vw : Value) (a : Int) (w : World) (h : RSV w T B s l vo vw 0 a) (hB : B ≤ w.heap.size) :
    Calls Tryd.prog 39 #[.pointer (some ⟨T, 0, none⟩), .string str] w fun e w' => e = .returned (.int .i64 (str.size : Int)) ∧ RSV w' T B s l vo vw 4 (str.size : Int) ∧ Below B w w' := by
  have H : Hid (RSV w T B s l vo vw 0 a) := h
  have h5 := h.c5
  have h6 := h.c6
  have f5 := h.fr 5
  have f6 := h.fr 6
  clear h
  go_enter Tryd.func39, Tryd.ntmps39
  go_wp2
  go_ret
  have hc1 := chg_setCell w T 5 (.int .i64 4)
  have hc2 := chg_setCell (w.setCell ⟨T, 5, none⟩ (.int .i64 4)) T 6 (.int .i64 (str.size : Int))
  have hcc : Chg (fun k j => k = T ∧ 5 ≤ j ∧ j ≤ 6) w ((w.setCell ⟨T, 5, none⟩ (.int .i64 4)).setCell ⟨T, 6, none⟩ (.int .i64 (str.size : Int))) := hc1.trans2 hc2 (fun k j _ h => ⟨h.1, by omega, by omega⟩) (fun k j _ h => ⟨h.1, by omega, by omega⟩)
  have h := H.out
  exact ⟨rfl, h.cells (hcc.mono (fun k j _ h => ⟨h.1, by omega, h.2.2⟩)) (hcc.cellAt h.c2 (by omega)) (hcc.cellAt h.c3 (by omega)) (hcc.cellAt h.c4 (by omega)) (hc2.cellAt (World.cell?_setCell_same _ _ _ h5) (by omega)) (World.cell?_setCell_same _ _ _ (hc1.cellAt h6 (by omega))) h.good rfl h.nb,
    hcc.below hB (fun k o hk hh => by have := h.low; omega)⟩
/-- What Run leaves. -/
def RunQ (X : Res St) (T : Nat) (w w' : World) : Prop := ∃ (s : St) (vo vw : Value), RSV w' T w.heap.size s X.told vo vw (endQ X) (X.eaten : Int) ∧ Below w.heap.size w w'
/-- Where Run stands between two parts. -/
structure RunI (str : ByteArray) (X : Res St) (T B : Nat) (w wr : World) (n : Int) (s : St) (l : List Int) (vo vw : Value) (e a : Int) : Prop where
  r : RSV wr T B s l vo vw e a
  b : Below B w wr
  hB : B ≤ wr.heap.size
  ll : l.length ≤ str.size
  q : (e = 0 ∧ ∃ k : Nat, n = (k : Int) ∧ k ≤ str.size ∧ l.length ≤ k ∧ X = (scan Exp.stepX s ((bytesL str).drop k)).pre l k) ∨ (e = 3 ∧ ∃ (k : Nat) (z : St), a = (k : Int) ∧ X = ⟨l, k, z, true⟩) ∨ (e = 4 ∧ ∃ z : St, a = (str.size : Int) ∧ X = ⟨l, str.size, z, false⟩ ∧ Exp.rest z = false)
/-- How far it is to the end. -/
def errAt (w : World) (T : Nat) : Int := match w.cell? ⟨T, 5, none⟩ with | some (.int _ e) => e | _ => 0
theorem err_of {w : World} {T : Nat} {e : Int} {k : IntKind} (h : w.cell? ⟨T, 5, none⟩ = some (.int k e)) : errAt w T = e := by unfold errAt; rw [h]
set_option maxHeartbeats 4000000 in
set_option maxRecDepth 100000 in
theorem rRun_any (str : ByteArray) (X : Res St) (w : World) (hX : X = scan Exp.stepX Exp.st0 (bytesL str)) (hs : str.size ≤ 200000) :
    Calls Tryd.prog 23 #[.string str] w fun e w' => ∃ T, e = .returned (.pointer (some ⟨T, 0, none⟩)) ∧ RunQ X T w w' := by
  have HX : Hid (X = scan Exp.stepX Exp.st0 (bytesL str)) := hX
  clear hX
  go_enter Tryd.func23, Tryd.ntmps23
  go_wp2_with fail
  refine (rFirsts_any w).mono ?_
  rintro e w1 ⟨rfl, hsg, hb, hz⟩
  obtain ⟨B, hB⟩ : ∃ B, w.heap.size = B := ⟨_, rfl⟩
  have HBB : Hid (w.heap.size = B) := hB
  have HW1 : Hid (Seg .u32 w1 (.slice (some ⟨B, 0, none⟩) 8 8) firstL8 ∧ Below B w w1 ∧ w1.heap.size = B + 1) := ⟨by rw [← hB]; exact hsg, by rw [← hB]; exact hb, by rw [← hB]; exact hz⟩
  rw [hB]
  clear hsg hb hz hB
  go_wp2
  have hb1 : Below w1.heap.size w1 (w1.alloc (.cells #[.slice none 0 0, .slice (some ⟨B, 0, none⟩) 8 8, .int .i64 0, .bool false, .int .u32 0, .int .i64 0, .int .i64 0] 59)) := (Below.refl _ _).alloc (Nat.le_refl _) _
  have R0 : RSV (w1.alloc (.cells #[.slice none 0 0, .slice (some ⟨B, 0, none⟩) 8 8, .int .i64 0, .bool false, .int .u32 0, .int .i64 0, .int .i64 0] 59)) (B + 1) B Exp.st0 [] (.slice none 0 0) (.slice (some ⟨B, 0, none⟩) 8 8) 0 0 := by
    obtain ⟨h1, h2, h3⟩ := HW1.out
    refine ⟨?_, ?_, ?_, ?_, ?_, ?_, ?_, fun i => ?_, seg_nil _ _, h1.chg (chg_of_below hb1 (Nat.le_refl _) (fun _ _ => False)) (fun _ _ _ h => h), by simp [Value.ownBlock], by simp [Value.ownBlock], fun g hg => by simp [Value.ownBlock] at hg, Exp.good_0, rfl, by omega, by simp [Value.ownBlock], fun g hg => by simp [Value.ownBlock] at hg; omega⟩
    all_goals rw [← h3]
    all_goals first | (rw [World.cell?_alloc_new]; rfl) | simp
  obtain ⟨W0, hW0⟩ : ∃ W0, w1.alloc (.cells #[.slice none 0 0, .slice (some ⟨B, 0, none⟩) 8 8, .int .i64 0, .bool false, .int .u32 0, .int .i64 0, .int .i64 0] 59) = W0 := ⟨_, rfl⟩
  rw [hW0]
  obtain ⟨T, hTT⟩ : ∃ T, B + 1 = T := ⟨_, rfl⟩
  rw [HW1.out.2.2, hTT]
  rw [hTT] at R0
  have HR0 : Hid (RSV W0 T B Exp.st0 [] (.slice none 0 0) (.slice (some ⟨B, 0, none⟩) 8 8) 0 0 ∧ Below B w W0 ∧ B ≤ W0.heap.size) := by
    rw [hW0] at R0 hb1
    exact ⟨R0, HW1.out.2.1.trans (hb1.mono (by have := HW1.out.2.2; omega)), Nat.le_trans (by have := HW1.out.2.2; omega) hb1.size⟩
  clear R0 hb1 hW0 HW1 hTT
  go_loopw [4] (fun q wr => ∃ (n : Int) (s : St) (l : List Int) (vo vw : Value) (e a : Int), q = .int .i64 n ∧ RunI str X T B w wr n s l vo vw e a) (fun q wr => if errAt wr T = 0 then str.size + 1 - (intOf q).toNat else 0)
  case atStart => exact ⟨0, _, _, _, _, 0, 0, rfl, HR0.out.1, HR0.out.2.1, HR0.out.2.2, by simp, .inl ⟨rfl, 0, rfl, Nat.zero_le _, by simp, by rw [HX.out]; simp [Res.pre]⟩⟩
  case round =>
    obtain ⟨n, s, l, vo, vw, e, a, rfl, hI⟩ := hrel
    have HI : Hid (RunI str X T B w wr n s l vo vw e a) := hI
    have h5 := hI.r.c5
    have h4 := hI.r.c4
    have hee := err_of hI.r.c5
    have hhi := hI.r.good.hi
    rcases hI.q with ⟨rfl, k, rfl, hk, hlk, hXk⟩ | ⟨rfl, k, z, rfl, hXk⟩ | ⟨rfl, z, rfl, hXk, hrz⟩
    · by_cases hlt : k < str.size
      · have hlti : (k : Int) < (str.size : Int) := by omega
        have HP := hidP (part_any T B str X k s l vo vw a (nth (bytesL str) k) wr ⟨hI.r, hXk, hI.hB, hs, hlt, hlk, rfl, (bytesL_byte str _ (nth_mem (by rw [bytesL_length]; exact hlt))).1, (bytesL_byte str _ (nth_mem (by rw [bytesL_length]; exact hlt))).2⟩)
        clear hI hXk hhi
        go_wp2_with fail
        refine HP.out.mono ?_
        rintro e w2 ⟨n', rfl, s', l', vo', vw', e', a', r', b', hl', q'⟩
        have HI2 : Hid (RunI str X T B w w2 n' s' l' vo' vw' e' a') := ⟨r', HI.out.b.trans b', Nat.le_trans HI.out.hB b'.size, hl', by
          rcases q' with ⟨h1, k', h2, h3, h4, h5, h6⟩ | q'
          · exact .inl ⟨h1, k', h2, h4, h5, h6⟩
          · exact .inr q'⟩
        have hee2 := err_of r'.c5
        have HM : Hid ((if e' = 0 then str.size + 1 - (intOf (.int .i64 n')).toNat else 0) < str.size + 1 - k) := by
          show _ < _
          split
          · rename_i h0
            rcases q' with ⟨h1, k', h2, h3, h4, h5, h6⟩ | ⟨h1, -⟩ | ⟨h1, -⟩
            · simp [intOf, h2]; omega
            · omega
            · omega
          · omega
        clear r' b' hl' q'
        go_wp2
        go_roundw
        case rel => exact ⟨n', s', l', vo', vw', e', a', rfl, HI2.out⟩
        case measure => rw [hee, hee2, if_pos rfl]; have := HM.out; simpa [intOf] using this
      · have hge : ¬ (k : Int) < (str.size : Int) := by omega
        obtain rfl : k = str.size := by omega
        have hXe : X = ⟨l, str.size, s, false⟩ := at_end hXk (Nat.le_refl _) (Nat.le_refl _)
        have hr := rest_iff s
        by_cases hp : 0 < s.hi
        · have hp' : s.hi > 0 := hp
          have hrf : Exp.rest s = false := Bool.eq_false_iff.2 (fun e => by have := (hr.1 e).2; omega)
          have HC := hidP (cutS_any T B str s l vo vw a wr hI.r hI.hB)
          have HEQ : Hid (X = ⟨l, str.size, s, false⟩ ∧ endQ X = 4) := ⟨hXe, by rw [hXe]; unfold endQ; rw [if_neg (by simp), if_neg (fun e => by have e2 : Exp.rest s = true := e; rw [hrf] at e2; cases e2)]⟩
          obtain ⟨hi, hhh⟩ : ∃ hi, s.hi = hi := ⟨_, rfl⟩
          rw [hhh] at h4 hp hp'
          clear hI hXk hhi hr hrf hXe hhh
          go_wp2_with fail
          refine HC.out.mono ?_
          rintro e w2 ⟨rfl, r2, b2⟩
          have h52 := r2.c5
          have HR2 : Hid (RSV w2 T B s l vo vw 4 (str.size : Int) ∧ Below B w w2) := ⟨r2, HI.out.b.trans b2⟩
          clear r2 b2
          go_wp2
          go_ret
          refine ⟨T, rfl, s, vo, vw, ?_, by rw [HBB.out]; exact HR2.out.2⟩
          rw [HBB.out, HEQ.out.2, HEQ.out.1]
          exact HR2.out.1
        · have h0 : s.hi = 0 := by omega
          have hrt : Exp.rest s = true := hr.2 ⟨hI.r.nb, h0⟩
          have HEQ : Hid (X = ⟨l, str.size, s, false⟩ ∧ endQ X = 0) := ⟨hXe, by rw [hXe]; unfold endQ; rw [if_neg (by simp), if_pos hrt]⟩
          rw [h0] at h4
          have h6 := hI.r.c6
          have f6 := hI.r.fr 6
          clear hI hXk hhi hr hrt hXe hp h0
          go_wp2
          go_ret
          have hc := chg_setCell wr T 6 (.int .i64 (str.size : Int))
          have h := HI.out.r
          refine ⟨T, rfl, s, vo, vw, ?_, by rw [HBB.out]; exact HI.out.b.trans (hc.below HI.out.hB (fun k o hk hh => by have := h.low; omega))⟩
          rw [HBB.out, HEQ.out.2, HEQ.out.1]
          exact h.cells (hc.mono (fun k j _ h => ⟨h.1, by omega, by omega⟩)) (hc.cellAt h.c2 (by omega)) (hc.cellAt h.c3 (by omega)) (hc.cellAt h.c4 (by omega)) (hc.cellAt h.c5 (by omega)) (World.cell?_setCell_same _ _ _ h.c6) h.good rfl h.nb
    · have HEQ : Hid (X = ⟨l, k, z, true⟩ ∧ endQ X = 3) := ⟨hXk, by rw [hXk]; rfl⟩
      clear hI hXk hhi
      by_cases hlt : n < (str.size : Int)
      all_goals
        go_wp2
        go_ret
        refine ⟨T, rfl, s, vo, vw, ?_, by rw [HBB.out]; exact HI.out.b⟩
        rw [HBB.out, HEQ.out.2, HEQ.out.1]
        exact HI.out.r
    · have HEQ : Hid (X = ⟨l, str.size, z, false⟩ ∧ endQ X = 4) := ⟨hXk, by rw [hXk]; unfold endQ; rw [if_neg (by simp), if_neg (fun e => by have e2 : Exp.rest z = true := e; rw [hrz] at e2; cases e2)]⟩
      clear hI hXk hhi hrz
      by_cases hlt : n < (str.size : Int)
      all_goals
        go_wp2
        go_ret
        refine ⟨T, rfl, s, vo, vw, ?_, by rw [HBB.out]; exact HI.out.b⟩
        rw [HBB.out, HEQ.out.2, HEQ.out.1]
        exact HI.out.r
/-- What Read tells lies in new memory. -/
def RReadQ (X : Res St) (vo : Value) (w w' : World) : Prop := Seg .u32 w' vo X.told ∧ (∀ g, vo.ownBlock = some g → w.heap.size ≤ g) ∧ Below w.heap.size w w'
set_option maxHeartbeats 2000000 in
theorem rRead_any {π : Par} (str : ByteArray) (X : Res St) (w : World) (hX : X = scan (stepU π) (st0 π) (bytesL str)) (hs : str.size ≤ 100000) :
    Calls Tryd.prog 13 #[.string str] w fun e w' => ∃ vo, e = .returned (.tuple #[vo, .int .i64 (endQ X), .int .i64 X.eaten]) ∧ RReadQ X vo w w' := by
  have HX : Hid (X = scan Exp.stepX Exp.st0 (bytesL str)) := hX
  clear hX
  go_enter Tryd.func13, Tryd.ntmps13
  go_wp2_with fail
  refine (rRun_any str X w HX.out (by omega)).mono ?_
  rintro e w2 ⟨T, rfl, s, vo, vw, hr, hb⟩
  have h0 := hr.c0
  have h5 := hr.c5
  have h6 := hr.c6
  obtain ⟨ar, cr, hvr, -⟩ := hr.so.form
  obtain ⟨tl, htl⟩ : ∃ tl, X.told.length = tl := ⟨_, rfl⟩
  rw [htl] at hvr
  subst hvr
  obtain ⟨q, hq⟩ : ∃ q, endQ X = q := ⟨_, rfl⟩
  obtain ⟨E, hE⟩ : ∃ E, (X.eaten : Int) = E := ⟨_, rfl⟩
  have HR : Hid (RSV w2 T w.heap.size s X.told (.slice ar tl cr) vw (endQ X) (X.eaten : Int) ∧ Below w.heap.size w w2) := ⟨hr, hb⟩
  rw [hq] at h5
  rw [hE] at h6
  have HQE : Hid (endQ X = q ∧ (X.eaten : Int) = E) := ⟨hq, hE⟩
  clear hr hb htl hq hE
  go_upto_region 2 with fail
  go_quiet (fail)
  go_wp2
  go_ret3
  exact ⟨.slice ar tl cr, by rw [HQE.out.1, HQE.out.2]; rfl, HR.out.1.so.chg ((Chg.refl (fun _ _ => False) w2).drewN _) (fun _ _ _ h => h), HR.out.1.lo, below_drewN HR.out.2 _⟩
end EX
end Go.Proofs.YtpglmfhlgaliaaaDoor
