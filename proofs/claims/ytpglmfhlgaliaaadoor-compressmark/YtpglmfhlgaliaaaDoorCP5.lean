/-
  The encoder of layer 15 in memory, and the contracts of NewEncoder, spell, follow and End, as walks over the translated text. The condition: its memory is there and may be written; the tables are as the program's text lays them.
-/
import Derived.Test.YtpglmfhlgaliaaaDoorCP4
import Derived.Test.YtpglmfhlgaliaaaDoorBld
namespace Go.Proofs.YtpglmfhlgaliaaaDoor
open Go.ChangeShapes Go.WideShapes Go.ChangeAt Go.RowKit
namespace Win
open Bas
theorem WinV.kp {X : Nat → Prop} {w w' : World} {b o : Nat} {offs used : List Int} (h : WinV w b o offs used) (hc : Kp X w w') (hX : ¬ X b) : WinV w' b o offs used :=
  ⟨h.lo, h.lu, fun i hi => hc.cellAt (h.co i hi) hX, fun i hi => hc.cellAt (h.cu i hi) hX, fun i => (hc.frozen h.lt hX).trans (h.fr i), h.wo⟩
theorem Tabs.kp {X : Nat → Prop} {w w' : World} (h : Tabs w) (hc : Kp X w w') (h0 : ∀ k, k < 2 → ¬ X k) : Tabs w' :=
  ⟨fun i hi => hc.cellAt (h.nm i hi) (h0 _ (by decide)), fun i hi => hc.cellAt (h.st i hi) (h0 _ (by decide))⟩
end Win
namespace CP
open Bas Sca Stp Scn Cod Win Exp Cmp Cps
set_option linter.unusedVariables false
set_option linter.unusedSimpArgs false

theorem SpW.kp {X : Nat → Prop} {w w' : World} {D d : Nat} {s : Cmp.ES} (h : SpW w D d s) (hc : Kp X w w') (hD : ¬ X D) (hd : ¬ X d) (h0 : ∀ k, k < 2 → ¬ X k) : SpW w' D d s :=
  ⟨hc.cellAt h.dy hD, hc.cellAt h.ac hD, hc.cellAt h.un hD, fun i => (hc.frozen h.lt hD).trans (h.fr i), h.win.kp hc hd, h.apart, h.good, ⟨h.tabs.win.kp hc h0, Nat.le_trans h.tabs.all hc.size⟩, h.big, h.bigd⟩

/-- An encoder in block D, its windows in block d: what it has eaten, its error, has it ended? What is kept. -/
structure EncW (π : Bool) (σ : CS) (w : World) (D d : Nat) (p q : Int) (en : Bool) (K : List Int) (v : Value) : Prop where
  base : BaseAt w D 0 p q en
  row : RowAt .u8 w D 3 v K
  pl : w.cell? ⟨D, 4, none⟩ = some (.bool π)
  sp : SpW w D d σ.es
  be : w.cell? ⟨D, 8, none⟩ = some (.bool σ.beg)
  wa : w.cell? ⟨D, 9, none⟩ = some (.int .u32 σ.wait)
  nv : v.ownBlock ≠ some d
  bigV : ∀ g, v.ownBlock = some g → 2 ≤ g
  good : GoodC π σ
/-- Its memory. -/
def footX (D d : Nat) (v : Value) (k : Nat) : Prop := (k = D ∨ k = d) ∨ v.ownBlock = some k
/-- Its own cells from the window on, and its windows. -/
def footQ (D d k j : Nat) : Prop := (k = D ∧ 6 ≤ j ∧ j ≤ 9) ∨ k = d
section
variable {π : Bool} {σ : CS} {w w' : World} {D d : Nat} {p q : Int} {en : Bool} {K : List Int} {v : Value}
theorem EncW.lt (h : EncW π σ w D d p q en K v) {k : Nat} (hk : footX D d v k) : k < w.heap.size := by
  rcases hk with (rfl | rfl) | hk
  · exact h.base.lt
  · exact h.sp.ltd
  · exact h.row.seg.lt hk
theorem EncW.foot_big (h : EncW π σ w D d p q en K v) {k : Nat} (hk : footX D d v k) : 2 ≤ k := by
  rcases hk with (rfl | rfl) | hk
  · exact h.sp.big
  · exact h.sp.bigd
  · exact h.bigV k hk
theorem EncW.chg {S : Nat → Nat → Prop} (h : EncW π σ w D d p q en K v) (hc : Chg S w w') (hS : ∀ k j, footX D d v k → ¬ S k j) (h0 : ∀ k, k < 2 → ∀ j, ¬ S k j) : EncW π σ w' D d p q en K v := by
  have hD : ∀ j, ¬ S D j := fun j => hS D j (.inl (.inl rfl))
  exact ⟨h.base.chg hc (fun k j hk => by rw [hk.1]; exact hD j), h.row.chg hc (fun k j hk => by
      rcases hk with hk | hk
      · rw [hk.1]; exact hD j
      · exact hS k j (.inr hk)),
    hc.cellAt h.pl (hD 4), h.sp.chg hc (fun j _ _ => hD j) (fun j => hS d j (.inl (.inr rfl))) h0, hc.cellAt h.be (hD 8), hc.cellAt h.wa (hD 9), h.nv, h.bigV, h.good⟩
theorem EncW.below (h : EncW π σ w D d p q en K v) (hb : Below w.heap.size w w') : EncW π σ w' D d p q en K v :=
  h.chg (chg_of_below hb (Nat.le_refl _) (fun _ _ => False)) (fun _ _ _ h => h) (fun _ _ _ h => h)
theorem EncW.kp {X : Nat → Prop} (h : EncW π σ w D d p q en K v) (hc : Kp X w w') (hX : ∀ k, footX D d v k → ¬ X k) (h0 : ∀ k, k < 2 → ¬ X k) : EncW π σ w' D d p q en K v := by
  have hD : ¬ X D := hX D (.inl (.inl rfl))
  exact ⟨h.base.kp hc hD, h.row.kp hc (fun k j hk => by
      rcases hk with hk | hk
      · rw [hk.1]; exact hD
      · exact hX k (.inr hk)),
    hc.cellAt h.pl hD, h.sp.kp hc hD (hX d (.inl (.inr rfl))) h0, hc.cellAt h.be hD, hc.cellAt h.wa hD, h.nv, h.bigV, h.good⟩
theorem EncW.rebase {p' q' : Int} {en' : Bool} (h : EncW π σ w D d p q en K v) (hb : BaseAt w' D 0 p' q' en') (hc : Chg (footB D 0) w w') : EncW π σ w' D d p' q' en' K v := by
  have hN : ∀ j, 3 ≤ j → ¬ footB D 0 D j := fun j hj hh => by have := hh.2; omega
  refine ⟨hb, h.row.chg hc (fun k j hk hh => ?_), hc.cellAt h.pl (hN 4 (by decide)), h.sp.chg hc (fun j h1 _ => hN j (by omega)) (fun j hh => h.sp.apart hh.1.symm) (fun k hk j hh => by have := h.sp.big; have := hh.1; omega), hc.cellAt h.be (hN 8 (by decide)), hc.cellAt h.wa (hN 9 (by decide)), h.nv, h.bigV, h.good⟩
  rcases hk with hk | hk
  · have := hh.2; omega
  · exact h.row.ne (by rw [hk, hh.1])
theorem EncW.rerow {K' : List Int} {v' : Value} (h : EncW π σ w D d p q en K v) (hr : RowAt .u8 w' D 3 v' K') (hc : Chg (footR D 3 v) w w') (hm : Mov w v v') : EncW π σ w' D d p q en K' v' := by
  have hN : ∀ j, j ≠ 3 → ¬ footR D 3 v D j := fun j hj hh => by
    rcases hh with hh | hh
    · exact hj hh.2
    · exact h.row.ne hh
  refine ⟨h.base.chg hc (fun k j hk => by have := hk.2; rw [hk.1]; exact hN j (by omega)), hr, hc.cellAt h.pl (hN 4 (by decide)), h.sp.chg hc (fun j h1 _ => hN j (by omega)) (fun j hh => ?_) (fun k hk j hh => ?_), hc.cellAt h.be (hN 8 (by decide)), hc.cellAt h.wa (hN 9 (by decide)), fun e => ?_, fun g hg => ?_, h.good⟩
  · rcases hh with hh | hh
    · exact h.sp.apart hh.1.symm
    · exact h.nv hh
  · have h1 := h.sp.big
    rcases hh with hh | hh
    · omega
    · have := h.bigV k hh; omega
  · rcases hm d e with e | e
    · exact h.nv e
    · have := h.sp.ltd; omega
  · rcases hm g hg with hg | hg
    · exact h.bigV g hg
    · have := h.sp.tabs.all; omega
/-- Behind what was spelled. -/
theorem EncW.spelled {σ' : CS} (h : EncW π σ w D d p q en K v) (hs : SpW w' D d σ'.es) (hc : Chg (footQ D d) w w') (h8 : w'.cell? ⟨D, 8, none⟩ = some (.bool σ'.beg)) (h9 : w'.cell? ⟨D, 9, none⟩ = some (.int .u32 σ'.wait)) (hg : GoodC π σ') : EncW π σ' w' D d p q en K v := by
  have hap := h.sp.apart
  have hN : ∀ j, j < 6 → ¬ footQ D d D j := fun j hj hh => by
    rcases hh with hh | hh
    · omega
    · exact hap hh
  refine ⟨h.base.chg hc (fun k j hk => by have := hk.2; rw [hk.1]; exact hN j (by omega)), h.row.chg hc (fun k j hk hh => ?_), hc.cellAt h.pl (hN 4 (by decide)), hs, h8, h9, h.nv, h.bigV, hg⟩
  rcases hk with hk | hk
  · rw [hk.1, hk.2] at hh; exact hN 3 (by decide) hh
  · rcases hh with hh | hh
    · exact h.row.ne (by rw [hk, hh.1])
    · exact h.nv (by rw [hk, hh])
end
set_option maxHeartbeats 1000000 in
theorem newW_any (π : Bool) (w : World) {N : Nat} (hN : N = w.heap.size) (hT : Tabs w) :
    Calls Tryd.prog 12 #[.bool π] w fun e w' => e = .returned (.pointer (some ⟨N + 1, 0, none⟩)) ∧ EncW π cs0 w' (N + 1) N 0 0 false [] (.slice none 0 0) ∧ w'.heap.size = N + 2 ∧ Below N w w' := by
  have HT : Hid (Tabs w ∧ N = w.heap.size) := ⟨hT, hN⟩
  clear hT
  go_enter Tryd.func12, Tryd.ntmps12
  go_wp2_with fail
  refine (new_at w).mono ?_
  rw [← hN]
  clear hN
  rintro e w1 ⟨rfl, hv, hb, hz⟩
  have HW : Hid (WinV w1 N 0 firstL8 used0 ∧ Below N w w1 ∧ w1.heap.size = N + 1) := ⟨hv, hb, hz⟩
  clear hv hb hz
  go_wp2
  go_ret
  obtain ⟨hw, hb1, hz⟩ := HW.out
  obtain ⟨hT, hN⟩ := HT.out
  have hall := hT.all
  have hba : ∀ o, Below w1.heap.size w1 (w1.alloc o) := fun o => (Below.refl _ _).alloc (Nat.le_refl _) _
  have hT1 : Tabs w1 := hT.below (by rw [← hN]; exact hb1)
  refine ⟨by rw [hz]; rfl, ⟨⟨?_, ?_, ?_, ?_, ?_, ?_⟩, ⟨?_, ?_, seg_nil _ _, by simp [Value.ownBlock]⟩, ?_, ⟨?_, ?_, ?_, fun i => ?_, hw.below (hba _), by omega, goodE_0, hT1.below (hba _), by omega, by omega⟩, ?_, ?_, by simp [Value.ownBlock], by simp [Value.ownBlock], goodC_0 π⟩, by simp; omega, hb1.trans ((hba _).mono (by omega))⟩
  all_goals rw [← hz]
  all_goals first | (rw [World.cell?_alloc_new]; rfl) | simp
set_option maxHeartbeats 4000000 in
set_option maxRecDepth 100000 in
theorem spell_any (π : Bool) (σ : CS) (D d : Nat) (p q : Int) (en : Bool) (K : List Int) (v : Value) (c x : Int) (w : World) (h : EncW π σ w D d p q en K v) (c0 : 0 ≤ c) (hb : isB c = true) (x0 : 0 ≤ x) (x1 : x ≤ 1114112) :
    Calls Tryd.prog 44 #[.pointer (some ⟨D, 0, none⟩), .int .u32 c, .int .u32 x] w fun e w' => e = .returned (.string (Stp.strOf (spellC π σ.es σ.beg c x).1)) ∧ EncW π ⟨(spellC π σ.es σ.beg c x).2, true, σ.wait⟩ w' D d p q en K v ∧ Chg (footQ D d) w w' := by
  have hi := isB_iff.1 hb
  obtain ⟨es, beg, wait⟩ := σ
  simp only []
  obtain ⟨R, hR⟩ : ∃ R, spellC π es beg c x = R := ⟨_, rfl⟩
  have HR : Hid (spellC π es beg c x = R) := hR
  have HG : Hid (GoodC π ⟨R.2, true, wait⟩) := ⟨by rw [← hR]; exact spell_good h.good.1 beg c0 hb x, h.good.2⟩
  rw [hR]
  clear hR
  have H : Hid (EncW π ⟨es, beg, wait⟩ w D d p q en K v ∧ isB c = true) := ⟨h, hb⟩
  have h8 := h.be
  have f8 := h.sp.fr 8
  have hc1 := chg_setCell w D 8 (.bool true)
  have S1 : SpW (w.setCell ⟨D, 8, none⟩ (.bool true)) D d es := h.sp.chg hc1 (fun j _ _ => by omega) (fun j hh => h.sp.apart hh.1.symm) (fun k hk j hh => by have := h.sp.big; have := hh.1; omega)
  have p1 := h.pl
  have u1 := h.sp.un
  have t1 : (w.setCell ⟨D, 8, none⟩ (.bool true)).cell? ⟨D, 8, none⟩ = some (.bool true) := World.cell?_setCell_same _ _ _ h.be
  have a1 : (w.setCell ⟨D, 8, none⟩ (.bool true)).cell? ⟨D, 9, none⟩ = some (.int .u32 wait) := hc1.cellAt h.wa (by omega)
  obtain ⟨w1, hw1⟩ : ∃ w1, w.setCell ⟨D, 8, none⟩ (.bool true) = w1 := ⟨_, rfl⟩
  rw [hw1] at hc1 S1 t1 a1
  -- whatever is told behind it
  have HF : Hid (∀ w', SpW w' D d R.2 → Chg (footP D d) w1 w' → EncW π ⟨R.2, true, wait⟩ w' D d p q en K v ∧ Chg (footQ D d) w w') := fun w' hs hc => by
    have hN : ∀ j, 8 ≤ j → ¬ footP D d D j := fun j hj hh => by
      rcases hh with hh | hh
      · omega
      · exact H.out.1.sp.apart hh
    have hC : Chg (footQ D d) w w' := hc1.trans2 hc (fun k j _ h => .inl ⟨h.1, by omega, by omega⟩) (fun k j _ h => by
      rcases h with h | h
      · exact .inl ⟨h.1, by omega, by omega⟩
      · exact .inr h)
    exact ⟨H.out.1.spelled hs hC (hc.cellAt t1 (hN 8 (by decide))) (hc.cellAt a1 (hN 9 (by decide))) HG.out, hC⟩
  have HS1 : Hid (SpW w1 D d es ∧ InvE π es) := ⟨S1, h.good.1⟩
  have HSET : Hid (w.setCell ⟨D, 8, none⟩ (.bool true) = w1) := hw1
  clear h hb S1 t1 a1 hc1 hw1 HG
  by_cases hf : beg = false ∧ c = 65279
  · obtain ⟨rfl, rfl⟩ := hf
    have HE : Hid (R = ([14] ++ [65279 / 256, 65279 % 256], es)) := by show _ = _; rw [← HR.out]; unfold spellC; rw [if_pos ⟨rfl, rfl⟩]; rfl
    have g1 := no_more [14] [65279 / 256, 65279 % 256] (by simp)
    clear HR
    go_enter Tryd.func44, Tryd.ntmps44
    go_wp2_with fail
    rw [HSET.out]
    refine (one_any 14 w1).mono ?_
    rintro e w2 ⟨rfl, b2⟩
    go_wp2_with fail
    refine (unit_any 65279 w2 (by omega) (by omega)).mono ?_
    rintro e w3 ⟨rfl, b3⟩
    have HB3 : Hid (Below w1.heap.size w1 w3) := below_two b2 b3
    clear b2 b3
    go_wp2
    go_ret
    rw [HE.out] at HF ⊢
    exact ⟨ret_str (by rw [strOf_append]; rfl), HF.out _ (HS1.out.1.below HB3.out) (chg_of_below HB3.out (Nat.le_refl _) _)⟩
  · have HE : Hid (R = oneC π es c (optI x)) := by show _ = _; rw [← HR.out]; unfold spellC; rw [if_neg hf]
    clear HR
    have hcond : beg = true ∨ (beg = false ∧ ¬ c = 65279) := by
      cases beg with
      | true => exact .inl rfl
      | false => exact .inr ⟨rfl, fun e => hf ⟨rfl, e⟩⟩
    clear hf
    cases π with
    | true =>
      have hq := spellPlain_any D d es c w1 HS1.out.1 (HS1.out.2.2 rfl) c0 (by omega)
      have hq2 : plainC es c = R := by rw [HE.out]; unfold oneC; rw [if_pos rfl]
      rw [hq2] at hq
      clear hq2
      rcases hcond with rfl | ⟨rfl, hc2⟩
      · go_enter Tryd.func44, Tryd.ntmps44
        go_wp2_with fail
        rw [HSET.out]
        refine hq.mono ?_
        rintro e w2 ⟨rfl, q1, q2⟩
        go_wp2
        go_ret
        exact ⟨rfl, HF.out _ q1 q2⟩
      · go_enter Tryd.func44, Tryd.ntmps44
        go_wp2_with fail
        rw [HSET.out]
        refine hq.mono ?_
        rintro e w2 ⟨rfl, q1, q2⟩
        go_wp2
        go_ret
        exact ⟨rfl, HF.out _ q1 q2⟩
    | false =>
      cases hu : es.uni with
      | true =>
        have hq := spellUnicode_any D d es c x w1 HS1.out.1 hu c0 H.out.2 x0 x1
        have hq2 : doubC es c (optI x) = R := by rw [HE.out]; unfold oneC; rw [if_neg (by simp), if_pos hu]
        rw [hq2] at hq
        rw [hu] at u1
        clear hq2 hu
        rcases hcond with rfl | ⟨rfl, hc2⟩
        · go_enter Tryd.func44, Tryd.ntmps44
          go_wp2_with fail
          rw [HSET.out]
          refine hq.mono ?_
          rintro e w2 ⟨rfl, q1, q2⟩
          go_wp2
          go_ret
          exact ⟨rfl, HF.out _ q1 q2⟩
        · go_enter Tryd.func44, Tryd.ntmps44
          go_wp2_with fail
          rw [HSET.out]
          refine hq.mono ?_
          rintro e w2 ⟨rfl, q1, q2⟩
          go_wp2
          go_ret
          exact ⟨rfl, HF.out _ q1 q2⟩
      | false =>
        have hq := spellSingle_any D d es c x w1 HS1.out.1 hu c0 H.out.2 x0 x1
        have hq2 : singC es c (optI x) = R := by rw [HE.out]; unfold oneC; rw [if_neg (by simp), if_neg (by rw [hu]; simp)]
        rw [hq2] at hq
        rw [hu] at u1
        clear hq2 hu
        rcases hcond with rfl | ⟨rfl, hc2⟩
        · go_enter Tryd.func44, Tryd.ntmps44
          go_wp2_with fail
          rw [HSET.out]
          refine hq.mono ?_
          rintro e w2 ⟨rfl, q1, q2⟩
          go_wp2
          go_ret
          exact ⟨rfl, HF.out _ q1 q2⟩
        · go_enter Tryd.func44, Tryd.ntmps44
          go_wp2_with fail
          rw [HSET.out]
          refine hq.mono ?_
          rintro e w2 ⟨rfl, q1, q2⟩
          go_wp2
          go_ret
          exact ⟨rfl, HF.out _ q1 q2⟩
set_option maxHeartbeats 4000000 in
set_option maxRecDepth 100000 in
theorem follow_any (π : Bool) (σ : CS) (D d : Nat) (p q : Int) (en : Bool) (K : List Int) (v : Value) (x : Int) (w : World) (h : EncW π σ w D d p q en K v) (hx : x = 1114112 ∨ (0 ≤ x ∧ isB x = true)) (hK : K.length ≤ 1000000) :
    Calls Tryd.prog 32 #[.pointer (some ⟨D, 0, none⟩), .int .u32 x] w fun e w' => ∃ v', e = .returned (.tuple #[]) ∧ EncW π (folS π σ x) w' D d p q en (K ++ folB π σ x) v' ∧ Chg (fun k _ => footX D d v k) w w' ∧ Mov w v v' := by
  have x01 : 0 ≤ x ∧ x ≤ 1114112 := by
    rcases hx with rfl | ⟨e1, e2⟩
    · omega
    · have := isB_iff.1 e2; omega
  have hgood := folS_good h.good hx
  have hbyte := folB_byte h.good x
  have hmax := folB_max π σ x
  obtain ⟨es, beg, wait⟩ := σ
  by_cases hw : wait = 1114112
  · subst hw
    have HB : Hid (folB π ⟨es, beg, 1114112⟩ x = [] ∧ folS π ⟨es, beg, 1114112⟩ x = ⟨es, beg, x⟩) := ⟨rfl, rfl⟩
    rw [HB.out.1, HB.out.2, List.append_nil]
    have H : Hid (EncW π ⟨es, beg, 1114112⟩ w D d p q en K v ∧ GoodC π ⟨es, beg, x⟩) := ⟨h, hgood⟩
    have h9 := h.wa
    have f9 := h.sp.fr 9
    clear h hgood hbyte hmax HB
    go_enter Tryd.func32, Tryd.ntmps32
    go_wp2
    go_end0
    obtain ⟨h, hg⟩ := H.out
    have hc := chg_setCell w D 9 (.int .u32 x)
    refine ⟨rfl, v, h.spelled (σ' := ⟨es, beg, x⟩) (h.sp.chg hc (fun j _ _ => by omega) (fun j hh => h.sp.apart hh.1.symm) (fun k hk j hh => by have := h.sp.big; have := hh.1; omega)) (hc.mono (fun k j _ h => .inl ⟨h.1, by omega, by omega⟩)) (hc.cellAt h.be (by omega)) (World.cell?_setCell_same _ _ _ h.wa) hg, hc.mono (fun k j _ h => .inl (.inl h.1)), mov_refl _ _⟩
  · have hc := h.good.2.resolve_left hw
    have hci := isB_iff.1 hc.2
    have HB : Hid (folB π ⟨es, beg, wait⟩ x = (spellC π es beg wait x).1 ∧ folS π ⟨es, beg, wait⟩ x = ⟨(spellC π es beg wait x).2, true, x⟩) := by
      show _ ∧ _
      unfold folB folS
      rw [if_neg hw, if_neg hw]
      exact ⟨rfl, rfl⟩
    rw [HB.out.1] at hbyte hmax
    rw [HB.out.2] at hgood
    rw [HB.out.1, HB.out.2]
    have hsp := spell_any π ⟨es, beg, wait⟩ D d p q en K v wait x w.drew (h.below (Below.refl _ _).drew) hc.1 hc.2 x01.1 x01.2
    simp only [] at hsp
    obtain ⟨R, hR⟩ : ∃ R, spellC π es beg wait x = R := ⟨_, rfl⟩
    rw [hR] at hsp hbyte hmax hgood ⊢
    have HSP : Hid (Calls Tryd.prog 44 #[.pointer (some ⟨D, 0, none⟩), .int .u32 wait, .int .u32 x] w.drew fun e w' => e = .returned (.string (Stp.strOf R.1)) ∧ EncW π ⟨R.2, true, wait⟩ w' D d p q en K v ∧ Chg (footQ D d) w.drew w') := hsp
    have H : Hid (EncW π ⟨es, beg, wait⟩ w D d p q en K v ∧ GoodC π ⟨R.2, true, x⟩ ∧ bytesL (Stp.strOf R.1) = R.1 ∧ R.1.length ≤ 5) := ⟨h, hgood, bytesL_strOf _ hbyte, hmax⟩
    have h9 := h.wa
    clear h hgood hbyte hmax HB hR hsp hc
    go_enter Tryd.func32, Tryd.ntmps32
    go_upto_region 1 with fail
    have hF : w.drew.cell? ⟨D, 9, none⟩ = some (.int .u32 wait) := h9
    go_region_held3 (fun w' => w'.cell? ⟨D, 9, none⟩ = some (.int .u32 wait)) (exact hF) (first
      | (go_at_call 44; refine HSP.out.mono ?_; rintro e w5 ⟨rfl, hE5, hC5⟩; have hF := hE5.wa)
      | (go_at_call 43; refine (keep_any D 3 v K (Stp.strOf R.1) _ ?_ ?_).mono ?_; exact hE5.row; (have := H.out.2.2.2; rw [strOf_size]; omega); rintro e w6 ⟨v6, rfl, hr6, hc6, hm6⟩; have hF := (hE5.rerow hr6 hc6 hm6).wa))
    rw [H.out.2.2.1] at hr6
    have hE6 := hE5.rerow hr6 hc6 hm6
    have hC6 : Chg (fun k _ => footX D d v k) w w6 := ((Chg.refl (fun k _ => footX D d v k) w).drew.trans2 hC5 (fun _ _ _ h => h) (fun k j _ h => by
      rcases h with h | h
      · exact .inl (.inl h.1)
      · exact .inl (.inr h))).trans2 hc6 (fun _ _ _ h => h) (fun k j _ h => by
      rcases h with h | h
      · exact .inl (.inl h.1)
      · exact .inr h)
    have hM6 : Mov w v v6 := fun g hg => by
      rcases hm6 g hg with e | e
      · exact .inl e
      · exact .inr (Nat.le_trans hC5.size e)
    have H6 : Hid (EncW π ⟨R.2, true, wait⟩ w6 D d p q en (K ++ R.1) v6 ∧ Chg (fun k _ => footX D d v k) w w6 ∧ Mov w v v6) := ⟨hE6, hC6, hM6⟩
    have g9 := hE6.sp.fr 9
    clear hE5 hC5 hr6 hc6 hm6 hE6 hC6 hM6 h9
    go_wp2
    go_end0
    obtain ⟨h, hC, hM⟩ := H6.out
    have hc := chg_setCell w6 D 9 (.int .u32 x)
    exact ⟨v6, rfl, h.spelled (σ' := ⟨R.2, true, x⟩) (h.sp.chg hc (fun j _ _ => by omega) (fun j hh => h.sp.apart hh.1.symm) (fun k hk j hh => by have := h.sp.big; have := hh.1; omega)) (hc.mono (fun k j _ h => .inl ⟨h.1, by omega, by omega⟩)) (hc.cellAt h.be (by omega)) (World.cell?_setCell_same _ _ _ h.wa) H.out.2.1, hC.trans2 hc (fun _ _ _ h => h) (fun k j _ h => .inl (.inl h.1)), hM⟩
/-- End: the bytes of the scalar that waits are kept. -/
theorem eEnd_any (π : Bool) (σ : CS) (D d : Nat) (p : Int) (K : List Int) (v : Value) (w : World) (h : EncW π σ w D d p 0 false K v) (hK : K.length ≤ 1000000) :
    Calls Tryd.prog 18 #[.pointer (some ⟨D, 0, none⟩)] w fun e w' => ∃ v', e = .returned (.tuple #[]) ∧ EncW π (folS π σ 1114112) w' D d p 0 true (K ++ folB π σ 1114112) v' ∧ Chg (fun k _ => footX D d v k) w w' ∧ Mov w v v' := by
  have H : Hid (EncW π σ w D d p 0 false K v) := h
  clear h
  go_enter Tryd.func18, Tryd.ntmps18
  go_wp2_with fail
  refine (follow_any π σ D d p 0 false K v 1114112 w H.out (.inl rfl) hK).mono ?_
  rintro e w1 ⟨v1, rfl, hE, hC, hM⟩
  have H1 : Hid (EncW π (folS π σ 1114112) w1 D d p 0 false (K ++ folB π σ 1114112) v1 ∧ Chg (fun k _ => footX D d v k) w w1 ∧ Mov w v v1) := ⟨hE, hC, hM⟩
  clear hE hC hM
  go_wp2_with fail
  refine (end_any D 0 p 0 false w1 H1.out.1.base).mono ?_
  rintro e w2 ⟨rfl, hB, hC2⟩
  go_wp2
  go_end0
  exact ⟨v1, rfl, H1.out.1.rebase hB hC2, H1.out.2.1.trans2 hC2 (fun _ _ _ h => h) (fun k j _ h => .inl (.inl h.1)), H1.out.2.2⟩
end CP
end Go.Proofs.YtpglmfhlgaliaaaDoor
