/-
  Contracts of the decoder's step and of its End, as walks over the translated text. The condition: its memory is there and may be written; the tables are as the program's text lays them.
-/
import Derived.Test.YtohobpjiikpdmaaDoorEXDec2
namespace Go.Proofs.YtohobpjiikpdmaaDoor
open Go.ChangeShapes Go.WideShapes Go.ChangeAt Go.RowKit
namespace EX
open Bas Sca Stp Scn Cod Win
set_option linter.unusedVariables false
set_option linter.unusedSimpArgs false

theorem own_len (a : Option Addr) (n m c : Nat) : (Value.slice a n c).ownBlock = (Value.slice a m c).ownBlock := by
  cases a with
  | none => rfl
  | some x =>
    obtain ⟨b, o, s⟩ := x
    cases s <;> rfl
theorem seg_snoc {k : IntKind} {w : World} {v : Value} {s : List Int} {x : Int} (h : Seg k w v (s ++ [x])) : ∃ g o n c, v = .slice (some ⟨g, o, none⟩) n c ∧ (s.length + 1 = n ∧ n ≤ c ∧ Row k w (some ⟨g, o, none⟩) (s ++ [x])) := by
  obtain ⟨a1, c1, hv1, hrow1, -, hcap1, -, -⟩ := h.form
  have hr := hrow1
  obtain ⟨g1, o1, hn, -⟩ := hr
  obtain rfl := hn (by simp)
  exact ⟨g1, o1, _, c1, hv1, by simp, hcap1, hrow1⟩
theorem beg_len {s : St} (h : Exp.Good s) : s.beg.length ≤ 2 := by
  have hb := h.beg
  unfold Exp.begOK at hb
  match h2 : s.beg, hb with
  | [], _ => simp
  | [_], _ => simp
  | [_, _], _ => simp
  | _ :: _ :: _ :: _, hb => exact hb.elim
theorem beg_byte {s : St} (h : Exp.Good s) : ∀ x ∈ s.beg, 0 ≤ x ∧ x < 256 := by
  have hb := h.beg
  unfold Exp.begOK at hb
  match h2 : s.beg, hb with
  | [], _ => simp
  | [_], hb => simp; exact hb.1
  | [_, _], hb => simp; exact ⟨hb.1, hb.2.1⟩
  | _ :: _ :: _ :: _, hb => exact hb.elim
theorem head_byte {s : St} (h : Exp.Good s) {x : Int} (hx : 0 ≤ x ∧ x < 256) : 0 ≤ headX s x ∧ headX s x < 256 := by
  have : headX s x ∈ s.beg ++ [x] := nth_mem (by simp)
  simp only [List.mem_append, List.mem_singleton] at this
  rcases this with e | e
  · exact beg_byte h _ e
  · rw [e]; exact hx
set_option maxHeartbeats 4000000 in
set_option maxRecDepth 100000 in
theorem takeW_any (D d : Nat) (p q : Int) (en : Bool) (s : St) (l : List Int) (v u : Value) (x : Int) (w : World) (h : DecW w D d p q en s l v u) (hx : 0 ≤ x ∧ x < 256) (hlen : l.length ≤ 1000000) :
    Calls Tryd.prog 32 #[.pointer (some ⟨D, 0, none⟩), .int .u8 x] w fun e w' => ∃ v' u', e = .returned (.bool (Exp.stepX s x).isSome) ∧ DecW w' D d p q en (stN s x) (l ++ toldN s x) v' u' ∧ Chg (fun k _ => footX D d v u k) w w' ∧ Mov w v v' ∧ Mov w u u' := by
  have H : Hid (DecW w D d p q en s l v u) := h
  have HL : Hid (s.beg.length ≤ 2 ∧ 0 ≤ x ∧ x < 256) := ⟨beg_len h.good, hx⟩
  have hc9 := h.st.c
  have HX9 : Hid ((∀ o, (w.alloc o).cell? ⟨D, 9, none⟩ = some u) ∧ u.ownBlock ≠ some D) := ⟨fun o => ((Chg.refl (fun _ _ => False) w).alloc o).cellAt h.st.c id, h.st.ne⟩
  have HS : Hid (∀ o, Seg .u8 (w.alloc o) u s.beg) := fun o => h.st.seg.chg ((Chg.refl (fun _ _ => False) w).alloc o) (fun _ _ _ h => h)
  clear h hx
  go_enter Tryd.func32, Tryd.ntmps32
  go_upto_region 2 with (at_builtin; go_must (refine wpList_append_segK rfl _ _ 45 45 rfl .u8 5 1 Tryd.underlying45 info_u8 u s.beg [x] rfl (HS.out _) _ rfl (src_row (l := [x]) Tryd.underlying45 (by exact row_new .u8 w [x] _ _ rfl) rfl (fun h => by cases h)) (by have := HL.out; unfold maxLen; simp; omega) (by have := HL.out; simp; omega) ?_; intro u' w2 hs' hch hmov hold; have hc92 := hch.cellAt (HX9.out.1 _) HX9.out.2; have hfm := seg_snoc hs'; obtain ⟨g1, o1, n1, c1, rfl, hn1⟩ := hfm))
  have hA0 : Chg (fun k _ => u.ownBlock = some k) w w2 := ((Chg.refl _ w).alloc _).trans2 hch (fun _ _ _ h => h) (fun k j _ h => h)
  have D2 := H.out.spare hA0 hold
  have hmv : ∀ g, (Value.slice (some ⟨g1, o1, none⟩) n1 c1).ownBlock = some g → u.ownBlock = some g ∨ w.heap.size ≤ g := fun g hg => by
    rcases hmov g hg with e | e
    · exact .inl e
    · right; simp at e; omega
  have HD2 : Hid (DecW w2 D d p q en s l v u ∧ Chg (fun k _ => u.ownBlock = some k) w w2) := ⟨D2, hA0⟩
  have HN : Hid (s.beg.length + 1 = n1 ∧ n1 ≤ c1) := ⟨hn1.1, hn1.2.1⟩
  have HR : Hid (Row .u8 w2 (some ⟨g1, o1, none⟩) (s.beg ++ [x])) := hn1.2.2
  have HSG : Hid (Seg .u8 w2 (.slice (some ⟨g1, o1, none⟩) n1 c1) (s.beg ++ [x]) ∧ (∀ g, (Value.slice (some ⟨g1, o1, none⟩) n1 c1).ownBlock = some g → u.ownBlock = some g ∨ w.heap.size ≤ g)) := ⟨hs', hmv⟩
  have hn0 : 1 ≤ n1 ∧ n1 ≤ 3 := by have := HL.out.1; have := hn1.1; omega
  have hnc : n1 ≤ c1 := hn1.2.1
  have hh0 : w2.cell? ⟨g1, o1, none⟩ = some (.int .u8 (headX s x)) := by
    obtain ⟨g, o, ha, hc⟩ := hn1.2.2
    have := ha (by simp)
    simp only [Option.some.injEq, Addr.mk.injEq] at this
    obtain ⟨rfl, rfl, -⟩ := this
    exact hc 0 (by simp)
  have hhb := head_byte H.out.good (x := x) HL.out.2
  have HK : Hid (∀ w' : World, w'.cell? ⟨D, 6, none⟩ = some (.bool s.uni) → Calls Tryd.prog 40 #[.pointer (some ⟨D, 0, none⟩), .int .u8 (headX s x)] w' fun e w2 => e = .returned (.int .i64 (codeK (Exp.kindP s.uni (headX s x)))) ∧ w2 = w') := fun w' h6 => kind_any D s.uni (headX s x) w' h6 hhb.1 hhb.2
  have HFT : Hid (∀ w' : World, DecW w' D d p q en s l v u → Row .u8 w' (some ⟨g1, o1, none⟩) (s.beg ++ [x]) → Calls Tryd.prog 41 #[.pointer (some ⟨D, 0, none⟩), .int .i64 (codeK (Exp.kindP s.uni (headX s x))), .slice (some ⟨g1, o1, none⟩) n1 c1] w' fun e w2 => e = .returned (.bool (Exp.stepX s x).isSome) ∧ ∃ n, w2 = w'.drewN n) := fun w' hd hr => by
    have := fit_all D s g1 o1 c1 x w' hd.wa hd.tabs hd.good HL.out.2 hr
    rwa [HN.out.1] at this
  obtain ⟨k, hk, hk10, hks⟩ := code_size (Exp.kind_le s.uni (headX s x))
  have HFN : Hid (∀ (z : St × List Int) (w' : World) (u0 : Value), Exp.stepX s x = some z → n1 = sizK (Exp.kindP s.uni (headX s x)) → DecW w' D d p q en ⟨s.uni, s.act, s.wins, s.hi, []⟩ l v u0 → Part w' D d v g1 o1 (s.beg ++ [x]) → Calls Tryd.prog 42 #[.pointer (some ⟨D, 0, none⟩), .int .i64 (k : Int), .slice (some ⟨g1, o1, none⟩) n1 c1] w' fun e w2 => ∃ v', e = .returned (.tuple #[]) ∧ DecW w2 D d p q en z.1 (l ++ z.2) v' u0 ∧ Chg (fun k _ => footF D d v k) w' w2 ∧ Mov w' v v') := fun z w' u0 hz hn hd hp => by
    have := fin_all D d p q en s l v u0 g1 o1 c1 x z w' hd H.out.good HL.out.2 hz (by rw [HN.out.1]; exact hn) hp hlen
    rwa [HN.out.1, hk] at this
  have HSZ : Hid (nth sizeL k = (sizK (Exp.kindP s.uni (headX s x)) : Int)) := hks
  have HOP : Hid (∀ z, Exp.stepX s x = some z → n1 ≠ sizK (Exp.kindP s.uni (headX s x)) → z = (⟨s.uni, s.act, s.wins, s.hi, s.beg ++ [x]⟩, [])) := fun z hz hn => step_open H.out.good hz (by rw [HN.out.1]; exact hn)
  rw [hk] at HK HFT
  obtain ⟨hd, hhd⟩ : ∃ hd, headX s x = hd := ⟨_, rfl⟩
  rw [hhd] at hh0 HK HOP HSZ hhb HFN
  obtain ⟨Z, hZ⟩ : ∃ Z, sizK (Exp.kindP s.uni hd) = Z := ⟨_, rfl⟩
  rw [hZ] at HOP HSZ HFN
  clear hs' hch hmov hold hc92 hn1 hA0 D2 hmv HX9 HS hc9 hks hk hhd hZ hhb
  go_wp2_with fail
  refine (HK.out w2 HD2.out.1.un).mono ?_
  rintro e w3 ⟨rfl, hw⟩
  rw [hw]
  clear hw w3 HK hh0
  go_wp2_with fail
  refine (HFT.out w2 HD2.out.1 HR.out).mono ?_
  rintro e w3 ⟨rfl, nd, rfl⟩
  have hbd := below_dn w2 nd
  have HD3 : Hid (DecW (w2.drewN nd) D d p q en s l v u ∧ Chg (fun k _ => u.ownBlock = some k) w (w2.drewN nd) ∧ Seg .u8 (w2.drewN nd) (.slice (some ⟨g1, o1, none⟩) n1 c1) (s.beg ++ [x])) := ⟨HD2.out.1.below hbd, HD2.out.2.drewN nd, HSG.out.1.chg (chg_of_below hbd (Nat.le_refl _) (fun _ _ => False)) (fun _ _ _ h => h)⟩
  have HMV : Hid (∀ g, (Value.slice (some ⟨g1, o1, none⟩) n1 c1).ownBlock = some g → u.ownBlock = some g ∨ w.heap.size ≤ g) := HSG.out.2
  generalize w2.drewN nd = w3 at HD3 ⊢
  clear hbd HD2 HR HSG HFT
  cases hst : Exp.stepX s x with
  | none =>
    have HST : Hid (Exp.stepX s x = none) := hst
    rw [show (none : Option (St × List Int)).isSome = false from rfl]
    clear hst
    go_wp2
    go_ret
    exact ⟨v, u, by rw [HST.out]; rfl, by simpa [stN, toldN, HST.out] using HD3.out.1, HD3.out.2.1.mono (fun k j _ h => .inr (.inr h)), mov_refl _ _, mov_refl _ _⟩
  | some z =>
    have HST : Hid (Exp.stepX s x = some z) := hst
    have HGZ : Hid (Exp.Good z.1) := (Exp.step_good H.out.good HL.out.2 hst).1
    rw [show (some z).isSome = true from rfl]
    clear hst
    have hc9 := HD3.out.1.st.c
    have hf9 := HD3.out.1.st.f
    have hcs := chg_setCell w3 D 9 (.slice (some ⟨g1, o1, none⟩) n1 c1)
    have hgD : g1 ≠ D := fun e => by
      rcases HMV.out g1 rfl with h | h
      · exact H.out.st.ne (by rw [h, e])
      · have := H.out.lt; omega
    have hcz : (w3.setCell ⟨D, 9, none⟩ (.slice (some ⟨g1, o1, none⟩) n1 c1)).cell? ⟨0, k, none⟩ = some (.int .i64 (nth sizeL k)) := hcs.cellAt (HD3.out.1.tabs.sz k hk10) (by have := H.out.big; omega)
    rw [HSZ.out] at hcz
    have HCS : Hid (Chg (fun k j => (k = D ∧ j = 9) ∨ u.ownBlock = some k) w (w3.setCell ⟨D, 9, none⟩ (.slice (some ⟨g1, o1, none⟩) n1 c1))) := HD3.out.2.1.trans2 hcs (fun k j _ h => .inr h) (fun k j _ h => .inl h)
    have hk1 : (k : Int) < 10 := by omega
    clear hcs
    by_cases hn : n1 = Z
    · subst hn
      go_upto_region 8 with fail
      have hcs2 := chg_setCell (w3.setCell ⟨D, 9, none⟩ (.slice (some ⟨g1, o1, none⟩) n1 c1)) D 9 (.slice (some ⟨g1, o1, none⟩) 0 c1)
      have hsg : Seg .u8 (w3.setCell ⟨D, 9, none⟩ (.slice (some ⟨g1, o1, none⟩) n1 c1)) (.slice (some ⟨g1, o1, none⟩) n1 c1) (s.beg ++ [x]) := HD3.out.2.2.chg (chg_setCell w3 D 9 _) (fun g o hg hh => by simp [Value.ownBlock] at hg; omega)
      have hsg0 : Seg .u8 (w3.setCell ⟨D, 9, none⟩ (.slice (some ⟨g1, o1, none⟩) n1 c1)) (.slice (some ⟨g1, o1, none⟩) 0 c1) [] := by simpa using hsg.takeO (f := 0) (by simp)
      have D4 := H.out.put HCS.out (World.cell?_setCell_same _ _ _ hc9) hsg0 (fun g hg => HMV.out g hg) H.out.lt H.out.ltd (fun g hg => H.out.ltV hg) (good_of H.out.good H.out.good.len H.out.good.act H.out.good.wins H.out.good.hi)
      have C4 := HCS.out.trans2 hcs2 (fun _ _ _ h => h) (fun k j _ h => .inl h)
      have P4 : Part ((w3.setCell ⟨D, 9, none⟩ (.slice (some ⟨g1, o1, none⟩) n1 c1)).setCell ⟨D, 9, none⟩ (.slice (some ⟨g1, o1, none⟩) 0 c1)) D d v g1 o1 (s.beg ++ [x]) := by
        refine ⟨fun i hi => ?_, fun y hy => ?_, fun hf => ?_⟩
        · obtain ⟨g, o, ha, hc, -⟩ := hsg.at hi
          simp only [Option.some.injEq, Addr.mk.injEq] at ha
          obtain ⟨rfl, rfl, -⟩ := ha
          exact hcs2.cellAt hc (fun hh => hgD hh.1)
        · simp only [List.mem_append, List.mem_singleton] at hy
          rcases hy with hy | hy
          · exact beg_byte H.out.good y hy
          · rw [hy]; exact HL.out.2
        · rcases hf with hf | hf | hf
          · exact hgD hf
          · rcases HMV.out g1 rfl with h | h
            · exact H.out.nu (by rw [h, hf])
            · have := H.out.ltd; omega
          · rcases HMV.out g1 rfl with h | h
            · exact H.out.ne g1 hf h
            · have := H.out.ltV hf; omega
      obtain ⟨W4, hW4⟩ : ∃ W4, (w3.setCell ⟨D, 9, none⟩ (.slice (some ⟨g1, o1, none⟩) n1 c1)).setCell ⟨D, 9, none⟩ (.slice (some ⟨g1, o1, none⟩) 0 c1) = W4 := ⟨_, rfl⟩
      rw [hW4] at D4 C4 P4 ⊢
      have HD4 : Hid (DecW W4 D d p q en ⟨s.uni, s.act, s.wins, s.hi, []⟩ l v (.slice (some ⟨g1, o1, none⟩) 0 c1) ∧ Chg (fun k j => (k = D ∧ j = 9) ∨ u.ownBlock = some k) w W4 ∧ Part W4 D d v g1 o1 (s.beg ++ [x])) := ⟨D4, C4, P4⟩
      clear D4 C4 P4 hcs2 hsg hsg0 hW4 hcz hc9 hf9 HCS
      go_wp2_with fail
      refine (HFN.out z W4 _ HST.out (by trivial) HD4.out.1 HD4.out.2.2).mono ?_
      rintro e w5 ⟨v', rfl, D5, C5, M5⟩
      have HD5 : Hid (DecW w5 D d p q en z.1 (l ++ z.2) v' (.slice (some ⟨g1, o1, none⟩) 0 c1) ∧ Chg (fun k _ => footX D d v u k) w w5 ∧ Mov w v v') := ⟨D5, HD4.out.2.1.trans2 C5 (fun k j _ h => by
          rcases h with h | h
          · exact .inl (.inl h.1)
          · exact .inr (.inr h)) (fun k j _ h => by
          rcases h with h | h | h
          · exact .inl (.inl h)
          · exact .inl (.inr h)
          · exact .inr (.inl h)), fun g hg => by
          rcases M5 g hg with e | e
          · exact .inl e
          · exact .inr (Nat.le_trans HD4.out.2.1.size e)⟩
      clear D5 C5 M5 HD4
      go_wp2
      go_ret
      exact ⟨v', .slice (some ⟨g1, o1, none⟩) 0 c1, by rw [HST.out]; rfl, by simpa [stN, toldN, HST.out] using HD5.out.1, HD5.out.2.1, HD5.out.2.2, fun g hg => HMV.out g (by rw [← hg]; exact own_len _ _ _ _)⟩
    · have hne : ((n1 : Int) == (Z : Int)) = false := by rw [beq_eq_false_iff_ne]; omega
      have hne2 : ¬ (n1 : Int) = (Z : Int) := by omega
      have HZZ : Hid (z = (⟨s.uni, s.act, s.wins, s.hi, s.beg ++ [x]⟩, [])) := HOP.out z HST.out hn
      clear hn
      go_wp2
      go_ret
      rw [HZZ.out] at HGZ
      have D4 := H.out.put (HD3.out.2.1.mono (fun k j _ h => .inr h)) hc9 HD3.out.2.2 HMV.out H.out.lt H.out.ltd (fun g hg => H.out.ltV hg) HGZ.out
      exact ⟨v, _, by rw [HST.out]; rfl, by simpa [stN, toldN, HST.out, HZZ.out] using D4, HCS.out.mono (fun k j _ h => by
        rcases h with h | h
        · exact .inl (.inl h.1)
        · exact .inr (.inr h)), mov_refl _ _, fun g hg => HMV.out g hg⟩
/-- Has all ended well? -/
theorem rest_iff (s : St) : Exp.rest s = true ↔ s.beg = [] ∧ s.hi = 0 := by
  unfold Exp.rest
  rw [Bool.and_eq_true, List.isEmpty_iff, beq_iff_eq]
set_option maxHeartbeats 4000000 in
theorem endW_any (D d : Nat) (p q : Int) (en : Bool) (s : St) (l : List Int) (v u : Value) (w : World) (h : DecW w D d p q en s l v u) :
    Calls Tryd.prog 24 #[.pointer (some ⟨D, 0, none⟩)] w fun e w' => e = .returned (.tuple #[]) ∧ DecW w' D d p (if rest s = true then q else stopI q en 4) (endB (if rest s = true then q else stopI q en 4) en) s l v u ∧ Chg (footB D 0) w w' := by
  have hc9 := h.st.c
  have hc7 := h.wa
  have H : Hid (DecW w D d p q en s l v u) := h
  have hri := rest_iff s
  obtain ⟨a, c, hv, -⟩ := h.st.seg.form
  have hhi := h.good.hi
  by_cases h0 : 0 < s.hi
  · have hr : ¬ rest s = true := fun e => by have := (hri.1 e).2; omega
    rw [if_neg hr]
    rw [decide_eq_true h0] at hc7
    clear h hv hri hhi h0 hr hc9
    go_enter Tryd.func24, Tryd.ntmps24
    go_wp2_with fail
    refine (stop_any D 0 p q en 4 w H.out.base).mono ?_
    rintro e w2 ⟨rfl, hB, hC⟩
    have D2 := H.out.rebase hB hC
    go_wp2_with fail
    refine (end_any D 0 p _ en w2 D2.base).mono ?_
    rintro e w3 ⟨rfl, hB3, hC3⟩
    go_wp2
    go_end0
    exact ⟨rfl, D2.rebase hB3 hC3, hC.trans hC3⟩
  · rw [decide_eq_false h0] at hc7
    by_cases hs : s.beg = []
    · have hr : rest s = true := hri.2 ⟨hs, by omega⟩
      rw [if_pos hr]
      clear h
      rw [hs] at hv
      rw [hv] at hc9
      have hl : ([] : List Int).length = 0 := rfl
      rw [hl] at hc9
      clear hl hv hs hr hri hhi h0
      go_enter Tryd.func24, Tryd.ntmps24
      go_wp2_with fail
      refine (end_any D 0 p q en w H.out.base).mono ?_
      rintro e w2 ⟨rfl, hB, hC⟩
      go_wp2
      go_end0
      exact ⟨rfl, H.out.rebase hB hC, hC⟩
    · rw [if_neg (fun e => hs (hri.1 e).1)]
      have hlen : 0 < s.beg.length := List.length_pos_iff.2 hs
      obtain ⟨n, hn⟩ : ∃ n, s.beg.length = n := ⟨_, rfl⟩
      rw [hn] at hv hlen
      rw [hv] at hc9
      have hlen' : (n : Int) > 0 := by omega
      clear h hv hn hlen hs hri hhi h0
      go_enter Tryd.func24, Tryd.ntmps24
      go_wp2_with fail
      refine (stop_any D 0 p q en 4 w H.out.base).mono ?_
      rintro e w2 ⟨rfl, hB, hC⟩
      have D2 := H.out.rebase hB hC
      go_wp2_with fail
      refine (end_any D 0 p _ en w2 D2.base).mono ?_
      rintro e w3 ⟨rfl, hB3, hC3⟩
      go_wp2
      go_end0
      exact ⟨rfl, D2.rebase hB3 hC3, hC.trans hC3⟩
end EX
end Go.Proofs.YtohobpjiikpdmaaDoor
