/-
  Contracts of the calls of step's Pend and Out, wherever they lie in memory, as walks over the translated text. The condition: its cell is there, and may be written, and holds a slice of the program's own.
-/
import Derived.Test.YtpglmfhlgaliaaaDoorStp2
import Derived.Laws.BytesString
namespace Go.Proofs.YtpglmfhlgaliaaaDoor
open Go.ChangeShapes Go.WideShapes Go.ChangeAt Go.RowKit
namespace Stp
open Bas
set_option linter.unusedVariables false

theorem info_u8 : (Tryd.prog.info? 5).map (fun i => (i.zero, i.size, i.bytes)) = some (some (.int .u8 0), 1, 1) := by kernel_rfl
set_option maxHeartbeats 1000000 in
theorem partB_any (v : Value) (l : List Int) (room : Int) (w : World) (h : Seg .u8 w v l) (hr : (Lit.int .i64 room).wf = true) :
    Calls Tryd.prog 41 #[v, .int .i64 room] w fun e w' => ∃ a c v2 nd, e = .returned (.tuple #[.slice a (frontN room l.length) c, v2]) ∧ w' = w.drewN nd ∧ Row .u8 w a (l.take (frontN room l.length)) ∧ (a = none → c = 0) ∧
      Seg .u8 w v2 (l.drop (frontN room l.length)) ∧ (∀ g, v2.ownBlock = some g → v.ownBlock = some g) ∧ (∀ b' o', a = some ⟨b', o', none⟩ → v.ownBlock = some b') := by
  obtain ⟨ad, cc, hv, hrow, hmx, hlc, hcm, hnil⟩ := h.form
  by_cases hge : (l.length : Int) ≤ room
  · rw [frontN_all hge]
    subst hv
    generalize hL : l.length = L at *
    have HL : Hid (l.length = L) := hL
    clear hL
    go_enter Tryd.func41, Tryd.ntmps41
    go_wp2
    go_ret2
    refine ⟨_, _, _, 0, rfl, rfl, ?_, hnil, ?_, fun g hg => (by simp [Value.ownBlock] at hg), fun b' o' e => (by rw [e]; rfl)⟩
    · rw [List.take_of_length_le (by have := HL.out; omega)]; exact hrow
    · rw [List.drop_of_length_le (by have := HL.out; omega)]; exact seg_nil _ _
  · have hge' : room < (l.length : Int) := by omega
    clear hge
    rcases h with ⟨hv0, rfl⟩ | ⟨g, off, cap, hv0, hg, h1, h2, h3, h4, h5⟩
    · subst hv0
      clear hv hrow hmx hlc hcm hnil
      have hneg : room < 0 := by simpa using hge'
      have hf : frontN room ([] : List Int).length = 0 := by unfold frontN; rw [if_pos hneg]
      rw [hf]
      clear hge'
      go_enter Tryd.func41, Tryd.ntmps41
      go_wp2
      go_quiet (fail)
      go_wp2
      go_ret2
      exact ⟨_, _, _, _, rfl, rfl, row_nil _ _ _, fun _ => rfl, seg_nil _ _, fun g hg => (by simp [Value.ownBlock] at hg), fun b' o' e => (by cases e)⟩
    · subst hv0
      clear hv hrow hmx hlc hcm hnil ad cc
      unfold maxLen at h2
      have HS : Hid (Seg .u8 w (.slice (some ⟨g, off, none⟩) l.length cap) l) := .inr ⟨g, off, cap, rfl, hg, h1, by unfold maxLen; exact h2, h3, h4, h5⟩
      have H3 : Hid (∀ i, i < l.length → w.cell? ⟨g, off + i, none⟩ = some (.int .u8 (nth l i))) := h3
      have H4 : Hid (∀ i, i < cap → (w.cell? ⟨g, off + i, none⟩).isSome = true) := h4
      have H5 : Hid (∀ o, w.frozen? ⟨g, o, none⟩ = false) := h5
      clear h3 h4 h5
      by_cases hneg : room < 0
      · have hf : frontN room l.length = 0 := by unfold frontN; rw [if_pos hneg]
        rw [hf]
        clear hf
        generalize hL : l.length = L at *
        clear hL
        go_enter Tryd.func41, Tryd.ntmps41
        go_wp2
        go_quiet (fail)
        go_wp2
        go_ret2
        exact ⟨_, _, _, _, rfl, rfl, row_nil _ _ _, fun h => (by cases h), HS.out, fun g hg => hg, fun b' o' e => (by simp at e; simp [Value.ownBlock, e.1])⟩
      · obtain ⟨f, rfl⟩ := Int.eq_ofNat_of_zero_le (show 0 ≤ room by omega)
        have hfl : f < l.length := by omega
        have hf : frontN (f : Int) l.length = f := by
          unfold frontN; rw [if_neg (by omega), if_neg (by omega)]; simp
        rw [hf]
        clear hf hneg hge'
        have fin : ∀ c, c = cap - f → Row .u8 w (some ⟨g, off, none⟩) (l.take f) ∧ Seg .u8 w (.slice (some ⟨g, off + f, none⟩) (l.length - f) c) (l.drop f) := by
          rintro c rfl
          refine ⟨⟨g, off, fun _ => rfl, fun i hi => ?_⟩, .inr ⟨g, off + f, cap - f, by simp, hg, by simp; omega, by unfold maxLen; omega, fun i hi => ?_, fun i hi => ?_, H5.out⟩⟩
          · have hi' : i < f := by simp at hi; omega
            rw [nth_take hi']; exact H3.out i (by omega)
          · have hi' : i + f < l.length := by simp at hi; omega
            rw [show off + f + i = off + (f + i) by omega, H3.out (f + i) (by omega)]
            simp [nth]
          · rw [show off + f + i = off + (f + i) by omega]; exact H4.out (f + i) (by omega)
        have HF : Hid (∀ c, c = cap - f → Row .u8 w (some ⟨g, off, none⟩) (l.take f) ∧ Seg .u8 w (.slice (some ⟨g, off + f, none⟩) (l.length - f) c) (l.drop f)) := fin
        clear fin HS H3 H4 H5
        generalize hL : l.length = L at *
        clear hL
        go_enter Tryd.func41, Tryd.ntmps41
        go_wp2
        go_quiet (fail)
        go_wp2
        go_ret2
        exact ⟨_, _, _, _, rfl, rfl, (HF.out _ rfl).1, fun h => (by cases h), (HF.out _ rfl).2, fun g hg => hg, fun b' o' e => (by simp at e; simp [Value.ownBlock, e.1])⟩

set_option maxHeartbeats 1000000 in
theorem keep_any (b o : Nat) (v : Value) (l : List Int) (s : ByteArray) (w : World) (h : RowAt .u8 w b o v l) (hlen : l.length + s.size ≤ 1000000000) :
    Calls Tryd.prog 43 #[.pointer (some ⟨b, o, none⟩), .string s] w fun e w' => ∃ v', e = .returned (.tuple #[]) ∧ RowAt .u8 w' b o v' (l ++ bytesL s) ∧ Chg (footR b o v) w w' ∧ Mov w v v' := by
  have hlt := h.lt
  obtain ⟨hc, hf, hs, hne⟩ := h
  have HNE : Hid (v.ownBlock ≠ some b) := hne
  have HL : Hid ((bytesL s).length = s.size) := bytesL_length s
  clear hne
  go_enter Tryd.func43, Tryd.ntmps43
  go_wp2_with (at_builtin; go_must (refine wpList_append_seg rfl _ _ 42 9 rfl .u8 5 1 Tryd.underlying42 info_u8 v l (bytesL s) rfl hs _ rfl (src_string Tryd.underlying9 s) (by have := HL.out; unfold maxLen; omega) (by have := HL.out; omega) ?_; intro v' w1 hs' hch hnx; have hc1 := hch.cellAt hc HNE.out; have hf1 := hch.freeAt hc hf; clear hc hf hs; obtain ⟨a1, c1, hv1, -⟩ := hs'.form; generalize (l ++ bytesL s).length = ln at hv1; subst hv1))
  go_end0
  generalize hvv : Value.slice a1 ln c1 = v' at *
  have hc2 := chg_setCell w1 b o v'
  have hnb : v'.ownBlock ≠ some b := fun e => by
    rcases hnx b e with e | e
    · exact HNE.out e
    · omega
  exact ⟨v', rfl, ⟨World.cell?_setCell_same _ _ _ hc1, hc2.freeAt hc1 hf1, hs'.chg hc2 (fun g j hg hh => hnb (by rw [hg, hh.1])), hnb⟩, hch.trans2 hc2 (fun k j _ hh => .inr hh) (fun k j _ hh => .inl hh), hnx⟩

set_option maxHeartbeats 1000000 in
theorem kept_any (b o : Nat) (v : Value) (l : List Int) (w : World) (h : RowAt .u8 w b o v l) :
    Calls Tryd.prog 29 #[.pointer (some ⟨b, o, none⟩)] w fun e w' => e = .returned (.int .i64 l.length) ∧ w' = w := by
  obtain ⟨hc, hf, hs, hne⟩ := h
  obtain ⟨a, c, rfl, -⟩ := hs.form
  clear hs hne
  generalize l.length = n at *
  go_enter Tryd.func29, Tryd.ntmps29
  go_wp2
  go_ret
  exact ⟨rfl, rfl⟩

/-- The text of some bytes. -/
def strOf (l : List Int) : ByteArray := l.foldl (fun r n => r.push (UInt8.ofNat n.toNat)) ByteArray.empty
theorem row_loads {P : Program} {w : World} {ad : Addr} {l : List Int} (h : Row .u8 w (some ad) l) : (loadCells ad l.length).run P w = .ok (l.map (Value.int .u8)).toArray w := by
  have := run_loadCells_list (P := P) w ad (l.map (Value.int .u8)) (fun j u hu => by
    obtain ⟨hj, rfl⟩ := map_nth .u8 l j u hu
    obtain ⟨b, off, ha, hcell⟩ := h
    have hne : l ≠ [] := by intro e; subst e; simp at hj
    have := ha hne
    simp only [Option.some.injEq] at this
    subst this
    rw [add_at]; exact hcell j hj)
  simpa using this
theorem run_string (w : World) (a : Option Addr) (n c : Nat) (l : List Int) (h : Row .u8 w a l) (hl : l.length = n) :
    (convert 42 9 (.slice a n c)).run Tryd.prog w = .ok (.string (strOf l)) w := by
  subst hl
  rw [run_convert_bytes_string w 42 9 5 a l.length c Tryd.underlying42 Tryd.underlying5 Tryd.underlying9]
  cases a with
  | none =>
    have hl0 : l = [] := by
      obtain ⟨b, off, ha, _⟩ := h
      cases l with
      | nil => rfl
      | cons y r => exact absurd (ha (by simp)) (by simp)
    subst hl0
    rfl
  | some ad => exact run_bytesToString w ad l.length c l (row_loads h)

set_option maxHeartbeats 1000000 in
theorem give_any (b o : Nat) (v : Value) (l : List Int) (room : Int) (w : World) (h : RowAt .u8 w b o v l) (hr : (Lit.int .i64 room).wf = true) :
    Calls Tryd.prog 27 #[.pointer (some ⟨b, o, none⟩), .int .i64 room] w fun e w' => ∃ v', e = .returned (.string (strOf (l.take (frontN room l.length)))) ∧ RowAt .u8 w' b o v' (l.drop (frontN room l.length)) ∧
      Chg (fun k j => k = b ∧ j = o) w w' ∧ (∀ g, v'.ownBlock = some g → v.ownBlock = some g) := by
  have hlt := h.lt
  have hfl := frontN_le room l.length
  obtain ⟨hc, hf, hs, hne⟩ := h
  have HNE : Hid (v.ownBlock ≠ some b) := hne
  clear hne
  obtain ⟨f, hfr⟩ : ∃ f, frontN room l.length = f := ⟨_, rfl⟩
  have hp := partB_any v l room w hs hr
  rw [hfr] at hp hfl ⊢
  clear hfr
  have HP : Hid (Calls Tryd.prog 41 #[v, .int .i64 room] w fun e w' => ∃ a c v2 nd, e = .returned (.tuple #[.slice a f c, v2]) ∧ w' = w.drewN nd ∧ Row .u8 w a (l.take f) ∧ (a = none → c = 0) ∧
      Seg .u8 w v2 (l.drop f) ∧ (∀ g, v2.ownBlock = some g → v.ownBlock = some g) ∧ (∀ b' o', a = some ⟨b', o', none⟩ → v.ownBlock = some b')) := hp
  clear hp
  go_enter Tryd.func27, Tryd.ntmps27
  go_wp2_with fail
  refine HP.out.mono ?_
  rintro e w1 ⟨a, c, v2, nd, rfl, rfl, hrow, hnil, hseg, hown, hfb⟩
  obtain ⟨a2, c2, hv2, -⟩ := hseg.form
  generalize (l.drop f).length = ln at hv2
  subst hv2
  have HSG : Hid (Seg .u8 w (.slice a2 ln c2) (l.drop f) ∧ (∀ g, (Value.slice a2 ln c2).ownBlock = some g → v.ownBlock = some g)) := ⟨hseg, hown⟩
  have hc' : (w.drewN nd).cell? ⟨b, o, none⟩ = some v := hc
  have hf' : (w.drewN nd).frozen? ⟨b, o, none⟩ = false := hf
  have hch := (chg_setCell (w.drewN nd) b o (.slice a2 ln c2))
  have hrow' : Row .u8 ((w.drewN nd).setCell ⟨b, o, none⟩ (.slice a2 ln c2)) a (l.take f) := by
    refine Row.chg (w := w.drewN nd) hrow hch ?_
    intro b' o' e j hh
    have := hfb b' o' e
    rw [hh.1] at this
    exact HNE.out this
  have HCH : Hid (Chg (fun k j => k = b ∧ j = o) (w.drewN nd) ((w.drewN nd).setCell ⟨b, o, none⟩ (.slice a2 ln c2))) := hch
  have hcv := run_string _ a f c (l.take f) hrow' (by simp; omega)
  clear hrow hnil hseg hown hc hf hs HP hfb hrow' hch
  go_wp2
  go_ret
  have hch := HCH.out
  obtain ⟨hsg, hso⟩ := HSG.out
  have hnb : (Value.slice a2 ln c2).ownBlock ≠ some b := fun e => HNE.out (hso b e)
  exact ⟨_, rfl, ⟨World.cell?_setCell_same _ _ _ hc', hch.freeAt hc' hf', Seg.chg (w := w.drewN nd) hsg hch (fun g j hg hh => hnb (by rw [hg, hh.1])), hnb⟩, ((Chg.refl _ w).drewN nd).trans2 hch (fun k j _ h => h) (fun k j _ h => h), hso⟩

set_option maxHeartbeats 1000000 in
theorem outDone_any (b o : Nat) (p q : Int) (en : Bool) (v : Value) (l : List Int) (w : World) (h : BaseAt w b o p q en) (h2 : RowAt .u8 w b (o + 3) v l) :
    Calls Tryd.prog 19 #[.pointer (some ⟨b, o, none⟩)] w fun e w' => e = .returned (.bool (!goB q en && (l.length == 0))) ∧ w' = w := by
  by_cases hg : goB q en = true
  · go_enter Tryd.func19, Tryd.ntmps19
    go_wp2_with (go_at_call 28; refine (going_any _ _ _ _ _ _ h).mono ?_; rintro e w ⟨rfl, rfl⟩)
    go_ret
    exact ⟨ret_bool (by simp [hg]), rfl⟩
  · have hg' : goB q en = false := by simpa using hg
    clear hg
    have hl : ((l.length : Int) == 0) = (l.length == 0) := by
      rw [Bool.eq_iff_iff]; simp
    have HL : Hid (((l.length : Int) == 0) = (l.length == 0)) := hl
    clear hl
    generalize hn : l.length = n at *
    have HN : Hid (l.length = n) := hn
    clear hn
    go_enter Tryd.func19, Tryd.ntmps19
    go_wp2_with fail
    refine (going_any _ _ _ _ _ _ h).mono ?_
    rintro e w ⟨rfl, rfl⟩
    go_wp2_with fail
    refine (kept_any _ _ _ _ _ h2).mono ?_
    rintro e w ⟨rfl, rfl⟩
    rw [HN.out]
    go_wp2
    go_ret
    exact ⟨ret_bool (by simpa [hg'] using HL.out), rfl⟩
end Stp
end Go.Proofs.YtpglmfhlgaliaaaDoor
