/-
  Contracts of the calls of step's Row and In, wherever they lie in memory, as walks over the translated text. The condition: its cell is there, and may be written, and holds a slice of the program's own.
-/
import Derived.Test.YtohobpjiikpdmaaDoorStp
namespace Go.Proofs.YtohobpjiikpdmaaDoor
open Go.ChangeShapes Go.WideShapes Go.ChangeAt Go.RowKit
namespace Stp
open Bas
set_option linter.unusedVariables false

theorem info_u32 : (Tryd.prog.info? 44).map (fun i => (i.zero, i.size, i.bytes)) = some (some (.int .u32 0), 1, 4) := by kernel_rfl
/-- A Row (or a Pend) in memory: its one cell holds the slice v, of the numbers l. -/
structure RowAt (k : IntKind) (w : World) (b o : Nat) (v : Value) (l : List Int) : Prop where
  c : w.cell? ⟨b, o, none⟩ = some v
  f : w.frozen? ⟨b, o, none⟩ = false
  seg : Seg k w v l
  ne : v.ownBlock ≠ some b
/-- Its memory. -/
def footR (b o : Nat) (v : Value) (k j : Nat) : Prop := (k = b ∧ j = o) ∨ v.ownBlock = some k
theorem RowAt.chg {kd : IntKind} {S : Nat → Nat → Prop} {w w' : World} {b o : Nat} {v : Value} {l : List Int} (h : RowAt kd w b o v l) (hc : Chg S w w') (hS : ∀ k j, footR b o v k j → ¬ S k j) : RowAt kd w' b o v l :=
  ⟨hc.cellAt h.c (hS _ _ (.inl ⟨rfl, rfl⟩)), hc.freeAt h.c h.f, h.seg.chg hc (fun g o hg => hS _ _ (.inr hg)), h.ne⟩
theorem RowAt.below {kd : IntKind} {w w' : World} {b o : Nat} {v : Value} {l : List Int} (h : RowAt kd w b o v l) (hb : Below w.heap.size w w') : RowAt kd w' b o v l :=
  h.chg (chg_of_below hb (Nat.le_refl _) (fun _ _ => False)) (fun _ _ _ h => h)
theorem RowAt.lt {kd : IntKind} {w : World} {b o : Nat} {v : Value} {l : List Int} (h : RowAt kd w b o v l) : b < w.heap.size := World.block_lt_of_cell? w _ h.c
/-- How many of some may go. -/
def frontN (room : Int) (n : Nat) : Nat := if room < 0 then 0 else if room > n then n else room.toNat
theorem frontN_all {room : Int} {n : Nat} (h : (n : Int) ≤ room) : frontN room n = n := by
  unfold frontN
  rw [if_neg (by omega)]
  split
  · rfl
  · omega
theorem frontN_le (room : Int) (n : Nat) : frontN room n ≤ n := by
  unfold frontN; repeat' split
  all_goals omega

set_option maxHeartbeats 1000000 in
theorem partU_any (v : Value) (l : List Int) (room : Int) (w : World) (h : Seg .u32 w v l) (hr : (Lit.int .i64 room).wf = true) :
    Calls Tryd.prog 43 #[v, .int .i64 room] w fun e w' => ∃ a c v2 nd, e = .returned (.tuple #[.slice a (frontN room l.length) c, v2]) ∧ w' = w.drewN nd ∧ Row .u32 w a (l.take (frontN room l.length)) ∧ (a = none → c = 0) ∧
      Seg .u32 w v2 (l.drop (frontN room l.length)) ∧ (∀ g, v2.ownBlock = some g → v.ownBlock = some g) ∧ (∀ b' o', a = some ⟨b', o', none⟩ → v.ownBlock = some b') := by
  obtain ⟨ad, cc, hv, hrow, hmx, hlc, hcm, hnil⟩ := h.form
  by_cases hge : (l.length : Int) ≤ room
  · rw [frontN_all hge]
    subst hv
    generalize hL : l.length = L at *
    have HL : Hid (l.length = L) := hL
    clear hL
    go_enter Tryd.func43, Tryd.ntmps43
    go_wp2
    go_ret2
    refine ⟨_, _, _, 0, rfl, rfl, ?_, hnil, ?_, fun g hg => (by simp [Value.ownBlock] at hg), fun b' o' e => (by rw [e]; rfl)⟩
    · rw [List.take_of_length_le (by have := HL.out; omega)]; exact hrow
    · rw [List.drop_of_length_le (by have := HL.out; omega)]; exact seg_nil _ _
  · have hge' : room < (l.length : Int) := by omega
    clear hge
    rcases h with ⟨hv0, rfl⟩ | ⟨g, off, cap, hv0, hg, h1, h2, h3, h4, h5⟩
    · subst hv0
      clear hv hrow hmx hlc hcm hnil
      have hneg : room < 0 := by simpa using hge'
      have hf : frontN room ([] : List Int).length = 0 := by unfold frontN; rw [if_pos hneg]
      rw [hf]
      clear hge'
      go_enter Tryd.func43, Tryd.ntmps43
      go_wp2
      go_quiet (fail)
      go_wp2
      go_ret2
      exact ⟨_, _, _, _, rfl, rfl, row_nil _ _ _, fun _ => rfl, seg_nil _ _, fun g hg => (by simp [Value.ownBlock] at hg), fun b' o' e => (by cases e)⟩
    · subst hv0
      clear hv hrow hmx hlc hcm hnil ad cc
      unfold maxLen at h2
      have HS : Hid (Seg .u32 w (.slice (some ⟨g, off, none⟩) l.length cap) l) := .inr ⟨g, off, cap, rfl, hg, h1, by unfold maxLen; exact h2, h3, h4, h5⟩
      have H3 : Hid (∀ i, i < l.length → w.cell? ⟨g, off + i, none⟩ = some (.int .u32 (nth l i))) := h3
      have H4 : Hid (∀ i, i < cap → (w.cell? ⟨g, off + i, none⟩).isSome = true) := h4
      have H5 : Hid (∀ o, w.frozen? ⟨g, o, none⟩ = false) := h5
      clear h3 h4 h5
      by_cases hneg : room < 0
      · have hf : frontN room l.length = 0 := by unfold frontN; rw [if_pos hneg]
        rw [hf]
        clear hf
        generalize hL : l.length = L at *
        clear hL
        go_enter Tryd.func43, Tryd.ntmps43
        go_wp2
        go_quiet (fail)
        go_wp2
        go_ret2
        exact ⟨_, _, _, _, rfl, rfl, row_nil _ _ _, fun h => (by cases h), HS.out, fun g hg => hg, fun b' o' e => (by simp at e; simp [Value.ownBlock, e.1])⟩
      · obtain ⟨f, rfl⟩ := Int.eq_ofNat_of_zero_le (show 0 ≤ room by omega)
        have hfl : f < l.length := by omega
        have hf : frontN (f : Int) l.length = f := by
          unfold frontN; rw [if_neg (by omega), if_neg (by omega)]; simp
        rw [hf]
        clear hf hneg hge'
        have fin : ∀ c, c = cap - f → Row .u32 w (some ⟨g, off, none⟩) (l.take f) ∧ Seg .u32 w (.slice (some ⟨g, off + f, none⟩) (l.length - f) c) (l.drop f) := by
          rintro c rfl
          refine ⟨⟨g, off, fun _ => rfl, fun i hi => ?_⟩, .inr ⟨g, off + f, cap - f, by simp, hg, by simp; omega, by unfold maxLen; omega, fun i hi => ?_, fun i hi => ?_, H5.out⟩⟩
          · have hi' : i < f := by simp at hi; omega
            rw [nth_take hi']; exact H3.out i (by omega)
          · have hi' : i + f < l.length := by simp at hi; omega
            rw [show off + f + i = off + (f + i) by omega, H3.out (f + i) (by omega)]
            simp [nth]
          · rw [show off + f + i = off + (f + i) by omega]; exact H4.out (f + i) (by omega)
        have HF : Hid (∀ c, c = cap - f → Row .u32 w (some ⟨g, off, none⟩) (l.take f) ∧ Seg .u32 w (.slice (some ⟨g, off + f, none⟩) (l.length - f) c) (l.drop f)) := fin
        clear fin HS H3 H4 H5
        generalize hL : l.length = L at *
        clear hL
        go_enter Tryd.func43, Tryd.ntmps43
        go_wp2
        go_quiet (fail)
        go_wp2
        go_ret2
        exact ⟨_, _, _, _, rfl, rfl, (HF.out _ rfl).1, fun h => (by cases h), (HF.out _ rfl).2, fun g hg => hg, fun b' o' e => (by simp at e; simp [Value.ownBlock, e.1])⟩

set_option maxHeartbeats 1000000 in
theorem hold_any (b o : Nat) (v : Value) (l m : List Int) (a : Option Addr) (n c : Nat) (w : World) (h : RowAt .u32 w b o v l) (hr : Row .u32 w a m) (hm : m.length = n) (hnil : a = none → c = 0) (hlen : l.length + m.length ≤ 1000000000) :
    Calls Tryd.prog 53 #[.pointer (some ⟨b, o, none⟩), .slice a n c] w fun e w' => ∃ v', e = .returned (.tuple #[]) ∧ RowAt .u32 w' b o v' (l ++ m) ∧ Chg (footR b o v) w w' ∧ Mov w v v' := by
  have hlt := h.lt
  obtain ⟨hc, hf, hs, hne⟩ := h
  have HR : Hid (Row .u32 w a m ∧ m.length = n ∧ (a = none → c = 0)) := ⟨hr, hm, hnil⟩
  have HNE : Hid (v.ownBlock ≠ some b) := hne
  clear hr hm hnil hne
  go_enter Tryd.func53, Tryd.ntmps53
  go_wp2_with (at_builtin; go_must (refine wpList_append_seg rfl _ _ 27 27 rfl .u32 44 4 Tryd.underlying27 info_u32 v l m rfl hs _ rfl (src_row Tryd.underlying27 HR.out.1 HR.out.2.1 HR.out.2.2) (by unfold maxLen; omega) (by omega) ?_; intro v' w1 hs' hch hnx; have hc1 := hch.cellAt hc HNE.out; have hf1 := hch.freeAt hc hf; clear hc hf hs; obtain ⟨a1, c1, hv1, -⟩ := hs'.form; generalize (l ++ m).length = ln at hv1; subst hv1))
  go_end0
  generalize hvv : Value.slice a1 ln c1 = v' at *
  have hc2 := chg_setCell w1 b o v'
  have hnb : v'.ownBlock ≠ some b := fun e => by
    rcases hnx b e with e | e
    · exact HNE.out e
    · omega
  exact ⟨v', rfl, ⟨World.cell?_setCell_same _ _ _ hc1, hc2.freeAt hc1 hf1, hs'.chg hc2 (fun g j hg hh => hnb (by rw [hg, hh.1])), hnb⟩, hch.trans2 hc2 (fun k j _ hh => .inr hh) (fun k j _ hh => .inl hh), hnx⟩

set_option maxHeartbeats 1000000 in
theorem held_any (b o : Nat) (v : Value) (l : List Int) (w : World) (h : RowAt .u32 w b o v l) :
    Calls Tryd.prog 31 #[.pointer (some ⟨b, o, none⟩)] w fun e w' => e = .returned (.int .i64 l.length) ∧ w' = w := by
  obtain ⟨hc, hf, hs, hne⟩ := h
  obtain ⟨a, c, rfl, -⟩ := hs.form
  clear hs hne
  generalize l.length = n at *
  go_enter Tryd.func31, Tryd.ntmps31
  go_wp2
  go_ret
  exact ⟨rfl, rfl⟩

set_option maxHeartbeats 1000000 in
theorem clone_any (a : Option Addr) (n c : Nat) (l : List Int) (w : World) (hr : Row .u32 w a l) (hl : l.length = n) (hnil : a = none → c = 0) (hlen : n ≤ 1000000000) :
    Calls Tryd.prog 44 #[.slice a n c] w fun e w' => ∃ v, e = .returned v ∧ Seg .u32 w' v l ∧ (∀ g, v.ownBlock = some g → w.heap.size ≤ g) ∧ Below w.heap.size w w' := by
  cases a with
  | none =>
    have hl0 : l = [] := by
      obtain ⟨b, off, ha, _⟩ := hr
      cases l with
      | nil => rfl
      | cons y r => exact absurd (ha (by simp)) (by simp)
    subst hl0
    have hc := hnil rfl
    simp at hl
    subst hl hc
    clear hnil hr
    have hq : ∀ w : World, (binOp .eql 27 (.slice none 0 0) (.slice none 0 0)).run Tryd.prog w = .ok (.bool true) w := fun w => Lib.run_eql_slice_nil (P := Tryd.prog) w _ _ none 0 0 0 0 Tryd.underlying27
    go_enter Tryd.func44, Tryd.ntmps44
    go_wp2
    go_ret
    exact ⟨_, rfl, seg_nil _ _, fun g hg => by simp [Value.ownBlock] at hg, Below.refl _ _⟩
  | some ad =>
    have HR : Hid (Row .u32 w (some ad) l ∧ l.length = n) := ⟨hr, hl⟩
    clear hr hnil hl
    have hq : ∀ w : World, (binOp .eql 27 (.slice (some ad) n c) (.slice none 0 0)).run Tryd.prog w = .ok (.bool false) w := fun w => Lib.run_eql_slice_nil (P := Tryd.prog) w _ _ (some ad) n c 0 0 Tryd.underlying27
    go_enter Tryd.func44, Tryd.ntmps44
    go_wp2_with (at_builtin; go_must (refine wpList_append_seg rfl _ _ 27 27 rfl .u32 44 4 Tryd.underlying27 info_u32 (.slice (some ⟨w.heap.size, 0, none⟩) 0 0) [] l rfl (seg_empty _ _ _) _ rfl (src_row Tryd.underlying27 (by exact row_old HR.out.1 _) HR.out.2 (fun h => by cases h)) (by have := HR.out.2; unfold maxLen; simp; omega) (by have := HR.out.2; simp; omega) ?_; intro v' w1 hs' hch hnx))
    go_ret
    refine ⟨v', rfl, hs', fun g hg => ?_, ?_⟩
    · rcases hnx g hg with e | e
      · simp [Value.ownBlock] at e; omega
      · simp at e; omega
    · exact ((Below.refl _ _).alloc (Nat.le_refl _) _).trans (hch.below (by simp) (fun k j hk hh => by simp [Value.ownBlock] at hh; omega))

set_option maxHeartbeats 1000000 in
theorem tell_any (b o : Nat) (v : Value) (l : List Int) (room : Int) (w : World) (h : RowAt .u32 w b o v l) (hr : (Lit.int .i64 room).wf = true) (hlen : l.length ≤ 1000000000) :
    Calls Tryd.prog 35 #[.pointer (some ⟨b, o, none⟩), .int .i64 room] w fun e w' => ∃ vr v', e = .returned vr ∧ RowAt .u32 w' b o v' (l.drop (frontN room l.length)) ∧ Seg .u32 w' vr (l.take (frontN room l.length)) ∧
      (∀ g, vr.ownBlock = some g → w.heap.size ≤ g) ∧ Chg (fun k j => k = b ∧ j = o) w w' ∧ (∀ g, v'.ownBlock = some g → v.ownBlock = some g) := by
  have hlt := h.lt
  have hfl := frontN_le room l.length
  obtain ⟨hc, hf, hs, hne⟩ := h
  have HNE : Hid (v.ownBlock ≠ some b) := hne
  clear hne
  obtain ⟨f, hfr⟩ : ∃ f, frontN room l.length = f := ⟨_, rfl⟩
  have hp := partU_any v l room w hs hr
  rw [hfr] at hp hfl ⊢
  clear hfr
  have HP : Hid (Calls Tryd.prog 43 #[v, .int .i64 room] w fun e w' => ∃ a c v2 nd, e = .returned (.tuple #[.slice a f c, v2]) ∧ w' = w.drewN nd ∧ Row .u32 w a (l.take f) ∧ (a = none → c = 0) ∧
      Seg .u32 w v2 (l.drop f) ∧ (∀ g, v2.ownBlock = some g → v.ownBlock = some g) ∧ (∀ b' o', a = some ⟨b', o', none⟩ → v.ownBlock = some b')) := hp
  clear hp
  go_enter Tryd.func35, Tryd.ntmps35
  go_wp2_with fail
  refine HP.out.mono ?_
  rintro e w1 ⟨a, c, v2, nd, rfl, rfl, hrow, hnil, hseg, hown, hfb⟩
  obtain ⟨a2, c2, hv2, -⟩ := hseg.form
  generalize (l.drop f).length = ln at hv2
  subst hv2
  have HRW : Hid (Row .u32 w a (l.take f) ∧ (a = none → c = 0) ∧ (∀ b' o', a = some ⟨b', o', none⟩ → v.ownBlock = some b')) := ⟨hrow, hnil, hfb⟩
  have HSG : Hid (Seg .u32 w (.slice a2 ln c2) (l.drop f) ∧ (∀ g, (Value.slice a2 ln c2).ownBlock = some g → v.ownBlock = some g)) := ⟨hseg, hown⟩
  have hc' : (w.drewN nd).cell? ⟨b, o, none⟩ = some v := hc
  have hf' : (w.drewN nd).frozen? ⟨b, o, none⟩ = false := hf
  have hx : Hid (Seg .u32 w v l) := hs
  clear hrow hnil hseg hown hc hf hs HP hfb
  go_wp2_with fail
  have hch := (chg_setCell (w.drewN nd) b o (.slice a2 ln c2))
  refine (clone_any a f c (l.take f) _ ?_ ?_ HRW.out.2.1 (by omega)).mono ?_
  · refine Row.chg (w := w.drewN nd) HRW.out.1 hch ?_
    intro b' o' e j hh
    have := HRW.out.2.2 b' o' e
    rw [hh.1] at this
    exact HNE.out this
  · simp; omega
  rintro e w2 ⟨vr, rfl, hsr, hfresh, hbel⟩
  go_wp2
  go_ret
  have hchb := chg_of_below hbel (Nat.le_refl _) (fun _ _ => False)
  obtain ⟨hsg, hso⟩ := HSG.out
  have hnb : (Value.slice a2 ln c2).ownBlock ≠ some b := fun e => HNE.out (hso b e)
  have hr1 : RowAt .u32 ((w.drewN nd).setCell ⟨b, o, none⟩ (.slice a2 ln c2)) b o (.slice a2 ln c2) (l.drop f) :=
    ⟨World.cell?_setCell_same _ _ _ hc', hch.freeAt hc' hf', Seg.chg (w := w.drewN nd) hsg hch (fun g j hg hh => hnb (by rw [hg, hh.1])), hnb⟩
  exact ⟨vr, _, rfl, hr1.chg hchb (fun _ _ _ h => h), hsr, fun g hg => (by simpa using hfresh g hg), (((Chg.refl _ w).drewN nd).trans2 hch (fun k j _ h => h) (fun k j _ h => h)).trans2 hchb (fun k j _ h => h) (fun k j _ h => h.elim), hso⟩

set_option maxHeartbeats 1000000 in
theorem inDone_any (b o : Nat) (p q : Int) (en : Bool) (v : Value) (l : List Int) (w : World) (h : BaseAt w b o p q en) (h2 : RowAt .u32 w b (o + 3) v l) :
    Calls Tryd.prog 25 #[.pointer (some ⟨b, o, none⟩)] w fun e w' => e = .returned (.bool (!goB q en && (l.length == 0))) ∧ w' = w := by
  by_cases hg : goB q en = true
  · go_enter Tryd.func25, Tryd.ntmps25
    go_wp2_with (go_at_call 30; refine (going_any _ _ _ _ _ _ h).mono ?_; rintro e w ⟨rfl, rfl⟩)
    go_ret
    exact ⟨ret_bool (by simp [hg]), rfl⟩
  · have hg' : goB q en = false := by simpa using hg
    clear hg
    have hl : ((l.length : Int) == 0) = (l.length == 0) := by
      rw [Bool.eq_iff_iff]; simp
    have HL : Hid (((l.length : Int) == 0) = (l.length == 0)) := hl
    clear hl
    generalize hn : l.length = n at *
    have HN : Hid (l.length = n) := hn
    clear hn
    go_enter Tryd.func25, Tryd.ntmps25
    go_wp2_with fail
    refine (going_any _ _ _ _ _ _ h).mono ?_
    rintro e w ⟨rfl, rfl⟩
    go_wp2_with fail
    refine (held_any _ _ _ _ _ h2).mono ?_
    rintro e w ⟨rfl, rfl⟩
    rw [HN.out]
    go_wp2
    go_ret
    exact ⟨ret_bool (by simpa [hg'] using HL.out), rfl⟩

end Stp
end Go.Proofs.YtohobpjiikpdmaaDoor
