/-
  What the laws of layer 15 share: bytes and sizes of texts; lists that came in; the document's Units and Tagged, as walks over the translated text. The condition: lists are small.
-/
import Derived.Test.YtpglmfhlgaliaaaDoorCPWr2
import Derived.Test.YtpglmfhlgaliaaaDoorCPAwk
import Derived.Test.YtpglmfhlgaliaaaDoorCPTab
import Derived.Test.YtpglmfhlgaliaaaDoorPair
namespace Go.Proofs.YtpglmfhlgaliaaaDoor
open Go.ChangeShapes Go.WideShapes Go.ChangeAt Go.RowKit
namespace CP
open Bas Sca Stp Scn Cod Cmp Cps
set_option linter.unusedVariables false
set_option linter.unusedSimpArgs false

theorem rest_byte {plain : Bool} (l : List Int) (h : ∀ c ∈ l, isB c = true ∧ 0 ≤ c) : ∀ s, InvE plain s → ∀ x ∈ restC plain s l, 0 ≤ x ∧ x < 256 := by
  induction l with
  | nil => intro s _ x hx; cases hx
  | cons c r ih =>
    intro s hs x hx
    have hc := h c (by simp)
    simp only [restC] at hx
    rcases List.mem_append.1 hx with hx | hx
    · exact one_byte hs hc.2 hc.1 _ x hx
    · exact ih (fun y hy => h y (List.mem_cons_of_mem _ hy)) _ (one_rd hs hc.2 hc.1 r.head? []).2 x hx
theorem text_byte {plain : Bool} (l : List Int) (h : ∀ c ∈ l, isB c = true ∧ 0 ≤ c) : ∀ x ∈ textC plain l, 0 ≤ x ∧ x < 256 := by
  cases l with
  | nil => intro x hx; cases hx
  | cons c r =>
    intro x hx
    simp only [textC] at hx
    split at hx
    · rcases List.mem_append.1 hx with hx | hx
      · simp only [List.mem_cons, List.not_mem_nil, or_false] at hx; omega
      · exact rest_byte r (fun y hy => h y (List.mem_cons_of_mem _ hy)) es0 (inv_0 plain) x hx
    · exact rest_byte (c :: r) h es0 (inv_0 plain) x hx
theorem text_max {plain : Bool} (l : List Int) (h : ∀ c ∈ l, isB c = true) : (textC plain l).length ≤ 5 * l.length + 5 := by
  rw [← tail_text h]; exact tail_max plain l cs0
theorem scalars_of {l : List Int} (h : ¬ okLen l < l.length) (hf : ∀ x ∈ l, (Lit.int .u32 x).wf = true) : ∀ c ∈ l, isB c = true ∧ 0 ≤ c := by
  have hle := okLen_le l
  have hall := okLen_all l (by omega)
  intro c hc
  obtain ⟨i, hi, rfl⟩ := List.mem_iff_getElem.1 hc
  have h1 := hall i hi
  have h2 := hf _ hc
  have e : nth l i = l[i] := by simp [nth, hi]
  rw [e] at h1
  exact ⟨h1, fits_u32 h2⟩
theorem came_seg {w : World} {v : Value} {L : List Int} {b : Nat} {vE : Value} (h : Seg .u32 w v L) (hf : ∀ g, v.ownBlock = some g → ¬ footE b vE g) : Came w v L b vE := by
  rcases h with ⟨rfl, rfl⟩ | ⟨g, off, cap, rfl, hg, h1, h2, h3, h4, h5⟩
  · exact .inl ⟨none, rfl, rfl⟩
  · exact .inr ⟨g, off, cap, rfl, h1, h2, ⟨g, off, fun _ => rfl, h3⟩, fun _ => hf g rfl⟩
theorem un_is (l : List Int) (h : ∀ c ∈ l, isB c = true) : unitsL l = (unL l : Int) := by
  induction l with
  | nil => rfl
  | cons c r ih =>
    have hc := h c (by simp)
    have := ih (fun x hx => h x (List.mem_cons_of_mem _ hx))
    simp only [unitsL, unL, this]
    unfold uOf unN
    rw [if_pos hc]
    by_cases e : c < 65536
    · rw [if_pos (by omega), if_pos e]; omega
    · rw [if_neg (by omega), if_neg e]; omega
theorem tg_snoc (l : List Int) (c : Int) : tgL (l ++ [c]) = tgL l + tgN c := by
  induction l with
  | nil => simp [tgL]
  | cons d r ih => simp only [List.cons_append, tgL, ih]; omega
theorem tg_le (l : List Int) : tgL l ≤ l.length := by
  induction l with
  | nil => simp [tgL]
  | cons d r ih => simp only [tgL, List.length_cons]; unfold tgN; split <;> omega
theorem un_le (l : List Int) : unL l ≤ 2 * l.length := by
  induction l with
  | nil => simp [unL]
  | cons d r ih => simp only [unL, List.length_cons]; unfold unN; split <;> omega
set_option maxHeartbeats 400000 in
theorem rUnits_any (a : Option Addr) (len cap : Nat) (l : List Int) (w : World) (hr : Row .u32 w a l) (hl : l.length = len) (hm : len ≤ 140737488355328) :
    Calls Tryd.prog 25 #[.slice a len cap] w fun e w' => e = .returned (.int .i64 (unitsL l)) ∧ w' = w := by
  obtain ⟨b, off, ha, hc⟩ := hr
  have HN : Hid (l ≠ [] → a = some ⟨b, off, none⟩) := ha
  clear ha
  go_enter Tryd.func25, Tryd.ntmps25
  go_wp2
  go_loop [3, 4] (fun n i => ∃ k : Nat, k ≤ len ∧ i = .int .i64 k ∧ n = .int .i64 (unitsL (l.take k))) (fun _ i => len - (intOf i).toNat)
  case atStart => exact ⟨0, Nat.zero_le _, rfl, rfl⟩
  case round =>
    obtain ⟨k, hk, rfl, rfl⟩ := hrel
    have hd := unitsL_take_bd l k (by omega)
    by_cases hlt : k < len
    · obtain rfl := HN.out (ne_nil_of hl hlt)
      have hcell := hc k (by omega)
      have HS : Hid (unitsL (l.take (k + 1)) = unitsL (l.take k) + uOf (nth l k)) := unitsL_snoc l k (by omega)
      by_cases hb : isB (nth l k) = true
      · have HB : Hid (isB (nth l k) = true) := hb
        by_cases hg : nth l k ≤ 65535
        · go_wp2_with (go_at_call 20; refine (rIs_any _ _).mono ?_; rintro e w' ⟨rfl, rfl⟩)
          go_round
          case rel => exact ⟨k + 1, by omega, by go_num, by rw [HS.out, uOf, if_pos HB.out, if_pos hg]⟩
          case measure => simp [intOf]; omega
        · go_wp2_with (go_at_call 20; refine (rIs_any _ _).mono ?_; rintro e w' ⟨rfl, rfl⟩)
          go_round
          case rel => exact ⟨k + 1, by omega, by go_num, by rw [HS.out, uOf, if_pos HB.out, if_neg (by omega)]; go_num⟩
          case measure => simp [intOf]; omega
      · have hb' : isB (nth l k) = false := by simpa using hb
        have HB : Hid (¬ isB (nth l k) = true) := hb
        clear hb
        go_wp2_with (go_at_call 20; refine (rIs_any _ _).mono ?_; rintro e w' ⟨rfl, rfl⟩)
        go_round
        case rel => exact ⟨k + 1, by omega, by go_num, by rw [HS.out, uOf, if_neg HB.out]; go_num⟩
        case measure => simp [intOf]; omega
    · go_wp2
      go_ret
      exact ⟨ret_int (by rw [List.take_of_length_le (by omega)]), rfl⟩
set_option maxHeartbeats 400000 in
theorem tUnits_any (a : Option Addr) (len cap : Nat) (l : List Int) (w : World) (hr : Row .u32 w a l) (hl : l.length = len) (hm : len ≤ 1000000) (hs : ∀ c ∈ l, isB c = true) :
    Calls Tryd.prog 15 #[.slice a len cap] w fun e w' => e = .returned (.int .i64 (unL l)) ∧ w' = w := by
  have hu := rUnits_any a len cap l w hr hl (by omega)
  rw [un_is l hs] at hu
  generalize unL l = u at *
  clear hr hl hs
  go_enter Tryd.func15, Tryd.ntmps15
  go_wp2_with fail
  refine hu.mono ?_
  rintro e w1 ⟨rfl, hw⟩
  rw [hw]
  clear hw w1
  go_wp2
  go_ret
  exact ⟨rfl, rfl⟩
set_option maxHeartbeats 1000000 in
theorem tTagged_any (a : Option Addr) (len cap : Nat) (l : List Int) (w : World) (hr : Row .u32 w a l) (hl : l.length = len) (hm : len ≤ 1000000) :
    Calls Tryd.prog 16 #[.slice a len cap] w fun e w' => e = .returned (.int .i64 (tgL l)) ∧ w' = w := by
  obtain ⟨b, off, ha, hc⟩ := hr
  have HN : Hid ((l ≠ [] → a = some ⟨b, off, none⟩) ∧ l.length = len) := ⟨ha, hl⟩
  have HC : Hid (∀ i, i < l.length → w.cell? ⟨b, off + i, none⟩ = some (.int .u32 (nth l i))) := hc
  clear ha hc hl
  go_enter Tryd.func16, Tryd.ntmps16
  go_wp2
  go_loopw [3, 4] (fun n i wr => ∃ k : Nat, k ≤ len ∧ i = .int .i64 k ∧ n = .int .i64 (tgL (l.take k)) ∧ wr = w) (fun _ i _ => len - (intOf i).toNat)
  case atStart => exact ⟨0, Nat.zero_le _, rfl, rfl, rfl⟩
  case round =>
    obtain ⟨k, hk, rfl, rfl, hw⟩ := hrel
    subst hw
    by_cases hlt : (k : Int) < (len : Int)
    · have hkl : k < l.length := by have := HN.out.2; omega
      obtain rfl := HN.out.1 (by intro e; subst e; simp at hkl)
      have hcell := HC.out k hkl
      have hz := tg_le (l.take k)
      rw [List.length_take] at hz
      have hs := tg_snoc (l.take k) (nth l k)
      rw [← take_snoc l k hkl] at hs
      obtain ⟨y, hy⟩ : ∃ y, nth l k = y := ⟨_, rfl⟩
      obtain ⟨m, hm2⟩ : ∃ m, tgL (l.take k) = m := ⟨_, rfl⟩
      rw [hy] at hcell hs
      rw [hm2] at hs hz ⊢
      clear hy hm2 hkl
      by_cases h1 : 57344 ≤ y
      · by_cases h2 : y ≤ 62207
        · have HS : Hid (tgL (l.take (k + 1)) = m + 1) := by show _ = _; rw [hs]; unfold tgN; rw [if_pos (tag_yes h1 h2)]
          clear hs
          go_wp2
          go_roundw
          case rel => exact ⟨k + 1, by omega, by go_num, by rw [HS.out]; go_num, trivial⟩
          case measure => simp [intOf]; omega
        · have HS : Hid (tgL (l.take (k + 1)) = m) := by show _ = _; rw [hs]; unfold tgN; rw [if_neg (by rw [tag_no (by omega)]; simp)]; rfl
          clear hs
          go_wp2
          go_roundw
          case rel => exact ⟨k + 1, by omega, by go_num, by rw [HS.out], trivial⟩
          case measure => simp [intOf]; omega
      · have HS : Hid (tgL (l.take (k + 1)) = m) := by show _ = _; rw [hs]; unfold tgN; rw [if_neg (by rw [tag_no (by omega)]; simp)]; rfl
        clear hs
        go_wp2
        go_roundw
        case rel => exact ⟨k + 1, by omega, by go_num, by rw [HS.out], trivial⟩
        case measure => simp [intOf]; omega
    · have HF : Hid (l.take k = l) := by
        show _ = _
        rw [show k = l.length by have := HN.out.2; omega, List.take_length]
      obtain ⟨m, hm2⟩ : ∃ m, tgL (l.take k) = m := ⟨_, rfl⟩
      have HM : Hid (tgL (l.take k) = m) := hm2
      rw [hm2]
      clear hm2
      go_wp2
      go_ret
      exact ⟨ret_int (by rw [← HM.out, HF.out]), rfl⟩
end CP
end Go.Proofs.YtpglmfhlgaliaaaDoor
