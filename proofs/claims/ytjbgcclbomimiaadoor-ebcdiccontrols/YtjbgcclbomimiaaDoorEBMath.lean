/-
  The text of layer 8 as plain functions on numbers and lists: layer 6's, each byte turned by the table; how little of a text matters where there is little room. No Go text is named here; no condition.
-/
import Derived.Test.YtjbgcclbomimiaaDoorM8Mth
import Derived.Test.YtjbgcclbomimiaaDoorPerMath
import Derived.Test.YtjbgcclbomimiaaDoorEncM
namespace Go.Proofs.YtjbgcclbomimiaaDoor.EB
open Bas Scn Sca Cod Per
set_option linter.unusedVariables false

/-- There is one way alone. -/
abbrev Par := Unit
/-- What has begun, turned back. -/
abbrev St := List Int
def st0 (_ : Par) : St := []
def rest (s : St) : Bool := s.isEmpty
/-- A byte more. -/
def stepU (_ : Par) (s : St) (b : Int) : Option (St × List Int) := M8.stepU () s (at_ frL b)
/-- A scalar's bytes. -/
def oneN (_ : Par) (c : Int) : List Int := turnL tabL (M8.oneN () c)
theorem step_one (π : Par) (s : St) (b : Int) (x : St × List Int) (h : stepU π s b = some x) : x.2.length ≤ 1 := M8.step_one () s _ x h
theorem scan_turn (π : Par) (l : List Int) (s : St) : scan (stepU π) s l = scan (M8.stepU ()) s (turnL frL l) := by
  induction l generalizing s with
  | nil => rfl
  | cons b r ih =>
    show scan (stepU π) s (b :: r) = scan (M8.stepU ()) s (at_ frL b :: turnL frL r)
    cases h : M8.stepU () s (at_ frL b) with
    | none => rw [scan_none (f := stepU π) r h, scan_none _ h]
    | some x => rw [scan_some (f := stepU π) r h, scan_some _ h, ih]
theorem feed_turn (π : Par) (room : Int) (l : List Int) (s : St) (n : Nat) : feed (stepU π) room s n l = feed (M8.stepU ()) room s n (turnL frL l) := by
  induction l generalizing s n with
  | nil => rfl
  | cons b r ih =>
    show feed (stepU π) room s n (b :: r) = feed (M8.stepU ()) room s n (at_ frL b :: turnL frL r)
    by_cases hn : (n : Int) < room
    · cases h : M8.stepU () s (at_ frL b) with
      | none => rw [feed_none (f := stepU π) r hn h, feed_none _ hn h]
      | some x => rw [feed_some (f := stepU π) r hn h, feed_some _ hn h, ih]
    · rw [feed_full _ hn, feed_full _ hn]
theorem turn_byte {l : List Int} (h : ∀ x ∈ l, 0 ≤ x ∧ x < 256) : (∀ x ∈ turnL tabL l, 0 ≤ x ∧ x < 256) ∧ (∀ x ∈ turnL frL l, 0 ≤ x ∧ x < 256) := by
  constructor
  · intro x hx
    obtain ⟨y, hy, rfl⟩ := List.mem_map.1 hx
    exact tab_byte (h y hy).1 (h y hy).2
  · intro x hx
    obtain ⟨y, hy, rfl⟩ := List.mem_map.1 hx
    exact fr_byte (h y hy).1 (h y hy).2
theorem fr_of_tab {l : List Int} (h : ∀ x ∈ l, 0 ≤ x ∧ x < 256) : turnL frL (turnL tabL l) = l := turn_back (fun x hx => fr_tab (h x hx).1 (h x hx).2)
theorem tab_of_fr {l : List Int} (h : ∀ x ∈ l, 0 ≤ x ∧ x < 256) : turnL tabL (turnL frL l) = l := turn_back (fun x hx => tab_fr (h x hx).1 (h x hx).2)
theorem turnL_nil (t : List Int) : turnL t [] = [] := rfl
theorem turnL_take (t l : List Int) (k : Nat) : (turnL t l).take k = turnL t (l.take k) := by simp [turnL, List.map_take]
theorem turnL_drop (t l : List Int) (k : Nat) : (turnL t l).drop k = turnL t (l.drop k) := by simp [turnL, List.map_drop]
theorem oneN_max (π : Par) (c : Int) : (oneN π c).length ≤ 5 := by unfold oneN; rw [turnL_len]; exact M8.oneN_max () c
theorem oneN_byte (π : Par) (c : Int) (h : isB c = true) (h0 : 0 ≤ c) : ∀ x ∈ oneN π c, 0 ≤ x ∧ x < 256 := (turn_byte (M8.oneN_byte () c h h0)).1
theorem bytesOf_turn (π : Par) (l : List Int) : bytesOf (oneN π) l = turnL tabL (bytesOf (M8.oneN ()) l) := by
  induction l with
  | nil => rfl
  | cons c r ih => rw [bytesOf, bytesOf, turnL_append, ih]; rfl
theorem scan_back (π : Par) (l : List Int) (h : ∀ c ∈ l, isB c = true ∧ 0 ≤ c) : scan (stepU π) [] (bytesOf (oneN π) l) = ⟨l, (bytesOf (oneN π) l).length, [], false⟩ := by
  rw [scan_turn, bytesOf_turn, turnL_len, fr_of_tab (bytesOf_byte (M8.oneN ()) (M8.oneN_byte ()) l h), M8.scan_back () l h]
/-- A text that goes to its end is its scalars' bytes. -/
theorem whole_bytes (π : Par) (l : List Int) (hl : ∀ x ∈ l, 0 ≤ x ∧ x < 256) (hb : (scan (stepU π) [] l).bad = false) (hs : (scan (stepU π) [] l).st = []) :
    bytesOf (oneN π) (scan (stepU π) [] l).told = l ∧ ∀ c ∈ (scan (stepU π) [] l).told, isB c = true ∧ 0 ≤ c := by
  rw [scan_turn] at hb hs ⊢
  obtain ⟨f1, f2, -⟩ := M8.scan_facts () (turnL frL l) (turn_byte hl).2 [] (M8.good_nil ()) (by simp)
  have hea := scan_all (M8.stepU ()) (turnL frL l) [] hb
  rw [hs, List.append_nil, List.nil_append, hea, List.take_length] at f1
  exact ⟨by rw [bytesOf_turn, f1, tab_of_fr hl], f2⟩
/-- Five bytes for each that there is room for are enough. -/
theorem feed_cut (room : Int) (m l : List Int) (s : M8.St) (n : Nat) (hg : M8.Good () s) (hs : ∀ x ∈ s, 0 ≤ x ∧ x < 256) (hl : ∀ x ∈ l, 0 ≤ x ∧ x < 256) (h : 5 * (room - n) ≤ (l.length : Int) + s.length) :
    feed (M8.stepU ()) room s n (l ++ m) = feed (M8.stepU ()) room s n l := by
  induction l generalizing s n with
  | nil =>
    have := hg.len
    simp only [List.length_nil] at h
    rw [feed_full _ (by omega), feed_full _ (by omega)]
  | cons b r ih =>
    have hb := hl b (by simp)
    have hr : ∀ x ∈ r, 0 ≤ x ∧ x < 256 := fun x hx => hl x (by simp [hx])
    rw [List.cons_append]
    by_cases hn : (n : Int) < room
    · cases hf : M8.stepU () s b with
      | none => rw [feed_none _ hn hf, feed_none _ hn hf]
      | some x =>
        rw [feed_some _ hn hf, feed_some _ hn hf]
        have hlen := hg.len
        simp only [List.length_cons] at h
        rcases M8.step_cases hg hs hb hf with ⟨rfl, hg2⟩ | ⟨c, rfl, -⟩
        · rw [ih (s ++ [b]) (n + ([] : List Int).length) hg2 (M8.byte_snoc hs hb) hr (by simp; omega)]
        · rw [ih [] (n + [c].length) (M8.good_nil ()) (by simp) hr (by simp; omega)]
    · rw [feed_full _ hn, feed_full _ hn]
theorem feed_within (π : Par) (room : Int) (l : List Int) (s : St) (k : Nat) (hg : M8.Good () s) (hs : ∀ x ∈ s, 0 ≤ x ∧ x < 256) (hl : ∀ x ∈ l, 0 ≤ x ∧ x < 256) (hk : 5 * room ≤ k) (hkl : k ≤ l.length) :
    feed (M8.stepU ()) room s 0 (turnL frL (l.take k)) = feed (stepU π) room s 0 l := by
  rw [feed_turn]
  conv => rhs; rw [← List.take_append_drop k l, turnL_append]
  rw [feed_cut room _ (turnL frL (l.take k)) s 0 hg hs (turn_byte (fun x hx => hl x (List.mem_of_mem_take hx))).2]
  rw [turnL_len, List.length_take]; omega
/-- An encoder's bytes, turned. -/
def ERes.turn (t : List Int) (x : ERes) : ERes := ⟨turnL t x.told, x.eaten, turnL t x.kept, x.bad⟩
theorem enc_turn (t : List Int) (one : Int → List Int) (room : Int) (l told K : List Int) :
    enc (fun c => turnL t (one c)) room (turnL t told) (turnL t K) l = ERes.turn t (enc one room told K l) := by
  induction l generalizing told K with
  | nil => rfl
  | cons c r ih =>
    by_cases hK : K = []
    · subst hK
      rw [turnL_nil]
      by_cases hc : isB c = true
      · rw [enc_one _ hc, enc_one _ hc, turnL_len, turnL_len, turnL_take, turnL_drop, ← turnL_append, ih]
        rfl
      · rw [enc_bad _ (by simpa using hc), enc_bad _ (by simpa using hc)]
        rfl
    · have hK2 : turnL t K ≠ [] := fun e => hK (List.length_eq_zero_iff.1 (by rw [← turnL_len t K, e]; rfl))
      rw [enc_kept _ hK, enc_kept _ hK2]
      rfl
theorem encF_turn (π : Par) (room : Int) (K L : List Int) : encF (oneN π) room (turnL tabL K) L = ERes.turn tabL (encF (M8.oneN ()) room K L) := by
  unfold encF
  rw [turnL_len, turnL_take, turnL_drop]
  exact enc_turn tabL (M8.oneN ()) room L _ _
theorem enc_byte (room : Int) (l told K : List Int) (h1 : ∀ x ∈ told, 0 ≤ x ∧ x < 256) (h2 : ∀ x ∈ K, 0 ≤ x ∧ x < 256) (hl : ∀ c ∈ l, 0 ≤ c) :
    (∀ x ∈ (enc (M8.oneN ()) room told K l).told, 0 ≤ x ∧ x < 256) ∧ (∀ x ∈ (enc (M8.oneN ()) room told K l).kept, 0 ≤ x ∧ x < 256) := by
  induction l generalizing told K with
  | nil => exact ⟨h1, h2⟩
  | cons c r ih =>
    by_cases hK : K = []
    · subst hK
      by_cases hc : isB c = true
      · rw [enc_one _ hc]
        have hb := M8.oneN_byte () c hc (hl c (by simp))
        refine ih _ _ (fun x hx => ?_) (fun x hx => hb x (List.mem_of_mem_drop hx)) (fun c hc => hl c (by simp [hc]))
        rw [List.mem_append] at hx
        rcases hx with hx | hx
        · exact h1 x hx
        · exact hb x (List.mem_of_mem_take hx)
      · rw [enc_bad _ (by simpa using hc)]; exact ⟨h1, by simp⟩
    · rw [enc_kept _ hK]; exact ⟨h1, h2⟩
theorem encF_byte (room : Int) (K l : List Int) (h2 : ∀ x ∈ K, 0 ≤ x ∧ x < 256) (hl : ∀ c ∈ l, 0 ≤ c) :
    (∀ x ∈ (encF (M8.oneN ()) room K l).told, 0 ≤ x ∧ x < 256) ∧ (∀ x ∈ (encF (M8.oneN ()) room K l).kept, 0 ≤ x ∧ x < 256) :=
  enc_byte room l _ _ (fun x hx => h2 x (List.mem_of_mem_take hx)) (fun x hx => h2 x (List.mem_of_mem_drop hx)) hl
end Go.Proofs.YtjbgcclbomimiaaDoor.EB
