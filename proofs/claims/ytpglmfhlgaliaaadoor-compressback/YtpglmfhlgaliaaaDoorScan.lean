/-
  A machine that eats numbers one by one and tells some: what it tells of a list, whole or in parts, with or without room. Plain facts; no Go text is named here; no condition.
-/
import Derived.Test.YtpglmfhlgaliaaaDoorBasMath
namespace Go.Proofs.YtpglmfhlgaliaaaDoor.Scn
open Bas

/-- What came of it: what was told, how many were eaten, the state, was one wrong? -/
structure Res (σ : Type) where
  told : List Int
  eaten : Nat
  st : σ
  bad : Bool
/-- One number: wrong, or the next state and what is told. -/
abbrev Stp (σ : Type) := σ → Int → Option (σ × List Int)
variable {σ : Type}
/-- .. behind what was told and eaten before. -/
def Res.pre (t : List Int) (i : Nat) (x : Res σ) : Res σ := ⟨t ++ x.told, i + x.eaten, x.st, x.bad⟩
theorem Res.pre_nil (x : Res σ) : x.pre [] 0 = x := by simp [Res.pre]
theorem Res.pre_pre (t u : List Int) (i j : Nat) (x : Res σ) : (x.pre u j).pre t i = x.pre (t ++ u) (i + j) := by simp [Res.pre, Nat.add_assoc]
/-- A whole list. -/
def scan (f : Stp σ) : σ → List Int → Res σ
  | s, [] => ⟨[], 0, s, false⟩
  | s, b :: r => match f s b with
    | none => ⟨[], 0, s, true⟩
    | some x => (scan f x.1 r).pre x.2 1
/-- A part, with so much room, of which n are told already. -/
def feed (f : Stp σ) (room : Int) : σ → Nat → List Int → Res σ
  | s, _, [] => ⟨[], 0, s, false⟩
  | s, n, b :: r => if (n : Int) < room then match f s b with
      | none => ⟨[], 0, s, true⟩
      | some x => (feed f room x.1 (n + x.2.length) r).pre x.2 1
    else ⟨[], 0, s, false⟩
theorem scan_none {f : Stp σ} {s : σ} {b : Int} (r : List Int) (h : f s b = none) : scan f s (b :: r) = ⟨[], 0, s, true⟩ := by simp [scan, h]
theorem scan_some {f : Stp σ} {s : σ} {b : Int} (r : List Int) {x : σ × List Int} (h : f s b = some x) : scan f s (b :: r) = (scan f x.1 r).pre x.2 1 := by simp [scan, h]
theorem feed_none {f : Stp σ} {room : Int} {s : σ} {n : Nat} {b : Int} (r : List Int) (hn : (n : Int) < room) (h : f s b = none) : feed f room s n (b :: r) = ⟨[], 0, s, true⟩ := by simp [feed, hn, h]
theorem feed_some {f : Stp σ} {room : Int} {s : σ} {n : Nat} {b : Int} (r : List Int) (hn : (n : Int) < room) {x : σ × List Int} (h : f s b = some x) : feed f room s n (b :: r) = (feed f room x.1 (n + x.2.length) r).pre x.2 1 := by simp [feed, hn, h]
theorem feed_full {f : Stp σ} {room : Int} {s : σ} {n : Nat} (l : List Int) (hn : ¬ (n : Int) < room) : feed f room s n l = ⟨[], 0, s, false⟩ := by
  cases l with
  | nil => rfl
  | cons b r => simp [feed, hn]
/-- Parts play no part. -/
theorem scan_feed (f : Stp σ) (room : Int) (L : List Int) (s : σ) (n k : Nat) :
    scan f s L = if (feed f room s n (L.take k)).bad = true then feed f room s n (L.take k)
      else (scan f (feed f room s n (L.take k)).st (L.drop (feed f room s n (L.take k)).eaten)).pre (feed f room s n (L.take k)).told (feed f room s n (L.take k)).eaten := by
  induction L generalizing s n k with
  | nil => simp [feed, scan, Res.pre]
  | cons b r ih =>
    cases k with
    | zero => simp [feed, Res.pre]
    | succ k =>
      rw [List.take_succ_cons]
      by_cases hn : (n : Int) < room
      · cases h : f s b with
        | none => rw [feed_none _ hn h, scan_none _ h]; simp
        | some x =>
          rw [feed_some _ hn h, scan_some _ h]
          have := ih x.1 (n + x.2.length) k
          by_cases hb : (feed f room x.1 (n + x.2.length) (r.take k)).bad = true
          · rw [if_pos hb] at this
            rw [if_pos (by simpa [Res.pre] using hb), ← this]
          · rw [if_neg hb] at this
            rw [if_neg (by simpa [Res.pre] using hb), this]
            simp only [Res.pre_pre]
            simp only [Res.pre]
            rw [show 1 + (feed f room x.1 (n + x.2.length) (r.take k)).eaten = (feed f room x.1 (n + x.2.length) (r.take k)).eaten + 1 by omega, List.drop_succ_cons]
      · rw [feed_full _ hn]; simp [Res.pre]
theorem feed_le (f : Stp σ) (room : Int) (l : List Int) (s : σ) (n : Nat) : (feed f room s n l).eaten ≤ l.length := by
  induction l generalizing s n with
  | nil => simp [feed]
  | cons b r ih =>
    by_cases hn : (n : Int) < room
    · cases h : f s b with
      | none => rw [feed_none _ hn h]; simp
      | some x => rw [feed_some _ hn h]; have := ih x.1 (n + x.2.length); simp [Res.pre]; omega
    · rw [feed_full _ hn]; simp
theorem feed_room (f : Stp σ) (h1 : ∀ s b x, f s b = some x → x.2.length ≤ 1) (room : Int) (l : List Int) (s : σ) (n : Nat) (hn : (n : Int) ≤ room) : ((feed f room s n l).told.length : Int) + n ≤ room := by
  induction l generalizing s n with
  | nil => simp [feed]; omega
  | cons b r ih =>
    by_cases hlt : (n : Int) < room
    · cases h : f s b with
      | none => rw [feed_none _ hlt h]; simp; omega
      | some x =>
        have hx := h1 s b x h
        have := ih x.1 (n + x.2.length) (by omega)
        rw [feed_some _ hlt h]; simp [Res.pre]; omega
    · rw [feed_full _ hlt]; simp; omega
theorem feed_none_told (f : Stp σ) (room : Int) (l : List Int) (s : σ) (n : Nat) (hn : room ≤ n) : feed f room s n l = ⟨[], 0, s, false⟩ := feed_full _ (by omega)
theorem feed_goes (f : Stp σ) (room : Int) (l : List Int) (s : σ) (n : Nat) (hn : (n : Int) < room) (hl : l ≠ []) : (feed f room s n l).bad = true ∨ 1 ≤ (feed f room s n l).eaten := by
  cases l with
  | nil => exact absurd rfl hl
  | cons b r =>
    cases h : f s b with
    | none => rw [feed_none _ hn h]; simp
    | some x => rw [feed_some _ hn h]; simp [Res.pre]
theorem feed_good (f : Stp σ) (G : σ → Prop) (hG : ∀ s b x, G s → f s b = some x → G x.1) (room : Int) (l : List Int) (s : σ) (n : Nat) (hs : G s) : G (feed f room s n l).st := by
  induction l generalizing s n with
  | nil => exact hs
  | cons b r ih =>
    by_cases hlt : (n : Int) < room
    · cases h : f s b with
      | none => rw [feed_none _ hlt h]; exact hs
      | some x => rw [feed_some _ hlt h]; exact ih x.1 _ (hG s b x hs h)
    · rw [feed_full _ hlt]; exact hs
theorem scan_good (f : Stp σ) (G : σ → Prop) (hG : ∀ s b x, G s → f s b = some x → G x.1) (l : List Int) (s : σ) (hs : G s) : G (scan f s l).st := by
  induction l generalizing s with
  | nil => exact hs
  | cons b r ih =>
    cases h : f s b with
    | none => rw [scan_none _ h]; exact hs
    | some x => rw [scan_some _ h]; exact ih x.1 (hG s b x hs h)
theorem scan_le (f : Stp σ) (l : List Int) (s : σ) : (scan f s l).eaten ≤ l.length := by
  induction l generalizing s with
  | nil => simp [scan]
  | cons b r ih =>
    cases h : f s b with
    | none => rw [scan_none _ h]; simp
    | some x => rw [scan_some _ h]; have := ih x.1; simp [Res.pre]; omega
theorem scan_all (f : Stp σ) (l : List Int) (s : σ) (h : (scan f s l).bad = false) : (scan f s l).eaten = l.length := by
  induction l generalizing s with
  | nil => simp [scan]
  | cons b r ih =>
    cases hf : f s b with
    | none => rw [scan_none _ hf] at h; simp at h
    | some x => rw [scan_some _ hf] at h ⊢; have := ih x.1 (by simpa [Res.pre] using h); simp [Res.pre]; omega
theorem scan_lt (f : Stp σ) (l : List Int) (s : σ) (h : (scan f s l).bad = true) : (scan f s l).eaten < l.length := by
  induction l generalizing s with
  | nil => simp [scan] at h
  | cons b r ih =>
    cases hf : f s b with
    | none => rw [scan_none _ hf]; simp
    | some x => rw [scan_some _ hf] at h ⊢; have := ih x.1 (by simpa [Res.pre] using h); simp [Res.pre]; omega
theorem scan_append (f : Stp σ) (l m : List Int) (s : σ) :
    scan f s (l ++ m) = if (scan f s l).bad = true then scan f s l else (scan f (scan f s l).st m).pre (scan f s l).told (scan f s l).eaten := by
  induction l generalizing s with
  | nil => simp [scan, Res.pre]
  | cons b r ih =>
    rw [List.cons_append]
    cases hf : f s b with
    | none => rw [scan_none _ hf, scan_none _ hf]; simp
    | some x =>
      rw [scan_some _ hf, scan_some _ hf, ih x.1]
      by_cases hb : (scan f x.1 r).bad = true
      · rw [if_pos hb, if_pos (by simpa [Res.pre] using hb)]
      · rw [if_neg hb, if_neg (by simpa [Res.pre] using hb)]
        simp [Res.pre, Nat.add_assoc]
/-- What was eaten, scanned again. -/
theorem scan_take (f : Stp σ) (l : List Int) (s : σ) : scan f s (l.take (scan f s l).eaten) = ⟨(scan f s l).told, (scan f s l).eaten, (scan f s l).st, false⟩ := by
  induction l generalizing s with
  | nil => simp [scan]
  | cons b r ih =>
    cases hf : f s b with
    | none => rw [scan_none _ hf]; simp [scan]
    | some x =>
      rw [scan_some _ hf]
      have := ih x.1
      simp only [Res.pre]
      rw [show 1 + (scan f x.1 r).eaten = (scan f x.1 r).eaten + 1 by omega, List.take_succ_cons, scan_some _ hf, this]
      simp [Res.pre]; omega
/-- With the number that is wrong, whatever follows, it is wrong there. -/
theorem scan_wrong (f : Stp σ) (l m : List Int) (s : σ) (h : (scan f s l).bad = true) : scan f s (l.take ((scan f s l).eaten + 1) ++ m) = scan f s l := by
  induction l generalizing s with
  | nil => simp [scan] at h
  | cons b r ih =>
    cases hf : f s b with
    | none => rw [scan_none _ hf]; simp [scan_none _ hf]
    | some x =>
      rw [scan_some _ hf] at h ⊢
      have hb : (scan f x.1 r).bad = true := by simpa [Res.pre] using h
      simp only [Res.pre]
      rw [show 1 + (scan f x.1 r).eaten + 1 = (scan f x.1 r).eaten + 1 + 1 by omega, List.take_succ_cons, List.cons_append, scan_some _ hf, ih x.1 hb]
      rfl
end Go.Proofs.YtpglmfhlgaliaaaDoor.Scn
