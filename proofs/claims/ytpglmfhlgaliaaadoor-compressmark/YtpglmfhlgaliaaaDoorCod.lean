/-
  What all codecs' texts share: rows, texts and parts of them, numbers that fit. No statement of the program; no condition.
-/
import Derived.Test.YtpglmfhlgaliaaaDoorStrs
import Derived.Test.YtpglmfhlgaliaaaDoorBld
import Derived.Test.YtpglmfhlgaliaaaDoorEncM
import Derived.Test.YtpglmfhlgaliaaaDoorScan
import Derived.Test.YtpglmfhlgaliaaaDoorRefO
namespace Go.Proofs.YtpglmfhlgaliaaaDoor
open Go.ChangeShapes Go.WideShapes Go.ChangeAt Go.RowKit
namespace Cod
open Bas Sca Stp Scn
set_option linter.unusedVariables false

theorem mov_trans {w w' : World} {v v' v'' : Value} (h : Mov w v v') (g : Mov w' v' v'') (hs : w.heap.size ≤ w'.heap.size) : Mov w v v'' := fun k hk => by
  rcases g k hk with e | e
  · exact h k e
  · right; omega
theorem mov_refl (w : World) (v : Value) : Mov w v v := fun _ h => .inl h
theorem mov_nil {w : World} {v : Value} (h : Mov w (.slice none 0 0) v) : ∀ g, v.ownBlock = some g → w.heap.size ≤ g := fun g hg => by
  rcases h g hg with e | e
  · simp [Value.ownBlock] at e
  · exact e
theorem str_nth (str : ByteArray) (k : Nat) (h : k < str.size) : ((str[k]'h).toNat : Int) = nth (bytesL str) k := by
  unfold nth bytesL
  have h' : k < str.data.size := h
  rw [List.getElem?_map, Array.getElem?_toList, Array.getElem?_eq_getElem h']
  rfl
theorem bytesL_byte (str : ByteArray) : ∀ x ∈ bytesL str, 0 ≤ x ∧ x < 256 := by
  intro x hx
  unfold bytesL at hx
  simp at hx
  obtain ⟨a, _, rfl⟩ := hx
  have := a.toNat_lt
  omega
theorem front_all {room : Int} {t : List Int} (h : (t.length : Int) ≤ room ∨ t = []) : frontN room t.length = t.length := by
  rcases h with h | rfl
  · exact frontN_all h
  · have := frontN_le room ([] : List Int).length
    simp at this ⊢
    exact this
theorem wf_small (r : Int) (h1 : -4611686018427387904 ≤ r) (h2 : r ≤ 4611686018427387904) : (Lit.int .i64 r).wf = true := by
  have e1 : IntKind.i64.min = -9223372036854775808 := rfl
  have e2 : IntKind.i64.max = 9223372036854775807 := rfl
  simp only [Lit.wf, e1, e2, Bool.and_eq_true, decide_eq_true_eq]
  omega
theorem wrap_i64s (r : Int) (h1 : -4611686018427387904 ≤ r) (h2 : r ≤ 4611686018427387904) : IntKind.i64.wrap r = r := by
  have e1 : IntKind.i64.bits = 64 := rfl
  have e2 : IntKind.i64.signed = true := rfl
  unfold IntKind.wrap
  simp only [e1, e2, Bool.true_and, decide_eq_true_eq]
  split <;> omega
theorem feed_short {σ : Type} (f : Scn.Stp σ) (h1 : ∀ s b x, f s b = some x → x.2.length ≤ 1) (room : Int) (l : List Int) (s : σ) (n : Nat) : (feed f room s n l).told.length ≤ (feed f room s n l).eaten := by
  induction l generalizing s n with
  | nil => simp [feed]
  | cons b r ih =>
    by_cases hlt : (n : Int) < room
    · cases h : f s b with
      | none => rw [feed_none _ hlt h]; simp
      | some x =>
        have hx := h1 s b x h
        have := ih x.1 (n + x.2.length)
        rw [feed_some _ hlt h]; simp [Res.pre]; omega
    · rw [feed_full _ hlt]; simp
theorem scan_short {σ : Type} (f : Scn.Stp σ) (h1 : ∀ s b x, f s b = some x → x.2.length ≤ 1) (l : List Int) (s : σ) : (scan f s l).told.length ≤ l.length := by
  induction l generalizing s with
  | nil => simp [scan]
  | cons b r ih =>
    cases h : f s b with
    | none => rw [scan_none _ h]; simp
    | some x =>
      have hx := h1 s b x h
      have := ih x.1
      rw [scan_some _ h]; simp [Res.pre]; omega
theorem ext_ext (str : ByteArray) (E e : Nat) (h : E + e ≤ str.size) : (str.extract E str.size).extract e (str.size - E) = str.extract (E + e) str.size := by
  apply bytesL_inj
  have hz : str.size - E = (str.extract E str.size).size := by simp
  rw [hz, bytesL_drop, bytesL_drop, bytesL_drop, List.drop_drop]
theorem cut_snoc (L : List Int) {F K : Nat} (hF : F ≤ K) (hK : K < L.length) : (L.take (K + 1)).drop F = (L.drop F).take (K - F) ++ [nth L K] := by
  rw [take_snoc L K hK, List.drop_append_of_le_length (by simp; omega), List.drop_take]
theorem strOf_size (l : List Int) : (Stp.strOf l).size = l.length := by
  show (Stp.strOf l).data.size = _
  rw [← Array.length_toList, strOf_data]; simp
theorem strOf_append (l m : List Int) : Stp.strOf (l ++ m) = Stp.strOf l ++ Stp.strOf m := by
  apply str_ext
  rw [ByteArray.data_append, Array.toList_append, strOf_data, strOf_data, strOf_data, List.map_append]
theorem strOf_drop (l : List Int) (k : Nat) : (Stp.strOf l).extract k (Stp.strOf l).size = Stp.strOf (l.drop k) := by
  apply str_ext
  rw [ByteArray.data_extract, Array.toList_extract, List.extract_eq_take_drop, strOf_data, strOf_data, strOf_size, List.map_drop, ← List.drop_take]
  rw [List.take_of_length_le (by simp)]
theorem bytesL_strOf (l : List Int) (h : ∀ x ∈ l, 0 ≤ x ∧ x < 256) : bytesL (Stp.strOf l) = l := by
  unfold bytesL
  rw [strOf_data, List.map_map]
  conv => rhs; rw [← List.map_id l]
  apply List.map_congr_left
  intro x hx
  have := h x hx
  obtain ⟨m, rfl⟩ := Int.eq_ofNat_of_zero_le this.1
  have hm : m < 256 := by omega
  simp
  omega
theorem front_eq (room : Int) (n : Nat) : frontN room n = frontR room n := rfl
theorem enc_bytes (one : Int → List Int) (m : Nat) (hm : ∀ c, (one c).length ≤ m) (room : Int) (l told K : List Int) : (enc one room told K l).told.length + (enc one room told K l).kept.length ≤ told.length + K.length + m * (enc one room told K l).eaten := by
  induction l generalizing told K with
  | nil => simp [enc]
  | cons c r ih =>
    by_cases hK : K = []
    · subst hK
      by_cases hc : isB c = true
      · rw [enc_one _ hc]
        have := ih (told ++ (one c).take (frontR (room - told.length) (one c).length)) ((one c).drop (frontR (room - told.length) (one c).length))
        have h2 := hm c
        simp only [ERes.plus, List.length_append, List.length_take, List.length_drop, List.length_nil] at this ⊢
        rw [Nat.mul_add]
        omega
      · rw [enc_bad _ (by simpa using hc)]; simp
    · rw [enc_kept _ hK]; simp
theorem seg_rowU {k : IntKind} {w : World} {a : Option Addr} {n c : Nat} {l : List Int} (h : Seg k w (.slice a n c) l) : Row k w a l := by
  obtain ⟨a', c', e, hr, -⟩ := h.form
  simp only [Value.slice.injEq] at e
  rw [e.1]; exact hr
theorem seg_row {k : IntKind} {w : World} {a : Option Addr} {n c : Nat} {l : List Int} (h : Seg k w (.slice a n c) l) : Row k w a l ∧ l.length = n ∧ l.length ≤ maxLen := by
  obtain ⟨a', c', e, hr, hm, -⟩ := h.form
  simp only [Value.slice.injEq] at e
  rw [e.1]; exact ⟨hr, e.2.1.symm, hm⟩
theorem off_go (L : List Int) : goB (if okLen L < L.length then 2 else 0) (decide (okLen L = L.length)) = false := by
  have := okLen_le L
  by_cases h : okLen L < L.length
  · rw [if_pos h]; rfl
  · rw [if_neg h, decide_eq_true (by omega)]; rfl
theorem full_str {K : List Int} (h : K.length ≠ 0) : (Stp.strOf K).toList.isEmpty = false := by
  rw [ByteArray.toList_eq]
  cases hK : (Stp.strOf K).data.toList with
  | nil =>
    have h0 : (Stp.strOf K).size = 0 := by show (Stp.strOf K).data.size = 0; rw [← Array.length_toList, hK]; rfl
    rw [strOf_size] at h0; exact absurd h0 h
  | cons a r => rfl
/-- What is known of the room of a list that came in. -/
def Cap (a : Option Addr) (n c : Nat) : Prop := (n = 0 ∧ c = 0) ∨ ∃ b o, a = some ⟨b, o, none⟩ ∧ n ≤ c ∧ c ≤ maxLen
theorem cap_of {k : IntKind} {w : World} {x : Addr} {n c : Nat} {zs : List Int} (hl : n ≤ c) (hm : c ≤ maxLen) (hz : zs.length = c) (hcell : ∀ i, i < zs.length → w.cell? (x.add i) = some (.int k (zs.getD i 0))) : Cap (some x) n c := by
  by_cases h : c = 0
  · exact .inl ⟨by omega, h⟩
  · obtain ⟨b, off, spot⟩ := x
    have hc := hcell 0 (by omega)
    have hspot : spot = none := by simpa [Addr.add] using World.cell?_spot hc
    subst hspot
    exact .inr ⟨b, off, rfl, hl, hm⟩
theorem Cap.le {a : Option Addr} {n c : Nat} (h : Cap a n c) : n ≤ c := by
  rcases h with ⟨h1, h2⟩ | ⟨_, _, _, h, _⟩
  · omega
  · exact h
theorem row_lt {k : IntKind} {w : World} {a : Option Addr} {l : List Int} (h : Row k w a l) (hl : 0 < l.length) {b o : Nat} (ha : a = some ⟨b, o, none⟩) : b < w.heap.size := by
  obtain ⟨b', o', hn, hc⟩ := h
  have hne : l ≠ [] := by intro e; subst e; simp at hl
  have := hn hne
  rw [ha] at this
  simp only [Option.some.injEq, Addr.mk.injEq] at this
  have hc0 := hc 0 hl
  rw [← this.1] at hc0
  exact World.block_lt_of_cell? w _ hc0
theorem ints_none (k : IntKind) (w : World) : Ints k w none 0 0 [] := ⟨row_nil _ _ _, rfl, by unfold maxLen; omega, by simp, fun _ => rfl⟩
theorem great_no {n : Int} {n1 n2 : Nat} (h : (decide (n > 400) || (decide (n1 > 200) || decide (n2 > 200))) = false) : n ≤ 400 ∧ n1 ≤ 200 ∧ n2 ≤ 200 := by
  simp at h; omega
theorem fits_u32' {x : Int} (h : (Lit.int .u32 x).wf = true) : 0 ≤ x ∧ x < 4294967296 := by
  have e1 : IntKind.u32.min = 0 := rfl
  have e2 : IntKind.u32.max = 4294967295 := rfl
  simp only [Lit.wf, e1, e2, Bool.and_eq_true, decide_eq_true_eq] at h
  omega
theorem fits_u32 {x : Int} (h : (Lit.int .u32 x).wf = true) : 0 ≤ x := (fits_u32' h).1
theorem take_scalars (l : List Int) (hf : ∀ x ∈ l, (Lit.int .u32 x).wf = true) : ∀ c ∈ l.take (okLen l), isB c = true ∧ 0 ≤ c := by
  induction l with
  | nil => simp
  | cons c r ih =>
    unfold okLen
    by_cases h : isB c = true
    · rw [if_pos h, List.take_succ_cons]
      intro x hx
      rcases List.mem_cons.1 hx with rfl | hx
      · exact ⟨h, fits_u32 (hf x (by simp))⟩
      · exact ih (fun y hy => hf y (by simp [hy])) x hx
    · rw [if_neg h]; simp
theorem firstL_scalars {l : List Int} (h : firstL l < 0) (hf : ∀ x ∈ l, (Lit.int .u32 x).wf = true) : ∀ c ∈ l, isB c = true ∧ 0 ≤ c := by
  rw [firstL_ok] at h
  have hle := okLen_le l
  split at h
  · omega
  · have := take_scalars l hf
    rw [List.take_of_length_le (by omega)] at this
    exact this
/-- The bytes of a list. -/
def bytesOf (one : Int → List Int) : List Int → List Int
  | [] => []
  | c :: r => one c ++ bytesOf one r
theorem bytesOf_append (one : Int → List Int) (l m : List Int) : bytesOf one (l ++ m) = bytesOf one l ++ bytesOf one m := by
  induction l with
  | nil => rfl
  | cons c r ih => simp [bytesOf, ih]
theorem bytesOf_one (one : Int → List Int) (c : Int) : bytesOf one [c] = one c := by simp [bytesOf]
theorem bytesOf_le (one : Int → List Int) (m : Nat) (hm : ∀ c, (one c).length ≤ m) (l : List Int) : (bytesOf one l).length ≤ m * l.length := by
  induction l with
  | nil => simp [bytesOf]
  | cons c r ih => have := hm c; simp [bytesOf, Nat.mul_add]; omega
theorem allOf_bytes (one : Int → List Int) (l : List Int) (h : ∀ c ∈ l, isB c = true) : allOf one l = bytesOf one l := by
  induction l with
  | nil => rfl
  | cons c r ih =>
    unfold allOf bytesOf
    rw [if_pos (h c (by simp)), ih (fun x hx => h x (by simp [hx]))]
theorem allOf_take (one : Int → List Int) (l : List Int) : allOf one l = bytesOf one (l.take (okLen l)) := by
  induction l with
  | nil => rfl
  | cons c r ih =>
    unfold allOf okLen
    by_cases h : isB c = true
    · rw [if_pos h, if_pos h, List.take_succ_cons, bytesOf, ih]
    · rw [if_neg h, if_neg h]; rfl
theorem bytesOf_byte (one : Int → List Int) (h1 : ∀ c, isB c = true → 0 ≤ c → ∀ x ∈ one c, 0 ≤ x ∧ x < 256) (l : List Int) (h : ∀ c ∈ l, isB c = true ∧ 0 ≤ c) : ∀ x ∈ bytesOf one l, 0 ≤ x ∧ x < 256 := by
  induction l with
  | nil => simp [bytesOf]
  | cons c r ih =>
    intro x hx
    unfold bytesOf at hx
    rw [List.mem_append] at hx
    rcases hx with hx | hx
    · exact h1 c (h c (by simp)).1 (h c (by simp)).2 x hx
    · exact ih (fun y hy => h y (by simp [hy])) x hx
end Cod
end Go.Proofs.YtpglmfhlgaliaaaDoor
