/-
  Proved: behind 0F big UTF-16 denotes what it does, with F0 ahead of each unit whose first byte is E0 to F2; and so it does with F0 ahead of each unit. No condition.
-/
import Derived.Test.YtohobpjiikpdmaaDoorEXRd
import Derived.Test.YtohobpjiikpdmaaDoorEXAwk
import Derived.Test.YtohobpjiikpdmaaDoorEXGrt
import Derived.Test.YtohobpjiikpdmaaDoorEXTab
import Derived.Test.YtohobpjiikpdmaaDoorPair
import Derived.Test.YtohobpjiikpdmaaDoorSca1
import Derived.Test.YtohobpjiikpdmaaDoorU16Byt
namespace Go.Proofs.YtohobpjiikpdmaaDoor
open Go.ChangeShapes Go.WideShapes Go.ChangeAt Go.RowKit
open Go.ChangeMaps (open_string shut_string)
namespace expandUnits
open Bas Sca Stp Scn Cod EX
set_option linter.unusedVariables false

theorem one_big (c : Int) : U16.oneN true c = Exp.big16 c := by
  unfold U16.oneN Exp.big16 U16.unitB
  simp
theorem all_big (l : List Int) : bytesOf (U16.oneN true) l = Exp.bigL l := by
  induction l with
  | nil => rfl
  | cons c r ih => simp only [bytesOf, Exp.bigL, one_big, ih]
theorem big_len (l : List Int) : (Exp.bigL l).length % 2 = 0 ∧ (Exp.bigL l).length ≤ 4 * l.length := by
  induction l with
  | nil => exact ⟨rfl, Nat.le_refl _⟩
  | cons c r ih =>
    simp only [Exp.bigL, List.length_append, List.length_cons]
    have : (Exp.big16 c).length = 2 ∨ (Exp.big16 c).length = 4 := by unfold Exp.big16; split <;> simp
    omega
theorem big_byte (l : List Int) (h : ∀ c ∈ l, isB c = true ∧ 0 ≤ c) : ∀ x ∈ Exp.bigL l, 0 ≤ x ∧ x < 256 := by
  induction l with
  | nil => intro x hx; simp [Exp.bigL] at hx
  | cons c r ih =>
    intro x hx
    simp only [Exp.bigL, List.mem_append] at hx
    rcases hx with hx | hx
    · have hc := h c (by simp)
      have hi := isB_iff.1 hc.1
      have h0 := hc.2
      unfold Exp.big16 at hx
      split at hx <;> simp at hx <;> omega
    · exact ih (fun y hy => h y (by simp [hy])) x hx
/-- Two bytes more. -/
theorem plain_snoc (x y : Int) : ∀ (k : Nat) (A : List Int), A.length = 2 * k → Exp.plainP (A ++ [x, y]) = Exp.plainP A ++ (Exp.quotB x ++ [x, y])
  | 0, [], _ => by simp [Exp.plainP]
  | 0, _ :: _, h => by simp at h
  | k + 1, [], h => by simp at h
  | k + 1, [_], h => by simp at h; omega
  | k + 1, a :: b :: r, h => by
    simp only [List.cons_append, Exp.plainP]
    rw [plain_snoc x y k r (by simp at h; omega)]
    simp
theorem quot_snoc (x y : Int) : ∀ (k : Nat) (A : List Int), A.length = 2 * k → Exp.quotP (A ++ [x, y]) = Exp.quotP A ++ [240, x, y]
  | 0, [], _ => by simp [Exp.quotP]
  | 0, _ :: _, h => by simp at h
  | k + 1, [], h => by simp at h
  | k + 1, [_], h => by simp at h; omega
  | k + 1, a :: b :: r, h => by
    simp only [List.cons_append, Exp.quotP]
    rw [quot_snoc x y k r (by simp at h; omega)]
theorem pq_len : ∀ A : List Int, (Exp.plainP A).length ≤ 2 * A.length ∧ (Exp.quotP A).length ≤ 2 * A.length
  | [] => by simp [Exp.plainP, Exp.quotP]
  | [_] => by simp [Exp.plainP, Exp.quotP]
  | a :: b :: r => by
    have := pq_len r
    have hq : (Exp.quotB a).length ≤ 1 := by unfold Exp.quotB; split <;> simp
    simp only [Exp.plainP, Exp.quotP, List.length_cons, List.length_append]
    omega
theorem cut_two (L : List Int) (k : Nat) (h : k + 1 < L.length) : (L.take (k + 2)).drop k = [nth L k, nth L (k + 1)] ∧ L.take (k + 2) = L.take k ++ [nth L k, nth L (k + 1)] := by
  have e : L.take (k + 2) = L.take k ++ [nth L k, nth L (k + 1)] := by
    rw [show k + 2 = (k + 1) + 1 from rfl, take_snoc L (k + 1) h, take_snoc L k (by omega)]; simp
  refine ⟨?_, e⟩
  rw [e, List.drop_append_of_le_length (by rw [List.length_take]; omega), List.drop_of_length_le (by rw [List.length_take]; omega)]; simp
set_option maxHeartbeats 8000000 in
set_option maxRecDepth 100000 in
theorem walk (w : World) (hT : EX.Tabs w) (a0 : Option Addr) (n0 c0 : Nat) (l0 : List Int) (I0 : Ints .u32 w a0 n0 c0 l0) (J0 : Cap a0 n0 c0) :
    Calls Tryd.prog 6 #[.slice a0 n0 c0] w fun e w' => e = .returned (.bool true) ∧ Below w.heap.size w w' := by
  have HT : Hid (EX.Tabs w) := hT
  have HI : Hid (Ints .u32 w a0 n0 c0 l0) := I0
  have hn0 := I0.max
  have hcap := J0.le
  clear I0 J0 hT
  go_enter Tryd.func6, Tryd.ntmps6
  go_wp2_with fail
  refine (awake_any w HT.out).mono ?_
  rintro e w1 ⟨rfl, b1⟩
  have HB1 : Hid (Below w.heap.size w w1) := b1
  clear b1
  go_wp2_with fail
  refine (great_any _ none none 0 0 0 0 w1).mono ?_
  rintro e w1' ⟨rfl, rfl⟩
  obtain ⟨g, hg⟩ : ∃ g, (decide ((n0 : Int) > 400) || (decide (0 > 200) || decide (0 > 200))) = g := ⟨_, rfl⟩
  rw [hg]
  cases g with
  | true =>
    clear hg
    go_wp2_with fail
    refine (awake_any _ (HT.out.below HB1.out)).mono ?_
    rintro e w2 ⟨rfl, b2⟩
    go_wp2
    go_ret
    exact ⟨rfl, below_two HB1.out b2⟩
  | false =>
  obtain ⟨h400, -, -⟩ := great_no hg
  clear hg
  go_wp2_with fail
  refine (rFirst_any a0 n0 c0 l0 w1' (HI.out.row.mono HB1.out) HI.out.len HI.out.max).mono ?_
  rintro e w1 ⟨rfl, rfl⟩
  obtain ⟨f, hf⟩ : ∃ f, firstL l0 = f := ⟨_, rfl⟩
  have HF : Hid (firstL l0 = f) := hf
  rw [hf]
  clear hf
  by_cases hf0 : f ≥ 0
  · go_wp2_with fail
    refine (awake_any _ (HT.out.below HB1.out)).mono ?_
    rintro e w2 ⟨rfl, b2⟩
    go_wp2
    go_ret
    exact ⟨rfl, below_two HB1.out b2⟩
  have HS : Hid (∀ c ∈ l0, isB c = true ∧ 0 ≤ c) := firstL_scalars (by rw [HF.out]; omega) HI.out.fits
  go_wp2_with fail
  refine (U16.rBytes_any (π := true) a0 n0 c0 l0 w1 (HI.out.row.mono HB1.out) HI.out.len (by omega) HS.out).mono ?_
  rintro e w2 ⟨rfl, b2⟩
  have HB2 : Hid (Below w.heap.size w w2) := below_two HB1.out b2
  rw [all_big]
  obtain ⟨s, hs⟩ : ∃ s, Stp.strOf (Exp.bigL l0) = s := ⟨_, rfl⟩
  have hL := bytesL_strOf (Exp.bigL l0) (big_byte l0 HS.out)
  rw [hs] at hL ⊢
  obtain ⟨L, hLL⟩ : ∃ L, Exp.bigL l0 = L := ⟨_, rfl⟩
  have hln := big_len l0
  rw [hLL] at hL hln
  have hsz : s.size = L.length := by rw [← bytesL_length, hL]
  rw [HI.out.len] at hln
  have HSL : Hid (bytesL s = L ∧ Exp.bigL l0 = L ∧ s.size = L.length ∧ s.size % 2 = 0 ∧ s.size ≤ 1600) := ⟨hL, hLL, hsz, by omega, by omega⟩
  have hss : s.size ≤ 1600 := by omega
  clear b2 hs hL hLL hln hsz HB1 HF hf0
  go_wp2
  go_loopw [4, 5, 6] (fun o q i wr => ∃ (k : Nat) (O Q : ByteArray), i = .int .i64 k ∧ o = .string O ∧ q = .string Q ∧ k ≤ s.size ∧ k % 2 = 0 ∧ bytesL O = 15 :: Exp.plainP (L.take k) ∧ bytesL Q = 15 :: Exp.quotP (L.take k) ∧ O.size ≤ 1 + 2 * k ∧ Q.size ≤ 1 + 2 * k ∧ Below w.heap.size w wr) (fun _ _ i _ => s.size - (intOf i).toNat)
  case atStart => exact ⟨0, _, _, rfl, rfl, rfl, Nat.zero_le _, rfl, rfl, rfl, by decide, by decide, HB2.out⟩
  case round =>
    obtain ⟨k, O, Q, rfl, rfl, rfl, hk, hk2, hO, hQ, hoz, hqz, hbl⟩ := hrel
    have HR : Hid (bytesL O = 15 :: Exp.plainP (L.take k) ∧ bytesL Q = 15 :: Exp.quotP (L.take k) ∧ Below w.heap.size w wr) := ⟨hO, hQ, hbl⟩
    clear hO hQ hbl
    by_cases hlt : (k : Int) + 1 < (s.size : Int)
    · have hkl : k + 1 < L.length := by have := HSL.out.2.2.1; omega
      have hb := bytesL_byte s _ (nth_mem (l := bytesL s) (i := k) (by rw [bytesL_length]; omega))
      have hsn := str_nth s k (by omega)
      obtain ⟨b, hbb⟩ : ∃ b, nth (bytesL s) k = b := ⟨_, rfl⟩
      rw [hbb] at hb hsn
      obtain ⟨b0, b1⟩ := hb
      have hc2 := cut_two L k hkl
      have hpl := plain_snoc (nth L k) (nth L (k + 1)) (k / 2) (L.take k) (by rw [List.length_take]; omega)
      have hql := quot_snoc (nth L k) (nth L (k + 1)) (k / 2) (L.take k) (by rw [List.length_take]; omega)
      rw [← hc2.2] at hpl hql
      rw [HSL.out.1] at hbb
      rw [hbb] at hpl hql hc2
      obtain ⟨S, hS⟩ : ∃ S, s.extract k (k + 2) = S := ⟨_, rfl⟩
      have hSb : bytesL S = [b, nth L (k + 1)] := by rw [← hS, bytesL_extract, HSL.out.1]; exact hc2.1
      have hSz : S.size = 2 := by rw [← bytesL_length, hSb]; rfl
      have HC : Hid (bytesL S = [b, nth L (k + 1)] ∧ Exp.plainP (L.take (k + 2)) = Exp.plainP (L.take k) ++ (Exp.quotB b ++ [b, nth L (k + 1)]) ∧ Exp.quotP (L.take (k + 2)) = Exp.quotP (L.take k) ++ [240, b, nth L (k + 1)]) := ⟨hSb, hpl, hql⟩
      have HSZ : Hid (S.size = 2) := hSz
      clear hbb hc2 hpl hql hSb hkl
      by_cases hb1 : b ≥ 224
      · by_cases hb2 : b ≤ 242
        · go_wp2
          go_roundw
          case rel =>
            refine ⟨k + 2, _, _, by go_num, rfl, rfl, by omega, by omega, ?_, ?_, ?_, ?_, HR.out.2.2⟩
            · rw [HC.out.2.1, bytesL_append, bytesL_append, HR.out.1, HC.out.1]; unfold Exp.quotB; rw [if_pos ⟨hb1, hb2⟩]; simp only [List.cons_append, List.append_assoc, List.nil_append]; rfl
            · rw [HC.out.2.2, bytesL_append, bytesL_append, HR.out.2.1, HC.out.1]; rfl
            · simp only [ByteArray.size_append, HSZ.out]; rw [show (ByteArray.mk #[240]).size = 1 from rfl]; omega
            · simp only [ByteArray.size_append, HSZ.out]; rw [show (ByteArray.mk #[240]).size = 1 from rfl]; omega
          case measure => simp [intOf]; omega
        · go_wp2
          go_roundw
          case rel =>
            refine ⟨k + 2, _, _, by go_num, rfl, rfl, by omega, by omega, ?_, ?_, ?_, ?_, HR.out.2.2⟩
            · rw [HC.out.2.1, bytesL_append, HR.out.1, HC.out.1]; unfold Exp.quotB; rw [if_neg (by omega)]; rfl
            · rw [HC.out.2.2, bytesL_append, bytesL_append, HR.out.2.1, HC.out.1]; rfl
            · simp only [ByteArray.size_append, HSZ.out]; omega
            · simp only [ByteArray.size_append, HSZ.out]; rw [show (ByteArray.mk #[240]).size = 1 from rfl]; omega
          case measure => simp [intOf]; omega
      · go_wp2
        go_roundw
        case rel =>
          refine ⟨k + 2, _, _, by go_num, rfl, rfl, by omega, by omega, ?_, ?_, ?_, ?_, HR.out.2.2⟩
          · rw [HC.out.2.1, bytesL_append, HR.out.1, HC.out.1]; unfold Exp.quotB; rw [if_neg (by omega)]; rfl
          · rw [HC.out.2.2, bytesL_append, bytesL_append, HR.out.2.1, HC.out.1]; rfl
          · simp only [ByteArray.size_append, HSZ.out]; omega
          · simp only [ByteArray.size_append, HSZ.out]; rw [show (ByteArray.mk #[240]).size = 1 from rfl]; omega
        case measure => simp [intOf]; omega
    · obtain rfl : k = s.size := by have := HSL.out.2.2.2.1; omega
      have htk : L.take s.size = L := List.take_of_length_le (by rw [HSL.out.2.2.1]; exact Nat.le_refl _)
      obtain ⟨X, hX⟩ : ∃ X, X = scan Exp.stepX Exp.st0 (bytesL O) := ⟨_, rfl⟩
      obtain ⟨Y, hY⟩ : ∃ Y, Y = scan Exp.stepX Exp.st0 (bytesL Q) := ⟨_, rfl⟩
      have HX : Hid (X = scan Exp.stepX Exp.st0 (bytesL O)) := hX
      have HY : Hid (Y = scan Exp.stepX Exp.st0 (bytesL Q)) := hY
      have HTL : Hid (X.told = l0 ∧ Y.told = l0) := by
        refine ⟨?_, ?_⟩
        · rw [hX, HR.out.1, htk, ← HSL.out.2.1]; exact Exp.all_plain l0 HS.out
        · rw [hY, HR.out.2.1, htk, ← HSL.out.2.1]; exact Exp.all_quot l0 HS.out
      have HB3 : Hid (Below w.heap.size w wr) := HR.out.2.2
      clear htk hX hY HR HB2 HSL
      go_wp2_with fail
      refine (newD_any () wr rfl (HT.out.below HB3.out)).mono ?_
      rintro e w5 ⟨rfl, D5, z5, B5⟩
      obtain ⟨N, hN⟩ : ∃ N, N = wr.heap.size := ⟨_, rfl⟩
      have HN : Hid (w.heap.size ≤ N) := by show w.heap.size ≤ N; rw [hN]; exact HB3.out.size
      rw [← hN] at D5 z5 B5 ⊢
      have HD5 : Hid (DecV () w5 N 0 0 false (st0 ()) [] (.slice none 0 0) (.slice none 0 0) ∧ Below w.heap.size w w5) := ⟨D5, HB3.out.trans (B5.mono HN.out)⟩
      clear hN D5 z5 B5 HB3
      go_wp2_with fail
      refine (read_any N _ _ O none none 0 0 0 0 [] [] X w5 HD5.out.1 HX.out (ints_none _ _) (ints_none _ _) (fun b' o' h0 e h => by omega) (fun b' o' h0 e h => by omega) (by omega) (by omega) (by omega)).mono ?_
      rintro e w7 ⟨vo, rfl, v7, u7, s7, f7, D7, C7⟩
      rw [HTL.out.1] at s7
      have HD7 : Hid (Seg .u32 w7 vo l0 ∧ Below w.heap.size w w7) :=
        ⟨s7, HD5.out.2.trans (C7.below HD5.out.2.size (fun k j hk h => by have := footD_nil h; have := HN.out; omega))⟩
      obtain ⟨a7, c7, hv7, -⟩ := s7.form
      rw [HI.out.len] at hv7
      subst hv7
      clear s7 f7 D7 C7 HD5 HN
      go_wp2_with fail
      refine (newD_any () w7 rfl (HT.out.below HD7.out.2)).mono ?_
      rintro e w8 ⟨rfl, F8, z8, B8⟩
      obtain ⟨M, hM⟩ : ∃ M, M = w7.heap.size := ⟨_, rfl⟩
      have B8' : Below w7.heap.size w7 w8 := by rw [← hM] at B8 ⊢; exact B8
      have HM : Hid (w.heap.size ≤ M ∧ M = w7.heap.size) := ⟨by rw [hM]; exact HD7.out.2.size, hM⟩
      rw [← hM] at F8 z8 B8 ⊢
      have HD8 : Hid (DecV () w8 M 0 0 false (st0 ()) [] (.slice none 0 0) (.slice none 0 0) ∧ Seg .u32 w8 (.slice a7 n0 c7) l0 ∧ Below w.heap.size w w8 ∧ (∀ g, (Value.slice a7 n0 c7).ownBlock = some g → g < M)) :=
        ⟨F8, HD7.out.1.chg (chg_of_below B8' (Nat.le_refl _) (fun _ _ => False)) (fun _ _ _ h => h), below_two HD7.out.2 B8', fun g hg => by have := HD7.out.1.lt hg; have := HM.out.2; omega⟩
      clear hM F8 z8 B8 B8' HD7
      go_wp2_with fail
      refine (read_any M _ _ Q none none 0 0 0 0 [] [] Y w8 HD8.out.1 HY.out (ints_none _ _) (ints_none _ _) (fun b' o' h0 e h => by omega) (fun b' o' h0 e h => by omega) (by omega) (by omega) (by omega)).mono ?_
      rintro e w9 ⟨vm, rfl, v9, u9, s9, f9, D9, C9⟩
      rw [HTL.out.2] at s9
      have HD9 : Hid (Seg .u32 w9 (.slice a7 n0 c7) l0 ∧ Seg .u32 w9 vm l0 ∧ Below w.heap.size w w9) :=
        ⟨HD8.out.2.1.chg C9 (fun g o hg h2 => by have := HD8.out.2.2.2 g hg; have := footD_nil h2; omega), s9, HD8.out.2.2.1.trans (C9.below HD8.out.2.2.1.size (fun k j hk h => by have := footD_nil h; have := HM.out.1; omega))⟩
      obtain ⟨a9, c9, hv9, -⟩ := s9.form
      rw [HI.out.len] at hv9
      subst hv9
      clear s9 f9 D9 C9 HD8 HM
      have hmx : n0 ≤ maxLen := HI.out.max
      go_wp2_with fail
      refine (rSame_any a7 a0 n0 n0 c7 c0 l0 l0 w9 (seg_row HD9.out.1).1 (HI.out.row.mono HD9.out.2.2) HI.out.len HI.out.len hmx hmx).mono ?_
      rintro e w10 ⟨rfl, nd, rfl⟩
      rw [cmpL_self, show ((0 : Int) == 0) = true from rfl]
      have HE : Hid (Seg .u32 (w9.drewN nd) (.slice a9 n0 c9) l0 ∧ Below w.heap.size w (w9.drewN nd)) := ⟨HD9.out.2.1.chg (chg_of_below (below_dn _ _) (Nat.le_refl _) (fun _ _ => False)) (fun _ _ _ h => h), below_two HD9.out.2.2 (below_dn _ _)⟩
      generalize w9.drewN nd = w10 at *
      clear HD9
      go_wp2_with fail
      refine (rSame_any a9 a0 n0 n0 c9 c0 l0 l0 w10 (seg_row HE.out.1).1 (HI.out.row.mono HE.out.2) HI.out.len HI.out.len hmx hmx).mono ?_
      rintro e w11 ⟨rfl, ne, rfl⟩
      rw [cmpL_self, show ((0 : Int) == 0) = true from rfl]
      have HB4 : Hid (Below w.heap.size w (w10.drewN ne)) := below_two HE.out.2 (below_dn _ _)
      generalize w10.drewN ne = w11 at *
      clear HE
      go_wp2
      go_ret
      exact ⟨rfl, HB4.out⟩
theorem reads (os : Os) {H : Type} (enc : TypeId × Value → H) : ∃ places, DataW.whole enc Tryd.prog ((({ World.holding Tryd.prog os ⟨#[], #[], []⟩ with heap := ((((World.holding Tryd.prog os ⟨#[], #[], []⟩).heap.modify 1 EX.layN).modify 2 EX.layS).modify 0 EX.layZ) } : World)).forCall (fun _ _ => 0) ⟨#[], #[.slice none 0 0], []⟩).memory Tryd.f6.params.toList Rows.expandUnitsSpec.vars false #[.slice none 0 0].toList 8 = some ([.nil], [], places) :=
  ⟨[], by kernel_rfl⟩
set_option maxRecDepth 100000 in
theorem lifted (os : Os) (started : os.Started) (H : Type) (enc : TypeId × Value → H) (Fi : Stop.Interp) :
    ReturnsInHanded {} Tryd.checked os 6 .any ((OpenSpec.ofChange Rows.expandUnitsSpec).preRow enc Tryd.prog Tryd.f6 Rows.expandUnitsRow.domain false Rows.expandUnitsRow.laid) (((OpenSpec.ofChange Rows.expandUnitsSpec).at Fi).post enc Tryd.prog Tryd.f6 false true false false) := by
  obtain ⟨places, hx⟩ := reads os enc
  refine returnsInHanded_of_row (C := Tryd.checked) (s := OpenSpec.ofChange Rows.expandUnitsSpec) Bas.own started (by kernel_rfl) Tryd.func6
    (witness_row_at (enc := enc) (C := Tryd.checked) false (({ World.holding Tryd.prog os ⟨#[], #[], []⟩ with heap := ((((World.holding Tryd.prog os ⟨#[], #[], []⟩).heap.modify 1 EX.layN).modify 2 EX.layS).modify 0 EX.layZ) } : World)) #[.slice none 0 0] rfl (by kernel_rfl) (by kernel_rfl) (by kernel_rfl)
      (OpenSpec.preRow_of_cond 8 hx (by kernel_rfl) (fun k hk => by cases hk) (by kernel_rfl) (EX.laid_met os _))) ?_
  intro W base args ds gs before hval0 hW _ _ _ hL _ _
  have hval : ∀ (j : Nat) t v, Tryd.f6.params[j]? = some t → args[j]? = some v → Value.okWide Tryd.prog W .any base t v := hval0
  have hW' := hW
  obtain ⟨p, q, hA0, hV, rfl, hfz, hnd⟩ := hW
  have hA : DataW.TrodAll enc Tryd.prog W 0 (fun _ => true) true Tryd.f6.params.toList args.toList ds p := hA0
  rw [Tryd.params6] at hA hval
  obtain ⟨v0, vs0, d0, ds0, p0, q0, hargs, rfl, rfl, h0, r0⟩ := trodAll_cons hA
  obtain ⟨rfl, rfl, rfl⟩ := trodAll_nil r0
  obtain rfl : args = #[v0] := by cases args; simp_all
  obtain ⟨rfl, rfl⟩ := trodVars_none hV
  have k0 := h0
  have lt0 : ∀ x ∈ p0, x.block < W.heap.size := by obtain ⟨m, hm⟩ := k0; exact DataW.trod_lt m _ _ _ hm
  obtain ⟨a0, n0, c0, rfl⟩ := okWide_slice Tryd.underlying27 (hval 0 27 v0 rfl rfl)
  obtain ⟨l0, I0, J0⟩ : ∃ l : List Int, Bas.Ints .u32 W a0 n0 c0 l ∧ Cod.Cap a0 n0 c0 := by
    obtain ⟨fuel, hf⟩ := h0
    rcases open_ints Tryd.underlying27 Tryd.underlying44 (by kernel_rfl) hf with ⟨hcs, _⟩ | ⟨x, l, c, zs, hcs, _, hl, hm, hz, _, hcell, hwz⟩
    · simp [Value.cells] at hcs
      obtain ⟨rfl, rfl, rfl⟩ := hcs
      exact ⟨[], ⟨Bas.row_nil _ _ _, rfl, by unfold maxLen; omega, by simp, fun _ => rfl⟩, .inl ⟨rfl, rfl⟩⟩
    · simp [Value.cells] at hcs
      obtain ⟨rfl, rfl, rfl⟩ := hcs
      have hz' : zs.length = c0 := by simpa using hz
      exact ⟨zs.take n0, ⟨Bas.row_of _ _ _ _ _ (by omega) hcell, by simp; omega, by omega, fun n hn => hwz n (List.mem_of_mem_take hn), fun h => by cases h⟩, Cod.cap_of (by omega) (by omega) hz' hcell⟩
  refine (walk W (EX.tabs_of hL) a0 n0 c0 l0 I0 J0).mono fun e W' ⟨he, bel⟩ => ?_
  subst he
  exact ⟨_, rfl, _, _, _, [], _, [], hW', trodAll_mk1 (shut_bool Tryd.underlying4 _), (trodAll_cons_mk (Below.trod Bas.laidOut (by kernel_rfl) (of_decide_eq_true (by kernel_rfl)) k0 bel lt0) trodAll_mk0), rfl, bel.frame _, fun h => by cases h⟩


theorem over : Rows.expandUnitsRow.holds Tryd.pinned (OpenSpec.ofChange Rows.expandUnitsSpec) :=
  OpenClaim.holds_of_cond 6 Tryd.f6 rfl rfl rfl rfl rfl rfl rfl ⟨rfl, rfl, rfl, rfl, rfl⟩ rfl rfl rfl rfl rfl (by kernel_rfl) Tryd.func6 (by kernel_rfl)
    (of_decide_eq_true (by kernel_rfl)) (by unfold Func.isWrapper; first | (rw [if_pos (by decide +kernel)]; kernel_rfl) | (rw [if_neg (by decide +kernel)]; exact ⟨rfl, rfl⟩))
    (fun os started H enc _ Fi => by rw [OpenClaim.pre_eq_preRow]; exact lifted os started H enc Fi)
theorem plain (f : FuncId) (fn : Func) (hf : Tryd.pinned.checked.prog.funcNamed Rows.expandUnitsRow.func = some f) (hfn : Tryd.pinned.checked.prog.funcs[f]? = some fn) :
    false = Tryd.pinned.checked.prog.looks [] ∧ ∀ (j : Nat) t, fn.params[j]? = some t → Tryd.pinned.checked.prog.wantsStandIn t = false := by
  obtain rfl : f = 6 := Option.some.inj ((show Tryd.prog.funcNamed Rows.expandUnitsRow.func = some 6 by kernel_rfl).symm.trans hf) |>.symm
  obtain rfl : fn = Tryd.f6 := (Option.some.inj (Tryd.func6.symm.trans hfn)).symm
  refine ⟨by kernel_rfl, fun j t ht => ?_⟩
  rw [Tryd.params6] at ht
  have hm : t ∈ [27] := by simpa using Array.mem_of_getElem? ht
  have hall : ([27].all fun u => !Tryd.prog.wantsStandIn u) = true := by kernel_rfl
  exact (show Tryd.prog.wantsStandIn t = false by simpa using List.all_eq_true.1 hall t hm)
end Go.Proofs.YtohobpjiikpdmaaDoor.expandUnits
namespace Go.Proofs.YtohobpjiikpdmaaDoor
/-- The statement: the tied card. -/
theorem expandUnits_proved : Rows.ExpandUnitsCardSaid :=
  Claim7.holds_tied_plain_at .later [] _ _ _ _ expandUnits.over (fun _ h => by cases h) (by kernel_rfl) (fun _ h => by cases h) expandUnits_row_tie rfl ⟨rfl, rfl⟩ (by kernel_rfl) rfl expandUnits.plain (by kernel_rfl)
end Go.Proofs.YtohobpjiikpdmaaDoor
