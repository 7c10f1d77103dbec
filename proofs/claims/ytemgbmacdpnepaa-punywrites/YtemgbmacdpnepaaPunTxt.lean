/-
  The contract of puny.textOf: the text of a list, as a walk over the translated text. The condition: the list is of at most 1000 scalars.
-/
import Derived.Test.YtemgbmacdpnepaaPunTxm
import Derived.Test.YtemgbmacdpnepaaBia3
import Derived.Deep.RegionWith
import Derived.Deep.CutBlock
import Derived.Deep.DeepCutAuto
namespace Go.Proofs.Ytemgbmacdpnepaa
open Go.ChangeShapes Go.WideShapes Go.ChangeAt Go.RowKit
namespace Pun
open Bas Cod Fen Stp Bia Sca
set_option linter.unusedVariables false

theorem joinT_app (bs t : List Int) : joinT bs t = joinT bs [] ++ t := by
  by_cases h : bs = []
  · subst h; rw [joinT_nil, joinT_nil]; rfl
  · rw [joinT_some h, joinT_some h]; simp
theorem joinT_len (bs : List Int) : (joinT bs []).length ≤ bs.length + 1 := by
  by_cases h : bs = []
  · subst h; rw [joinT_nil]; simp
  · rw [joinT_some h]; simp
theorem txt_new (w : World) (al : Option Addr) (n cl : Nat) (L : List Int) (t1 : TypeId) (hr : Row .u32 w al L) (hrb : ∀ b o, al = some ⟨b, o, none⟩ → b < w.heap.size) (hn : n ≤ 4000) :
    TxtAt w (((w.alloc (.cells #[.slice al n cl] t1)).alloc (.cells #[.pointer none, .slice none 0 0] 107)).alloc (.cells (Array.replicate (n + 1) (Value.int .i64 0)) 3)) w.heap.size al n cl L (.slice none 0 0) (.slice none 0 0) ByteArray.empty [] (fun _ => false) := by
  have b1 : Below w.heap.size w (w.alloc (.cells #[.slice al n cl] t1)) := (Below.refl _ _).alloc (Nat.le_refl _) _
  obtain ⟨w1, hw1⟩ : ∃ w1, w.alloc (.cells #[.slice al n cl] t1) = w1 := ⟨_, rfl⟩
  have z1 : w1.heap.size = w.heap.size + 1 := by rw [← hw1]; simp
  have c1 : w1.cell? ⟨w.heap.size, 0, none⟩ = some (.slice al n cl) := by rw [← hw1, World.cell?_alloc_new]; rfl
  rw [hw1] at b1 ⊢
  have b2 : Below w1.heap.size w1 (w1.alloc (.cells #[.pointer none, .slice none 0 0] 107)) := (Below.refl _ _).alloc (Nat.le_refl _) _
  have d2 := bld_new w1 (w.heap.size + 1) (by omega) (b := w.heap.size + 1) z1.symm
  obtain ⟨w2, hw2⟩ : ∃ w2, w1.alloc (.cells #[.pointer none, .slice none 0 0] 107) = w2 := ⟨_, rfl⟩
  have z2 : w2.heap.size = w.heap.size + 2 := by rw [← hw2]; simp; omega
  rw [hw2] at b2 d2 ⊢
  have b3 : Below w2.heap.size w2 (w2.alloc (.cells (Array.replicate (n + 1) (Value.int .i64 0)) 3)) := (Below.refl _ _).alloc (Nat.le_refl _) _
  have f3 := fen_new n w2 hn
  rw [z2] at f3
  refine ⟨cell_later b3 (cell_later b2 c1), ((hr.mono b1).mono b2).mono b3, hrb, d2.kp (kp_of_below b3) (fun _ _ h => h), f3, seg_nil _ _, fun g hg => by simp [Value.ownBlock] at hg, fun g hg => by simp [Value.ownBlock] at hg, (b1.trans (b2.mono (by omega))).trans (b3.mono (by omega)), by have := b3.size; omega⟩

set_option maxHeartbeats 16000000 in
set_option maxRecDepth 100000 in
theorem textOf_any (al : Option Addr) (n cl : Nat) (L : List Int) (w : World) (hr : Row .u32 w al L) (hl : L.length = n) (hn : n ≤ 1000) (hL : ∀ x ∈ L, isB x = true ∧ 0 ≤ x) (hrb : ∀ b o, al = some ⟨b, o, none⟩ → b < w.heap.size) :
    Calls Try.prog 48 #[.slice al n cl] w fun e w' => ∃ T, TextOf L T ∧ e = .returned (.string (Stp.strOf T)) ∧ Below w.heap.size w w' := by
  have HL : Hid (L.length = n ∧ ∀ x ∈ L, isB x = true ∧ 0 ≤ x) := ⟨hl, hL⟩
  have HN : Hid (∀ t1, TxtAt w (((w.alloc (.cells #[.slice al n cl] t1)).alloc (.cells #[.pointer none, .slice none 0 0] 107)).alloc (.cells (Array.replicate (n + 1) (Value.int .i64 0)) 3)) w.heap.size al n cl L (.slice none 0 0) (.slice none 0 0) ByteArray.empty [] (fun _ => false)) := fun t1 => txt_new w al n cl L t1 hr hrb (by omega)
  clear hr hl hL hrb
  go_enter Try.func48, Try.ntmps48
  go_wp2_with fail
  refine (noPlaces_any n _ (by omega)).mono ?_
  rintro e w3 ⟨rfl, hw3⟩
  have HT := HN.out 27
  rw [← hw3] at HT
  clear hw3 HN
  obtain ⟨B, hB⟩ : ∃ B, w.heap.size = B := ⟨_, rfl⟩
  have HBW : Hid (w.heap.size = B) := hB
  rw [hB] at HT ⊢
  have H0 : Hid (TxtAt w w3 B al n cl L (.slice none 0 0) (.slice none 0 0) ByteArray.empty [] (fun _ => false)) := HT
  have hbx := HT.box
  clear hB HT
  go_wp2
  clear hbx
  rw [HBW.out, show B + 1 + 1 = B + 2 from rfl]
  go_loopw [4, 18] (fun o i wr => ∃ (k : Nat) (vb : Value) (c : ByteArray), i = .int .i64 k ∧ k ≤ n ∧ bytesL c = basL L k ∧ TxtAt w wr B al n cl L vb o c (othK L k) (markK L k)) (fun _ i _ => n - (intOf i).toNat)
  case atStart => exact ⟨0, .slice none 0 0, ByteArray.empty, rfl, Nat.zero_le _, rfl, { H0.out with fen := H0.out.fen.same (fun j _ => by unfold markK; simp) }⟩
  case round =>
    clear H0
    obtain ⟨k, vb, c, rfl, hk, hbc, hT⟩ := hrel
    have HT : Hid (TxtAt w wr B al n cl L vb u4 c (othK L k) (markK L k)) := hT
    have HC : Hid (bytesL c = basL L k) := hbc
    clear hT hbc
    by_cases hlt : k < n
    · have hkL : k < L.length := by rw [HL.out.1]; exact hlt
      have hsc := HL.out.2 _ (nth_mem hkL)
      have htop := (isB_iff.1 hsc.1).1
      obtain ⟨bl, of, hal, hcl⟩ := HT.out.row
      obtain rfl := hal (by intro e; rw [e] at hkL; simp at hkL)
      have hcell := hcl k hkL
      have HKL : Hid (k < L.length) := hkL
      have i1 : (k : Int) < (n : Int) := by omega
      obtain ⟨m, hm⟩ := Int.eq_ofNat_of_zero_le hsc.2
      have HM : Hid (nth L k = (m : Int)) := hm
      rw [hm] at hcell htop
      clear hcl hal hkL hsc hm
      by_cases hb : m < 128
      · have i2 : (m : Int) < 128 := by omega
        have HB1 : Hid (basL L (k + 1) = basL L k ++ [(m : Int)]) := by
          have := basL_yes HKL.out (by rw [HM.out]; omega)
          rw [HM.out] at this
          exact this
        have HO1 : Hid (othK L (k + 1) = othK L k) := by show _ = _; rw [othK, if_pos (by rw [HM.out]; omega)]
        have HM1 : Hid (∀ j, put (markK L k) k j = markK L (k + 1) j) := fun j => by
          by_cases e : j = k
          · subst e
            rw [put_at]
            unfold markK bas
            rw [HM.out]
            simp; omega
          · rw [put_ne e]
            unfold markK
            by_cases h1 : j < k
            · simp [h1, show j < k + 1 by omega]
            · simp [h1, show ¬ j < k + 1 by omega]
        have HSZ : Hid (c.size ≤ 1000) := by
          have h1 := basL_len L k
          rw [← HC.out, bytesL_length] at h1
          show c.size ≤ 1000
          omega
        go_wp2_with fail
        refine (writeB_any (B + 1) (B + 1) vb c m wr HT.out.bld (by have := HSZ.out; omega) (by have := HT.out.bld.lt; omega) (by omega)).mono ?_
        rintro e w5 ⟨rfl, vb5, hb5, hk5, hm5⟩
        have HT5 : Hid (TxtAt w w5 B (some ⟨bl, of, none⟩) n cl L vb5 u4 (c ++ Stp.strOf [(m : Int)]) (othK L k) (markK L k)) := HT.out.put hb5 hk5 hm5
        clear hb5 hk5 hm5 HT hcell
        go_wp2_with fail
        refine (add_any (B + 2) n k (markK L k) w5 HT5.out.fen hlt (by unfold markK; simp) (by omega)).mono ?_
        rintro e w6 ⟨rfl, hf6, hc6⟩
        have HT6 : Hid (TxtAt w w6 B (some ⟨bl, of, none⟩) n cl L vb5 u4 (c ++ Stp.strOf [(m : Int)]) (othK L (k + 1)) (markK L (k + 1))) := by
          rw [HO1.out]
          exact HT5.out.mark (hf6.same (fun j _ => HM1.out j)) hc6
        have HC6 : Hid (bytesL (c ++ Stp.strOf [(m : Int)]) = basL L (k + 1)) := by
          show _ = _
          rw [bytesL_push c m (by omega), HC.out, HB1.out]
        clear hf6 hc6 HT5
        go_wp2
        go_roundw
        case rel => exact ⟨k + 1, vb5, _, by go_num, by omega, HC6.out, HT6.out⟩
        case measure => simp [intOf]; omega
      · have i2 : ¬ (m : Int) < 128 := by omega
        have HB1 : Hid (basL L (k + 1) = basL L k) := basL_no HKL.out (by rw [HM.out]; omega)
        have HO1 : Hid (othK L (k + 1) = othK L k ++ [k]) := by show _ = _; rw [othK, if_neg (by rw [HM.out]; omega)]
        have HM1 : Hid (∀ j, markK L k j = markK L (k + 1) j) := fun j => by
          by_cases e : j = k
          · subst e
            unfold markK bas
            rw [HM.out]
            simp; omega
          · unfold markK
            by_cases h1 : j < k
            · simp [h1, show j < k + 1 by omega]
            · simp [h1, show ¬ j < k + 1 by omega]
        have HOL : Hid ((natL (othK L k)).length ≤ 1000) := by
          have := othK_len L k
          show (natL (othK L k)).length ≤ 1000
          rw [natL_len]; omega
        have HTA : Hid (∀ o, TxtAt w (wr.alloc o) B (some ⟨bl, of, none⟩) n cl L vb u4 c (othK L k) (markK L k)) := fun o => HT.out.kp (kp_of_below ((Below.refl _ _).alloc (Nat.le_refl _) o)) (fun _ h => h.elim)
        go_wp2_with (at_builtin; go_must (refine wpList_append_seg rfl _ _ 22 22 rfl .i64 3 8 Try.underlying22 info_int u4 (natL (othK L k)) [(k : Int)] rfl (HTA.out _).oth _ rfl (src_row (l := [(k : Int)]) Try.underlying22 (by exact row_new .i64 wr [(k : Int)] _ _ rfl) rfl (fun h => by cases h)) (by have := HOL.out; unfold maxLen; simp; omega) (by have := HOL.out; simp; omega) ?_; intro vo w5 hs5 hc5 hm5))
        have HT5 : Hid (TxtAt w w5 B (some ⟨bl, of, none⟩) n cl L vb vo c (othK L (k + 1)) (markK L (k + 1))) := by
          have e1 : natL (othK L k) ++ [(k : Int)] = natL (othK L k ++ [k]) := by simp [natL]
          rw [e1] at hs5
          rw [HO1.out]
          have := (HTA.out _).app hs5 hc5 hm5
          exact { this with fen := this.fen.same (fun j _ => HM1.out j) }
        clear hs5 hc5 hm5 HTA HT hcell
        go_wp2
        go_roundw
        case rel => exact ⟨k + 1, vb, c, by go_num, by omega, by rw [HB1.out]; exact HC.out, HT5.out⟩
        case measure => simp [intOf]; omega
    · obtain rfl : k = n := by omega
      have i1 : ¬ (k : Int) < (k : Int) := by omega
      clear hlt hk
      rw [← HL.out.1] at HC
      rw [basL_all] at HC
      have HSZ : Hid (c.size ≤ 1000 ∧ c.size = (L.filter (fun y => decide (y < 128))).length) := by
        have h1 := basL_len L L.length
        rw [basL_all, ← HC.out, bytesL_length, HL.out.1] at h1
        exact ⟨by omega, by rw [← HC.out, bytesL_length]⟩
      obtain ⟨bs, hbs⟩ : ∃ bs, L.filter (fun y => decide (y < 128)) = bs := ⟨_, rfl⟩
      have HBS : Hid (bs = L.filter (fun y => decide (y < 128))) := hbs.symm
      rw [hbs] at HC HSZ
      obtain ⟨Bn, hBn⟩ : ∃ Bn, c.size = Bn := ⟨_, rfl⟩
      rw [hBn] at HSZ
      have hB1 := HSZ.out.1
      have HBN : Hid (Bn = bs.length) := HSZ.out.2
      have HCZ : Hid (c.size = Bn) := hBn
      clear hbs HSZ hBn
      go_wp2_with fail
      refine (lenS_any (B + 1) (B + 1) vb c wr HT.out.bld).mono ?_
      rintro e w5 ⟨rfl, hw5⟩
      subst hw5
      rw [HCZ.out]
      go_upto_if 38 with fail
      go_cut [8] (fun x wc => ∃ (vb : Value) (c : ByteArray), x = .int .i64 Bn ∧ bytesL c = joinT bs [] ∧ TxtAt w wc B al k cl L vb u4 c (othK L k) (markK L k))
      case first =>
        by_cases hp : 0 < Bn
        · have i2 : (Bn : Int) > 0 := by omega
          have HNE : Hid (bs ≠ []) := fun e => by have := HBN.out; rw [e] at this; simp at this; omega
          go_wp2_with fail
          refine (writeB_any (B + 1) (B + 1) vb c 45 w5 HT.out.bld (by have := HCZ.out; omega) (by have := HT.out.bld.lt; omega) (by omega)).mono ?_
          rintro e w6 ⟨rfl, vb6, hb6, hk6, hm6⟩
          have HT6 : Hid (TxtAt w w6 B al k cl L vb6 u4 (c ++ Stp.strOf [((45 : Nat) : Int)]) (othK L k) (markK L k)) := HT.out.put hb6 hk6 hm6
          have HC6 : Hid (bytesL (c ++ Stp.strOf [((45 : Nat) : Int)]) = joinT bs []) := by
            show _ = _
            rw [bytesL_push c 45 (by omega), HC.out, joinT_some HNE.out]
            rfl
          clear hb6 hk6 hm6
          go_wp2
          go_meet
          case rel => exact ⟨vb6, _, rfl, HC6.out, HT6.out⟩
        · have i2 : ¬ (Bn : Int) > 0 := by omega
          have HE : Hid (bs = []) := List.length_eq_zero_iff.1 (by have := HBN.out; omega)
          go_wp2
          go_meet
          case rel => exact ⟨vb, c, rfl, by rw [HE.out, joinT_nil, HC.out, HE.out], HT.out⟩
      case rest =>
        clear HT HC HCZ
        obtain ⟨vb2, c2, rfl, hc2, hT2⟩ := hcut
        have HC2 : Hid (bytesL c2 = joinT bs []) := hc2
        have HT2 : Hid (TxtAt w wc B al k cl L vb2 u4 c2 (othK L k) (markK L k)) := hT2
        clear hc2 hT2
        go_wp2_with fail
        refine (sort_any B al k cl L u4 (othK L k) wc HT2.out.box HT2.out.row HL.out.1 HT2.out.oth (fun j hj => ((othK_mem L k j).1 hj).1) (fun e => by have := (HT2.out.apo B e).1; omega) (fun b o e e2 => by have := HT2.out.rb b o e; have := (HT2.out.apo b e2).1; omega) (by have := othK_len L k; omega)).mono ?_
        rintro e w6 ⟨rfl, O', hso, hs6, hc6⟩
        have HSO : Hid (Sorted L (othK L L.length) O') := by rw [HL.out.1]; exact hso
        have HT6 : Hid (TxtAt w w6 B al k cl L vb2 u4 c2 O' (markK L k)) := HT2.out.app hs6 hc6 (mov_refl _ _)
        have hOl : O'.length + Bn = k := by
          have h1 := HSO.out.perm.length_eq
          have h2 := othK_len L L.length
          have h3 : bs.length = cnt (bas L) L.length := by rw [HBS.out, ← selL_bas, selL_len]
          have h4 := HBN.out
          have h5 := HL.out.1
          omega
        clear hso hs6 hc6 HT2
        go_wp2_with fail
        refine (begin_any Bn w6 (by omega)).mono ?_
        rintro e w7 ⟨rfl, b7⟩
        have HT7 : Hid (TxtAt w w7 B al k cl L vb2 u4 c2 O' (markK L k)) := HT6.out.kp (kp_of_below b7) (fun _ h => h.elim)
        obtain ⟨av, cv, hv4, -⟩ := HT7.out.oth.form
        obtain ⟨m, hm⟩ : ∃ m, O'.length = m := ⟨_, rfl⟩
        rw [natL_len, hm] at hv4
        subst hv4
        have HML : Hid (O'.length = m) := hm
        rw [hm] at hOl
        clear b7 HT6 hm
        go_wp2
        obtain ⟨cu, hcu⟩ : ∃ cu, w7.heap.size = cu := ⟨_, rfl⟩
        have HC8 : Hid (CurAt (w7.alloc (.cells #[.int .u64 128, .int .u64 0, .int .u64 Bn, .int .i64 72, .bool false] 117)) cu 128 0 Bn 72 false ∧ TxtAt w (w7.alloc (.cells #[.int .u64 128, .int .u64 0, .int .u64 Bn, .int .i64 72, .bool false] 117)) B al k cl L vb2 (.slice av m cv) c2 O' (markK L k) ∧ B + 3 ≤ cu ∧ vb2.ownBlock ≠ some cu ∧ (Value.slice av m cv).ownBlock ≠ some cu) := by
          refine ⟨cur_new w7 Bn hcu.symm, HT7.out.kp (kp_of_below ((Below.refl _ _).alloc (Nat.le_refl _) _)) (fun _ h => h.elim), by have := HT7.out.fen.lt; omega, fun e => ?_, fun e => ?_⟩
          · have := (HT7.out.bld.own.lt cu e).2; omega
          · have := HT7.out.oth.lt e; omega
        rw [hcu]
        generalize w7.alloc (.cells #[.int .u64 128, .int .u64 0, .int .u64 Bn, .int .i64 72, .bool false] 117) = w8 at *
        clear HT7 hcu
        have HZ : Hid (BytRel L bs Bn 128 0 72 []) := by
          have := BytRel.zero L
          rw [← HBS.out, ← HBN.out] at this
          exact this
        have HP : Hid (∀ j, j < k → markK L k j = pick L Bn j) := fun j hj => by
          have h3 : Bn = cnt (bas L) L.length := by rw [HBN.out, HBS.out, ← selL_bas, selL_len]
          rw [h3, pick_bas L (by rw [HL.out.1]; exact hj)]
          unfold markK
          simp [hj]
        go_loopw [47] (fun i wr => ∃ (j nn was : Nat) (t : List Int) (b : Int) (vb : Value) (c : ByteArray), i = .int .i64 j ∧ j ≤ m ∧ BytRel L bs (Bn + j) nn was b t ∧ CurAt wr cu nn was (Bn + j) b (!decide (Bn + j = bs.length)) ∧ bytesL c = joinT bs t ∧
          TxtAt w wr B al k cl L vb (.slice av m cv) c O' (pick L (Bn + j)) ∧ vb.ownBlock ≠ some cu ∧ t.length ≤ 21 * j) (fun i _ => m - (intOf i).toNat)
        case atStart => exact ⟨0, 128, 0, [], 72, vb2, c2, rfl, Nat.zero_le _, HZ.out, by have h := HC8.out.1; have e := HBN.out; simpa [e] using h, by rw [HC2.out], { HC8.out.2.1 with fen := HC8.out.2.1.fen.same HP.out }, HC8.out.2.2.2.1, by simp⟩
        case round =>
          have HCU : Hid (B + 3 ≤ cu ∧ (Value.slice av m cv).ownBlock ≠ some cu) := ⟨HC8.out.2.2.1, HC8.out.2.2.2.2⟩
          clear HZ HP HC8 HC2
          obtain ⟨j, nn, was, t, b, vb3, c3, rfl, hj, hby, hcu, hbc, hT, hap, htl⟩ := hrel
          have HBY : Hid (BytRel L bs (Bn + j) nn was b t) := hby
          have HCA : Hid (CurAt wr cu nn was (Bn + j) b (!decide (Bn + j = bs.length))) := hcu
          have HT : Hid (TxtAt w wr B al k cl L vb3 (.slice av m cv) c3 O' (pick L (Bn + j))) := hT
          have HX : Hid (bytesL c3 = joinT bs t ∧ vb3.ownBlock ≠ some cu) := ⟨hbc, hap⟩
          clear hby hcu hT hbc hap
          by_cases hlt : j < m
          · have hsr := sorted_rank HSO.out (k := j) (by rw [HML.out]; exact hlt)
            obtain ⟨a, hae⟩ : ∃ a, plA O' j = a := ⟨_, rfl⟩
            have hnt : nth (natL O') j = (a : Int) := by rw [natL_nth O' (by rw [HML.out]; exact hlt), hae]
            rw [hae] at hsr
            obtain ⟨ha, ha128, hrk⟩ := hsr
            have hbn : Bn = cnt (bas L) L.length := by rw [HBN.out, HBS.out, ← selL_bas, selL_len]
            rw [← hbn] at hrk
            have hLn := HL.out.1
            obtain ⟨a', p, v, hNx⟩ := HBY.out.find HBS.out (by omega)
            obtain rfl : a' = a := rank_inj hNx.ha ha (by rw [hNx.hr, hrk])
            have hsc := HL.out.2 _ (nth_mem ha)
            rw [hNx.hv] at hsc
            have hv1 := (isB_iff.1 hsc.1).1
            have hpl := hNx.pl
            have hwas := hNx.hw
            have hnv := hNx.nv
            have hmul : (v - nn) * (Bn + j + 1) ≤ 1114111 * 1001 := Nat.mul_le_mul (by omega) (by omega)
            obtain ⟨x, hx⟩ : ∃ x, (v - nn) * (Bn + j + 1) + p - was = x := ⟨_, rfl⟩
            have hxs : was + x = (v - nn) * (Bn + j + 1) + p := by omega
            have hxb : x ≤ 2000000000 := by omega
            have HNX : Hid (BytRel L bs (Bn + j + 1) v (p + 1) (adapt x (Bn + j + 1) (decide (Bn + j = bs.length)) : Nat) (t ++ putL b 0 x)) := HBY.out.next hNx hsc.1 hx.symm (by unfold top; omega)
            have HMV : Hid (nn + (was + x) / (Bn + j + 1) = v ∧ (was + x) % (Bn + j + 1) + 1 = p + 1) := by
              rw [hxs]
              refine ⟨?_, ?_⟩
              · rw [Nat.add_comm ((v - nn) * (Bn + j + 1)), Nat.add_mul_div_right _ _ (by omega), Nat.div_eq_of_lt (by omega)]; omega
              · rw [Nat.add_comm ((v - nn) * (Bn + j + 1)), Nat.add_mul_mod_self_right, Nat.mod_eq_of_lt (by omega)]
            have hwb : was ≤ 1001 := by
              rcases HBY.out.last with ⟨_, _, h⟩ | ⟨a0, h1, _, _, _, h⟩
              · omega
              · have h2 := cnt_bound (pick L (Bn + j)) (show a0 ≤ L.length by omega)
                rw [HBY.out.c] at h2
                omega
            have HPK : Hid (cnt (pick L (Bn + j)) a' = p ∧ (∀ i, put (pick L (Bn + j)) a' i = pick L (Bn + j + 1) i) ∧ pick L (Bn + j) a' = false) := by
              obtain ⟨p1, p2, p3⟩ := pick_succ ha hrk
              refine ⟨hNx.hp.symm, fun i => ?_, p1⟩
              by_cases e : i = a'
              · subst e; rw [put_at, p2]
              · rw [put_ne e, p3 i e]
            have HDL : Hid (∀ w', CurAt w' cu nn was (Bn + j) b (!decide (Bn + j = bs.length)) → Calls Try.prog 72 #[.pointer (some ⟨cu, 0, none⟩), .int .u32 v, .int .i64 p] w' fun e w'' => e = .returned (.int .u64 x) ∧ ∃ nd, w'' = w'.drewN nd) := fun w' h => delta_any cu nn was (Bn + j) v p x b _ w' h hnv (by omega) (by omega) (by omega) hxs
            -- cells
            have hbx := HT.out.box
            obtain ⟨bl, ofl, hal, hcl⟩ := HT.out.row
            obtain rfl := hal (by intro e; rw [e] at ha; simp at ha)
            have hcell := hcl a' ha
            rw [hNx.hv] at hcell
            obtain ⟨g4, of4, hga, hc4, -⟩ := HT.out.oth.at (j := j) (by rw [natL_len, HML.out]; exact hlt)
            subst hga
            rw [hnt] at hc4
            have i1 : (j : Int) < (m : Int) := by omega
            have i2 : (a' : Int) < (k : Int) := by omega
            have hak : a' < k := by omega
            have hnn : nn ≤ 1114111 := by omega
            clear hmul hx hxs hsc hNx hrk hbn ha ha128 hnt hae hcl hal hwas hnv hpl
            go_wp2
            go_quiet (first
              | (go_at_call 73; refine Calls.quiet_of_same (before_any (B + 2) k a' (pick L (Bn + j)) _ (HT.out.fen.below (below_dn _ _)) (by omega) (by omega)))
              | (go_at_call 72; rw [HPK.out.1]; refine Calls.quiet_of (HDL.out _ (HCA.out.below (below_dn _ _)))))
            have HT1 : Hid (TxtAt w (wr.drewN nq) B (some ⟨bl, ofl, none⟩) k cl L vb3 (.slice (some ⟨g4, of4, none⟩) m cv) c3 O' (pick L (Bn + j)) ∧ CurAt (wr.drewN nq) cu nn was (Bn + j) b (!decide (Bn + j = bs.length))) := ⟨HT.out.kp (kp_of_below (below_dn wr nq)) (fun _ h => h.elim), HCA.out.below (below_dn wr nq)⟩
            generalize wr.drewN nq = w1 at *
            have hc3 := HT1.out.2.c3
            clear HT HCA hbx hcell hc4 HDL
            have HPL : Hid ((putL b 0 x).length ≤ 21 ∧ ∀ y ∈ putL b 0 x, 0 ≤ y ∧ y < 256) := ⟨put_len20 b x (by omega), putL_byte b 0 x⟩
            have HPUT : Hid (∀ w, Calls Try.prog 75 #[.int .u64 x, .int .i64 b] w fun e w' => e = .returned (.string (Stp.strOf (putL b 0 x))) ∧ Below w.heap.size w w') := fun w => put_any x b w (by omega)
            obtain ⟨S, hS⟩ : ∃ S, Stp.strOf (putL b 0 x) = S := ⟨_, rfl⟩
            have HS : Hid (bytesL S = putL b 0 x ∧ S.size ≤ 21) := by
              rw [← hS]
              exact ⟨bytesL_strOf _ HPL.out.2, by rw [strOf_size]; exact HPL.out.1⟩
            rw [hS] at HPUT
            clear hS HPL
            have HSZ3 : Hid (c3.size ≤ 30000) := by
              have h1 := bytesL_length c3
              rw [HX.out.1, joinT_app, List.length_append] at h1
              have h2 := joinT_len bs
              have h3 := HBN.out
              show c3.size ≤ 30000
              omega
            go_wp2_with fail
            refine (HPUT.out w1).mono ?_
            rintro e w2 ⟨rfl, b2⟩
            have HT2 : Hid (TxtAt w w2 B (some ⟨bl, ofl, none⟩) k cl L vb3 (.slice (some ⟨g4, of4, none⟩) m cv) c3 O' (pick L (Bn + j)) ∧ CurAt w2 cu nn was (Bn + j) b (!decide (Bn + j = bs.length))) := ⟨HT1.out.1.kp (kp_of_below b2) (fun _ h => h.elim), HT1.out.2.below b2⟩
            clear b2 HT1 hc3 HPUT
            go_wp2_with fail
            refine (writeS_any (B + 1) (B + 1) vb3 c3 S w2 HT2.out.1.bld (by have := HSZ3.out; have := HS.out.2; omega) (by have := HT2.out.1.bld.lt; omega)).mono ?_
            rintro e w4 ⟨rfl, vb4, hb4, hk4, hm4⟩
            have HT4 : Hid (TxtAt w w4 B (some ⟨bl, ofl, none⟩) k cl L vb4 (.slice (some ⟨g4, of4, none⟩) m cv) (c3 ++ S) O' (pick L (Bn + j)) ∧ CurAt w4 cu nn was (Bn + j) b (!decide (Bn + j = bs.length)) ∧ vb4.ownBlock ≠ some cu) := by
              refine ⟨HT2.out.1.put hb4 hk4 hm4, HT2.out.2.kp hk4 (fun hh => ?_), fun e => ?_⟩
              · rcases hh with e | e
                · have := HCU.out.1; omega
                · exact HX.out.2 e
              · rcases hm4 cu e with e2 | e2
                · exact HX.out.2 e2
                · have := HT2.out.2.lt; omega
            have HC4 : Hid (bytesL (c3 ++ S) = joinT bs (t ++ putL b 0 x)) := by
              show _ = _
              rw [bytesL_append, HX.out.1, HS.out.1, joinT_app bs t, joinT_app bs (t ++ putL b 0 x), List.append_assoc]
            have HTL : Hid ((t ++ putL b 0 x).length ≤ 21 * (j + 1)) := by
              have h1 := HS.out.2
              rw [← bytesL_length, HS.out.1] at h1
              show (t ++ putL b 0 x).length ≤ 21 * (j + 1)
              rw [List.length_append]; omega
            clear hb4 hk4 hm4 HT2 HSZ3
            go_wp2_with fail
            refine (move_any cu nn was (Bn + j) x b _ w4 HT4.out.2.1 (by omega) (by omega) (by omega) hnn).mono ?_
            rintro e w5 ⟨rfl, hcu5, hc5⟩
            rw [HMV.out.1, HMV.out.2, Bool.not_not] at hcu5
            have HT5 : Hid (TxtAt w w5 B (some ⟨bl, ofl, none⟩) k cl L vb4 (.slice (some ⟨g4, of4, none⟩) m cv) (c3 ++ S) O' (pick L (Bn + j)) ∧ CurAt w5 cu v (p + 1) (Bn + j + 1) (adapt x (Bn + j + 1) (decide (Bn + j = bs.length)) : Nat) true) :=
              ⟨HT4.out.1.kp (kp_of_chg hc5) (fun k' ⟨_, hh⟩ => by subst hh; exact ⟨HCU.out.1, HT4.out.2.2, HCU.out.2⟩), hcu5⟩
            clear hcu5 hc5
            go_wp2_with fail
            refine (add_any (B + 2) k a' (pick L (Bn + j)) w5 HT5.out.1.fen hak HPK.out.2.2 (by omega)).mono ?_
            rintro e w6 ⟨rfl, hf6, hc6⟩
            have HT6 : Hid (TxtAt w w6 B (some ⟨bl, ofl, none⟩) k cl L vb4 (.slice (some ⟨g4, of4, none⟩) m cv) (c3 ++ S) O' (pick L (Bn + j + 1)) ∧ CurAt w6 cu v (p + 1) (Bn + j + 1) (adapt x (Bn + j + 1) (decide (Bn + j = bs.length)) : Nat) true) :=
              ⟨HT5.out.1.mark (hf6.same (fun i _ => HPK.out.2.1 i)) hc6, HT5.out.2.chg hc6 (fun _ hh => by have := HCU.out.1; omega)⟩
            clear hf6 hc6 HT5
            go_wp2
            go_roundw
            case rel => exact ⟨j + 1, v, p + 1, t ++ putL b 0 x, _, vb4, c3 ++ S, by go_num, by omega, HNX.out, by have h := HT6.out.2; rw [show (!decide (Bn + (j + 1) = bs.length)) = true by have := HBN.out; simp; omega]; exact h, HC4.out, HT6.out.1, HT4.out.2.2, HTL.out⟩
            case measure => simp [intOf]; omega
          · have i1 : ¬ (j : Int) < (m : Int) := by omega
            have HF : Hid (TextOf L (joinT bs t)) := HBY.out.done HBS.out (fun x hx => (HL.out.2 x hx).2) (by have := HL.out.1; omega)
            have HSZ3 : Hid (c3.size ≤ 30000) := by
              have h1 := bytesL_length c3
              rw [HX.out.1, joinT_app, List.length_append] at h1
              have h2 := joinT_len bs
              have h3 := HBN.out
              show c3.size ≤ 30000
              omega
            go_wp2_with fail
            refine (strS_any (B + 1) (B + 1) vb3 c3 wr HT.out.bld (by have := HSZ3.out; omega)).mono ?_
            rintro e w2 ⟨rfl, hk2⟩
            have HB2 : Hid (Below w.heap.size w w2) := by
              have h1 := HT.out.bel
              have h2 := hk2.below (B := B) HT.out.hB (fun k' hk' hh => by
                rcases hh with e | e
                · omega
                · have := HT.out.apb k' e; omega)
              have h3 := h1.trans h2
              rw [← HBW.out] at h3
              exact h3
            clear hk2
            go_wp2
            go_ret
            exact ⟨joinT bs t, HF.out, congrArg (fun z => Ending.returned (.string z)) (by rw [← HX.out.1, Stp.strOf_bytesL]), HB2.out⟩
end Pun
end Go.Proofs.Ytemgbmacdpnepaa
