/-
  The contract of the document's Bytes of layer 12, as a walk over the translated text. The condition: scalars, and few.
-/
import Derived.Test.YtlifobdooophbaaDoorBORd
import Derived.Test.YtlifobdooophbaaDoorDifRf1
import Derived.Test.YtlifobdooophbaaDoorDifRf2
namespace Go.Proofs.YtlifobdooophbaaDoor
open Go.ChangeShapes Go.WideShapes Go.ChangeAt Go.RowKit
namespace BO
open Bas Sca Stp Scn Cod
set_option linter.unusedVariables false
variable {π : Par}

theorem stS_snoc (l : List Int) (c : Int) : ∀ g, (∀ d ∈ l, isB d = true) → isB c = true → stS Boc.nxtB g (l ++ [c]) = Boc.nxtB (stS Boc.nxtB g l) c := by
  induction l with
  | nil => intro g _ hc; simp [stS, hc]
  | cons d r ih =>
    intro g hl hc
    have hd := hl d (by simp)
    simp only [List.cons_append, stS, hd, if_pos]
    exact ih _ (fun x hx => hl x (by simp [hx])) hc
theorem allS_snoc (l : List Int) (c : Int) : ∀ g, (∀ d ∈ l, isB d = true) → isB c = true → allS Boc.oneB Boc.nxtB g (l ++ [c]) = allS Boc.oneB Boc.nxtB g l ++ Boc.oneB (stS Boc.nxtB g l) c := by
  induction l with
  | nil => intro g _ hc; simp [allS, stS, hc]
  | cons d r ih =>
    intro g hl hc
    have hd := hl d (by simp)
    rw [List.cons_append, Boc.allS_cons hd, Boc.allS_cons hd, ih _ (fun x hx => hl x (by simp [hx])) hc, List.append_assoc]
    simp [stS, hd]
theorem stS_ga (l : List Int) : ∀ g, Boc.GA g → (∀ d ∈ l, isB d = true ∧ 0 ≤ d) → Boc.GA (stS Boc.nxtB g l) := by
  induction l with
  | nil => intro g hg _; exact hg
  | cons d r ih =>
    intro g hg hl
    have hd := hl d (by simp)
    simp only [stS, hd.1, if_pos]
    exact ih _ (Boc.ga_nxt hg hd.2 hd.1) (fun x hx => hl x (by simp [hx]))
set_option maxHeartbeats 8000000 in
set_option maxRecDepth 100000 in
theorem rBytes_any (a : Option Addr) (n cp : Nat) (l : List Int) (w : World) (hr : Row .u32 w a l) (hl : l.length = n) (hn : n ≤ 100000) (hs : ∀ c ∈ l, isB c = true ∧ 0 ≤ c) :
    Calls Tryd.prog 23 #[.slice a n cp] w fun e w' => e = .returned (.string (Stp.strOf (allS (oneS π) (nxtS π) (e0 π) l))) ∧ Below w.heap.size w w' := by
  obtain ⟨b1, o1, n1, c1⟩ := hr
  have N1 : Hid (l ≠ [] → a = some ⟨b1, o1, none⟩) := n1
  have HC : Hid (∀ i, i < l.length → w.cell? ⟨b1, o1 + i, none⟩ = some (.int .u32 (nth l i))) := c1
  have HS : Hid ((∀ c ∈ l, isB c = true ∧ 0 ≤ c) ∧ l.length = n) := ⟨hs, hl⟩
  clear n1 c1 hs hl
  go_enter Tryd.func23, Tryd.ntmps23
  go_wp2
  go_loopw [3, 4, 5] (fun o g i wr => ∃ k : Nat, i = .int .i64 k ∧ k ≤ n ∧ g = .int .i64 (stS Boc.nxtB 64 (l.take k)) ∧ o = .string (Stp.strOf (allS Boc.oneB Boc.nxtB 64 (l.take k))) ∧ Below w.heap.size w wr) (fun _ _ i _ => n - (intOf i).toNat)
  case atStart => exact ⟨0, rfl, Nat.zero_le _, rfl, rfl, Below.refl _ _⟩
  case round =>
    obtain ⟨k, rfl, hk, rfl, rfl, hB⟩ := hrel
    have HB : Hid (Below w.heap.size w wr) := hB
    clear hB
    by_cases hlt : (k : Int) < (n : Int)
    · have hkn : k < l.length := by have := HS.out.2; omega
      obtain rfl := N1.out (by intro e; subst e; simp at hkn)
      have hcell : wr.cell? ⟨b1, o1 + k, none⟩ = some (.int .u32 (nth l k)) := cell_later HB.out (HC.out k hkn)
      have hsc := HS.out.1 _ (nth_mem hkn)
      have hpre : ∀ d ∈ l.take k, isB d = true ∧ 0 ≤ d := fun d hd => HS.out.1 d (List.mem_of_mem_take hd)
      have e1 := allS_snoc (l.take k) (nth l k) 64 (fun d hd => (hpre d hd).1) hsc.1
      have e2 := stS_snoc (l.take k) (nth l k) 64 (fun d hd => (hpre d hd).1) hsc.1
      rw [← take_snoc l k hkn] at e1 e2
      have hga := stS_ga (l.take k) 64 Boc.ga_64 hpre
      obtain ⟨x, hx⟩ : ∃ x, nth l k = x := ⟨_, rfl⟩
      obtain ⟨g, hg⟩ : ∃ g, stS Boc.nxtB 64 (l.take k) = g := ⟨_, rfl⟩
      rw [hx] at hcell hsc e1 e2
      rw [hg] at e1 e2 hga ⊢
      have hsz : (Stp.strOf (allS Boc.oneB Boc.nxtB 64 (l.take k))).size ≤ 400000 := by
        rw [strOf_size]
        have := allS_le Boc.oneB Boc.nxtB 4 (fun s c => (Boc.one_ne s c).2) (l.take k) 64
        rw [List.length_take] at this
        omega
      have E1 : Hid (Stp.strOf (allS Boc.oneB Boc.nxtB 64 (l.take (k + 1))) = Stp.strOf (allS Boc.oneB Boc.nxtB 64 (l.take k)) ++ Stp.strOf (Boc.oneB g x)) := by show _ = _; rw [e1, strOf_append]
      have E2 : Hid (stS Boc.nxtB 64 (l.take (k + 1)) = Boc.nxtB g x) := e2
      obtain ⟨S, hS⟩ : ∃ S, Stp.strOf (allS Boc.oneB Boc.nxtB 64 (l.take k)) = S := ⟨_, rfl⟩
      rw [hS] at E1 hsz ⊢
      have hxi := isB_iff.1 hsc.1
      have hone := (Boc.one_ne g x).2
      clear hx hg hS e1 e2 hpre hkn
      obtain ⟨x0, x1⟩ := And.intro hsc.2 hxi.1
      by_cases h32 : x ≤ 32
      · have HO : Hid (Boc.oneB g x = [x]) := by show _ = _; unfold Boc.oneB; rw [if_pos h32]
        rw [HO.out] at E1
        have hcv := Stp.run_string (wr.alloc (.cells #[.int .u8 x] 5)) (some ⟨wr.heap.size, 0, none⟩) 1 1 [x] (row_new .u8 wr [x] _ _ rfl) rfl
        have hs1 : (Stp.strOf [x]).size = 1 := strOf_size [x]
        obtain ⟨S1, hS1⟩ : ∃ S1, Stp.strOf [x] = S1 := ⟨_, rfl⟩
        rw [hS1] at E1 hcv hs1
        clear hS1
        have HB2 : Hid (Below w.heap.size w (wr.alloc (.cells #[.int .u8 x] 5))) := HB.out.alloc HB.out.size _
        by_cases he : x = 32
        · have HN : Hid (Boc.nxtB g x = g) := by show _ = _; unfold Boc.nxtB; rw [if_pos h32, if_pos he]
          rw [HN.out] at E2
          subst he
          clear hone hga hsc hxi
          go_wp2
          go_roundw
          case rel => exact ⟨k + 1, by go_num, by omega, by rw [E2.out], by rw [E1.out], HB2.out⟩
          case measure => simp [intOf]; omega
        · have HN : Hid (Boc.nxtB g x = 64) := by show _ = _; unfold Boc.nxtB; rw [if_pos h32, if_neg he]
          rw [HN.out] at E2
          have hne : (x == 32) = false := by rw [beq_eq_false_iff_ne]; exact he
          clear hone hga hsc hxi
          go_wp2
          go_roundw
          case rel => exact ⟨k + 1, by go_num, by omega, by rw [E2.out], by rw [E1.out], HB2.out⟩
          case measure => simp [intOf]; omega
      · have HO : Hid (Boc.oneB g x = Dif.packL (x - g)) := by show _ = _; unfold Boc.oneB; rw [if_neg h32]
        have HN : Hid (Boc.nxtB g x = Dif.prevI x) := by show _ = _; unfold Boc.nxtB; rw [if_neg h32]
        rw [HO.out] at E1
        rw [HN.out] at E2
        have hin := Boc.ga_inR hga (by omega) hxi.1
        have HP : Hid (∀ w, Calls Tryd.prog 38 #[.int .i64 (x - g)] w fun e w' => e = .returned (.string (Stp.strOf (Dif.packL (x - g)))) ∧ Below w.heap.size w w') := fun w => Dif.rPack_any (x - g) w hin
        have hgz := Boc.ga_prev (c := x) (by omega) hsc.1
        have hps : (Stp.strOf (Dif.packL (x - g))).size ≤ 4 := by rw [strOf_size, ← HO.out]; exact hone
        obtain ⟨P, hP⟩ : ∃ P, Stp.strOf (Dif.packL (x - g)) = P := ⟨_, rfl⟩
        rw [hP] at E1 HP hps
        obtain ⟨z, hz⟩ : ∃ z, Dif.prevI x = z := ⟨_, rfl⟩
        have HPV : Hid (∀ w, Calls Tryd.prog 39 #[.int .u32 x] w fun e w' => e = .returned (.int .u32 z) ∧ w' = w) := fun w => by rw [← hz]; exact Dif.rPrev_any x w x0 (by omega)
        rw [hz] at E2 hgz
        unfold Boc.GA at hgz hga
        obtain ⟨g0, g1⟩ := hga
        obtain ⟨z0, z1⟩ := hgz
        have h33 : 32 < x := by omega
        clear hP hz hone hsc hxi hin HO HN h32
        go_wp2_with fail
        refine (HP.out wr).mono ?_
        rintro e w2 ⟨rfl, b2⟩
        have HB2 : Hid (Below w.heap.size w w2) := below_two HB.out b2
        clear b2
        go_wp2_with fail
        refine (HPV.out w2).mono ?_
        rintro e w3 ⟨rfl, hw⟩
        rw [hw]
        clear hw w3
        go_wp2
        go_roundw
        case rel => exact ⟨k + 1, by go_num, by omega, by rw [E2.out], by rw [E1.out], HB2.out⟩
        case measure => simp [intOf]; omega
    · have hkn : k = n := by omega
      have HF : Hid (l.take k = l) := by
        show _ = _
        rw [hkn, ← HS.out.2, List.take_length]
      clear hkn
      obtain ⟨S, hS⟩ : ∃ S, Stp.strOf (allS Boc.oneB Boc.nxtB 64 (l.take k)) = S := ⟨_, rfl⟩
      have HSS : Hid (Stp.strOf (allS Boc.oneB Boc.nxtB 64 (l.take k)) = S) := hS
      rw [hS]
      clear hS
      go_wp2
      go_ret
      exact ⟨by rw [← HSS.out, HF.out]; rfl, HB.out⟩
end BO
end Go.Proofs.YtlifobdooophbaaDoor
