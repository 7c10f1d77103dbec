/-
  Contracts of the decoder's step and of its End, as walks over the translated text. The condition: its memory is there and may be written.
-/
import Derived.Test.YtajpllhljgpidaaU16Dec
import Derived.Test.YtajpllhljgpidaaMemS
namespace Go.Proofs.Ytajpllhljgpidaa
open Go.ChangeShapes Go.WideShapes Go.ChangeAt Go.RowKit
namespace U16
open Bas Sca Stp Scn Cod
set_option linter.unusedVariables false
variable {π : Par}

/-- What 'complete' answers. -/
def complV (o : Option Int) : Value := match o with | some c => .tuple #[.int .u32 c, .bool true] | none => .tuple #[.int .u32 0, .bool false]
set_option maxHeartbeats 2000000 in
theorem compl_odd (a : Option Addr) (n c : Nat) (s : List Int) (w : World) (hl : s.length = n) (hn : n = 1 ∨ n = 3) :
    Calls Try.prog 52 #[.agg #[.bool π], .slice a n c] w fun e w' => e = .returned (complV (wholeN π s)) ∧ Below w.heap.size w w' := by
  have hw : wholeN π s = none := by
    match s, hl, hn with
    | [], hl, hn => simp at hl; omega
    | [a], _, _ => rfl
    | [a, b], hl, hn => simp at hl; omega
    | [a, b, c], _, _ => rfl
    | [a, b, c, d], hl, hn => simp at hl; omega
    | a :: b :: c :: d :: e :: r, hl, hn => simp at hl; omega
  rw [hw]
  clear hw hl
  rcases hn with rfl | rfl
  · go_enter Try.func52, Try.ntmps52
    go_wp2
    go_ret2
    exact ⟨rfl, (Below.refl _ _).alloc (Nat.le_refl _) _⟩
  · go_enter Try.func52, Try.ntmps52
    go_wp2
    go_ret2
    exact ⟨rfl, (Below.refl _ _).alloc (Nat.le_refl _) _⟩
/-- What is read, and the box. -/
def Two (π : Par) (N g o : Nat) (x y : Int) (w : World) : Prop := w.cell? ⟨N, 0, none⟩ = some (.bool π) ∧ w.cell? ⟨g, o, none⟩ = some (.int .u8 x) ∧ w.cell? ⟨g, o + 1, none⟩ = some (.int .u8 y)
set_option maxHeartbeats 4000000 in
theorem compl_two (g o : Nat) (c : Nat) (x y : Int) (w : World) (hx : 0 ≤ x ∧ x < 256) (hy : 0 ≤ y ∧ y < 256) (hc : 2 ≤ c) (h0 : w.cell? ⟨g, o, none⟩ = some (.int .u8 x)) (h1 : w.cell? ⟨g, o + 1, none⟩ = some (.int .u8 y)) :
    Calls Try.prog 52 #[.agg #[.bool π], .slice (some ⟨g, o, none⟩) 2 c] w fun e w' => e = .returned (complV (wholeN π [x, y])) ∧ Below w.heap.size w w' := by
  have hB1 : Below w.heap.size w (w.alloc (.cells #[.bool π] 45)).drew := ((Below.refl _ _).alloc (Nat.le_refl _) _).drew
  have hF : (w.alloc (.cells #[.bool π] 45)).drew.cell? ⟨w.heap.size, 0, none⟩ = some (.bool π) ∧ (w.alloc (.cells #[.bool π] 45)).drew.cell? ⟨g, o, none⟩ = some (.int .u8 x) ∧ (w.alloc (.cells #[.bool π] 45)).drew.cell? ⟨g, o + 1, none⟩ = some (.int .u8 y) := ⟨by rw [World.cell?_drew, World.cell?_alloc_new]; rfl, cell_later hB1 h0, cell_later hB1 h1⟩
  have HB : Hid (Below w.heap.size w (w.alloc (.cells #[.bool π] 45)).drew) := hB1
  have HF : Hid ((w.alloc (.cells #[.bool π] 45)).drew.cell? ⟨w.heap.size, 0, none⟩ = some (.bool π) ∧ (w.alloc (.cells #[.bool π] 45)).drew.cell? ⟨g, o, none⟩ = some (.int .u8 x) ∧ (w.alloc (.cells #[.bool π] 45)).drew.cell? ⟨g, o + 1, none⟩ = some (.int .u8 y)) := hF
  have hub := unit_back (π := π) hx hy
  have HU : Hid (0 ≤ unitN π x y ∧ unitN π x y < 65536) := hub.2
  clear hF hB1 h0 h1 hub
  go_enter Try.func52, Try.ntmps52
  go_upto_region 3 with fail
  have hF := HF.out
  have B5 := HB.out
  clear HF HB
  go_region_held3 (fun w' => w'.cell? ⟨w.heap.size, 0, none⟩ = some (.bool π) ∧ w'.cell? ⟨g, o, none⟩ = some (.int .u8 x) ∧ w'.cell? ⟨g, o + 1, none⟩ = some (.int .u8 y)) (exact hF) (first
    | (go_at_call 63; refine (unit_any x y _ hx hy).mono ?_; rintro e w5 ⟨rfl, b5⟩; have hF := And.intro (cell_later b5 hF.1) (And.intro (cell_later b5 hF.2.1) (cell_later b5 hF.2.2)); have B5 := below_two B5 b5; clear b5))
  have HB5 : Hid (Below w.heap.size w w5) := B5
  clear hF B5
  obtain ⟨un, hun⟩ : ∃ un, unitN π x y = un := ⟨_, rfl⟩
  rw [hun] at HU ⊢
  have HUN : Hid (unitN π x y = un) := hun
  clear hun
  go_wp2_with fail
  refine (first_any un w5 HU.out.1 (by have := HU.out; omega)).mono ?_
  rintro e w6 ⟨rfl, rfl⟩
  obtain ⟨t, ht⟩ : ∃ t, isUp un = t := ⟨_, rfl⟩
  rw [ht]
  have HT : Hid (isUp un = t) := ht
  clear ht
  cases t with
  | false =>
    go_wp2
    go_ret2
    exact ⟨by simp [wholeN, HUN.out, HT.out, complV], HB5.out⟩
  | true =>
    go_wp2
    go_ret2
    exact ⟨by simp [wholeN, HUN.out, HT.out, complV], HB5.out⟩
set_option maxHeartbeats 4000000 in
theorem compl_four (g o : Nat) (c : Nat) (x y z t : Int) (w : World) (hx : 0 ≤ x ∧ x < 256) (hy : 0 ≤ y ∧ y < 256) (hz : 0 ≤ z ∧ z < 256) (ht : 0 ≤ t ∧ t < 256) (hc : 4 ≤ c)
    (h0 : w.cell? ⟨g, o, none⟩ = some (.int .u8 x)) (h1 : w.cell? ⟨g, o + 1, none⟩ = some (.int .u8 y)) (h2 : w.cell? ⟨g, o + 2, none⟩ = some (.int .u8 z)) (h3 : w.cell? ⟨g, o + 3, none⟩ = some (.int .u8 t)) :
    Calls Try.prog 52 #[.agg #[.bool π], .slice (some ⟨g, o, none⟩) 4 c] w fun e w' => e = .returned (complV (wholeN π [x, y, z, t])) ∧ Below w.heap.size w w' := by
  have hB1 : Below w.heap.size w (w.alloc (.cells #[.bool π] 45)).drew := ((Below.refl _ _).alloc (Nat.le_refl _) _).drew
  have hF : (w.alloc (.cells #[.bool π] 45)).drew.cell? ⟨w.heap.size, 0, none⟩ = some (.bool π) ∧ (w.alloc (.cells #[.bool π] 45)).drew.cell? ⟨g, o, none⟩ = some (.int .u8 x) ∧ (w.alloc (.cells #[.bool π] 45)).drew.cell? ⟨g, o + 1, none⟩ = some (.int .u8 y) ∧ (w.alloc (.cells #[.bool π] 45)).drew.cell? ⟨g, o + 2, none⟩ = some (.int .u8 z) ∧ (w.alloc (.cells #[.bool π] 45)).drew.cell? ⟨g, o + 3, none⟩ = some (.int .u8 t) :=
    ⟨by rw [World.cell?_drew, World.cell?_alloc_new]; rfl, cell_later hB1 h0, cell_later hB1 h1, cell_later hB1 h2, cell_later hB1 h3⟩
  have HB : Hid (Below w.heap.size w (w.alloc (.cells #[.bool π] 45)).drew) := hB1
  have HF : Hid ((w.alloc (.cells #[.bool π] 45)).drew.cell? ⟨w.heap.size, 0, none⟩ = some (.bool π) ∧ (w.alloc (.cells #[.bool π] 45)).drew.cell? ⟨g, o, none⟩ = some (.int .u8 x) ∧ (w.alloc (.cells #[.bool π] 45)).drew.cell? ⟨g, o + 1, none⟩ = some (.int .u8 y) ∧ (w.alloc (.cells #[.bool π] 45)).drew.cell? ⟨g, o + 2, none⟩ = some (.int .u8 z) ∧ (w.alloc (.cells #[.bool π] 45)).drew.cell? ⟨g, o + 3, none⟩ = some (.int .u8 t)) := hF
  have hub := unit_back (π := π) hx hy
  have hub2 := unit_back (π := π) hz ht
  have HU : Hid (0 ≤ unitN π x y ∧ unitN π x y < 65536 ∧ 0 ≤ unitN π z t ∧ unitN π z t < 65536) := ⟨hub.2.1, hub.2.2, hub2.2.1, hub2.2.2⟩
  clear hF hB1 h0 h1 h2 h3 hub hub2
  go_enter Try.func52, Try.ntmps52
  go_upto_region 7 with fail
  have hF := HF.out
  have B5 := HB.out
  clear HF HB
  go_region_held3 (fun w' => w'.cell? ⟨w.heap.size, 0, none⟩ = some (.bool π) ∧ w'.cell? ⟨g, o, none⟩ = some (.int .u8 x) ∧ w'.cell? ⟨g, o + 1, none⟩ = some (.int .u8 y) ∧ w'.cell? ⟨g, o + 2, none⟩ = some (.int .u8 z) ∧ w'.cell? ⟨g, o + 3, none⟩ = some (.int .u8 t)) (exact hF) (first
    | (go_at_call 63; refine (unit_any _ _ _ ?_ ?_).mono ?_; (first | exact hx | exact hz); (first | exact hy | exact ht); rintro e w5 ⟨rfl, b5⟩; have hF := And.intro (cell_later b5 hF.1) (And.intro (cell_later b5 hF.2.1) (And.intro (cell_later b5 hF.2.2.1) (And.intro (cell_later b5 hF.2.2.2.1) (cell_later b5 hF.2.2.2.2)))); have B5 := below_two B5 b5; clear b5))
  have HB5 : Hid (Below w.heap.size w w5) := B5
  clear hF B5
  obtain ⟨un, hun⟩ : ∃ un, unitN π x y = un := ⟨_, rfl⟩
  obtain ⟨um, hum⟩ : ∃ um, unitN π z t = um := ⟨_, rfl⟩
  rw [hun, hum] at HU
  rw [hun, hum]
  have HUN : Hid (unitN π x y = un ∧ unitN π z t = um) := ⟨hun, hum⟩
  have hu1 := and10 un HU.out.1 (by have := HU.out; omega)
  have hu2 := and10 um HU.out.2.2.1 (by have := HU.out; omega)
  have hu3 : 0 ≤ un % 1024 := by omega
  have hu4 : un % 1024 < 1024 := by omega
  have hu5 : 0 ≤ um % 1024 := by omega
  have hu6 : um % 1024 < 1024 := by omega
  clear hun hum
  go_wp2
  go_ret2
  exact ⟨by simp [wholeN, HUN.out.1, HUN.out.2, complV], HB5.out⟩
theorem compl_any (a : Option Addr) (n c : Nat) (s : List Int) (w : World) (hr : Row .u8 w a s) (hl : s.length = n) (hn : 1 ≤ n ∧ n ≤ 4) (hc : n ≤ c) (hb : ∀ x ∈ s, 0 ≤ x ∧ x < 256) :
    Calls Try.prog 52 #[.agg #[.bool π], .slice a n c] w fun e w' => e = .returned (complV (wholeN π s)) ∧ Below w.heap.size w w' := by
  by_cases hodd : n = 1 ∨ n = 3
  · exact compl_odd a n c s w hl hodd
  · obtain ⟨g, o, h1, h2⟩ := hr
    have hne : s ≠ [] := by intro e; rw [e] at hl; simp at hl; omega
    obtain rfl := h1 hne
    match s, hl with
    | [], hl => simp at hl; omega
    | [x], hl => simp at hl; omega
    | [x, y], hl =>
      simp at hl; subst hl
      exact compl_two g o c x y w (hb x (by simp)) (hb y (by simp)) hc (by simpa [nth] using h2 0 (by simp)) (by simpa [nth] using h2 1 (by simp))
    | [x, y, z], hl => simp at hl; omega
    | [x, y, z, t], hl =>
      simp at hl; subst hl
      exact compl_four g o c x y z t w (hb x (by simp)) (hb y (by simp)) (hb z (by simp)) (hb t (by simp)) hc (by simpa [nth] using h2 0 (by simp)) (by simpa [nth] using h2 1 (by simp)) (by simpa [nth] using h2 2 (by simp)) (by simpa [nth] using h2 3 (by simp))
    | a :: b :: c :: d :: e :: r, hl => simp at hl; omega

theorem compl_none (a : Option Addr) (n c : Nat) (s : List Int) (w : World) (hw : wholeN π s = none) (hr : Row .u8 w a s) (hl : s.length = n) (hn : 1 ≤ n ∧ n ≤ 4) (hc : n ≤ c) (hb : ∀ x ∈ s, 0 ≤ x ∧ x < 256) :
    Calls Try.prog 52 #[.agg #[.bool π], .slice a n c] w fun e w' => e = .returned (.tuple #[.int .u32 0, .bool false]) ∧ Below w.heap.size w w' := by
  have := compl_any (π := π) a n c s w hr hl hn hc hb
  rw [hw] at this; exact this
theorem compl_some (a : Option Addr) (n c : Nat) (s : List Int) (x : Int) (w : World) (hw : wholeN π s = some x) (hr : Row .u8 w a s) (hl : s.length = n) (hn : 1 ≤ n ∧ n ≤ 4) (hc : n ≤ c) (hb : ∀ x ∈ s, 0 ≤ x ∧ x < 256) :
    Calls Try.prog 52 #[.agg #[.bool π], .slice a n c] w fun e w' => e = .returned (.tuple #[.int .u32 x, .bool true]) ∧ Below w.heap.size w w' := by
  have := compl_any (π := π) a n c s w hr hl hn hc hb
  rw [hw] at this; exact this
theorem seg_snoc {k : IntKind} {w : World} {v : Value} {s : List Int} {x : Int} (h : Seg k w v (s ++ [x])) : ∃ g o n c, v = .slice (some ⟨g, o, none⟩) n c ∧ ((s ++ [x]).length = n ∧ n ≤ c ∧ Row k w (some ⟨g, o, none⟩) (s ++ [x])) := by
  obtain ⟨a1, c1, hv1, hrow1, -, hcap1, -, -⟩ := h.form
  have hr := hrow1
  obtain ⟨g1, o1, hn, -⟩ := hr
  obtain rfl := hn (by simp)
  exact ⟨g1, o1, _, c1, hv1, rfl, hcap1, hrow1⟩
set_option maxHeartbeats 4000000 in
set_option maxRecDepth 100000 in
theorem take_any (b : Nat) (p q : Int) (en : Bool) (s l : List Int) (v u : Value) (x : Int) (w : World) (h : DecV π w b p q en s l v u) (hx : 0 ≤ x ∧ x < 256) (hlen : l.length ≤ 1000000) :
    Calls Try.prog 38 #[.pointer (some ⟨b, 0, none⟩), .int .u8 x] w fun e w' => ∃ v' u', e = .returned (.bool (stepU π s x).isSome) ∧ DecV π w' b p q en (stN π s x) (l ++ toldN π s x) v' u' ∧ Chg (fun k _ => footD b v u k) w w' ∧ Mov w v v' ∧ Mov w u u' := by
  have HB : Hid (∀ y ∈ s ++ [x], 0 ≤ y ∧ y < 256) := byte_snoc h.byte hx
  have H : Hid (DecV π w b p q en s l v u) := h
  have HL : Hid (s.length ≤ 3 ∧ 0 ≤ x ∧ x < 256) := ⟨h.good.len, hx⟩
  clear h hx
  go_enter Try.func38, Try.ntmps38
  go_wp2_with fail
  refine (fits_any b p q en s l v u x w H.out HL.out.2).mono ?_
  rintro e w1 ⟨rfl, b1⟩
  have HD1 : Hid (DecV π w1 b p q en s l v u) := H.out.below b1
  have HC1 : Hid (Chg (fun k _ => footD b v u k) w w1 ∧ w.heap.size ≤ w1.heap.size) := ⟨chg_of_below b1 (Nat.le_refl _) _, b1.size⟩
  clear b1
  obtain ⟨t, ht⟩ : ∃ t, fitsN π s x = t := ⟨_, rfl⟩
  rw [ht]
  have HT : Hid (fitsN π s x = t) := ht
  clear ht
  cases t with
  | false =>
    have HST : Hid (stepU π s x = none) := by show stepU π s x = none; unfold stepU; rw [HT.out]; rfl
    go_wp2
    go_ret
    exact ⟨v, u, by rw [HST.out]; rfl, by simpa [stN, toldN, HST.out] using HD1.out, HC1.out.1, mov_refl _ _, mov_refl _ _⟩
  | true =>
    have hc5 := HD1.out.st.c
    have HX5 : Hid ((∀ o, (w1.alloc o).cell? ⟨b, 5, none⟩ = some u) ∧ (∀ o, (w1.alloc o).frozen? ⟨b, 5, none⟩ = false) ∧ u.ownBlock ≠ some b) :=
      ⟨fun o => ((Chg.refl (fun _ _ => False) w1).alloc o).cellAt HD1.out.st.c id, fun o => ((Chg.refl (fun _ _ => False) w1).alloc o).freeAt HD1.out.st.c HD1.out.st.f, HD1.out.st.ne⟩
    have HS : Hid (∀ o, Seg .u8 (w1.alloc o) u s) := fun o => HD1.out.st.seg.chg ((Chg.refl (fun _ _ => False) w1).alloc o) (fun _ _ _ h => h)
    go_upto_region 4 with (at_builtin; go_must (refine wpList_append_segK rfl _ _ 46 46 rfl .u8 5 1 Try.underlying46 info_u8 u s [x] rfl (HS.out _) _ rfl (src_row (l := [x]) Try.underlying46 (by exact row_new .u8 w1 [x] _ _ rfl) rfl (fun h => by cases h)) (by have := HL.out; unfold maxLen; simp; omega) (by have := HL.out; simp; omega) ?_; intro u' w2 hs' hch hmov hold; have hc52 := hch.cellAt (HX5.out.1 _) HX5.out.2.2; have hf52 := hch.freeAt (HX5.out.1 _) (HX5.out.2.1 _); have hfm := seg_snoc hs'; obtain ⟨g1, o1, n1, c1, rfl, hn1⟩ := hfm))
    have hmv : ∀ g, (Value.slice (some ⟨g1, o1, none⟩) n1 c1).ownBlock = some g → u.ownBlock = some g ∨ w1.heap.size ≤ g := fun g hg => by
      rcases hmov g hg with e | e
      · exact .inl e
      · right; simp at e; omega
    have hgb : g1 ≠ b := fun e => by
      rcases hmv g1 rfl with h | h
      · exact HX5.out.2.2 (by rw [h, e])
      · have := HD1.out.lt; omega
    have hA1 : Chg (fun k j => (k = b ∧ j = 5) ∨ u.ownBlock = some k) w1 w2 := ((Chg.refl _ w1).alloc _).trans2 hch (fun _ _ _ h => h) (fun k j _ h => .inr h)
    have hA2 := hA1.trans2 (chg_setCell w2 b 5 (.slice (some ⟨g1, o1, none⟩) n1 c1)) (fun _ _ _ h => h) (fun k j _ h => .inl h)
    have hS2 : Seg .u8 (w2.setCell ⟨b, 5, none⟩ (.slice (some ⟨g1, o1, none⟩) n1 c1)) (.slice (some ⟨g1, o1, none⟩) n1 c1) (s ++ [x]) := hs'.chg (chg_setCell w2 b 5 _) (fun g o hg hh => by simp [Value.ownBlock] at hg; omega)
    have hS3 : Seg .u8 (w2.setCell ⟨b, 5, none⟩ (.slice (some ⟨g1, o1, none⟩) n1 c1)) (.slice (some ⟨g1, o1, none⟩) 0 c1) [] := by simpa using hS2.takeO (f := 0) (by simp)
    have h55 : (w2.setCell ⟨b, 5, none⟩ (.slice (some ⟨g1, o1, none⟩) n1 c1)).cell? ⟨b, 5, none⟩ = some (.slice (some ⟨g1, o1, none⟩) n1 c1) := World.cell?_setCell_same _ _ _ hc52
    have h54 := hA2.cellAt HD1.out.par (fun hh => by
      rcases hh with hh | hh
      · omega
      · exact HX5.out.2.2 hh)
    have HP : Hid (Seg .u8 w2 (.slice (some ⟨g1, o1, none⟩) n1 c1) (s ++ [x]) ∧ Chg (fun k j => (k = b ∧ j = 5) ∨ u.ownBlock = some k) w1 w2 ∧ w2.cell? ⟨b, 5, none⟩ = some u) := ⟨hs', hA1, hc52⟩
    obtain ⟨W, hW⟩ : ∃ W, w2.setCell ⟨b, 5, none⟩ (.slice (some ⟨g1, o1, none⟩) n1 c1) = W := ⟨_, rfl⟩
    rw [hW] at hA2 hS2 hS3 h55 h54
    rw [hW]
    have HW : Hid (w2.setCell ⟨b, 5, none⟩ (.slice (some ⟨g1, o1, none⟩) n1 c1) = W) := hW
    have HM : Hid (∀ g, (Value.slice (some ⟨g1, o1, none⟩) n1 c1).ownBlock = some g → u.ownBlock = some g ∨ w1.heap.size ≤ g) := hmv
    have HA2 : Hid (Chg (fun k j => (k = b ∧ j = 5) ∨ u.ownBlock = some k) w1 W.drew) := hA2.drew
    have HS3 : Hid (Row .u8 W.drew (some ⟨g1, o1, none⟩) (s ++ [x]) ∧ Seg .u8 W.drew (.slice (some ⟨g1, o1, none⟩) 0 c1) []) := by
      have hk := (Chg.refl (fun _ _ => False) W).drew
      exact ⟨seg_rowU (hS2.chg hk (fun _ _ _ h => h)), hS3.chg hk (fun _ _ _ h => h)⟩
    have HN1 : Hid ((s ++ [x]).length = n1 ∧ n1 ≤ c1 ∧ 1 ≤ n1 ∧ n1 ≤ 4) := ⟨hn1.1, hn1.2.1, by have h1 := hn1.1; rw [List.length_append] at h1; simp only [List.length_singleton] at h1; omega, by have h1 := hn1.1; have h2 := HL.out.1; rw [List.length_append] at h1; simp only [List.length_singleton] at h1; omega⟩
    clear hmv hgb hA1 hA2 hS2 hS3 hch hmov hold hs' hc52 hf52 hc5 hn1 hW HX5 HS
    have hF : W.drew.cell? ⟨b, 4, none⟩ = some (.bool π) ∧ W.drew.cell? ⟨b, 5, none⟩ = some (.slice (some ⟨g1, o1, none⟩) n1 c1) := ⟨by rw [World.cell?_drew]; exact h54, by rw [World.cell?_drew]; exact h55⟩
    clear h54 h55
    obtain ⟨o, ho⟩ : ∃ o, wholeN π (s ++ [x]) = o := ⟨_, rfl⟩
    have HO : Hid (wholeN π (s ++ [x]) = o) := ho
    clear ho
    cases o with
    | none =>
      have HST : Hid (stepU π s x = some (s ++ [x], [])) := by show _ = _; unfold stepU; rw [HT.out, HO.out]; rfl
      go_region_held3 (fun w' => w'.cell? ⟨b, 4, none⟩ = some (.bool π) ∧ w'.cell? ⟨b, 5, none⟩ = some (.slice (some ⟨g1, o1, none⟩) n1 c1)) (exact hF) (first
        | (go_at_call 52; refine (compl_none _ n1 c1 (s ++ [x]) _ HO.out HS3.out.1 HN1.out.1 HN1.out.2.2 HN1.out.2.1 HB.out).mono ?_; rintro e w5 ⟨rfl, b5⟩; have hF := And.intro (cell_later b5 hF.1) (cell_later b5 hF.2)))
      go_wp2
      go_ret
      have hg : Good π (s ++ [x]) := by
        rcases step_cases H.out.good H.out.byte HL.out.2 HST.out with ⟨_, h⟩ | ⟨c, h, _⟩
        · exact h
        · simp at h
      have D := HD1.out.put HP.out.2.1 HP.out.2.2 HP.out.1 HM.out HD1.out.lt (fun g hg => HD1.out.ltV hg) hg HB.out
      rw [HW.out] at D
      have D5 := (D.below ((Below.refl _ _).drew)).below b5
      refine ⟨v, _, by rw [HST.out]; rfl, by simpa [stN, toldN, HST.out] using D5, ?_, mov_refl _ _, ?_⟩
      · refine (HC1.out.1.trans2 HA2.out (fun _ _ _ h => h) (fun k j _ h => ?_)).trans (chg_of_below b5 (Nat.le_refl _) _)
        rcases h with h | h
        · exact .inl h.1
        · exact .inr (.inr h)
      · intro g hg
        rcases HM.out g hg with e | e
        · exact .inl e
        · right; have := HC1.out.2; omega
    | some c =>
      have HST : Hid (stepU π s x = some ([], [c])) := by show _ = _; unfold stepU; rw [HT.out, HO.out]; rfl
      go_region_held3 (fun w' => w'.cell? ⟨b, 4, none⟩ = some (.bool π) ∧ w'.cell? ⟨b, 5, none⟩ = some (.slice (some ⟨g1, o1, none⟩) n1 c1)) (exact hF) (first
        | (go_at_call 52; refine (compl_some _ n1 c1 (s ++ [x]) c _ HO.out HS3.out.1 HN1.out.1 HN1.out.2.2 HN1.out.2.1 HB.out).mono ?_; rintro e w5 ⟨rfl, b5⟩; have hF := And.intro (cell_later b5 hF.1) (cell_later b5 hF.2)))
      have hA5 : Chg (fun k j => (k = b ∧ j = 5) ∨ u.ownBlock = some k) w1 w5 := HA2.out.trans (chg_of_below b5 (Nat.le_refl _) _)
      have hf5 := hA5.freeAt HD1.out.st.c HD1.out.st.f
      have hS5 : Seg .u8 w5 (.slice (some ⟨g1, o1, none⟩) 0 c1) [] := HS3.out.2.chg (chg_of_below b5 (Nat.le_refl _) (fun _ _ => False)) (fun _ _ _ h => h)
      have hM0 : ∀ g, (Value.slice (some ⟨g1, o1, none⟩) 0 c1).ownBlock = some g → u.ownBlock = some g ∨ w1.heap.size ≤ g := fun g hg => HM.out g hg
      have D5 := HD1.out.put hA5 hF.2 hS5 hM0 HD1.out.lt (fun g hg => HD1.out.ltV hg) (good_nil π) (by simp)
      have C5 : Chg (fun k _ => footD b v u k) w (w5.setCell ⟨b, 5, none⟩ (.slice (some ⟨g1, o1, none⟩) 0 c1)) := by
        refine (HC1.out.1.trans2 hA5 (fun _ _ _ h => h) (fun k j _ h => ?_)).trans2 (chg_setCell w5 b 5 _) (fun _ _ _ h => h) (fun k j _ h => .inl h.1)
        rcases h with h | h
        · exact .inl h.1
        · exact .inr (.inr h)
      have HD5 : Hid (DecV π (w5.setCell ⟨b, 5, none⟩ (.slice (some ⟨g1, o1, none⟩) 0 c1)) b p q en [] l v (.slice (some ⟨g1, o1, none⟩) 0 c1) ∧ Chg (fun k _ => footD b v u k) w (w5.setCell ⟨b, 5, none⟩ (.slice (some ⟨g1, o1, none⟩) 0 c1))) := ⟨D5, C5⟩
      have hc55 := hF.2
      have hnc : (0 : Int) ≤ (c1 : Int) := by omega
      clear hF hA5 hS5 hM0 D5 C5 b5
      go_wp2_with fail
      have hB6 := (Below.refl (w5.setCell ⟨b, 5, none⟩ (.slice (some ⟨g1, o1, none⟩) 0 c1)).heap.size (w5.setCell ⟨b, 5, none⟩ (.slice (some ⟨g1, o1, none⟩) 0 c1))).alloc (Nat.le_refl _) (.cells #[.int .u32 c] 74)
      refine (hold_any b 3 v l [c] _ 1 1 _ (HD5.out.1.below hB6).row (by exact row_new .u32 _ [c] _ _ (by simp)) rfl (fun h => by cases h) (by simp; omega)).mono ?_
      rintro e w6 ⟨v', rfl, hr6, hc6, hm6⟩
      go_wp2
      go_ret
      have hz : w.heap.size ≤ ((w5.setCell ⟨b, 5, none⟩ (.slice (some ⟨g1, o1, none⟩) 0 c1)).alloc (.cells #[.int .u32 c] 74)).heap.size := Nat.le_trans HD5.out.2.size hB6.size
      refine ⟨v', .slice (some ⟨g1, o1, none⟩) 0 c1, by rw [HST.out]; rfl, by simpa [stN, toldN, HST.out] using (HD5.out.1.below hB6).hold hr6 hc6 hm6, (HD5.out.2.alloc _).trans2 hc6 (fun _ _ _ h => h) (fun k j _ h => ?_), mov_trans (mov_refl w v) hm6 hz, ?_⟩
      · rcases h with h | h
        · exact .inl h.1
        · exact .inr (.inl h)
      · intro g hg
        rcases HM.out g hg with e | e
        · exact .inl e
        · right; have := HC1.out.2; omega

set_option maxHeartbeats 4000000 in
theorem dEnd_any (b : Nat) (p q : Int) (en : Bool) (s : St) (l : List Int) (v u : Value) (w : World) (h : DecV π w b p q en s l v u) :
    Calls Try.prog 26 #[.pointer (some ⟨b, 0, none⟩)] w fun e w' => e = .returned (.tuple #[]) ∧ DecV π w' b p (if rest s = true then q else stopI q en 4) (endB (if rest s = true then q else stopI q en 4) en) s l v u ∧ Chg (footB b 0) w w' := by
  have hc4 := h.st.c
  have H : Hid (DecV π w b p q en s l v u) := h
  obtain ⟨a, c, hv, -⟩ := h.st.seg.form
  by_cases hs : s = []
  · subst hs
    rw [if_pos (show rest [] = true from rfl)]
    clear h
    rw [hv] at hc4
    have hl : ([] : List Int).length = 0 := rfl
    rw [hl] at hc4
    clear hl hv
    go_enter Try.func26, Try.ntmps26
    go_wp2_with fail
    refine (end_any b 0 p q en w H.out.base).mono ?_
    rintro e w2 ⟨rfl, hB, hC⟩
    go_wp2
    go_end0
    exact ⟨rfl, H.out.rebase hB hC, hC⟩
  · rw [if_neg (show ¬ rest s = true by simpa [rest] using hs)]
    have hlen : 0 < s.length := List.length_pos_iff.2 hs
    obtain ⟨n, hn⟩ : ∃ n, s.length = n := ⟨_, rfl⟩
    rw [hn] at hv hlen
    rw [hv] at hc4
    have hlen' : (n : Int) > 0 := by omega
    clear h hv hn hlen hs
    go_enter Try.func26, Try.ntmps26
    go_wp2_with fail
    refine (stop_any b 0 p q en 4 w H.out.base).mono ?_
    rintro e w2 ⟨rfl, hB, hC⟩
    have D2 := H.out.rebase hB hC
    go_wp2_with fail
    refine (end_any b 0 p _ en w2 D2.base).mono ?_
    rintro e w3 ⟨rfl, hB3, hC3⟩
    go_wp2
    go_end0
    exact ⟨rfl, D2.rebase hB3 hC3, hC.trans hC3⟩
end U16
end Go.Proofs.Ytajpllhljgpidaa
