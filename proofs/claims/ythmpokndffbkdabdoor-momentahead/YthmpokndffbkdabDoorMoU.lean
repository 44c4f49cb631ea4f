/-
  moment: the taker: a month's name. Conditions: the table of names lies as the program lays it.
-/
import Derived.Test.YthmpokndffbkdabDoorMoT
import Derived.Test.YthmpokndffbkdabDoorSpA
namespace Go.Proofs.YthmpokndffbkdabDoor
open Go.RowKit
set_option linter.unusedVariables false
def monL (i : Nat) : List Nat := if i = 0 then [74, 97, 110] else if i = 1 then [70, 101, 98] else if i = 2 then [77, 97, 114] else if i = 3 then [65, 112, 114] else if i = 4 then [77, 97, 121] else if i = 5 then [74, 117, 110] else if i = 6 then [74, 117, 108] else if i = 7 then [65, 117, 103] else if i = 8 then [83, 101, 112] else if i = 9 then [79, 99, 116] else if i = 10 then [78, 111, 118] else [68, 101, 99]
def monV : List Value := [.string ⟨#[74, 97, 110]⟩, .string ⟨#[70, 101, 98]⟩, .string ⟨#[77, 97, 114]⟩, .string ⟨#[65, 112, 114]⟩, .string ⟨#[77, 97, 121]⟩, .string ⟨#[74, 117, 110]⟩, .string ⟨#[74, 117, 108]⟩, .string ⟨#[65, 117, 103]⟩, .string ⟨#[83, 101, 112]⟩, .string ⟨#[79, 99, 116]⟩, .string ⟨#[78, 111, 118]⟩, .string ⟨#[68, 101, 99]⟩]
/-- the table of the months' names -/
structure MnT (w : World) : Prop where
  ex : ∃ t f, w.heap[1]? = some (.cells monV.toArray t f)
theorem MnT.lt {w : World} (h : MnT w) : 1 < w.heap.size := by
  obtain ⟨t, f, h⟩ := h.ex
  exact (Array.getElem?_eq_some_iff.1 h).1
theorem MnT.below {B : Nat} {a b : World} (k : MnT a) (hb : Below B a b) (hg : 1 < B) : MnT b := by
  obtain ⟨t, f, h⟩ := k.ex
  exact ⟨t, f, (hb.block 1 hg).trans h⟩
theorem MnT.only {g : Nat} {a b : World} (k : MnT a) (hb : Only g a b) (hg : g ≠ 1) : MnT b := by
  obtain ⟨t, f, h⟩ := k.ex
  exact ⟨t, f, (hb.block 1 k.lt (fun e => hg e.symm)).trans h⟩
def mfF (l : List Nat) : Nat → Nat → Nat
  | 0, _ => 0
  | k + 1, i => if (monL i).isPrefixOf l = true then i + 1 else mfF l k (i + 1)
def mnI (l : List Nat) : Nat := mfF l 12 0
def mnL (l : List Nat) : List Nat := if mnI l = 0 then l else l.drop 3
def mnB (l : List Nat) : Bool := decide (mnI l = 0)
theorem mon_str (i : Nat) (h : i < 12) : ∃ t : ByteArray, monV.getD i (.bool false) = .string t ∧ Sums.bl t = monL i ∧ t.size = 3 := by
  have : ∀ i : Fin 12, ∃ t : ByteArray, monV.getD i.val (.bool false) = .string t ∧ Sums.bl t = monL i.val ∧ t.size = 3 := by
    intro i
    match i with
    | 0 => exact ⟨_, rfl, by decide, by decide⟩
    | 1 => exact ⟨_, rfl, by decide, by decide⟩
    | 2 => exact ⟨_, rfl, by decide, by decide⟩
    | 3 => exact ⟨_, rfl, by decide, by decide⟩
    | 4 => exact ⟨_, rfl, by decide, by decide⟩
    | 5 => exact ⟨_, rfl, by decide, by decide⟩
    | 6 => exact ⟨_, rfl, by decide, by decide⟩
    | 7 => exact ⟨_, rfl, by decide, by decide⟩
    | 8 => exact ⟨_, rfl, by decide, by decide⟩
    | 9 => exact ⟨_, rfl, by decide, by decide⟩
    | 10 => exact ⟨_, rfl, by decide, by decide⟩
    | 11 => exact ⟨_, rfl, by decide, by decide⟩
  exact this ⟨i, h⟩
theorem mi0 (W : World) : (Instr.index 96 (.agg monV.toArray) (.int .i64 0)).run Tryd.prog W = .ok (.string ⟨#[74, 97, 110]⟩) W := by kernel_rfl
theorem mi1 (W : World) : (Instr.index 96 (.agg monV.toArray) (.int .i64 1)).run Tryd.prog W = .ok (.string ⟨#[70, 101, 98]⟩) W := by kernel_rfl
theorem mi2 (W : World) : (Instr.index 96 (.agg monV.toArray) (.int .i64 2)).run Tryd.prog W = .ok (.string ⟨#[77, 97, 114]⟩) W := by kernel_rfl
theorem mi3 (W : World) : (Instr.index 96 (.agg monV.toArray) (.int .i64 3)).run Tryd.prog W = .ok (.string ⟨#[65, 112, 114]⟩) W := by kernel_rfl
theorem mi4 (W : World) : (Instr.index 96 (.agg monV.toArray) (.int .i64 4)).run Tryd.prog W = .ok (.string ⟨#[77, 97, 121]⟩) W := by kernel_rfl
theorem mi5 (W : World) : (Instr.index 96 (.agg monV.toArray) (.int .i64 5)).run Tryd.prog W = .ok (.string ⟨#[74, 117, 110]⟩) W := by kernel_rfl
theorem mi6 (W : World) : (Instr.index 96 (.agg monV.toArray) (.int .i64 6)).run Tryd.prog W = .ok (.string ⟨#[74, 117, 108]⟩) W := by kernel_rfl
theorem mi7 (W : World) : (Instr.index 96 (.agg monV.toArray) (.int .i64 7)).run Tryd.prog W = .ok (.string ⟨#[65, 117, 103]⟩) W := by kernel_rfl
theorem mi8 (W : World) : (Instr.index 96 (.agg monV.toArray) (.int .i64 8)).run Tryd.prog W = .ok (.string ⟨#[83, 101, 112]⟩) W := by kernel_rfl
theorem mi9 (W : World) : (Instr.index 96 (.agg monV.toArray) (.int .i64 9)).run Tryd.prog W = .ok (.string ⟨#[79, 99, 116]⟩) W := by kernel_rfl
theorem mi10 (W : World) : (Instr.index 96 (.agg monV.toArray) (.int .i64 10)).run Tryd.prog W = .ok (.string ⟨#[78, 111, 118]⟩) W := by kernel_rfl
theorem mi11 (W : World) : (Instr.index 96 (.agg monV.toArray) (.int .i64 11)).run Tryd.prog W = .ok (.string ⟨#[68, 101, 99]⟩) W := by kernel_rfl
theorem mon_idx (i : Nat) (h : i < 12) (t : ByteArray) (ht : monV.getD i (.bool false) = .string t) (W : World) : (Instr.index 96 (.agg monV.toArray) (.int .i64 (i : Int))).run Tryd.prog W = .ok (.string t) W := by
  rcases (show i = 0 ∨ i = 1 ∨ i = 2 ∨ i = 3 ∨ i = 4 ∨ i = 5 ∨ i = 6 ∨ i = 7 ∨ i = 8 ∨ i = 9 ∨ i = 10 ∨ i = 11 by omega) with rfl | rfl | rfl | rfl | rfl | rfl | rfl | rfl | rfl | rfl | rfl | rfl
  · have ht2 := Value.string.inj ht
    subst ht2
    exact mi0 W
  · have ht2 := Value.string.inj ht
    subst ht2
    exact mi1 W
  · have ht2 := Value.string.inj ht
    subst ht2
    exact mi2 W
  · have ht2 := Value.string.inj ht
    subst ht2
    exact mi3 W
  · have ht2 := Value.string.inj ht
    subst ht2
    exact mi4 W
  · have ht2 := Value.string.inj ht
    subst ht2
    exact mi5 W
  · have ht2 := Value.string.inj ht
    subst ht2
    exact mi6 W
  · have ht2 := Value.string.inj ht
    subst ht2
    exact mi7 W
  · have ht2 := Value.string.inj ht
    subst ht2
    exact mi8 W
  · have ht2 := Value.string.inj ht
    subst ht2
    exact mi9 W
  · have ht2 := Value.string.inj ht
    subst ht2
    exact mi10 W
  · have ht2 := Value.string.inj ht
    subst ht2
    exact mi11 W
theorem cutP_any (s p : ByteArray) (w : World) : Calls Tryd.prog 69 #[.string s, .string p] w fun e w' => (∃ t, e = .returned (.tuple #[.string t, .bool ((Sums.bl p).isPrefixOf (Sums.bl s))]) ∧ Sums.bl t = if (Sums.bl p).isPrefixOf (Sums.bl s) = true then (Sums.bl s).drop (Sums.bl p).length else Sums.bl s) ∧ w' = w := by
  have hpre : ∀ a b : List UInt8, (a.map UInt8.toNat).isPrefixOf (b.map UInt8.toNat) = a.isPrefixOf b := by
    intro a
    induction a with
    | nil => intro b; simp
    | cons x a ih =>
      intro b
      cases b with
      | nil => rfl
      | cons y b =>
        simp only [List.map_cons, List.isPrefixOf, ih]
        congr 1
        rw [Bool.eq_iff_iff]
        simp only [beq_iff_eq]
        exact ⟨fun e => UInt8.toNat_inj.1 e, fun e => by rw [e]⟩
  have hp2 : (Sums.bl p).isPrefixOf (Sums.bl s) = Lib.hasPrefix s.data.toList p.data.toList := hpre _ _
  refine Calls.mono (Any.strings_CutPrefix YthmpokndffbkdabDoor.lays103 s p w) ?_
  rintro e w' ⟨rfl, hw⟩
  rw [hp2]
  refine ⟨⟨_, rfl, ?_⟩, hw⟩
  unfold Lib.trimPrefix
  show List.map UInt8.toNat (List.toArray _).toList = _
  rw [List.toList_toArray]
  unfold Sums.bl
  split
  · rw [List.map_drop, List.length_map]
  · rfl
set_option maxRecDepth 100000 in
set_option maxHeartbeats 4000000 in
theorem month_any (g : Nat) (l : List Nat) (b : Bool) (w : World) (h : Tk g l b w) (hm : MnT w) (hg1 : g ≠ 1) :
    Calls Tryd.prog 58 #[.pointer (some ⟨g, 0, none⟩)] w fun e w' => e = .returned (.int .i64 ((mnI l : Nat) : Int)) ∧ Tk g (mnL l) (b || mnB l) w' ∧ Only g w w' := by
  obtain ⟨I, hI⟩ : ∃ I, mnI l = I := ⟨_, rfl⟩
  unfold mnL mnB
  rw [hI]
  obtain ⟨L', hL'⟩ : ∃ L', (if I = 0 then l else l.drop 3) = L' := ⟨_, rfl⟩
  obtain ⟨B', hB'⟩ : ∃ B', decide (I = 0) = B' := ⟨_, rfl⟩
  rw [hL', hB']
  have HLB := Hid.mk' (And.intro hL' hB')
  clear hL' hB'
  have HI : Hid (mfF l 12 0 = I) := hI
  have HT := Hid.mk' h
  obtain ⟨t, ht, hg⟩ := h.ex
  have c0 : w.cell? ⟨g, 0, none⟩ = some (.string t) := by simp [World.cell?, hg]
  have f0 : w.frozen? ⟨g, 0, none⟩ = false := by simp [World.frozen?, hg]
  have c1 : w.cell? ⟨g, 1, none⟩ = some (.bool b) := by simp [World.cell?, hg]
  have f1 : w.frozen? ⟨g, 1, none⟩ = false := by simp [World.frozen?, hg]
  have HG := Hid.mk' hg
  have HL := Hid.mk' ht
  obtain ⟨mt, mf, hmt⟩ := hm.ex
  have HM := Hid.mk' hmt
  clear hg h hI ht hm hmt
  go_enter Tryd.func58, Tryd.ntmps58
  go_wp2_with (first | (refine wpList_load_row rfl 96 _ rfl 1 rfl _ monV.toArray _ _ HM.out Tryd.underlying96 rfl (by kernel_rfl) ?_) | fail)
  go_loopw [8] (fun iv wr => ∃ i k : Nat, iv = .int .i64 ((i : Nat) : Int) ∧ i + k = 12 ∧ Hid (mfF l k i = I) ∧ wr = w) (fun iv _ => 12 - (intOf iv).toNat)
  case atStart => exact ⟨0, 12, rfl, rfl, HI, rfl⟩
  case round =>
    obtain ⟨i, k, rfl, hik, hR, rfl⟩ := hrel
    cases k with
    | zero =>
      obtain rfl : i = 12 := by omega
      have e := hR.out
      rw [mfF] at e
      have HE := Hid.mk' e
      clear e
      go_wp2_with fail
      go_ret
      have hq := only_set (o := 1) wr (.bool true) HG.out
      refine ⟨ret_i64 (by rw [← HE.out]; rfl), ?_, hq.1⟩
      rw [← HLB.out.1, ← HLB.out.2, ← HE.out, if_pos rfl, show decide (0 = 0) = true from rfl, Bool.or_true]
      refine ⟨t, HL.out, ?_⟩
      simpa using hq.2
    | succ k =>
      have hi : i < 12 := by omega
      have hiI : (i : Int) < 12 := by omega
      obtain ⟨m, hm1, hm2, hm3⟩ := mon_str i hi
      have hx := mon_idx i hi m hm1
      have e := hR.out
      rw [mfF, ← hm2, ← HL.out] at e
      have HCUT := Hid.mk' (fun w => cutP_any t m w)
      have HM3 : Hid ((Sums.bl m).length = 3) := by show _ = _; rw [Sums.bl_length]; exact hm3
      cases hpx : (Sums.bl m).isPrefixOf (Sums.bl t)
      · rw [hpx] at e HCUT
        simp only [Bool.false_eq_true, if_false] at e HCUT
        rw [HL.out] at e
        have HE := Hid.mk' e
        clear e hm1 hm2 hm3 hpx hi
        go_wp2_with (first | (go_at_call 69; refine (HCUT.out _).mono ?_; rintro e w' ⟨⟨t2, rfl, ht2⟩, hw'⟩; have hw2 := hw'.symm; subst hw2; clear hw' ht2))
        go_roundw
        case rel => exact ⟨i + 1, k, by first | rfl | exact int_eq (by omega), by omega, HE, by first | rfl | trivial⟩
        case measure => simp [intOf]; omega
      · rw [hpx] at e HCUT
        simp only [if_true] at e HCUT
        have HE := Hid.mk' e
        have HI2 := Hid.mk' hi
        clear e hm1 hm2 hm3 hpx hi
        go_wp2_with (first | (go_at_call 69; refine (HCUT.out _).mono ?_; rintro e w' ⟨⟨t2, rfl, ht2⟩, hw'⟩; have hw2 := hw'.symm; subst hw2; have HT2 := Hid.mk' ht2; clear hw' ht2))
        go_ret
        have hq := only_set (o := 0) wr (.string t2) HG.out
        have hne : ¬ I = 0 := by rw [← HE.out]; omega
        refine ⟨ret_i64 (by rw [← HE.out]; omega), ?_, hq.1⟩
        rw [← HLB.out.1, ← HLB.out.2, if_neg hne]
        rw [show decide (I = 0) = false from decide_eq_false hne, Bool.or_false]
        refine ⟨t2, ?_, by simpa using hq.2⟩
        rw [HT2.out, HM3.out, HL.out]
end Go.Proofs.YthmpokndffbkdabDoor
