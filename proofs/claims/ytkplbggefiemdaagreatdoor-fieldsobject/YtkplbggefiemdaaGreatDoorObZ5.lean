/-
  object: Right of values that are right: check of a value of kind 5. Conditions: as it says.
-/
import Derived.Test.YtkplbggefiemdaaGreatDoorObZ
namespace Go.Proofs.YtkplbggefiemdaaGreatDoor
open Go.RowKit Go.Maps
set_option linter.unusedVariables false
set_option linter.unusedSimpArgs false
set_option maxRecDepth 100000 in
set_option maxHeartbeats 8000000 in
theorem check5 (h : Nat) (t : ByteArray) (F : Nat → Prop) (d a s : Nat) (cs : Array Value) (w : World) (hc : w.heap[h]? = some (.cells #[.int .i64 (a : Int), .int .i64 (s : Int)] 88 (0, 0))) (hv : VlAt F w (.mk 5 t [] []) cs) (hF : ¬ F h) (hdp : d ≤ 41) (hS : t.size ≤ 65536) (hlow : Lib.validD t.data.toList = true) (hu : UtT w)
    (h1 : (accV (.mk 5 t [] []) (a, s)).1 ≤ 65536) (h2 : (accV (.mk 5 t [] []) (a, s)).2 ≤ 65536) :
    Calls Tryz.prog 68 #[.pointer (some ⟨h, 0, none⟩), .agg cs, .int .i64 (d : Int)] w fun e Y => e = .returned (.int .i64 0) ∧ Y.heap[h]? = some (.cells #[.int .i64 ((accV (.mk 5 t [] []) (a, s)).1 : Int), .int .i64 ((accV (.mk 5 t [] []) (a, s)).2 : Int)] 88 (0, 0)) ∧ Only h w Y := by
  obtain ⟨pn, cn, pk, ck, rfl, hnm, hkids⟩ := hv.open_
  have hhl := (Array.getElem?_eq_some_iff.1 hc).1
  have hlt := accV_le (.mk 5 t [] []) (a, s)
  have hle : (a + 1) ≤ (accV (.mk 5 t [] []) (a, s)).1 ∧ s ≤ (accV (.mk 5 t [] []) (a, s)).2 := hlt
  have haI : (a : Int) < 65536 := by omega
  have hsI : (s : Int) ≤ 65536 := by omega
  have hbe := (accL_le ([]) (a + 1, s + ownS 5 (t) ([]) ([] : List Vl).length)).2
  have hob : s + ownS 5 (t) ([]) ([] : List Vl).length ≤ 65536 := by
    have e : (accV (.mk 5 t [] []) (a, s)) = accL ([]) (a + 1, s + ownS 5 (t) ([]) ([] : List Vl).length) := by rw [accV]
    rw [e] at h2
    exact Nat.le_trans hbe h2
  have HFIN : Hid ((accV (.mk 5 t [] []) (a, s)) = accL ([]) (a + 1, s + ownS 5 (t) ([]) ([] : List Vl).length)) := Hid.mk' (by rw [accV])
  obtain ⟨z, hz⟩ : ∃ z, accV (.mk 5 t [] []) (a, s) = z := ⟨_, rfl⟩
  rw [hz] at h1 h2 HFIN ⊢
  have H12 := Hid.mk' (And.intro h1 h2)
  have hne1 : decide ((a : Int) = 65536) = false := decide_eq_false (by omega)
  have hne2 : ((a : Int) == 65536) = false := by simp; omega
  have hne3 : ¬ (a : Int) = 65536 := by omega
  have hne4 : ¬ a = 65536 := by omega
  have HW : Hid (∀ X, X = w.alloc (.cells #[.int .i64 5, .string t, .slice pn 0 cn, .slice pk 0 ck] 41) → Ck h w.heap.size a s #[.int .i64 5, .string t, .slice pn 0 cn, .slice pk 0 ck] (.mk 5 t [] []) F w X) := Hid.mk' (fun X hX => by
    subst hX
    have hb := (Below.refl _ w).alloc (Nat.le_refl _) (.cells #[.int .i64 5, .string t, .slice pn 0 cn, .slice pk 0 ck] 41)
    exact ⟨(hb.block h hhl).trans hc, heap_alloc_new w _, VlAt.keep (fun _ x => x) (fun j _ hl => hb.block j hl) hb.size _ _ hv, Only.of_below hb⟩)
  have HF := Hid.mk' hF
  have HUT : Hid (∀ X, Only h w X → UtT X) := Hid.mk' (fun X hX => hu.only hX hc rfl)
  have HBX : Hid (w.heap.size ≠ h) := Hid.mk' (by omega)
  have a0 : ∀ o : Obj, (w.alloc o).cell? ⟨h, 0, none⟩ = some (.int .i64 (a : Int)) := fun o => by
    have hb := ((Below.refl _ w).alloc (Nat.le_refl _) o).block h hhl
    simp [World.cell?, hb, hc]
  have hdI : (d : Int) ≤ 41 := by omega
  have HTREE := Hid.mk' (fun W => isTree5 pn pk cn ck t W)
  have HWRT := Hid.mk' (fun W (hu : UtT W) => isWritten5 t pn pk 0 cn 0 ck W hS hlow hu)
  have HTWI := Hid.mk' (fun W (hn : NmS pn ([]) W) => isTwice_no ([]) pn cn W hn (fun t ht => by cases ht) (by decide) rfl)
  have HOWN := Hid.mk' (fun W (hn : NmS pn [] W) => ownSize5 t pn pk 0 cn 0 ck W (by omega))
  have hos : ownS 5 (t) ([]) ([] : List Vl).length = txS (Sums.bl t) 2 := rfl
  rw [hos] at hob HFIN
  generalize txS (Sums.bl t) 2 = os at hob HFIN HOWN
  have hosI : (s : Int) + (os : Int) ≤ 65536 := by omega
  have HOS := Hid.mk' hob
  have HNM : Hid (∀ X, VlAt F X (.mk 5 t [] []) #[.int .i64 5, .string t, .slice pn 0 cn, .slice pk 0 ck] → NmS pn ([]) X) := Hid.mk' (fun X hX => by
    obtain ⟨p', c', p2, c2, e, hn', _⟩ := hX.open_
    have e1 : p' = pn := by simp at e; exact e.1.1.symm
    rw [← e1]
    exact hn')
  have hdd : (decide ((40 : Int) < (d : Int)) = false ∧ decide (40 < d) = false ∧ ¬ (40 : Int) < (d : Int)) ∨ (decide ((40 : Int) < (d : Int)) = true ∧ decide (40 < d) = true ∧ (40 : Int) < (d : Int)) := by
    by_cases h : d ≤ 40
    · exact .inl ⟨decide_eq_false (by omega), decide_eq_false (by omega), by omega⟩
    · exact .inr ⟨decide_eq_true (by omega), decide_eq_true (by omega), by omega⟩
  clear hc hv hF hnm hkids hhl hlt hle hbe h1 h2 hz hos hob hdp hS hlow
  rcases hdd with ⟨hd1, hd2, hd3⟩ | ⟨hd1, hd2, hd3⟩
  all_goals
    go_enter Tryz.func68, Tryz.ntmps68
    go_wp2_with fail
    refine (HTREE.out _).mono ?_
    rintro e w1 ⟨rfl, hb1⟩
    have H1 := Hid.mk' ((HW.out _ rfl).below hb1)
    clear hb1 HW a0 HTREE hne1 hne2 hne3 hne4
    obtain ⟨a0, a1, f0, f1, b0, b1, b2, b3⟩ := H1.out.cells
    go_wp2_with fail
    refine (HWRT.out _ (HUT.out _ H1.out.on)).mono ?_
    rintro e w2 ⟨rfl, hb2⟩
    have H2 := Hid.mk' (H1.out.below hb2)
    clear hb2 H1 HWRT a0 a1 f0 f1 b0 b1 b2 b3
    obtain ⟨a0, a1, f0, f1, b0, b1, b2, b3⟩ := H2.out.cells
    go_wp2_with fail
    refine (HTWI.out _ (HNM.out _ H2.out.vl)).mono ?_
    rintro e w3 ⟨rfl, hb3⟩
    have H3 := Hid.mk' (H2.out.below hb3)
    clear hb3 H2 HTWI a0 a1 f0 f1 b0 b1 b2 b3
    obtain ⟨a0, a1, f0, f1, b0, b1, b2, b3⟩ := H3.out.cells
    go_upto_if 52 with fail
    have H4 := Hid.mk' (H3.out.put0 HF.out HBX.out ((a : Int) + 1) (a + 1) (by simp))
    generalize w3.setCell ⟨h, 0, none⟩ (.int .i64 ((a : Int) + 1)) = w4 at H4 ⊢
    clear H3 a0 a1 f0 f1 b0 b1 b2 b3
    have HM4 : Hid (∀ n X, Below (w4.drewN n).heap.size (w4.drewN n) X → Ck h w.heap.size (a + 1) s #[.int .i64 5, .string t, .slice pn 0 cn, .slice pk 0 ck] (.mk 5 t [] []) F w X) := Hid.mk' (fun n X hX => H4.out.below ⟨hX.os, hX.tape, hX.output, hX.size, hX.block⟩)
    have HN4 : Hid (∀ n, NmS pn ([]) (w4.drewN n)) := Hid.mk' (fun n => by have := HNM.out _ H4.out.vl; exact fun i t hi => this i t hi)
    obtain ⟨a0, a1, f0, f1, b0, b1, b2, b3⟩ := H4.out.cells
    go_cut [] (fun wc => Hid (Ck h w.heap.size (a + 1) (s + os) #[.int .i64 5, .string t, .slice pn 0 cn, .slice pk 0 ck] (.mk 5 t [] []) F w wc))
    case first =>
      have hwr : IntKind.i64.wrap ((s : Int) + (os : Int)) = (s : Int) + (os : Int) := by rw [IntKind.wrap_i64]; omega
      go_wp2_with fail
      go_region_with ((go_at_call 100; refine (HOWN.out _ (HN4.out 1)).mono ?_; rintro e w5 ⟨rfl, hb5⟩; have H5 := Hid.mk' (HM4.out 1 _ hb5); obtain ⟨k0, k1, k2, k3, k4, k5, k6, k7⟩ := H5.out.cells; clear hb5))
      all_goals go_wp2_with fail
      all_goals go_meet
      all_goals exact Hid.mk' (H5.out.put1 HF.out HBX.out _ (s + os) (by simp))
    case rest =>
      have H5 := Hid.mk' hcut.out
      clear hcut H4 HM4 HN4 a0 a1 f0 f1 b0 b1 b2 b3
      rename World => w5
      obtain ⟨a0, a1, f0, f1, b0, b1, b2, b3⟩ := H5.out.cells
      go_wp2_with fail
      go_loopw [65] (fun iv wr => iv = .int .i64 0 ∧ Hid (Ck h w.heap.size (a + 1) (s + os) #[.int .i64 5, .string t, .slice pn 0 cn, .slice pk 0 ck] (.mk 5 t [] []) F w wr)) (fun iv _ => 0)
      case atStart => exact ⟨rfl, H5⟩
      case round =>
        obtain ⟨rfl, HW⟩ := hrel
        have hz := HFIN.out
        rw [accL] at hz
        subst hz
        clear a0 a1 f0 f1 b0 b1 b2 b3 H5
        go_wp2_with fail
        go_ret
        exact ⟨rfl, by have := HW.out.hc; simpa using this, HW.out.on⟩
end Go.Proofs.YtkplbggefiemdaaGreatDoor
