/-
  LiteralMakes answers true. Conditions: the text is no longer than any text that is read can be; the table of package math/bits lies as its text lays it.
-/
import Derived.Test.YtecoiifmeajicaaDoorKnw
import Derived.Test.YtecoiifmeajicaaDoorRefC6
namespace Go.Proofs.YtecoiifmeajicaaDoor
open Go.RowKit
set_option linter.unusedVariables false
theorem nil_ref (g : Nat) (w : World) : (binOp .eql 27 (.pointer (some ⟨g, 0, none⟩)) (.pointer none)).run Tryd.prog w = .ok (.bool false) w := by kernel_rfl
theorem nil_ref2 (w : World) : (binOp .eql 27 (.pointer none) (.pointer none)).run Tryd.prog w = .ok (.bool true) w := by kernel_rfl
theorem neq_bool (a b : Bool) (w : World) : (binOp .neq 4 (.bool a) (.bool b)).run Tryd.prog w = .ok (.bool (a != b)) w := by cases a <;> cases b <;> kernel_rfl
set_option maxHeartbeats 4000000 in
theorem literalMakes_any (p : ByteArray) (fold : Bool) (k : Int) (w : World) (hp : p.size ≤ 140737488351232) (hk1 : -9223372036854775808 ≤ k) (hk2 : k ≤ 9223372036854775807) (ht : Tab w) :
    Calls Tryd.prog 3 #[.string p, .bool fold, .int .i64 k] w fun e w' => e = .returned (.bool true) ∧ Below w.heap.size w w' := by
  have n1 := nil_fin
  have n2 := nil_fin2
  have n3 := nil_ref
  have n4 := nil_ref2
  have n5 := neq_bool
  have HKN := Hid.mk' (known_any w ht)
  have HCH := Hid.mk' (fun W => choose_any p fold W (by omega))
  have HRC := Hid.mk' (fun W => refChoose_any p fold W (by omega))
  have HT := Hid.mk' ht
  clear ht
  cases hP : isP p.size with
  | false =>
    have HC := Hid.mk' (fun W => compile_no p fold k W (by omega) hP)
    have HR := Hid.mk' (fun W => refCompile_no p fold k W (by omega) hP)
    clear hP
    go_enter Tryd.func3, Tryd.ntmps3
    go_wp2_with (first
      | (go_at_call 9; refine HKN.out.mono ?_; rintro e w1 ⟨rfl, hb1⟩; have HB1 := Hid.mk' hb1; clear hb1)
      | (go_at_call 10; refine (HC.out _).mono ?_; rintro e w2 ⟨rfl, rfl⟩)
      | (go_at_call 11; refine (HR.out _).mono ?_; rintro e w3 ⟨rfl, rfl⟩)
      | (go_at_call 12; refine (HCH.out _).mono ?_; rintro e w4 ⟨rfl, rfl⟩)
      | (go_at_call 13; refine (HRC.out _).mono ?_; rintro e w5 ⟨rfl, rfl⟩))
    go_ret
    exact ⟨rfl, HB1.out⟩
  | true =>
    cases hS : suitsB (kk k p.size fold) p.size with
    | false =>
      have HC := Hid.mk' (fun W => compile_bad p fold k W (by omega) hP hS)
      have HR := Hid.mk' (fun W => refCompile_bad p fold k W hP hS)
      clear hP hS
      go_enter Tryd.func3, Tryd.ntmps3
      go_wp2_with (first
        | (go_at_call 9; refine HKN.out.mono ?_; rintro e w1 ⟨rfl, hb1⟩; have HB1 := Hid.mk' hb1; clear hb1)
        | (go_at_call 10; refine (HC.out _).mono ?_; rintro e w2 ⟨rfl, rfl⟩)
        | (go_at_call 11; refine (HR.out _).mono ?_; rintro e w3 ⟨rfl, rfl⟩)
        | (go_at_call 12; refine (HCH.out _).mono ?_; rintro e w4 ⟨rfl, rfl⟩)
        | (go_at_call 13; refine (HRC.out _).mono ?_; rintro e w5 ⟨rfl, rfl⟩))
      go_ret
      exact ⟨rfl, HB1.out⟩
    | true =>
      have HC := Hid.mk' (fun W (hW : Tab W) => compile_ok p fold k W hP hS hW)
      have HR := Hid.mk' (fun W => refCompile_ok p fold k W hP hS)
      clear hP hS
      go_enter Tryd.func3, Tryd.ntmps3
      go_wp2_with (first
        | (go_at_call 9; refine HKN.out.mono ?_; rintro e w1 ⟨rfl, hb1⟩; have HB1 := Hid.mk' hb1; clear hb1)
        | (go_at_call 10; refine (HC.out _ (HT.out.below HB1.out)).mono ?_; rintro e w2 ⟨g, D, rfl, hF, hD, hb2⟩; have HF := Hid.mk' hF; have HD := Hid.mk' hD; have HB2 : Hid (Below w.heap.size w w2) := HB1.out.trans (hb2.mono HB1.out.size); clear hF hD hb2)
        | (go_at_call 11; refine (HR.out _).mono ?_; rintro e w3 ⟨rfl, rfl⟩)
        | (go_at_call 12; refine (HCH.out _).mono ?_; rintro e w4 ⟨rfl, rfl⟩)
        | (go_at_call 13; refine (HRC.out _).mono ?_; rintro e w5 ⟨rfl, rfl⟩)
        | (go_at_call 14; refine (kernel_any g fold p _ _ D (HF.out.keeps (KeepsB.of_below (N := w2.heap.size) ((Below.refl _ _).alloc (Nat.le_refl _) _) (fun k hk => (HD.out k hk).2)))).mono ?_; rintro e w6 ⟨rfl, rfl⟩)
        | (go_at_call 15; refine (refKernel_any _ (kk k p.size fold) _ (by simp [go_sem])).mono ?_; rintro e w7 ⟨rfl, rfl⟩))
      go_ret
      exact ⟨rfl, HB2.out.alloc HB2.out.size _⟩
end Go.Proofs.YtecoiifmeajicaaDoor
