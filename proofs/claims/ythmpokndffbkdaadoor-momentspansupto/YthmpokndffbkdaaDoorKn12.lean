/-
  The chapter's first examples are so. Conditions: the tables of units and of the powers of ten lie as the programs' texts lay them.
-/
import Derived.Test.YthmpokndffbkdaaDoorSpF
namespace Go.Proofs.YthmpokndffbkdaaDoor
open Go.RowKit
set_option linter.unusedVariables false
theorem k12_of : Mo.of 2026 11 15 12 0 0 250 = 1794744000250 := by decide +kernel
theorem ofK (w : World) : Calls Tryd.prog 9 #[.agg #[.int .i64 2026, .int .i64 11, .int .i64 15, .int .i64 12, .int .i64 0, .int .i64 0, .int .i64 250]] w fun e w' => e = .returned (.tuple #[.int .i64 1794744000250, .int .i64 0]) ∧ Below w.heap.size w w' := by
  have := of_any 2026 11 15 12 0 0 250 w (by decide) (by decide) (by decide) (by decide) (by decide) (by decide) (by decide) (by decide) (by decide) (by decide)
  rw [k12_of] at this
  exact this
theorem k12_day : Mo.IsDay 20772 2026 11 15 := ⟨by decide, by decide, by decide, by decide, by decide, by decide +kernel, by decide +kernel⟩
theorem k12_sh : nums (Mo.sh 2026 11 15 12 0 0 250) = ⟨#[50, 48, 50, 54, 45, 49, 49, 45, 49, 53, 84, 49, 50, 58, 48, 48, 58, 48, 48, 46, 50, 53, 48, 90]⟩ := by decide +kernel
theorem showK (w : World) : Calls Tryd.prog 15 #[.int .i64 1794744000250] w fun e w' => e = .returned (.tuple #[.string ⟨#[50, 48, 50, 54, 45, 49, 49, 45, 49, 53, 84, 49, 50, 58, 48, 48, 58, 48, 48, 46, 50, 53, 48, 90]⟩, .int .i64 0]) ∧ Below w.heap.size w w' := by
  have := show_any 1794744000250 w (by decide)
  refine this.mono ?_
  rintro e w' ⟨⟨y, m, d, hday, he⟩, hb⟩
  obtain ⟨rfl, rfl, rfl⟩ := hday.same k12_day
  refine ⟨?_, hb⟩
  rw [he, ← k12_sh]
def t12 : ByteArray := ⟨#[50, 48, 50, 54, 45, 49, 49, 45, 49, 53, 84, 49, 50, 58, 48, 48, 58, 48, 48, 90]⟩
theorem stR_of {y m d h mi s ms : Nat} {sg : Int} {zh zm : Nat} {n : Int} (h1 : Mo.stOK y m d h mi s ms sg zh zm = true) (h2 : Mo.stN y m d h mi s ms sg zh zm = n) : stR y m d h mi s ms sg zh zm = .returned (.tuple #[.int .i64 n, .int .i64 0]) := by
  unfold stR
  rw [if_pos h1, h2]
theorem k12_read : readR (Sums.bl t12) = .returned (.tuple #[.int .i64 1794744000000, .int .i64 0]) := by
  unfold readR
  rw [if_neg (by decide +kernel)]
  exact stR_of (by decide +kernel) (by decide +kernel)
theorem readK (w : World) : Calls Tryd.prog 24 #[.string ⟨#[50, 48, 50, 54, 45, 49, 49, 45, 49, 53, 84, 49, 50, 58, 48, 48, 58, 48, 48, 90]⟩] w fun e w' => e = .returned (.tuple #[.int .i64 1794744000000, .int .i64 0]) ∧ Below w.heap.size w w' := by
  have := read_any t12 w
  rw [k12_read] at this
  exact this
def a12 : ByteArray := ⟨#[50, 48, 50, 54, 45, 49, 49, 45, 49, 53, 32, 49, 50, 58, 48, 48, 58, 48, 48, 32, 117, 112]⟩
theorem k12_dt : dtR (Sums.bl a12) = .returned (.tuple #[.int .i64 1794744000000, .int .i64 0]) := by
  unfold dtR
  exact stR_of (by decide +kernel) (by decide +kernel)
theorem k12_ah : ahR 1794744000000 0 (false || dtB (Sums.bl a12)) (dtL (Sums.bl a12)) = .returned (.tuple #[.int .i64 1794744000000, .string ⟨#[117, 112]⟩, .bool true]) := by
  unfold ahR
  rw [if_neg (by decide +kernel)]
  rw [show nums (restF 32 (dtL (Sums.bl a12))) = ⟨#[117, 112]⟩ by decide +kernel]
theorem aheadK (w : World) : Calls Tryd.prog 26 #[.string ⟨#[50, 48, 50, 54, 45, 49, 49, 45, 49, 53, 32, 49, 50, 58, 48, 48, 58, 48, 48, 32, 117, 112]⟩] w fun e w' => e = .returned (.tuple #[.int .i64 1794744000000, .string ⟨#[117, 112]⟩, .bool true]) ∧ Below w.heap.size w w' := by
  have := ahead_over a12 w 1794744000000 0 (false || dtB (Sums.bl a12)) (dtL (Sums.bl a12)) (by decide +kernel) (fun g w h => by
    have := ahead_dated g (Sums.bl a12) false w h (by decide +kernel) (by decide +kernel) (by decide +kernel) (by decide +kernel)
    rw [k12_dt] at this
    exact this)
  rw [k12_ah] at this
  exact this
theorem k12_span : spanR (spanF 6 [49, 104, 51, 48, 109] 0 0) = .returned (.tuple #[.int .i64 5400000, .int .i64 0]) := by
  rw [show spanF 6 [49, 104, 51, 48, 109] 0 0 = some 5400000 by decide +kernel]
  rfl
theorem spanK (w : World) (hu : UnT w) : Calls Tryd.prog 19 #[.string ⟨#[49, 104, 51, 48, 109]⟩] w fun e w' => e = .returned (.tuple #[.int .i64 5400000, .int .i64 0]) ∧ Below w.heap.size w w' := by
  have := span_any ⟨#[49, 104, 51, 48, 109]⟩ w (by decide) (by decide +kernel) hu
  rw [show Sums.bl ⟨#[49, 104, 51, 48, 109]⟩ = [49, 104, 51, 48, 109] by decide +kernel, show (⟨#[49, 104, 51, 48, 109]⟩ : ByteArray).size + 1 = 6 from rfl, k12_span] at this
  exact this
theorem u8n (z : Nat) (h : z < 256) : (UInt8.ofNat z).toNat = z := UInt8.toNat_ofNat_of_lt h
theorem dec_small (u : Nat) (h : u < 10) : dec u = [48 + u] := by
  unfold dec
  rw [Lib.decDigits, dif_pos h, List.map_cons, List.map_nil, u8n _ (show 48 + u < 256 by omega)]
theorem dec_step (u : Nat) (h : ¬ u < 10) : dec u = dec (u / 10) ++ [48 + u % 10] := by
  unfold dec
  rw [Lib.decDigits, dif_neg h, List.map_append, List.map_cons, List.map_nil, u8n _ (show 48 + u % 10 < 256 by omega)]
theorem k12_spell : spT 5400000 5 = [49, 104, 51, 48, 109] := by
  have d30 : dec 30 = [51, 48] := by rw [dec_step 30 (by decide), dec_small (30 / 10) (by decide)]; rfl
  have d1 : dec 1 = [49] := dec_small 1 (by decide)
  simp [spT, spRm, unum, uname, d1, d30]
theorem spellK (w : World) (hu : UnT w) (hp : Pow w) : Calls Tryd.prog 21 #[.int .i64 5400000] w fun e w' => e = .returned (.tuple #[.string ⟨#[49, 104, 51, 48, 109]⟩, .int .i64 0]) ∧ Below w.heap.size w w' := by
  have := spell_any 5400000 w (by decide) (by decide) hu hp
  rw [k12_spell, show nums [49, 104, 51, 48, 109] = ⟨#[49, 104, 51, 48, 109]⟩ by decide +kernel] at this
  exact this
theorem bucketK (w : World) : Calls Tryd.prog 17 #[.int .i64 1794744000250, .int .i64 60000] w fun e w' => e = .returned (.tuple #[.int .i64 1794744000000, .int .i64 0]) ∧ w' = w := by
  have := bucket_any 1794744000250 60000 w
  rw [show bucketR 1794744000250 60000 = .returned (.tuple #[.int .i64 1794744000000, .int .i64 0]) from rfl] at this
  exact this
/-- what every law knows of memory -/
structure Lw (w0 w : World) : Prop where
  un : UnT w
  pow : Pow w
  bel : Below w0.heap.size w0 w
  pos : 3 < w0.heap.size
theorem Lw.next {w0 w w' : World} (h : Lw w0 w) (b : Below w.heap.size w w') : Lw w0 w' :=
  ⟨h.un.below b (by have := h.bel.size; have := h.pos; omega), h.pow.below b (by have := h.bel.size; have := h.pos; omega), h.bel.trans (b.mono h.bel.size), h.pos⟩
set_option maxRecDepth 100000 in
set_option maxHeartbeats 4000000 in
theorem known_any (w : World) (hu : UnT w) (hp : Pow w) :
    Calls Tryd.prog 8 #[] w fun e w' => e = .returned (.bool true) ∧ Lw w w' := by
  have H0 : Hid (Lw w w) := ⟨hu, hp, Below.refl _ _, hp.size⟩
  clear hu hp
  go_enter Tryd.func8, Tryd.ntmps8
  go_wp2_with fail
  refine (ofK _).mono ?_
  rintro e w1 ⟨rfl, hb⟩
  have H1 := Hid.mk' (H0.out.next hb)
  clear hb H0
  go_wp2_with fail
  refine (showK _).mono ?_
  rintro e w2 ⟨rfl, hb⟩
  have H2 := Hid.mk' (H1.out.next hb)
  clear hb H1
  go_wp2_with fail
  refine (readK _).mono ?_
  rintro e w3 ⟨rfl, hb⟩
  have H3 := Hid.mk' (H2.out.next hb)
  clear hb H2
  go_wp2_with fail
  refine (aheadK _).mono ?_
  rintro e w4 ⟨rfl, hb⟩
  have H4 := Hid.mk' (H3.out.next hb)
  clear hb H3
  go_wp2_with fail
  refine (spanK _ H4.out.un).mono ?_
  rintro e w5 ⟨rfl, hb⟩
  have H5 := Hid.mk' (H4.out.next hb)
  clear hb H4
  go_wp2_with fail
  refine (spellK _ H5.out.un H5.out.pow).mono ?_
  rintro e w6 ⟨rfl, hb⟩
  have H6 := Hid.mk' (H5.out.next hb)
  clear hb H5
  go_wp2_with fail
  refine (bucketK _).mono ?_
  rintro e w7 ⟨rfl, hw7⟩
  have hw8 := hw7.symm
  subst hw8
  clear hw7
  go_wp2_with fail
  go_ret
  exact ⟨rfl, H6.out⟩
end Go.Proofs.YthmpokndffbkdaaDoor
