/-
  The laws' own head, examples: it answers true. No conditions.
-/
import Derived.Test.YtchhdkmflppjhaaRcO
namespace Rec
open Code Sums
def exL : List Ln := [(5, ⟨#[97, 98]⟩), (3, ⟨#[]⟩)]
def exB : ByteArray := ⟨#[2, 10, 3, 2, 0, 97, 98]⟩
def exX : ByteArray := ⟨#[2, 10, 3, 2, 0, 97, 98, 120]⟩
theorem ex_enc : encG [] exL = (0, 0, exL) := by decide +kernel
theorem ex_pay : payF exL = [2, 10, 3, 2, 0, 97, 98] := by decide +kernel
theorem ex_dec : decF exB = (0, exL, 0) := by decide +kernel
theorem ex_decx : decF exX = (34, exL, 7) := by decide +kernel
theorem ex_add1 : addE [] (5, ⟨#[97, 98]⟩) = 0 := by decide +kernel
theorem ex_add2 : addE [(5, ⟨#[97, 98]⟩)] (3, ⟨#[]⟩) = 0 := by decide +kernel
theorem ex_sz : szF exL = 7 := by decide +kernel
theorem ex_mn : mn exL = 3 := by decide +kernel
theorem ex_mx : mx exL = 5 := by decide +kernel
end Rec
namespace Go.Proofs.Ytchhdkmflppjhaa
open Go.RowKit
set_option linter.unusedVariables false
theorem bsize_any {B g : Nat} {L : List Rec.Ln} {w : World} (h : Bdr B g L w) :
    Calls Try.prog 16 #[.pointer (some ⟨g, 0, none⟩)] w fun e w' => e = .returned (.int .i64 (Rec.szF L : Int)) ∧ Below w.heap.size w w' := by
  obtain ⟨sv, ev, tv, hw⟩ := h.ex
  have hsz := h.sz
  have hlen := Rec.len_le L
  have hs1 : (Rec.sts L).length = L.length := Rec.sts_len L
  have e : Rec.szF L = (Code.uint (Rec.sts L).length).length + Rec.nmF L + (Rec.txs L).length := by rw [hs1]; rfl
  rw [e]
  rw [e] at hsz
  exact Size_any hw (by omega) (by omega) (by omega)
theorem blen_any {B g : Nat} {L : List Rec.Ln} {w : World} (h : Bdr B g L w) :
    Calls Try.prog 15 #[.pointer (some ⟨g, 0, none⟩)] w fun e w' => e = .returned (.int .i64 (L.length : Int)) ∧ w' = w := by
  obtain ⟨sv, ev, tv, hw⟩ := h.ex
  have := Bw.len_any hw
  rw [Rec.sts_len] at this
  exact this
theorem min_any {B g : Nat} {L : List Rec.Ln} {w : World} (h : Bdr B g L w) :
    Calls Try.prog 20 #[.pointer (some ⟨g, 0, none⟩)] w fun e w' => e = .returned (.int .i64 (Rec.mn L)) ∧ w' = w := by
  obtain ⟨sv, ev, tv, hw⟩ := h.ex
  have c4 : w.cell? ⟨g, 4, none⟩ = some (.int .i64 (Rec.mn L)) := by rw [hw.cell]; rfl
  clear hw h
  go_enter Try.func20, Try.ntmps20
  go_wp2_with fail
  go_ret
  exact ⟨rfl, rfl⟩
theorem max_any {B g : Nat} {L : List Rec.Ln} {w : World} (h : Bdr B g L w) :
    Calls Try.prog 21 #[.pointer (some ⟨g, 0, none⟩)] w fun e w' => e = .returned (.int .i64 (Rec.mx L)) ∧ w' = w := by
  obtain ⟨sv, ev, tv, hw⟩ := h.ex
  have c5 : w.cell? ⟨g, 5, none⟩ = some (.int .i64 (Rec.mx L)) := by rw [hw.cell]; rfl
  clear hw h
  go_enter Try.func21, Try.ntmps21
  go_wp2_with fail
  go_ret
  exact ⟨rfl, rfl⟩
theorem ex_nums : nums (Rec.payF Rec.exL) = ⟨#[2, 10, 3, 2, 0, 97, 98]⟩ := by rw [Rec.ex_pay]; decide +kernel
abbrev exO : Obj := .cells #[.int .i64 5, .string ⟨#[97, 98]⟩, .int .i64 3, .string ⟨#[]⟩] 35
theorem below_up {B : Nat} {a b c : World} (h : Below B a b) (k : Below b.heap.size b c) (hB : B ≤ a.heap.size) : Below B a c :=
  h.trans ⟨k.os, k.tape, k.output, k.size, fun i hi => k.block i (Nat.lt_of_lt_of_le hi (Nat.le_trans hB h.size))⟩
set_option maxHeartbeats 2000000 in
set_option maxRecDepth 100000 in
theorem examples_any (w : World) :
    Calls Try.prog 6 #[] w fun e w' => e = .returned (.bool true) ∧ Below w.heap.size w w' := by
  have hal : Below w.heap.size w (w.alloc (.cells #[.int .i64 5, .string ⟨#[97, 98]⟩, .int .i64 3, .string ⟨#[]⟩] 35)) := (Below.refl _ _).alloc (Nat.le_refl _) _
  have HB0 := Hid.mk' hal
  have HLS : Hid (LsAt (.slice (some ⟨w.heap.size, 0, none⟩) 2 2) Rec.exL (w.alloc (.cells #[.int .i64 5, .string ⟨#[97, 98]⟩, .int .i64 3, .string ⟨#[]⟩] 35))) := by
    have hh := heap_alloc_new w (.cells #[.int .i64 5, .string ⟨#[97, 98]⟩, .int .i64 3, .string ⟨#[]⟩] 35)
    refine ⟨_, _, rfl, fun _ => ⟨w.heap.size, 0, rfl, by simp, fun i hi => ?_⟩⟩
    have hi2 : i < 2 := hi
    have : i = 0 ∨ i = 1 := by omega
    rcases this with rfl | rfl
    · exact ⟨by rw [Lib.cell_of_heap hh]; rfl, by rw [Lib.cell_of_heap hh]; rfl⟩
    · exact ⟨by rw [Lib.cell_of_heap hh]; rfl, by rw [Lib.cell_of_heap hh]; rfl⟩
  have HH0 : Hid ((w.alloc exO).heap[w.heap.size]? = some exO) := heap_alloc_new w _
  have HSZ0 : Hid (w.heap.size < (w.alloc exO).heap.size) := by unfold Hid; simp
  clear hal
  go_enter Try.func6, Try.ntmps6
  go_wp2_with fail
  refine (encode_any _ Rec.exL _ HLS.out (by decide) (by decide) 0 0 Rec.exL Rec.ex_enc ⟨#[2, 10, 3, 2, 0, 97, 98]⟩ (by rw [if_pos rfl, ex_nums])).mono ?_
  rintro e w1 ⟨rfl, hb1⟩
  have HB1 : Hid (Below w.heap.size w w1) := below_up HB0.out hb1 (Nat.le_refl _)
  have HL1 : Hid (LsAt (.slice (some ⟨w.heap.size, 0, none⟩) 2 2) Rec.exL w1) := HLS.out.below hb1
  have HH1 : Hid (w1.heap[w.heap.size]? = some exO) := (hb1.block _ HSZ0.out).trans HH0.out
  have HS1 : Hid (w.heap.size < w1.heap.size) := Nat.lt_of_lt_of_le HSZ0.out hb1.size
  clear hb1 HB0 HLS HH0 HSZ0
  go_wp2_with fail
  refine (decode_any ⟨#[2, 10, 3, 2, 0, 97, 98]⟩ w1 (by decide) (0, Rec.exL, 0) Rec.ex_dec.symm).mono ?_
  rintro e w2 ⟨v2, rfl, hv2, _, hb2⟩
  have HB2 : Hid (Below w.heap.size w w2) := below_up HB1.out hb2 (Nat.le_refl _)
  have HL2 := Hid.mk' (HL1.out.below hb2)
  have HM2 : Hid (LsAt v2 Rec.exL w2) := own_ls (hv2 rfl)
  have HH2 := Hid.mk' ((hb2.block _ HS1.out).trans HH1.out)
  have HS2 : Hid (w.heap.size < w2.heap.size) := Nat.lt_of_lt_of_le HS1.out hb2.size
  clear hb2 hv2 HB1 HL1 HH1 HS1
  go_wp2_with fail
  refine (decode_any ⟨#[2, 10, 3, 2, 0, 97, 98, 120]⟩ w2 (by decide) (34, Rec.exL, 7) Rec.ex_decx.symm).mono ?_
  rintro e w3 ⟨v3, rfl, _, _, hb3⟩
  have HB3 : Hid (Below w.heap.size w w3) := below_up HB2.out hb3 (Nat.le_refl _)
  have HL3 := Hid.mk' (HL2.out.below hb3)
  have HM3 := Hid.mk' (HM2.out.below hb3)
  have HH3 := Hid.mk' ((hb3.block _ HS2.out).trans HH2.out)
  have HS3 : Hid (w.heap.size < w3.heap.size) := Nat.lt_of_lt_of_le HS2.out hb3.size
  clear hb3 HB2 HL2 HM2 HH2 HS2
  go_wp2_with fail
  refine (new_any w3).mono ?_
  rintro e w4 ⟨rfl, hd4, hb4⟩
  have HB4 : Hid (Below w3.heap.size w3 w4) := hb4
  have HD4 := Hid.mk' hd4
  have c0 : w4.cell? ⟨w.heap.size, 0, none⟩ = some (.int .i64 5) := by rw [Lib.cell_of_heap ((hb4.block _ HS3.out).trans HH3.out)]; rfl
  have c1 : w4.cell? ⟨w.heap.size, 1, none⟩ = some (.string ⟨#[97, 98]⟩) := by rw [Lib.cell_of_heap ((hb4.block _ HS3.out).trans HH3.out)]; rfl
  clear hb4 hd4
  go_wp2_with fail
  refine (add_any HD4.out 5 ⟨#[97, 98]⟩ (by decide) HB4.out.size).mono ?_
  rintro e w5 ⟨rfl, _, hd5, hb5⟩
  rw [Rec.ex_add1]
  have HD5 : Hid (Bdr w3.heap.size w3.heap.size [(5, ⟨#[97, 98]⟩)] w5) := hd5 Rec.ex_add1
  have HB5 : Hid (Below w3.heap.size w3 w5) := HB4.out.trans hb5
  have c2 : w5.cell? ⟨w.heap.size, 2, none⟩ = some (.int .i64 3) := by rw [Lib.cell_of_heap ((HB5.out.block _ HS3.out).trans HH3.out)]; rfl
  have c3 : w5.cell? ⟨w.heap.size, 3, none⟩ = some (.string ⟨#[]⟩) := by rw [Lib.cell_of_heap ((HB5.out.block _ HS3.out).trans HH3.out)]; rfl
  clear hd5 hb5 HB4 HD4 c0 c1
  go_wp2_with fail
  refine (add_any HD5.out 3 ⟨#[]⟩ (by decide) HB5.out.size).mono ?_
  rintro e w6 ⟨rfl, _, hd6, hb6⟩
  rw [Rec.ex_add2]
  have HD6 : Hid (Bdr w3.heap.size w3.heap.size Rec.exL w6) := hd6 Rec.ex_add2
  have HB6 : Hid (Below w3.heap.size w3 w6) := HB5.out.trans hb6
  clear hd6 hb6 HB5 HD5 c2 c3
  go_wp2_with fail
  refine (same_any v2 _ Rec.exL w6 (HM3.out.below HB6.out) (HL3.out.below HB6.out) (by decide)).mono ?_
  rintro e w7 ⟨rfl, k7, hw7⟩
  have HD7 : Hid (Bdr w3.heap.size w3.heap.size Rec.exL w7) := by rw [hw7]; exact HD6.out.below ((Below.refl _ _).drewN' k7)
  have HB7 : Hid (Below w3.heap.size w3 w7) := by rw [hw7]; exact HB6.out.drewN' k7
  clear hw7 HB6 HD6
  go_wp2_with fail
  refine (bsize_any HD7.out).mono ?_
  rintro e w8 ⟨rfl, hb8⟩
  rw [Rec.ex_sz]
  have HD8 := Hid.mk' (HD7.out.below hb8)
  have HB8 : Hid (Below w3.heap.size w3 w8) := below_up HB7.out hb8 (Nat.le_refl _)
  clear hb8 HB7 HD7
  go_wp2_with fail
  refine (bytes_any HD8.out).mono ?_
  rintro e w9 ⟨rfl, hb9⟩
  rw [ex_nums]
  have HD9 := Hid.mk' (HD8.out.below hb9)
  have HB9 : Hid (Below w3.heap.size w3 w9) := below_up HB8.out hb9 (Nat.le_refl _)
  clear hb9 HB8 HD8
  go_wp2_with fail
  refine (blen_any HD9.out).mono ?_
  rintro e w' ⟨rfl, rfl⟩
  rw [show Rec.exL.length = 2 from rfl]
  go_wp2_with fail
  refine (min_any HD9.out).mono ?_
  rintro e w' ⟨rfl, rfl⟩
  rw [Rec.ex_mn]
  go_wp2_with fail
  refine (max_any HD9.out).mono ?_
  rintro e w' ⟨rfl, rfl⟩
  rw [Rec.ex_mx]
  go_wp2_with fail
  go_ret
  exact ⟨rfl, below_up HB3.out HB9.out (Nat.le_refl _)⟩
end Go.Proofs.Ytchhdkmflppjhaa
