/-
  record: lines held against one another. Conditions: as each says.
-/
import Derived.Test.YtlplbnlfajdcbaaGreatDoorRcN
import Derived.Test.YtlplbnlfajdcbaaGreatDoorRcI
import Derived.Laws.StructEq
namespace Go.Proofs.YtlplbnlfajdcbaaGreatDoor
open Go.RowKit
set_option linter.unusedVariables false
set_option linter.unusedSimpArgs false
theorem neq_line (a c : Int) (b d : ByteArray) (w : World) : (binOp .neq 26 (.agg #[.int .i64 a, .string b]) (.agg #[.int .i64 c, .string d])).run Tryz.prog w = .ok (.bool (!(a == c && b.toList == d.toList))) w := by
  have hi := Tryz.underlying9
  have hi3 := Tryz.underlying3
  have hu := Tryz.underlying26
  have hst : Tryz.prog.underlying 26 = some (.struct (Tryz.prog.fieldsOf 26)) := by kernel_rfl
  obtain ⟨i, q1, q2, q3, q4⟩ := info_parts (show (Tryz.prog.info? 9).map (fun i => (i.zero, i.size, i.bytes)) = some (some (.string ⟨#[]⟩), 1, 16) by kernel_rfl)
  obtain ⟨j, r1, r2, r3, r4⟩ := info_parts infoI
  rw [run_neq_struct, run_equalIn_struct w 9999 26 _ _ hst (by kernel_rfl)]
  have hfo := TypeDesc.struct.inj (Option.some.inj (hst.symm.trans hu))
  rw [hfo]
  simp [Op.eqFields, part, run_underlying hi, run_underlying hi3, typeInfo, sizeOf, q1, q2, q3, r1, r2, r3, go_sem, run_equalIn_string _ 9998 9 _ _ hi, run_equalIn_int _ 9998 3 .i64 .i64 _ _ hi3]
  by_cases e0 : a = c <;> by_cases e1 : b.toList = d.toList <;> simp [e0, e1]
theorem lnV_len : ∀ l : List Rec.Ln, (lnV l).length = l.length * 2
  | [] => rfl
  | x :: l => by
    have h := lnV_len l
    rw [lnV, List.length_cons, List.length_cons, h, List.length_cons]
    omega
theorem lnV_get : ∀ (l : List Rec.Ln) (i : Nat), i < l.length → (lnV l)[i * 2]? = some (.int .i64 (l.getD i (0, ⟨#[]⟩)).1) ∧ (lnV l)[i * 2 + 1]? = some (.string (l.getD i (0, ⟨#[]⟩)).2)
  | [], i, h => by simp at h
  | y :: l, 0, h => ⟨rfl, rfl⟩
  | y :: l, i + 1, h => by
    have h2 := lnV_get l i (by simpa using h)
    rw [lnV, show (i + 1) * 2 = i * 2 + 1 + 1 by omega, List.getD_cons_succ]
    simpa using h2
theorem own_ls {w : World} {B : Nat} {v : Value} {L : List Rec.Ln} (h : w.ownsRow B 26 2 v L.length (lnV L)) : LsAt v L w := by
  rcases h.2 with ⟨hv, h0⟩ | ⟨g, cap, cur, hv, h1, h2, h3, h4, h5, h6⟩
  · exact ⟨none, 0, by rw [hv, h0], fun h => by omega⟩
  · refine ⟨some ⟨g, 0, none⟩, cap, hv, fun _ => ⟨g, 0, rfl, (Array.getElem?_eq_some_iff.1 h2).1, fun i hi => ⟨?_, ?_⟩⟩⟩
    · have hg := (lnV_get L i hi).1
      rw [← h6, List.getElem?_take, if_pos (by omega)] at hg
      rw [Nat.zero_add]
      simp only [World.cell?, h2]
      simpa using hg
    · have hg := (lnV_get L i hi).2
      rw [← h6, List.getElem?_take, if_pos (by omega)] at hg
      rw [Nat.zero_add]
      simp only [World.cell?, h2]
      simpa using hg
end Go.Proofs.YtlplbnlfajdcbaaGreatDoor

namespace Rec
open Code Sums
def exL : List Ln := [(5, ⟨#[97, 98]⟩), (3, ⟨#[]⟩)]
def exB : ByteArray := ⟨#[2, 10, 3, 2, 0, 97, 98]⟩
def exX : ByteArray := ⟨#[2, 10, 3, 2, 0, 97, 98, 120]⟩
theorem ex_enc : encG [] exL = (0, 0, exL) := by decide +kernel
theorem ex_pay : payF exL = [2, 10, 3, 2, 0, 97, 98] := by decide +kernel
theorem ex_dec : decF exB = (0, exL, 0) := by decide +kernel
theorem ex_decx : decF exX = (34, exL, 7) := by decide +kernel
theorem ex_add1 : addE [] (5, ⟨#[97, 98]⟩) = 0 := by decide +kernel
theorem ex_add2 : addE [(5, ⟨#[97, 98]⟩)] (3, ⟨#[]⟩) = 0 := by decide +kernel
theorem ex_sz : szF exL = 7 := by decide +kernel
theorem ex_mn : mn exL = 3 := by decide +kernel
theorem ex_mx : mx exL = 5 := by decide +kernel
end Rec
namespace Go.Proofs.YtlplbnlfajdcbaaGreatDoor
open Go.RowKit
set_option linter.unusedVariables false
theorem bsize_any {B g : Nat} {L : List Rec.Ln} {w : World} (h : Bdr B g L w) :
    Calls Tryz.prog 87 #[.pointer (some ⟨g, 0, none⟩)] w fun e w' => e = .returned (.int .i64 (Rec.szF L : Int)) ∧ Below w.heap.size w w' := by
  obtain ⟨sv, ev, tv, hw⟩ := h.ex
  have hsz := h.sz
  have hlen := Rec.len_le L
  have hs1 : (Rec.sts L).length = L.length := Rec.sts_len L
  have e : Rec.szF L = (Code.uint (Rec.sts L).length).length + Rec.nmF L + (Rec.txs L).length := by rw [hs1]; rfl
  rw [e]
  rw [e] at hsz
  exact Size_any hw (by omega) (by omega) (by omega)
theorem blen_any {B g : Nat} {L : List Rec.Ln} {w : World} (h : Bdr B g L w) :
    Calls Tryz.prog 84 #[.pointer (some ⟨g, 0, none⟩)] w fun e w' => e = .returned (.int .i64 (L.length : Int)) ∧ w' = w := by
  obtain ⟨sv, ev, tv, hw⟩ := h.ex
  have := Bw.len_any hw
  rw [Rec.sts_len] at this
  exact this
theorem ex_nums : nums (Rec.payF Rec.exL) = ⟨#[2, 10, 3, 2, 0, 97, 98]⟩ := by rw [Rec.ex_pay]; decide +kernel
abbrev exO : Obj := .cells #[.int .i64 5, .string ⟨#[97, 98]⟩, .int .i64 3, .string ⟨#[]⟩] 26
theorem below_up {B : Nat} {a b c : World} (h : Below B a b) (k : Below b.heap.size b c) (hB : B ≤ a.heap.size) : Below B a c :=
  h.trans ⟨k.os, k.tape, k.output, k.size, fun i hi => k.block i (Nat.lt_of_lt_of_le hi (Nat.le_trans hB h.size))⟩
end Go.Proofs.YtlplbnlfajdcbaaGreatDoor
