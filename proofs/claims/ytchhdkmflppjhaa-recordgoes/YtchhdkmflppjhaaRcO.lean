/-
  The law's own 'same' of two slices of the same lines. Conditions: as each says.
-/
import Derived.Test.YtchhdkmflppjhaaRcN
import Derived.Test.YtchhdkmflppjhaaRcI
import Derived.Laws.StructEq
namespace Go.Proofs.Ytchhdkmflppjhaa
open Go.RowKit
set_option linter.unusedVariables false
set_option linter.unusedSimpArgs false
theorem neq_line (a c : Int) (b d : ByteArray) (w : World) : (binOp .neq 35 (.agg #[.int .i64 a, .string b]) (.agg #[.int .i64 c, .string d])).run Try.prog w = .ok (.bool (!(a == c && b.toList == d.toList))) w := by
  have hi := Try.underlying9
  have hi3 := Try.underlying3
  have hu := Try.underlying35
  have hst : Try.prog.underlying 35 = some (.struct (Try.prog.fieldsOf 35)) := by kernel_rfl
  obtain ⟨i, q1, q2, q3, q4⟩ := info_parts (show (Try.prog.info? 9).map (fun i => (i.zero, i.size, i.bytes)) = some (some (.string ⟨#[]⟩), 1, 16) by kernel_rfl)
  obtain ⟨j, r1, r2, r3, r4⟩ := info_parts infoI
  rw [run_neq_struct, run_equalIn_struct w 9999 35 _ _ hst (by kernel_rfl)]
  have hfo := TypeDesc.struct.inj (Option.some.inj (hst.symm.trans hu))
  rw [hfo]
  simp [Op.eqFields, part, run_underlying hi, run_underlying hi3, typeInfo, sizeOf, q1, q2, q3, r1, r2, r3, go_sem, run_equalIn_string _ 9998 9 _ _ hi, run_equalIn_int _ 9998 3 .i64 .i64 _ _ hi3]
  by_cases e0 : a = c <;> by_cases e1 : b.toList = d.toList <;> simp [e0, e1]
theorem lnV_len : ∀ l : List Rec.Ln, (lnV l).length = l.length * 2
  | [] => rfl
  | x :: l => by
    have h := lnV_len l
    rw [lnV, List.length_cons, List.length_cons, h, List.length_cons]
    omega
theorem lnV_get : ∀ (l : List Rec.Ln) (i : Nat), i < l.length → (lnV l)[i * 2]? = some (.int .i64 (l.getD i (0, ⟨#[]⟩)).1) ∧ (lnV l)[i * 2 + 1]? = some (.string (l.getD i (0, ⟨#[]⟩)).2)
  | [], i, h => by simp at h
  | y :: l, 0, h => ⟨rfl, rfl⟩
  | y :: l, i + 1, h => by
    have h2 := lnV_get l i (by simpa using h)
    rw [lnV, show (i + 1) * 2 = i * 2 + 1 + 1 by omega, List.getD_cons_succ]
    simpa using h2
theorem own_ls {w : World} {B : Nat} {v : Value} {L : List Rec.Ln} (h : w.ownsRow B 35 2 v L.length (lnV L)) : LsAt v L w := by
  rcases h.2 with ⟨hv, h0⟩ | ⟨g, cap, cur, hv, h1, h2, h3, h4, h5, h6⟩
  · exact ⟨none, 0, by rw [hv, h0], fun h => by omega⟩
  · refine ⟨some ⟨g, 0, none⟩, cap, hv, fun _ => ⟨g, 0, rfl, (Array.getElem?_eq_some_iff.1 h2).1, fun i hi => ⟨?_, ?_⟩⟩⟩
    · have hg := (lnV_get L i hi).1
      rw [← h6, List.getElem?_take, if_pos (by omega)] at hg
      rw [Nat.zero_add]
      simp only [World.cell?, h2]
      simpa using hg
    · have hg := (lnV_get L i hi).2
      rw [← h6, List.getElem?_take, if_pos (by omega)] at hg
      rw [Nat.zero_add]
      simp only [World.cell?, h2]
      simpa using hg
set_option maxHeartbeats 1000000 in
set_option maxRecDepth 100000 in
theorem same_any (v1 v2 : Value) (l : List Rec.Ln) (w : World) (h1 : LsAt v1 l w) (h2 : LsAt v2 l w) (hl : l.length ≤ 1125899906842624) :
    Calls Try.prog 9 #[v1, v2] w fun e w' => e = .returned (.bool true) ∧ ∃ k, w' = w.drewN k := by
  obtain ⟨a1, c1, rfl, k1⟩ := h1
  obtain ⟨a2, c2, rfl, k2⟩ := h2
  obtain ⟨n, hn⟩ : ∃ n, n = l.length := ⟨_, rfl⟩
  have HC : Hid (∀ i, i < n → ∃ g1 o1 g2 o2 x t, a1 = some ⟨g1, o1, none⟩ ∧ a2 = some ⟨g2, o2, none⟩ ∧ w.cell? ⟨g1, o1 + i * 2, none⟩ = some (.int .i64 x) ∧ w.cell? ⟨g1, o1 + i * 2 + 1, none⟩ = some (.string t) ∧ w.cell? ⟨g2, o2 + i * 2, none⟩ = some (.int .i64 x) ∧ w.cell? ⟨g2, o2 + i * 2 + 1, none⟩ = some (.string t)) := fun i hi => by
    obtain ⟨g1, o1, rfl, _, m1⟩ := k1 (by omega)
    obtain ⟨g2, o2, rfl, _, m2⟩ := k2 (by omega)
    exact ⟨g1, o1, g2, o2, _, _, rfl, rfl, (m1 i (by omega)).1, (m1 i (by omega)).2, (m2 i (by omega)).1, (m2 i (by omega)).2⟩
  rw [← hn]
  have hnb : n ≤ 1125899906842624 := by omega
  clear k1 k2 hn hl
  go_enter Try.func9, Try.ntmps9
  go_wp2_with fail
  go_loopw [5] (fun s5 wr => ∃ i k : Nat, s5 = .int .i64 (i : Int) ∧ i ≤ n ∧ wr = w.drewN k) (fun s5 _ => n - (intOf s5).toNat)
  case atStart => exact ⟨0, 0, rfl, by omega, rfl⟩
  case round =>
    obtain ⟨i, k, rfl, hin, rfl⟩ := hrel
    by_cases hlt : i < n
    · obtain ⟨g1, o1, g2, o2, x, t, rfl, rfl, e1, e2, e3, e4⟩ := HC.out i hlt
      have i0 : (0 : Int) ≤ (i : Int) := by omega
      have i1 : (i : Int) < (n : Int) := by omega
      have hq : ∀ W, (binOp .neq 35 (.agg #[.int .i64 x, .string t]) (.agg #[.int .i64 x, .string t])).run Try.prog W = .ok (.bool false) W := fun W => by rw [neq_line]; simp
      have HLT := Hid.mk' hlt
      have hwn : IntKind.i64.wrap ((i : Int) + 1) = (i : Int) + 1 := by rw [IntKind.wrap_i64]; omega
      clear hlt hin
      go_wp2_with fail
      go_quiet (fail)
      go_wp2_with fail
      go_roundw
      case rel => exact ⟨i + 1, k + nq, by go_num, HLT.out, rfl⟩
      case measure => have := HLT.out; simp [intOf]; omega
    · have i1 : ¬ (i : Int) < (n : Int) := by omega
      go_wp2_with fail
      go_ret
      exact ⟨rfl, k, rfl⟩
end Go.Proofs.Ytchhdkmflppjhaa
