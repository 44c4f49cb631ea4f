/-
  What the laws of chapter 18 call: pick, lines, SameLines. Conditions: as each says.
-/
import Derived.Test.YtlplbnlfajdcbaaGreatDoorBkM
import Derived.Test.YtlplbnlfajdcbaaGreatDoorRcQ
namespace Go.Proofs.YtlplbnlfajdcbaaGreatDoor
open Go.RowKit
set_option linter.unusedVariables false
set_option linter.unusedSimpArgs false
def pkB (c : Int) (k : Nat) : Nat := (if c < 0 then (-(c + 1)).toNat else c.toNat) % k
theorem pkB_lt (c : Int) (k : Nat) (h : 0 < k) : pkB c k < k := Nat.mod_lt _ h
theorem pickB (c : Int) (k : Nat) (w : World) (h0 : -9223372036854775808 ≤ c) (h1 : c ≤ 9223372036854775807) (hk : 1 ≤ k) (hkb : k ≤ 9223372036854775807) :
    Calls Tryz.prog 22 #[.int .i64 c, .int .i64 (k : Int)] w fun e w' => e = .returned (.int .i64 ((pkB c k : Nat) : Int)) ∧ w' = w := by
  have hk0 : ¬ (k : Int) = 0 := by omega
  have hk1 : 1 ≤ (k : Int) := by omega
  by_cases hc : c < 0
  · obtain ⟨d, hd⟩ : ∃ d : Nat, -(c + 1) = (d : Int) := ⟨(-(c + 1)).toNat, by omega⟩
    have hdb : (d : Int) ≤ 9223372036854775807 := by omega
    have hz : pkB c k = d % k := by unfold pkB; rw [if_pos hc, hd]; rfl
    have hm : (d : Int) % (k : Int) = ((pkB c k : Nat) : Int) := by rw [hz]; simp
    clear hz
    go_enter Tryz.func22, Tryz.ntmps22
    go_wp2
    go_ret
    exact ⟨ret_int (by first | exact hm | rfl), rfl⟩
  · obtain ⟨d, rfl⟩ := Int.eq_ofNat_of_zero_le (show 0 ≤ c by omega)
    have hz : pkB (d : Int) k = d % k := by unfold pkB; rw [if_neg hc]; rfl
    have hm : (d : Int) % (k : Int) = ((pkB (d : Int) k : Nat) : Int) := by rw [hz]; simp
    clear hz
    go_enter Tryz.func22, Tryz.ntmps22
    go_wp2
    go_ret
    exact ⟨ret_int (by first | exact hm | rfl), rfl⟩
def exB : List Rec.Ln := [(5, ⟨#[97, 98]⟩), (3, ⟨#[]⟩)]
set_option maxHeartbeats 1000000 in
theorem linesB (w : World) :
    Calls Tryz.prog 23 #[] w fun e w' => ∃ p c, e = .returned (.slice p 2 c) ∧ w'.ownsRow w.heap.size 26 2 (.slice p 2 c) 2 (lnV exB) ∧ Below w.heap.size w w' := by
  go_enter Tryz.func23, Tryz.ntmps23
  go_wp2_with fail
  go_ret
  exact ⟨_, _, rfl, ⟨rfl, .inr ⟨_, 2, _, rfl, Nat.le_refl _, heap_alloc_new _ _, Nat.le_refl _, by decide, rfl, rfl⟩⟩, (Below.refl _ _).alloc (Nat.le_refl _) _⟩
set_option maxHeartbeats 1000000 in
set_option maxRecDepth 100000 in
theorem sameLines_any (v1 v2 : Value) (l m : List Rec.Ln) (w : World) (h1 : LsAt v1 l w) (h2 : LsAt v2 m w) (hl : l.length ≤ 1125899906842624) (hm : m.length ≤ 1125899906842624) :
    Calls Tryz.prog 19 #[v1, v2] w fun e w' => e = .returned (.bool (decide (l = m))) ∧ ∃ k, w' = w.drewN k := by
  obtain ⟨a1, c1, rfl, k1⟩ := h1
  obtain ⟨a2, c2, rfl, k2⟩ := h2
  by_cases hlm : l.length = m.length
  · obtain ⟨n, hn⟩ : ∃ n, n = l.length := ⟨_, rfl⟩
    have hnm : n = m.length := hn.trans hlm
    have HC : Hid (∀ i, i < n → ∃ g1 o1 g2 o2 x t y u, a1 = some ⟨g1, o1, none⟩ ∧ a2 = some ⟨g2, o2, none⟩ ∧ l.getD i (0, ⟨#[]⟩) = (x, t) ∧ m.getD i (0, ⟨#[]⟩) = (y, u) ∧ w.cell? ⟨g1, o1 + i * 2, none⟩ = some (.int .i64 x) ∧ w.cell? ⟨g1, o1 + i * 2 + 1, none⟩ = some (.string t) ∧ w.cell? ⟨g2, o2 + i * 2, none⟩ = some (.int .i64 y) ∧ w.cell? ⟨g2, o2 + i * 2 + 1, none⟩ = some (.string u)) := fun i hi => by
      obtain ⟨g1, o1, rfl, _, m1⟩ := k1 (by omega)
      obtain ⟨g2, o2, rfl, _, m2⟩ := k2 (by omega)
      exact ⟨g1, o1, g2, o2, _, _, _, _, rfl, rfl, rfl, rfl, (m1 i (by omega)).1, (m1 i (by omega)).2, (m2 i (by omega)).1, (m2 i (by omega)).2⟩
    rw [← hn, ← hnm]
    have hnb : n ≤ 1125899906842624 := by omega
    have HN := Hid.mk' (And.intro hn hnm)
    clear k1 k2 hl hm hlm hn hnm
    go_enter Tryz.func19, Tryz.ntmps19
    go_wp2_with fail
    go_loopw [5] (fun s5 wr => ∃ i k : Nat, s5 = .int .i64 (i : Int) ∧ i ≤ n ∧ Hid (∀ j, j < i → l.getD j (0, ⟨#[]⟩) = m.getD j (0, ⟨#[]⟩)) ∧ wr = w.drewN k) (fun s5 _ => n - (intOf s5).toNat)
    case atStart => exact ⟨0, 0, rfl, by omega, fun j hj => by omega, rfl⟩
    case round =>
      obtain ⟨i, k, rfl, hin, HE, rfl⟩ := hrel
      by_cases hlt : i < n
      · obtain ⟨g1, o1, g2, o2, x, t, y, u, rfl, rfl, ex, ey, e1, e2, e3, e4⟩ := HC.out i hlt
        have i0 : (0 : Int) ≤ (i : Int) := by omega
        have i1 : (i : Int) < (n : Int) := by omega
        have HLT := Hid.mk' hlt
        have HXY := Hid.mk' (And.intro ex ey)
        have hwn : IntKind.i64.wrap ((i : Int) + 1) = (i : Int) + 1 := by rw [IntKind.wrap_i64]; omega
        clear hlt hin ex ey
        by_cases hxy : x = y ∧ t = u
        · obtain ⟨rfl, rfl⟩ := hxy
          have hq : ∀ W, (binOp .neq 26 (.agg #[.int .i64 x, .string t]) (.agg #[.int .i64 x, .string t])).run Tryz.prog W = .ok (.bool false) W := fun W => by rw [neq_line]; simp
          go_wp2_with fail
          go_quiet (fail)
          go_wp2_with fail
          go_roundw
          case rel => exact ⟨i + 1, k + nq, by go_num, HLT.out, fun j hj => by
            by_cases hji : j = i
            · rw [hji, HXY.out.1, HXY.out.2]
            · exact HE.out j (by omega), rfl⟩
          case measure => have := HLT.out; simp [intOf]; omega
        · have hq : ∀ W, (binOp .neq 26 (.agg #[.int .i64 x, .string t]) (.agg #[.int .i64 y, .string u])).run Tryz.prog W = .ok (.bool true) W := fun W => by
            rw [neq_line]
            have hh : (x == y && t.toList == u.toList) = false := by
              by_cases h1 : x = y
              · have h2 : ¬ t = u := fun h => hxy ⟨h1, h⟩
                have h3 : (t.toList == u.toList) = false := by
                  rw [beq_eq_false_iff_ne]
                  intro e
                  rw [ByteArray.toList_eq, ByteArray.toList_eq] at e
                  exact h2 (ByteArray.ext (Array.toList_inj.1 e))
                rw [h3, Bool.and_false]
              · have h3 : (x == y) = false := by simp; exact h1
                rw [h3, Bool.false_and]
            rw [hh]
            rfl
          have hne : decide (l = m) = false := decide_eq_false (fun e => hxy (by have h1 := HXY.out.1; have h2 := HXY.out.2; rw [e, h2] at h1; cases h1; exact ⟨rfl, rfl⟩))
          have HNE := Hid.mk' hne
          clear hne
          go_wp2_with fail
          go_quiet (fail)
          go_wp2_with fail
          go_ret
          exact ⟨by rw [HNE.out]; rfl, k + nq, by rw [World.drewN_drewN]⟩
      · have i1 : ¬ (i : Int) < (n : Int) := by omega
        have hie : i = n := by omega
        have hal : decide (l = m) = true := decide_eq_true (by
          obtain ⟨h1, h2⟩ := HN.out
          apply List.ext_getElem?
          intro j
          by_cases hj : j < n
          · have h3 := HE.out j (by omega)
            rw [List.getD_eq_getElem?_getD, List.getD_eq_getElem?_getD, List.getElem?_eq_getElem (by omega), List.getElem?_eq_getElem (by omega)] at h3
            rw [List.getElem?_eq_getElem (by omega), List.getElem?_eq_getElem (by omega)]
            simp only [Option.getD_some] at h3
            rw [h3]
          · rw [List.getElem?_eq_none (by omega), List.getElem?_eq_none (by omega)])
        have HAL := Hid.mk' hal
        clear hie hal
        go_wp2_with fail
        go_ret
        exact ⟨by rw [HAL.out]; rfl, k, rfl⟩
  · have hne : decide (l = m) = false := decide_eq_false (fun e => hlm (by rw [e]))
    have hq : ¬ (l.length : Int) = (m.length : Int) := by omega
    have hq2 : ((l.length : Int) != (m.length : Int)) = true := by simp; omega
    rw [hne]
    clear k1 k2
    go_enter Tryz.func19, Tryz.ntmps19
    go_wp2_with fail
    go_ret
    exact ⟨rfl, 0, rfl⟩
end Go.Proofs.YtlplbnlfajdcbaaGreatDoor
