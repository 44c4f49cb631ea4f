/-
  What swar.Common and swar.Compare do. Conditions: the texts are no longer than two texts that are read can be together, the table of package math/bits lies as its text lays it.
-/
import Derived.Test.YtlejfeapnnioeaaDoorIndex
import Derived.Test.YtlejfeapnnioeaaDoorWordsF
namespace Go.Proofs.YtlejfeapnnioeaaDoor
open Go.RowKit
set_option linter.unusedVariables false
set_option maxHeartbeats 400000 in
theorem common_any (a b : ByteArray) (w : World) (ha : a.size ≤ 1125899906842624) (hb : b.size ≤ 1125899906842624) (ht : Tab w) :
    Calls Tryd.prog 15 #[.string a, .string b] w fun e w' => e = .returned (.int .i64 (Swar.comL a b : Nat)) ∧ ∃ n, w' = w.drewN n := by
  have hmin : min (a.size : Int) (b.size : Int) = ((min a.size b.size : Nat) : Int) := by omega
  have hml : min a.size b.size ≤ 1125899906842624 := by omega
  go_enter Tryd.func15, Tryd.ntmps15
  go_wp2_with fail
  generalize hm : min a.size b.size = m at *
  have HM : Hid (min a.size b.size = m) := hm
  clear hm hmin
  go_loopw [6] (fun i wr => ∃ p n : Nat, p ≤ m + 8 ∧ i = .int .i64 (p : Int) ∧ Hid (p ≤ m ∧ Swar.far (fun p => Swar.bt a p == Swar.bt b p) 0 m = Swar.far (fun p => Swar.bt a p == Swar.bt b p) p (m - p) ∨ m ≤ p ∧ Swar.comL a b = m) ∧ wr = w.drewN n) (fun i _ => m + 8 - (intOf i).toNat)
  case atStart => exact ⟨0, 0, by omega, rfl, .inl ⟨by omega, rfl⟩, rfl⟩
  case round =>
    obtain ⟨p, n, hp, rfl, HI, rfl⟩ := hrel
    by_cases hlt : p < m
    · have hF : Swar.far (fun p => Swar.bt a p == Swar.bt b p) 0 m = Swar.far (fun p => Swar.bt a p == Swar.bt b p) p (m - p) := by
        rcases HI.out with h | h
        · exact h.2
        · omega
      have hw := Swar.com_word a b p (by rw [HM.out]; exact hlt) (by rw [HM.out]; exact hF)
      rw [HM.out] at hw
      have l1 := Swar.ldL_lt a p
      have l2 := Swar.ldL_lt b p
      have l3 : Swar.ldL a p ^^^ Swar.ldL b p < 2 ^ 64 := Nat.xor_lt_two_pow (by omega) (by omega)
      have hx := u64_xor_nat _ _ l1 l2
      clear hF HI
      rcases hw with hw | ⟨h0, h8, hc⟩
      · have hx0 : bits .xor .u64 ((Swar.ldL a p : Nat) : Int) ((Swar.ldL b p : Nat) : Int) = 0 := by
          rw [hx]
          rcases hw with h | h
          · rw [h.1]; rfl
          · rw [h.2.1]; rfl
        have HN : Hid (p + 8 ≤ m ∧ Swar.far (fun p => Swar.bt a p == Swar.bt b p) 0 m = Swar.far (fun p => Swar.bt a p == Swar.bt b p) (p + 8) (m - (p + 8)) ∨ m ≤ p + 8 ∧ Swar.comL a b = m) := by
          rcases hw with h | h
          · by_cases h8 : p + 8 ≤ m
            · exact .inl ⟨h8, h.2⟩
            · refine .inr ⟨by omega, ?_⟩
              have := h.2
              rw [show m - (p + 8) = 0 by omega] at this
              have hle := Swar.com_le a b
              have hmo := HM.out
              unfold Swar.comL at hle ⊢
              rw [hmo] at hle ⊢
              rw [this] at hle ⊢
              simp only [Swar.far] at hle ⊢
              omega
          · exact .inr ⟨by omega, h.2.2⟩
        clear hw hx
        go_wp2_with fail
        refine (load_any a p _ ha (by omega) (by omega)).mono ?_
        rintro e w1 ⟨rfl, n1, rfl⟩
        go_wp2_with fail
        refine (load_any b p _ hb (by omega) (by omega)).mono ?_
        rintro e w1 ⟨rfl, n2, rfl⟩
        go_wp2_with fail
        go_roundw
        case rel => exact ⟨p + 8, n + n1 + n2, by omega, by go_num, HN, rfl⟩
        case measure => simp [intOf]; omega
      · have HC : Hid (Swar.comL a b = min (p + Swar.tz 64 (Swar.ldL a p ^^^ Swar.ldL b p) / 8) m) := hc
        have htz := tz_le 64 (Swar.ldL a p ^^^ Swar.ldL b p)
        clear hc
        generalize Swar.ldL a p ^^^ Swar.ldL b p = x at *
        have g : ((x : Int) != 0) = true := by simp; omega
        clear h0
        go_wp2_with fail
        refine (load_any a p _ ha (by omega) (by omega)).mono ?_
        rintro e w1 ⟨rfl, n1, rfl⟩
        go_wp2_with fail
        refine (load_any b p _ hb (by omega) (by omega)).mono ?_
        rintro e w1 ⟨rfl, n2, rfl⟩
        go_wp2_with fail
        refine (tz_any x _ (by omega) (ht.drewN _)).mono ?_
        rintro e w1 ⟨rfl, rfl⟩
        go_wp2_with fail
        go_ret
        exact ⟨ret_i64 (by rw [HC.out]; omega), n + n1 + n2, rfl⟩
    · have HC : Hid (Swar.comL a b = m) := by
        rcases HI.out with h | h
        · show _ = _
          unfold Swar.comL
          rw [HM.out, h.2, show m - p = 0 by omega]
          simp only [Swar.far]
          omega
        · exact h.2
      have hlt' : ¬ (p : Int) < (m : Int) := by omega
      go_wp2_with fail
      go_ret
      exact ⟨ret_i64 (by rw [HC.out]), n, rfl⟩
end Go.Proofs.YtlejfeapnnioeaaDoor
