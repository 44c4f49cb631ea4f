/-
  The document's half. Conditions: as it says.
-/
import Derived.Test.YtchjmhgalbkjkaaRfa
import Derived.Test.YtchjmhgalbkjkaaWrt
import Derived.Laws.AppendOwnNone
namespace Go.Proofs.Ytchjmhgalbkjkaa
open Go.RowKit
set_option linter.unusedVariables false
set_option maxRecDepth 100000 in
set_option maxHeartbeats 1000000 in
theorem refHalf_any (count : Nat) (w : World) (hsz : count ≤ 70368744177664) :
    Calls Try.prog 43 #[.int .i64 (count : Int)] w fun e w' => ∃ v', e = .returned (.tuple #[.int .i64 ((min count 15 : Nat) : Int), v']) ∧ w'.ownsRow w.heap.size 5 1 v' (Lz.lenb count).length (byv (Lz.lenb count)) ∧ Ap w.heap.size w w' := by
  obtain ⟨i0, hi, hz0, hz1, hz2⟩ := info_parts infoB
  by_cases hf : count < 15
  · rw [lenb_few count hf]
    have hfI : (count : Int) < 15 := by omega
    have hmn : min count 15 = count := by omega
    rw [hmn]
    clear hmn
    go_enter Try.func43, Try.ntmps43
    go_wp2
    go_ret2
    exact ⟨_, rfl, World.ownsRow_nil _ _ _ _, Ap.refl _ _⟩
  · have hfI : ¬ (count : Int) < 15 := by omega
    have hmn : min count 15 = 15 := by omega
    rw [hmn]
    obtain ⟨c, hc⟩ : ∃ c, count = 15 + c := ⟨count - 15, by omega⟩
    have hcI : (count : Int) - 15 = (c : Int) := by omega
    have HC := Hid.mk' hc
    clear hc hmn
    go_enter Try.func43, Try.ntmps43
    go_wp2
    go_loopw [0, 4] (fun lv ov wr => ∃ (k r : Nat), lv = .int .i64 (r : Int) ∧ c = 255 * k + r ∧ wr.ownsRow w.heap.size 5 1 ov k (byv (List.replicate k 255)) ∧ Ap w.heap.size w wr ∧ w.heap.size ≤ wr.heap.size) (fun lv _ _ => (intOf lv).toNat)
    case atStart => exact ⟨0, c, rfl, by omega, World.ownsRow_nil _ _ _ _, Ap.refl _ _, Nat.le_refl _⟩
    case round =>
      obtain ⟨k, r, rfl, hk, hown, hap, hbw⟩ := hrel
      obtain ⟨b2, cap2, rfl⟩ := own_shape hown
      have hcb := HC.out
      have HOW := Hid.mk' hown
      have HAP := Hid.mk' hap
      have HK := Hid.mk' hk
      have hnb : k + 1 ≤ 140737488355328 := by omega
      have hrb : r ≤ 70368744177664 := by omega
      clear hown hap hcb hk
      by_cases hr : r < 255
      · have hrI : ¬ (255 : Int) ≤ (r : Int) := by omega
        have hru : IntKind.u8.wrap (r : Int) = (r : Int) := by rw [IntKind.wrap_u8]; omega
        go_wp2_with (first | (at_builtin; refine wpList_append_own _ rfl _ _ 58 rfl w.heap.size 5 i0 (.int .u8 0) 1 1 Try.underlying58 hi hz0 hz1 hz2 rfl (by decide) (.slice b2 k cap2) k (byv (List.replicate k 255)) rfl (by exact (own_alloc HOW.out _)) ⟨_, 0, none⟩ 1 1 [.int .u8 (r : Int)] rfl rfl (n1_news _ _ _) (byv_one [r]) (by unfold maxLen; omega) (by omega) (by simp; omega) ?_; intro v2 w2 hown2 hgrow2 _; have HO2 := Hid.mk' hown2; have HG2 := Hid.mk' (ap_add HAP.out HOW.out hbw hgrow2); obtain ⟨b3, cap3, rfl⟩ := own_shape hown2; clear hown2 hgrow2) | fail)
        go_ret2
        refine ⟨_, rfl, ?_, HG2.out.1⟩
        rw [lenb_more count k r (by have := HC.out; have := HK.out; omega) hr]
        have e : (List.replicate k 255 ++ [r]).length = k + 1 := by simp
        rw [e, byv_append]
        exact HO2.out
      · have hrI : (255 : Int) ≤ (r : Int) := by omega
        go_wp2_with (first | (at_builtin; refine wpList_append_own _ rfl _ _ 58 rfl w.heap.size 5 i0 (.int .u8 0) 1 1 Try.underlying58 hi hz0 hz1 hz2 rfl (by decide) (.slice b2 k cap2) k (byv (List.replicate k 255)) rfl (by exact (own_alloc HOW.out _)) ⟨_, 0, none⟩ 1 1 [.int .u8 255] rfl rfl (n1_news _ _ _) (byv_one [255]) (by unfold maxLen; omega) (by omega) (by simp; omega) ?_; intro v2 w2 hown2 hgrow2 _; have HO2 := Hid.mk' hown2; have HG2 := Hid.mk' (ap_add HAP.out HOW.out hbw hgrow2); obtain ⟨b3, cap3, rfl⟩ := own_shape hown2; clear hown2 hgrow2) | fail)
        go_roundw
        case rel =>
          have hk := HK.out
          refine ⟨k + 1, r - 255, by congr 1; omega, by omega, ?_, HG2.out.1, HG2.out.2⟩
          rw [List.replicate_succ', byv_append]
          exact HO2.out
        case measure =>
          simp [intOf]
          omega
/-- bytes of another row are appended, whether it is nil or not -/
theorem wpList_append_rows {w : World} {ops : Array Oper} {rest : List Oper} {o : Oper} {a : Act} {Q : Exit → Act → World → Prop} (hgd : o.guard = none) (s x : Operand)
    (ho : o.op = .call { callee := .builtin .append, args := #[s, x], argTypes := #[58, 58] })
    (base : Nat) (v : Value) (n : Nat) (xs : List Value) (hs : a.eval s = v) (hown : w.ownsRow base 5 1 v n xs)
    (base2 : Nat) (v2 : Value) (l : List Nat) (hx : a.eval x = v2) (hown2 : w.ownsRow base2 5 1 v2 l.length (byv l))
    (h63 : n + l.length ≤ maxLen) (hbytes : n + l.length ≤ 140737488355328) (hbase : base ≤ w.heap.size)
    (h : ∀ v' w', w'.ownsRow base 5 1 v' (n + l.length) (xs ++ byv l) → w.grownBy w' v.ownBlock → wpList Try.prog ops Q rest (a.put o.dst v') w') : wpList Try.prog ops Q (o :: rest) a w := by
  obtain ⟨i0, hi, hz0, hz1, hz2⟩ := info_parts infoB
  rcases hown2.2 with ⟨rfl, h0⟩ | ⟨g, cap, cur, rfl, h1, h2, h3⟩
  · obtain rfl : l = [] := List.length_eq_zero_iff.1 h0
    refine wpList_append_own_none hgd s x 58 ho base 5 i0 1 Try.underlying58 hi v n xs hs hown hx ?_
    refine h v w ?_ ⟨rfl, rfl, rfl, Nat.le_refl _, fun _ _ _ => rfl⟩
    simpa [byv] using hown
  · refine wpList_append_own w hgd s x 58 ho base 5 i0 (.int .u8 0) 1 1 Try.underlying58 hi hz0 hz1 hz2 rfl (by decide) v n xs hs hown ⟨g, 0, none⟩ l.length cap (byv l) hx (by unfold byv; simp) (fun j u hu => ?_) (byv_one l) h63 (by omega) hbase (fun v' w' q1 q2 _ => h v' w' q1 q2)
    exact hown2.cells (g := g) rfl j u hu
end Go.Proofs.Ytchjmhgalbkjkaa
