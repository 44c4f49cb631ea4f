/-
  The laws' lent: texts in their owner's memory, with marks behind them. Conditions: as it says.
-/
import Derived.Test.YtlbfnchjbpioeaaMnP
namespace Go.Proofs.Ytlbfnchjbpioeaa
open Go.RowKit Go.Shelf
set_option linter.unusedVariables false
def mark : ByteArray := ⟨#[109, 97, 114, 107]⟩
/-- what lies at a place of what is lent -/
def lentF (R : List ByteArray) (j : Nat) : ByteArray := if j < R.length then R.getD j ByteArray.empty else mark
theorem set_rowV {V : World} {b k i : Nat} {t : TypeId} {F : Nat → Value} (h : V.heap[b]? = some (.cells (rowV F k).toArray t (0, 0))) (hi : i < k) (u : Value) : (V.setCell ⟨b, i, none⟩ u).heap[b]? = some (.cells (rowV (fun j => if j = i then u else F j) k).toArray t (0, 0)) := by
  have h1 : (V.setCell ⟨b, i, none⟩ u).heap[b]? = some (.cells ((rowV F k).toArray.setIfInBounds i u) t (0, 0)) := by
    simp [World.setCell, Array.getElem?_modify, h]
  rw [h1]
  congr 2
  apply Array.ext_getElem?
  intro j
  rw [Array.getElem?_setIfInBounds, List.getElem?_toArray, List.getElem?_toArray]
  by_cases hj : j < k
  · rw [rowV_get _ _ _ hj, rowV_get _ _ _ hj]
    by_cases e : i = j
    · subst e
      simp [rowV_len, hj]
    · rw [if_neg e, if_neg (fun h => e h.symm)]
  · rw [if_neg (by omega), List.getElem?_eq_none (by rw [rowV_len]; omega), List.getElem?_eq_none (by rw [rowV_len]; omega)]
theorem made_strs (n : Nat) : madeCells (Value.string ⟨#[]⟩).cells (n * 1) = (rowV (fun _ => .string ⟨#[]⟩) n).toArray := by
  apply Array.ext'
  apply List.ext_getElem
  · simp [rowV, madeCells]
  · intro i h1 h2
    simp [rowV, madeCells, Value.cells, Nat.mod_one]
theorem make_strs (n : Nat) (hn : n ≤ 17592186044416) (w : World) : (Instr.makeSlice 22 (.int .i64 (n : Int)) (.int .i64 (n : Int))).run Try.prog w = .ok (.slice (some ⟨w.heap.size, 0, none⟩) n n) (w.alloc (.cells (rowV (fun _ => .string ⟨#[]⟩) n).toArray 9)) := by
  obtain ⟨i0, hi, hz0, hz1, hz2⟩ := info_parts infoSt
  have := run_make (P := Try.prog) w 22 9 i0 (.string ⟨#[]⟩) Try.underlying22 hi hz0 .i64 .i64 (n : Int) (n : Int) (by omega) (by omega) (by rw [hz2]; omega) (by omega)
  rw [this, hz1, Int.toNat_natCast, made_strs n]
set_option maxRecDepth 100000 in
set_option maxHeartbeats 2000000 in
theorem lent_any (p : Option Addr) (cap : Nat) (R : List ByteArray) (w : World) (h : StrAt w p R) (hl : R.length ≤ 8796093022208) :
    Calls Try.prog 8 #[.slice p R.length cap] w fun e w' => e = .returned (.slice (some ⟨w.heap.size, 0, none⟩) R.length (R.length + 8)) ∧ w'.heap[w.heap.size]? = some (.cells (rowV (fun j => .string (lentF R j)) (R.length + 8)).toArray 9 (0, 0)) ∧ Below w.heap.size w w' := by
  obtain ⟨b, hb⟩ : ∃ b, w.heap.size = b := ⟨_, rfl⟩
  obtain ⟨n, hn⟩ : ∃ n, R.length = n := ⟨_, rfl⟩
  rw [hn] at hl ⊢
  rw [hb]
  have HN := Hid.mk' hn
  have HS := Hid.mk' h
  obtain ⟨k, hk⟩ : ∃ k, n + 8 = k := ⟨_, rfl⟩
  have hkI : (n : Int) + 8 = (k : Int) := by omega
  have hmk := make_strs k (by omega) w
  rw [hb] at hmk
  have hwr : IntKind.i64.wrap (k : Int) = (k : Int) := by rw [IntKind.wrap_i64]; omega
  have hz : Hid ((w.alloc (.cells (rowV (fun _ => .string ⟨#[]⟩) k).toArray 9)).heap[b]? = some (.cells (rowV (fun j => .string (if j < 0 then lentF R j else ⟨#[]⟩)) k).toArray 9 (0, 0))) := by
    have := heap_alloc_new w (.cells (rowV (fun _ => .string ⟨#[]⟩) k).toArray 9)
    rw [hb] at this
    refine this.trans ?_
    rw [rowV_congr (G := fun j => .string (if j < 0 then lentF R j else ⟨#[]⟩)) fun j _ => by simp]
  have hz2 : Hid (Below b w (w.alloc (.cells (rowV (fun _ => .string ⟨#[]⟩) k).toArray 9))) := by
    rw [← hb]
    exact (Below.refl _ w).alloc (Nat.le_refl _) _
  clear hn h
  go_enter Try.func8, Try.ntmps8
  go_wp2
  go_loopw [4] (fun iv wr => ∃ i : Nat, iv = .int .i64 (i : Int) ∧ i ≤ k ∧ Hid (wr.heap[b]? = some (.cells (rowV (fun j => .string (if j < i then lentF R j else ⟨#[]⟩)) k).toArray 9 (0, 0))) ∧ Hid (Below b w wr)) (fun iv _ => k - (intOf iv).toNat)
  case atStart => exact ⟨0, rfl, Nat.zero_le _, hz, hz2⟩
  case round =>
    obtain ⟨i, rfl, hi, hrow, hbel⟩ := hrel
    rename World => wr
    by_cases hik : i < k
    · have hikI : (i : Int) < (k : Int) := by omega
      have c1 : wr.cell? ⟨b, i, none⟩ = some (.string ⟨#[]⟩) := by
        simp only [World.cell?, hrow.out]
        rw [List.getElem?_toArray, rowV_get _ _ _ hik]
        simp
      have f1 : wr.frozen? ⟨b, i, none⟩ = false := by simp [World.frozen?, hrow.out]
      have hr1 := set_rowV hrow.out hik (.string mark)
      have HB1 := Hid.mk' (mb_set hbel.out (Nat.le_refl b) i (.string mark))
      by_cases hin : i < n
      · have hinI : (i : Int) < (n : Int) := by omega
        have HST := Hid.mk' (HS.out.keep (by rw [hb]; exact HB1.out))
        obtain ⟨g, off, rfl, hc⟩ := HST.out i (by have := HN.out; omega)
        obtain ⟨x, hx⟩ : ∃ x, R.getD i ByteArray.empty = x := ⟨_, rfl⟩
        rw [hx] at hc
        have c2 : (wr.setCell ⟨b, i, none⟩ (.string mark)).cell? ⟨b, i, none⟩ = some (.string mark) := by
          simp only [World.cell?, hr1]
          rw [List.getElem?_toArray, rowV_get _ _ _ hik, if_pos rfl]
          rfl
        have f2 : (wr.setCell ⟨b, i, none⟩ (.string mark)).frozen? ⟨b, i, none⟩ = false := by simp [World.frozen?, hr1]
        have HR2 : Hid (((wr.setCell ⟨b, i, none⟩ (.string mark)).setCell ⟨b, i, none⟩ (.string x)).heap[b]? = some (.cells (rowV (fun j => .string (if j < i + 1 then lentF R j else ⟨#[]⟩)) k).toArray 9 (0, 0))) := by
          refine (set_rowV hr1 hik (.string x)).trans ?_
          rw [rowV_congr (G := fun j => .string (if j < i + 1 then lentF R j else ⟨#[]⟩)) fun j _ => by
            by_cases e : j = i
            · subst e
              rw [if_pos rfl, if_pos (by omega)]
              unfold lentF
              rw [if_pos (by have := HN.out; omega), hx]
            · rw [if_neg e, if_neg e]
              by_cases e2 : j < i
              · rw [if_pos e2, if_pos (by omega)]
              · rw [if_neg e2, if_neg (by omega)]]
        have HB2 := Hid.mk' (mb_set HB1.out (Nat.le_refl b) i (.string x))
        unfold mark at *
        clear hr1 hx
        go_wp2
        go_roundw
        case rel => exact ⟨i + 1, by simp, by omega, HR2, HB2⟩
        case measure =>
          simp [intOf]
          omega
      · have hinI : ¬ (i : Int) < (n : Int) := by omega
        have HR1 : Hid ((wr.setCell ⟨b, i, none⟩ (.string mark)).heap[b]? = some (.cells (rowV (fun j => .string (if j < i + 1 then lentF R j else ⟨#[]⟩)) k).toArray 9 (0, 0))) := by
          refine hr1.trans ?_
          rw [rowV_congr (G := fun j => .string (if j < i + 1 then lentF R j else ⟨#[]⟩)) fun j _ => by
            by_cases e : j = i
            · subst e
              rw [if_pos rfl, if_pos (by omega)]
              unfold lentF
              rw [if_neg (by have := HN.out; omega)]
            · rw [if_neg e]
              by_cases e2 : j < i
              · rw [if_pos e2, if_pos (by omega)]
              · rw [if_neg e2, if_neg (by omega)]]
        unfold mark at *
        clear hr1
        go_wp2
        go_roundw
        case rel => exact ⟨i + 1, by simp, by omega, HR1, HB1⟩
        case measure =>
          simp [intOf]
          omega
    · obtain rfl : i = k := by omega
      have hikI : ¬ (i : Int) < (i : Int) := by omega
      have hni : (n : Int) ≤ (i : Int) := by omega
      go_wp2
      go_ret
      subst hk
      refine ⟨rfl, ?_, hbel.out⟩
      refine hrow.out.trans ?_
      rw [rowV_congr (G := fun j => .string (lentF R j)) fun j hj => by rw [if_pos hj]]
end Go.Proofs.Ytlbfnchjbpioeaa
