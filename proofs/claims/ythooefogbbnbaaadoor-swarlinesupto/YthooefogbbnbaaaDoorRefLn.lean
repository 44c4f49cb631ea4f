/-
  The document's own lines of a text. Conditions: as it says.
-/
import Derived.Test.YthooefogbbnbaaaDoorLnC
namespace Go.Proofs.YthooefogbbnbaaaDoor
open Go.RowKit Go.Shelf
set_option linter.unusedVariables false
def lnv : List (Nat × ByteArray) → List Value
  | [] => []
  | x :: l => .int .i64 (x.1 : Int) :: .string x.2 :: lnv l
theorem lnv_len : ∀ l, (lnv l).length = 2 * l.length
  | [] => rfl
  | x :: l => by simp [lnv, lnv_len l]; omega
theorem lnv_append : ∀ a b, lnv (a ++ b) = lnv a ++ lnv b
  | [], b => rfl
  | c :: a, b => by simp [lnv, lnv_append a b]
theorem lnv_at : ∀ (l : List (Nat × ByteArray)) (j : Nat) (x : Nat × ByteArray), l[j]? = some x → (lnv l)[2 * j]? = some (.int .i64 (x.1 : Int)) ∧ (lnv l)[2 * j + 1]? = some (.string x.2)
  | [], j, x, h => by simp at h
  | y :: l, 0, x, h => by
    simp at h
    subst h
    simp [lnv]
  | y :: l, j + 1, x, h => by
    simp at h
    have := lnv_at l j x h
    simp only [lnv, show 2 * (j + 1) = 2 * j + 1 + 1 by omega, List.getElem?_cons_succ]
    exact this
/-- a row of lines, as it lies in memory -/
def Lrw (w : World) (v : Value) (l : List (Nat × ByteArray)) : Prop :=
  (v = .slice none 0 0 ∧ l = []) ∨ ∃ g cap cur fz, v = .slice (some ⟨g, 0, none⟩) l.length cap ∧ l.length ≤ cap ∧ w.heap[g]? = some (.cells cur 29 fz) ∧ cur.toList.take (2 * l.length) = lnv l
theorem Lrw.cells {w : World} {g n cap : Nat} {l : List (Nat × ByteArray)} (h : Lrw w (.slice (some ⟨g, 0, none⟩) n cap) l) (j : Nat) (x : Nat × ByteArray) (hc : l[j]? = some x) :
    w.cell? ⟨g, j * 2, none⟩ = some (.int .i64 (x.1 : Int)) ∧ w.cell? ⟨g, j * 2 + 1, none⟩ = some (.string x.2) := by
  rw [Nat.mul_comm j 2]
  rcases h with ⟨h, _⟩ | ⟨g', cap', cur, fz, h1, h2, h3, h4⟩
  · simp at h
  · simp only [Value.slice.injEq, Option.some.injEq, Addr.mk.injEq, and_true] at h1
    obtain ⟨rfl, _⟩ := h1
    have hj : j < l.length := (List.getElem?_eq_some_iff.1 hc).1
    obtain ⟨a, b⟩ := lnv_at l j x hc
    rw [← h4] at a b
    rw [List.getElem?_take, if_pos (by omega)] at a b
    simp only [World.cell?, h3]
    exact ⟨by simpa using a, by simpa using b⟩
theorem Lrw.shape {w : World} {v : Value} {l : List (Nat × ByteArray)} (h : Lrw w v l) : ∃ b cap, v = .slice b l.length cap := by
  rcases h with ⟨rfl, rfl⟩ | ⟨g, cap, cur, fz, rfl, _⟩
  · exact ⟨none, 0, rfl⟩
  · exact ⟨_, cap, rfl⟩
theorem Lrw.keep {w w' : World} {v : Value} {l : List (Nat × ByteArray)} (h : Lrw w v l) (hk : ∀ (k : Nat) (cs : Array Value) (fz : Nat × Nat), w.heap[k]? = some (.cells cs 29 fz) → w'.heap[k]? = some (.cells cs 29 fz)) : Lrw w' v l := by
  rcases h with h | ⟨g, cap, cur, fz, h1, h2, h3, h4⟩
  · exact .inl h
  · exact .inr ⟨g, cap, cur, fz, h1, h2, hk g _ _ h3, h4⟩
theorem lrw_of {w : World} {base n : Nat} {v : Value} {l : List (Nat × ByteArray)} (h : w.ownsRow base 29 2 v n (lnv l)) (hn : n = l.length) : Lrw w v l := by
  subst hn
  rcases h.2 with ⟨rfl, h0⟩ | ⟨g, cap, cur, rfl, h1, h2, h3, h4, h5, h6⟩
  · exact .inl ⟨rfl, List.length_eq_zero_iff.1 h0⟩
  · exact .inr ⟨g, cap, cur, (0, 0), rfl, h3, h2, by rw [Nat.mul_comm]; exact h6⟩
theorem end_at (s : ByteArray) (a e : Nat) (h1 : a ≤ e) (h2 : e < s.size) (hno : ∀ i, a ≤ i → i < e → Swar.bt s i ≠ 10) (he : Swar.bt s e = 10) : Swar.endOf s a = e := by
  obtain ⟨c1, c2, c3, c4⟩ := Swar.end_char s a (by omega)
  by_cases hlt : Swar.endOf s a < e
  · exact absurd (c4 (by omega)) (hno _ c1 hlt)
  · by_cases hgt : e < Swar.endOf s a
    · exact absurd he (c3 e h1 hgt)
    · omega
theorem end_none (s : ByteArray) (a : Nat) (h1 : a ≤ s.size) (hno : ∀ i, a ≤ i → i < s.size → Swar.bt s i ≠ 10) : Swar.endOf s a = s.size := by
  obtain ⟨c1, c2, c3, c4⟩ := Swar.end_char s a h1
  by_cases hlt : Swar.endOf s a < s.size
  · exact absurd (c4 hlt) (hno _ c1 hlt)
  · omega
theorem linesF_end (s : ByteArray) (f a : Nat) (h : ¬ a < s.size) : Swar.linesF s f a = [] := by
  cases f with
  | zero => rfl
  | succ f => rw [Swar.linesF, if_neg h]
theorem infoL : (Tryd.prog.info? 29).map (fun i => (i.zero, i.size, i.bytes)) = some (some (.agg #[.int .i64 0, .string ⟨#[]⟩]), 2, 24) := by kernel_rfl
theorem ln_news (w : World) (x y : Value) (t : TypeId) : ∀ (j : Nat) (u : Value), [x, y][j]? = some u → (w.alloc (.cells #[x, y] t)).cell? ((⟨w.heap.size, 0, none⟩ : Addr).add j) = some u := by
  intro j u hu
  have hj : j < 2 := (List.getElem?_eq_some_iff.1 hu).1
  have := World.alloc_heap_new w (.cells #[x, y] t)
  rcases (show j = 0 ∨ j = 1 by omega) with rfl | rfl <;> rw [Addr.add_lit] <;> simp only [World.cell?] <;> rw [this] <;> exact hu
theorem ln_one (a : Int) (t : ByteArray) : ∀ u ∈ [Value.int .i64 a, .string t], u.oneCell' = true := by
  intro u hu
  simp at hu
  rcases hu with rfl | rfl <;> rfl
theorem row_shape' {w : World} {base n size : Nat} {e : TypeId} {v : Value} {xs : List Value} (h : w.ownsRow base e size v n xs) : ∃ b cap, v = .slice b n cap := by
  rcases h.2 with ⟨rfl, rfl⟩ | ⟨g, cap, cur, rfl, _⟩
  · exact ⟨none, 0, rfl⟩
  · exact ⟨some ⟨g, 0, none⟩, cap, rfl⟩
structure Rl (s : ByteArray) (w0 : World) (ov : Value) (n a p : Nat) (L : List (Nat × ByteArray)) (w : World) : Prop where
  row : w.ownsRow w0.heap.size 29 2 ov n (lnv L)
  len : n = L.length
  eq : ∃ f, s.size < a + f ∧ L ++ Swar.linesF s f a = Swar.linesF s (s.size + 1) 0
  le : a ≤ p
  no : ∀ i, a ≤ i → i < p → Swar.bt s i ≠ 10
  bel : Below w0.heap.size w0 w
  siz : w0.heap.size ≤ w.heap.size
  lim : n ≤ a
set_option maxRecDepth 100000 in
set_option maxHeartbeats 1000000 in
theorem refLines_any (s : ByteArray) (w : World) (hs : s.size ≤ 4294967296) :
    Calls Tryd.prog 4 #[.string s] w fun e w' => ∃ v, e = .returned v ∧ Lrw w' v (Swar.linesF s (s.size + 1) 0) ∧ Below w.heap.size w w' := by
  obtain ⟨i0, hi, hz0, hz1, hz2⟩ := info_parts infoL
  go_enter Tryd.func4, Tryd.ntmps4
  go_wp2
  go_loopw [3, 4, 5] (fun ov av pv wr => ∃ (n a p : Nat) (L : List (Nat × ByteArray)), av = .int .i64 (a : Int) ∧ pv = .int .i64 (p : Int) ∧ p ≤ s.size ∧ Rl s w ov n a p L wr) (fun _ _ pv _ => s.size - (intOf pv).toNat)
  case atStart => exact ⟨0, 0, 0, [], rfl, rfl, Nat.zero_le _, ⟨World.ownsRow_nil _ _ _ _, rfl, ⟨s.size + 1, by omega, rfl⟩, Nat.le_refl _, fun i h1 h2 => absurd h2 (by omega), Below.refl _ _, Nat.le_refl _, Nat.le_refl _⟩⟩
  case round =>
    obtain ⟨n, a, p, L, rfl, rfl, hps, hrl⟩ := hrel
    obtain ⟨b, cap, rfl⟩ := row_shape' hrl.row
    have hle := hrl.le
    have hlim := hrl.lim
    have hsz := hrl.siz
    by_cases hlt : p < s.size
    · have hI : (p : Int) < (s.size : Int) := by omega
      obtain ⟨x, hx⟩ : ∃ x, x = Swar.bt s p := ⟨_, rfl⟩
      have hidx : ∀ W : World, (Instr.index 9 (.string s) (.int .i64 (p : Int))).run Tryd.prog W = .ok (.int .u8 (x : Int)) W := fun W => by
        rw [run_index_string W 9 _ .i64 (p : Int) Tryd.underlying9, dif_pos ⟨by omega, by omega⟩]
        simp only [Int.toNat_natCast]
        rw [hx, Swar.bt_in hlt]
      by_cases h10 : x = 10
      · subst h10
        obtain ⟨f, hf, he⟩ := hrl.eq
        obtain ⟨f1, rfl⟩ : ∃ f1, f = f1 + 1 := ⟨f - 1, by omega⟩
        have hend := end_at s a p hle hlt hrl.no hx.symm
        rw [Swar.linesF, if_pos (by omega), hend] at he
        obtain ⟨T, hT⟩ : ∃ T, s.extract a p = T := ⟨_, rfl⟩
        rw [hT] at he
        have HE := Hid.mk' he
        have HR := Hid.mk' hrl
        have hnb : n + 1 ≤ 4294967297 := by omega
        clear hrl he hend hx
        go_wp2_with (first | (at_builtin; refine wpList_append_own _ rfl _ _ 22 rfl w.heap.size 29 i0 _ 2 24 Tryd.underlying22 hi hz0 hz1 hz2 rfl (by decide) (.slice b n cap) n (lnv L) rfl (by exact (HR.out.row.alloc _)) ⟨_, 0, none⟩ 1 1 [.int .i64 (a : Int), .string T] rfl rfl (ln_news _ _ _ _) (ln_one _ _) (by unfold maxLen; omega) (by omega) (by simp; omega) ?_; intro v3 w3 hown3 hgrow3 _; have HO3 := Hid.mk' hown3; have HG3 := Hid.mk' hgrow3; obtain ⟨b3, cap3, rfl⟩ := row_shape' hown3; clear hown3 hgrow3) | fail)
        go_roundw
        case rel =>
          have hlen := HR.out.len
          refine ⟨n + 1, p + 1, p + 1, L ++ [(a, T)], by simp, by simp, by omega, ⟨by rw [lnv_append]; exact HO3.out, by simp; omega, ⟨f1, by omega, by rw [List.append_assoc]; exact HE.out⟩, Nat.le_refl _, fun i h1 h2 => absurd h2 (by omega), ?_, ?_, by omega⟩⟩
          · exact (HR.out.bel.alloc hsz _).grown HG3.out (by simp; omega) (fun k hk => (HR.out.row.lt k hk).1)
          · have := HG3.out.size
            simp at this
            omega
        case measure =>
          simp [intOf]
          omega
      · have h10I : ((x : Int) == 10) = false := by simp; omega
        have HR := Hid.mk' hrl
        have HX := Hid.mk' hx
        clear hrl hx
        go_wp2
        go_roundw
        case rel =>
          refine ⟨n, a, p + 1, L, rfl, by simp, by omega, ⟨HR.out.row, HR.out.len, HR.out.eq, by omega, fun i h1 h2 => ?_, HR.out.bel, hsz, hlim⟩⟩
          by_cases e : i = p
          · subst e
            rw [← HX.out]
            exact h10
          · exact HR.out.no i h1 (by omega)
        case measure =>
          simp [intOf]
          omega
    · obtain rfl : p = s.size := by omega
      have hI : ¬ (s.size : Int) < (s.size : Int) := by omega
      obtain ⟨f, hf, he⟩ := hrl.eq
      by_cases hal : a < s.size
      · have haI : (a : Int) < (s.size : Int) := by omega
        obtain ⟨f1, rfl⟩ : ∃ f1, f = f1 + 1 := ⟨f - 1, by omega⟩
        rw [Swar.linesF, if_pos hal, end_none s a (by omega) hrl.no, linesF_end s f1 _ (by omega)] at he
        obtain ⟨T, hT⟩ : ∃ T, s.extract a s.size = T := ⟨_, rfl⟩
        rw [hT] at he
        have HE := Hid.mk' he
        have HR := Hid.mk' hrl
        have hnb : n + 1 ≤ 4294967297 := by omega
        clear hrl he
        go_wp2_with (first | (at_builtin; refine wpList_append_own _ rfl _ _ 22 rfl w.heap.size 29 i0 _ 2 24 Tryd.underlying22 hi hz0 hz1 hz2 rfl (by decide) (.slice b n cap) n (lnv L) rfl (by exact (HR.out.row.alloc _)) ⟨_, 0, none⟩ 1 1 [.int .i64 (a : Int), .string T] rfl rfl (ln_news _ _ _ _) (ln_one _ _) (by unfold maxLen; omega) (by omega) (by simp; omega) ?_; intro v3 w3 hown3 hgrow3 _; have HO3 := Hid.mk' hown3; have HG3 := Hid.mk' hgrow3; obtain ⟨b3, cap3, rfl⟩ := row_shape' hown3; clear hown3 hgrow3) | fail)
        go_ret
        have hlen := HR.out.len
        refine ⟨_, rfl, ?_, (HR.out.bel.alloc hsz _).grown HG3.out (by simp; omega) (fun k hk => (HR.out.row.lt k hk).1)⟩
        rw [← HE.out]
        exact lrw_of (by rw [lnv_append]; exact HO3.out) (by simp; omega)
      · have haI : ¬ (a : Int) < (s.size : Int) := by omega
        rw [linesF_end s f a hal, List.append_nil] at he
        have HE := Hid.mk' he
        have HR := Hid.mk' hrl
        clear hrl he
        go_wp2
        go_ret
        exact ⟨_, rfl, by rw [← HE.out]; exact lrw_of HR.out.row HR.out.len, HR.out.bel⟩
end Go.Proofs.YthooefogbbnbaaaDoor
