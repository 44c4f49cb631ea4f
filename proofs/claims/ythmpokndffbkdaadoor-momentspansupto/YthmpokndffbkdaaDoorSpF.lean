/-
  moment.Spell. Conditions: the table of units and that of the powers of ten lie as the programs' texts lay them.
-/
import Derived.Test.YthmpokndffbkdaaDoorSpE
namespace Go.Proofs.YthmpokndffbkdaaDoor
open Go.RowKit
set_option linter.unusedVariables false
def spRm (n : Nat) : Nat → Nat
  | 0 => n
  | k + 1 => spRm n k % unum k
def spT (n : Nat) : Nat → List Nat
  | 0 => []
  | k + 1 => spT n k ++ (if 0 < spRm n k / unum k then dec (spRm n k / unum k) ++ uname k else [])
theorem spRm_le (n k : Nat) : spRm n k ≤ n := by
  induction k with
  | zero => exact Nat.le_refl _
  | succ k ih => rw [spRm]; exact Nat.le_trans (Nat.mod_le _ _) ih
theorem decD_len : ∀ (f u : Nat), u < f → (Lib.decDigits u).length ≤ u + 1
  | 0, u, h => by omega
  | f + 1, u, h => by
    rw [Lib.decDigits]
    split
    · simp
    · have := decD_len f (u / 10) (by omega)
      rw [List.length_append]
      simp only [List.length_cons, List.length_nil]
      omega
theorem dec_len (u : Nat) : (dec u).length ≤ u + 1 := by unfold dec; rw [List.length_map]; exact decD_len (u + 1) u (Nat.lt_succ_self _)
theorem decD_short : ∀ (f u k : Nat), u < f → u < 10 ^ (k + 1) → (Lib.decDigits u).length ≤ k + 1
  | 0, u, k, h, _ => by omega
  | f + 1, u, k, h, h2 => by
    rw [Lib.decDigits]
    split
    · simp
    · cases k with
      | zero => simp at h2; omega
      | succ k =>
        have := decD_short f (u / 10) k (by omega) (by rw [Nat.pow_succ] at h2; omega)
        rw [List.length_append]
        simp only [List.length_cons, List.length_nil]
        omega
theorem dec_short (u : Nat) (h : u ≤ 253402300799999) : (dec u).length ≤ 15 := by
  unfold dec; rw [List.length_map]
  exact decD_short (u + 1) u 14 (Nat.lt_succ_self _) (by have : (10 : Nat) ^ 15 = 1000000000000000 := (by decide); omega)
theorem spT_len (n k : Nat) (hn : n ≤ 253402300799999) : (spT n k).length ≤ 17 * k := by
  induction k with
  | zero => exact Nat.le_refl _
  | succ k ih =>
    rw [spT, List.length_append]
    split
    · rw [List.length_append]
      have h1 : spRm n k / unum k ≤ 253402300799999 := Nat.le_trans (Nat.div_le_self _ _) (Nat.le_trans (spRm_le n k) hn)
      have h2 := dec_short _ h1
      have h3 : (uname k).length ≤ 2 := by unfold uname; split; decide; split; decide; split; decide; split; decide; decide
      omega
    · simp only [List.length_nil]; omega
theorem dec_byt (n : Nat) : ∀ z ∈ dec n, z < 256 := by
  intro z hz
  obtain ⟨x, _, rfl⟩ := List.mem_map.1 hz
  exact UInt8.toNat_lt x
theorem spT_byt (n k : Nat) : ∀ z ∈ spT n k, z < 256 := by
  induction k with
  | zero => intro z hz; cases hz
  | succ k ih =>
    intro z hz
    rw [spT] at hz
    rcases List.mem_append.1 hz with h | h
    · exact ih z h
    · split at h
      · rcases List.mem_append.1 h with h | h
        · exact dec_byt _ z h
        · have : ∀ z ∈ uname k, z < 256 := by unfold uname; split; decide; split; decide; split; decide; split; decide; decide
          exact this z h
      · cases h
theorem decD_ne (u : Nat) : Lib.decDigits u ≠ [] := by
  rw [Lib.decDigits]
  split
  · simp
  · simp
theorem spRm_lt (n k : Nat) : spRm n (k + 1) < unum k := by
  rw [spRm]
  refine Nat.mod_lt _ ?_
  unfold unum
  split; decide; split; decide; split; decide; split; decide; decide
theorem spT_ne (n : Nat) (hn : 1 ≤ n) : spT n 5 ≠ [] := by
  intro h
  have nil : ∀ k, spT n (k + 1) = [] → spT n k = [] ∧ ¬ 0 < spRm n k / unum k := by
    intro k hk
    rw [spT] at hk
    have h1 := List.append_eq_nil_iff.1 hk
    refine ⟨h1.1, fun hc => ?_⟩
    have h2 := h1.2
    rw [if_pos hc] at h2
    have h3 := (List.append_eq_nil_iff.1 h2).1
    unfold dec at h3
    exact decD_ne _ (List.map_eq_nil_iff.1 h3)
  obtain ⟨a4, b4⟩ := nil 4 h
  obtain ⟨a3, b3⟩ := nil 3 a4
  obtain ⟨a2, b2⟩ := nil 2 a3
  obtain ⟨a1, b1⟩ := nil 1 a2
  obtain ⟨a0, b0⟩ := nil 0 a1
  have r1 : spRm n 1 = spRm n 0 % unum 0 := rfl
  have r2 : spRm n 2 = spRm n 1 % unum 1 := rfl
  have r3 : spRm n 3 = spRm n 2 % unum 2 := rfl
  have r4 : spRm n 4 = spRm n 3 % unum 3 := rfl
  have r0 : spRm n 0 = n := rfl
  simp only [unum] at *
  simp at *
  omega
theorem idxU0 (w : World) : (Instr.index 57 (.agg #[.string ⟨#[100]⟩, .int .i64 86400000, .string ⟨#[104]⟩, .int .i64 3600000, .string ⟨#[109]⟩, .int .i64 60000, .string ⟨#[115]⟩, .int .i64 1000, .string ⟨#[109, 115]⟩, .int .i64 1]) (.int .i64 0)).run Tryd.prog w = .ok (.agg #[.string ⟨#[100]⟩, .int .i64 86400000]) w := by kernel_rfl
theorem idxU1 (w : World) : (Instr.index 57 (.agg #[.string ⟨#[100]⟩, .int .i64 86400000, .string ⟨#[104]⟩, .int .i64 3600000, .string ⟨#[109]⟩, .int .i64 60000, .string ⟨#[115]⟩, .int .i64 1000, .string ⟨#[109, 115]⟩, .int .i64 1]) (.int .i64 1)).run Tryd.prog w = .ok (.agg #[.string ⟨#[104]⟩, .int .i64 3600000]) w := by kernel_rfl
theorem idxU2 (w : World) : (Instr.index 57 (.agg #[.string ⟨#[100]⟩, .int .i64 86400000, .string ⟨#[104]⟩, .int .i64 3600000, .string ⟨#[109]⟩, .int .i64 60000, .string ⟨#[115]⟩, .int .i64 1000, .string ⟨#[109, 115]⟩, .int .i64 1]) (.int .i64 2)).run Tryd.prog w = .ok (.agg #[.string ⟨#[109]⟩, .int .i64 60000]) w := by kernel_rfl
theorem idxU3 (w : World) : (Instr.index 57 (.agg #[.string ⟨#[100]⟩, .int .i64 86400000, .string ⟨#[104]⟩, .int .i64 3600000, .string ⟨#[109]⟩, .int .i64 60000, .string ⟨#[115]⟩, .int .i64 1000, .string ⟨#[109, 115]⟩, .int .i64 1]) (.int .i64 3)).run Tryd.prog w = .ok (.agg #[.string ⟨#[115]⟩, .int .i64 1000]) w := by kernel_rfl
theorem idxU4 (w : World) : (Instr.index 57 (.agg #[.string ⟨#[100]⟩, .int .i64 86400000, .string ⟨#[104]⟩, .int .i64 3600000, .string ⟨#[109]⟩, .int .i64 60000, .string ⟨#[115]⟩, .int .i64 1000, .string ⟨#[109, 115]⟩, .int .i64 1]) (.int .i64 4)).run Tryd.prog w = .ok (.agg #[.string ⟨#[109, 115]⟩, .int .i64 1]) w := by kernel_rfl
structure SlW (w0 : World) (l : List Nat) (w : World) : Prop where
  bld : ∃ p, (p = .pointer none ∨ p = own w0.heap.size) ∧ Bld w0.heap.size w0.heap.size p l w
  bel : Below w0.heap.size w0 w
theorem SlW.alloc {w0 : World} {l : List Nat} {w : World} (h : SlW w0 l w) (o : Obj) : SlW w0 l (w.alloc o) := by
  obtain ⟨p, hp, hb⟩ := h.bld
  have b := (Below.refl w.heap.size w).alloc (Nat.le_refl _) o
  exact ⟨⟨p, hp, hb.below b⟩, h.bel.trans (b.mono h.bel.size)⟩
theorem SlW.next {w0 : World} {l : List Nat} {w w' : World} (h : SlW w0 l w) (b : Below w.heap.size w w') : SlW w0 l w' := by
  obtain ⟨p, hp, hb⟩ := h.bld
  exact ⟨⟨p, hp, hb.below b⟩, h.bel.trans (b.mono h.bel.size)⟩
theorem SlW.lt {w0 : World} {l : List Nat} {w : World} (h : SlW w0 l w) : w0.heap.size < w.heap.size := by
  obtain ⟨p, hp, hb⟩ := h.bld
  exact hb.lt
theorem wstrS (w0 : World) (l : List Nat) (s : ByteArray) (w : World) (h : SlW w0 l w) (hlen : l.length + s.size ≤ 140737488355328) :
    Calls Tryd.prog 43 #[.pointer (some ⟨w0.heap.size, 0, none⟩), .string s] w fun e w' => e = .returned (.tuple #[.int .i64 s.size, .nilIface]) ∧ SlW w0 (l ++ Sums.bl s) w' ∧ Rest w0.heap.size w w' := by
  obtain ⟨p, hp, hb⟩ := h.bld
  refine (wstr_any w0.heap.size w0.heap.size p l s w hb hp hlen h.bel.size).mono ?_
  rintro e w' ⟨rfl, h1, h2, h3⟩
  exact ⟨rfl, ⟨⟨_, .inr rfl, h1⟩, h.bel.trans h2⟩, h3⟩
set_option maxRecDepth 100000 in
set_option maxHeartbeats 4000000 in
theorem spell_any (n : Nat) (w : World) (h1 : 1 ≤ n) (h2 : n ≤ 253402300799999) (hu : UnT w) (hp : Pow w) :
    Calls Tryd.prog 21 #[.int .i64 (n : Int)] w fun e w' => e = .returned (.tuple #[.string (nums (spT n 5)), .int .i64 0]) ∧ Below w.heap.size w w' := by
  have HS := Hid.mk' (span_is (n : Int) true (by simp; omega))
  have HP := Hid.mk' hp
  have HU := Hid.mk' hu
  have h3 := hp.size
  have HN := Hid.mk' (And.intro h1 h2)
  have hu2 := hu.below ((Below.refl w.heap.size w).alloc (Nat.le_refl _) (.cells #[.pointer none, .slice none 0 0] 64)) (by omega)
  obtain ⟨n0, m0, n1, m1, n2, m2, n3, m3, n4, m4⟩ := hu2
  have H0 : Hid (SlW w [] (w.alloc (.cells #[.pointer none, .slice none 0 0] 64))) := by
    refine ⟨⟨.pointer none, .inl rfl, Nat.le_refl _, .slice none 0 0, heap_alloc_new w _, ⟨rfl, .inl ⟨rfl, rfl⟩⟩, by simp [Value.ownBlock]⟩, (Below.refl w.heap.size w).alloc (Nat.le_refl _) _⟩
  clear hp hu
  go_enter Tryd.func21, Tryd.ntmps21
  go_wp2_with (first | (go_at_call 38; refine (HS.out _).mono ?_; rintro e w' ⟨rfl, hw'⟩; have hw2 := hw'.symm; subst hw2))
  clear n0 m0 n1 m1 n2 m2 n3 m3 n4 m4
  generalize (w.alloc _) = W0 at *
  go_loopw [0, 12] (fun nv iv wr => ∃ i m : Nat, iv = .int .i64 ((i : Nat) : Int) ∧ nv = .int .i64 ((m : Nat) : Int) ∧ i ≤ 5 ∧ Hid (spRm n i = m) ∧ m ≤ 253402300799999 ∧ Hid (SlW w (spT n i) wr)) (fun _ iv _ => 5 - (intOf iv).toNat)
  case atStart => exact ⟨0, n, rfl, rfl, by decide, rfl, h2, H0⟩
  case round =>
    obtain ⟨i, m, rfl, rfl, hi, hm, hmb, hw⟩ := hrel
    have HL := Hid.mk' (spT_len n i HN.out.2)
    by_cases hi5 : i = 5
    · subst hi5
      go_wp2_with fail
      obtain ⟨p, hpp, hb⟩ := hw.out.bld
      refine (str_some w.heap.size w.heap.size p _ _ hb (spT_ne n HN.out.1) (spT_byt n 5)).mono ?_
      rintro e w2 ⟨rfl, hb2⟩
      have B2 := Hid.mk' (hw.out.bel.trans hb2)
      clear hb hb2
      go_wp2_with fail
      go_ret2
      exact ⟨rfl, B2.out⟩
    · rcases (show i = 0 ∨ i = 1 ∨ i = 2 ∨ i = 3 ∨ i = 4 by omega) with rfl | rfl | rfl | rfl | rfl
      · have hix := idxU0
        have hst : spT n 1 = spT n 0 ++ (if 0 < m / 86400000 then dec (m / 86400000) ++ [100] else []) := by
          rw [← hm.out]; rfl
        have hrm : spRm n 1 = m % 86400000 := by rw [← hm.out]; rfl
        obtain ⟨c, hc⟩ : ∃ c, m / 86400000 = c := ⟨_, rfl⟩
        obtain ⟨r, hr⟩ : ∃ r, m % 86400000 = r := ⟨_, rfl⟩
        rw [hc] at hst
        rw [hr] at hrm
        have hcI : (m : Int) / 86400000 = (c : Int) := by omega
        have hrI : (m : Int) % 86400000 = (r : Int) := by omega
        have hcb : c ≤ 253402300799999 := by omega
        have hrb : r ≤ 253402300799999 := by omega
        have HST := Hid.mk' (And.intro hst hrm)
        clear hst hrm hc hr hi hi5
        by_cases hc0 : 0 < c
        · have hc0I : (0 : Int) < (c : Int) := by omega
          rw [if_pos hc0] at HST
          clear hc0
          go_wp2_with fail
          have W1 := Hid.mk' (hw.out.alloc (.cells #[.string ⟨#[100]⟩, .int .i64 86400000] 56))
          have u1 := heap_alloc_new wr (.cells #[.string ⟨#[100]⟩, .int .i64 86400000] 56)
          have hlt := hw.out.lt
          generalize hU : wr.heap.size = U at *
          generalize (wr.alloc _) = w1 at *
          refine (itoa_any c _ (by omega) (HP.out.below W1.out.bel h3)).mono ?_
          rintro e w2 ⟨⟨t, ht, rfl⟩, hb⟩
          have W2 := Hid.mk' (W1.out.next hb)
          have hUlt : U < w1.heap.size := (Array.getElem?_eq_some_iff.1 u1).1
          have u2 := (hb.block U hUlt).trans u1
          clear u1 hb W1
          have htl : t.size ≤ 15 := by rw [← Sums.bl_length, ht]; exact dec_short c hcb
          go_wp2_with fail
          refine (wstrS w _ t _ W2.out (by have := HL.out; omega)).mono ?_
          rintro e w3 ⟨rfl, hw3, hre⟩
          have W3 := Hid.mk' hw3
          have u3 := hre U _ _ (by omega) (by decide) u2
          clear hw3 hre u2 W2
          have cn3 : w3.cell? ⟨U, 0, none⟩ = some (.string ⟨#[100]⟩) := by simp [World.cell?, u3]
          go_wp2_with fail
          refine (wstrS w _ ⟨#[100]⟩ _ W3.out (by have h1 := HL.out; have h2 : (Sums.bl t).length = t.size := Sums.bl_length t; rw [List.length_append]; have h4 : (⟨#[100]⟩ : ByteArray).size ≤ 2 := (by decide); omega)).mono ?_
          rintro e w4 ⟨rfl, hw4, hre⟩
          have W4 := Hid.mk' hw4
          have u4 := hre U _ _ (by omega) (by decide) u3
          clear hw4 hre u3 W3 cn3
          have cm4 : w4.cell? ⟨U, 1, none⟩ = some (.int .i64 86400000) := by simp [World.cell?, u4]
          have HTT := Hid.mk' ht
          clear ht u4
          go_wp2_with fail
          go_roundw
          case rel =>
            refine ⟨1, r, by first | rfl | simp, by first | exact int_eq hrI | exact int_eq (by omega) | rfl, by decide, HST.out.2, hrb, ?_⟩
            rw [HST.out.1]
            have := W4.out
            rw [HTT.out, List.append_assoc] at this
            exact this
          case measure => simp [intOf]
        · have hc0I : ¬ (0 : Int) < (c : Int) := by omega
          rw [if_neg hc0, List.append_nil] at HST
          clear hc0
          go_wp2_with fail
          have W1 := Hid.mk' (hw.out.alloc (.cells #[.string ⟨#[100]⟩, .int .i64 86400000] 56))
          go_roundw
          case rel => exact ⟨1, r, by first | rfl | simp, by first | exact int_eq hrI | exact int_eq (by omega) | rfl, by decide, HST.out.2, hrb, by rw [HST.out.1]; exact W1⟩
          case measure => simp [intOf]
      · have hix := idxU1
        have hst : spT n 2 = spT n 1 ++ (if 0 < m / 3600000 then dec (m / 3600000) ++ [104] else []) := by
          rw [← hm.out]; rfl
        have hrm : spRm n 2 = m % 3600000 := by rw [← hm.out]; rfl
        obtain ⟨c, hc⟩ : ∃ c, m / 3600000 = c := ⟨_, rfl⟩
        obtain ⟨r, hr⟩ : ∃ r, m % 3600000 = r := ⟨_, rfl⟩
        rw [hc] at hst
        rw [hr] at hrm
        have hcI : (m : Int) / 3600000 = (c : Int) := by omega
        have hrI : (m : Int) % 3600000 = (r : Int) := by omega
        have hcb : c ≤ 253402300799999 := by omega
        have hrb : r ≤ 253402300799999 := by omega
        have HST := Hid.mk' (And.intro hst hrm)
        clear hst hrm hc hr hi hi5
        by_cases hc0 : 0 < c
        · have hc0I : (0 : Int) < (c : Int) := by omega
          rw [if_pos hc0] at HST
          clear hc0
          go_wp2_with fail
          have W1 := Hid.mk' (hw.out.alloc (.cells #[.string ⟨#[104]⟩, .int .i64 3600000] 56))
          have u1 := heap_alloc_new wr (.cells #[.string ⟨#[104]⟩, .int .i64 3600000] 56)
          have hlt := hw.out.lt
          generalize hU : wr.heap.size = U at *
          generalize (wr.alloc _) = w1 at *
          refine (itoa_any c _ (by omega) (HP.out.below W1.out.bel h3)).mono ?_
          rintro e w2 ⟨⟨t, ht, rfl⟩, hb⟩
          have W2 := Hid.mk' (W1.out.next hb)
          have hUlt : U < w1.heap.size := (Array.getElem?_eq_some_iff.1 u1).1
          have u2 := (hb.block U hUlt).trans u1
          clear u1 hb W1
          have htl : t.size ≤ 15 := by rw [← Sums.bl_length, ht]; exact dec_short c hcb
          go_wp2_with fail
          refine (wstrS w _ t _ W2.out (by have := HL.out; omega)).mono ?_
          rintro e w3 ⟨rfl, hw3, hre⟩
          have W3 := Hid.mk' hw3
          have u3 := hre U _ _ (by omega) (by decide) u2
          clear hw3 hre u2 W2
          have cn3 : w3.cell? ⟨U, 0, none⟩ = some (.string ⟨#[104]⟩) := by simp [World.cell?, u3]
          go_wp2_with fail
          refine (wstrS w _ ⟨#[104]⟩ _ W3.out (by have h1 := HL.out; have h2 : (Sums.bl t).length = t.size := Sums.bl_length t; rw [List.length_append]; have h4 : (⟨#[104]⟩ : ByteArray).size ≤ 2 := (by decide); omega)).mono ?_
          rintro e w4 ⟨rfl, hw4, hre⟩
          have W4 := Hid.mk' hw4
          have u4 := hre U _ _ (by omega) (by decide) u3
          clear hw4 hre u3 W3 cn3
          have cm4 : w4.cell? ⟨U, 1, none⟩ = some (.int .i64 3600000) := by simp [World.cell?, u4]
          have HTT := Hid.mk' ht
          clear ht u4
          go_wp2_with fail
          go_roundw
          case rel =>
            refine ⟨2, r, by first | rfl | simp, by first | exact int_eq hrI | exact int_eq (by omega) | rfl, by decide, HST.out.2, hrb, ?_⟩
            rw [HST.out.1]
            have := W4.out
            rw [HTT.out, List.append_assoc] at this
            exact this
          case measure => simp [intOf]
        · have hc0I : ¬ (0 : Int) < (c : Int) := by omega
          rw [if_neg hc0, List.append_nil] at HST
          clear hc0
          go_wp2_with fail
          have W1 := Hid.mk' (hw.out.alloc (.cells #[.string ⟨#[104]⟩, .int .i64 3600000] 56))
          go_roundw
          case rel => exact ⟨2, r, by first | rfl | simp, by first | exact int_eq hrI | exact int_eq (by omega) | rfl, by decide, HST.out.2, hrb, by rw [HST.out.1]; exact W1⟩
          case measure => simp [intOf]
      · have hix := idxU2
        have hst : spT n 3 = spT n 2 ++ (if 0 < m / 60000 then dec (m / 60000) ++ [109] else []) := by
          rw [← hm.out]; rfl
        have hrm : spRm n 3 = m % 60000 := by rw [← hm.out]; rfl
        obtain ⟨c, hc⟩ : ∃ c, m / 60000 = c := ⟨_, rfl⟩
        obtain ⟨r, hr⟩ : ∃ r, m % 60000 = r := ⟨_, rfl⟩
        rw [hc] at hst
        rw [hr] at hrm
        have hcI : (m : Int) / 60000 = (c : Int) := by omega
        have hrI : (m : Int) % 60000 = (r : Int) := by omega
        have hcb : c ≤ 253402300799999 := by omega
        have hrb : r ≤ 253402300799999 := by omega
        have HST := Hid.mk' (And.intro hst hrm)
        clear hst hrm hc hr hi hi5
        by_cases hc0 : 0 < c
        · have hc0I : (0 : Int) < (c : Int) := by omega
          rw [if_pos hc0] at HST
          clear hc0
          go_wp2_with fail
          have W1 := Hid.mk' (hw.out.alloc (.cells #[.string ⟨#[109]⟩, .int .i64 60000] 56))
          have u1 := heap_alloc_new wr (.cells #[.string ⟨#[109]⟩, .int .i64 60000] 56)
          have hlt := hw.out.lt
          generalize hU : wr.heap.size = U at *
          generalize (wr.alloc _) = w1 at *
          refine (itoa_any c _ (by omega) (HP.out.below W1.out.bel h3)).mono ?_
          rintro e w2 ⟨⟨t, ht, rfl⟩, hb⟩
          have W2 := Hid.mk' (W1.out.next hb)
          have hUlt : U < w1.heap.size := (Array.getElem?_eq_some_iff.1 u1).1
          have u2 := (hb.block U hUlt).trans u1
          clear u1 hb W1
          have htl : t.size ≤ 15 := by rw [← Sums.bl_length, ht]; exact dec_short c hcb
          go_wp2_with fail
          refine (wstrS w _ t _ W2.out (by have := HL.out; omega)).mono ?_
          rintro e w3 ⟨rfl, hw3, hre⟩
          have W3 := Hid.mk' hw3
          have u3 := hre U _ _ (by omega) (by decide) u2
          clear hw3 hre u2 W2
          have cn3 : w3.cell? ⟨U, 0, none⟩ = some (.string ⟨#[109]⟩) := by simp [World.cell?, u3]
          go_wp2_with fail
          refine (wstrS w _ ⟨#[109]⟩ _ W3.out (by have h1 := HL.out; have h2 : (Sums.bl t).length = t.size := Sums.bl_length t; rw [List.length_append]; have h4 : (⟨#[109]⟩ : ByteArray).size ≤ 2 := (by decide); omega)).mono ?_
          rintro e w4 ⟨rfl, hw4, hre⟩
          have W4 := Hid.mk' hw4
          have u4 := hre U _ _ (by omega) (by decide) u3
          clear hw4 hre u3 W3 cn3
          have cm4 : w4.cell? ⟨U, 1, none⟩ = some (.int .i64 60000) := by simp [World.cell?, u4]
          have HTT := Hid.mk' ht
          clear ht u4
          go_wp2_with fail
          go_roundw
          case rel =>
            refine ⟨3, r, by first | rfl | simp, by first | exact int_eq hrI | exact int_eq (by omega) | rfl, by decide, HST.out.2, hrb, ?_⟩
            rw [HST.out.1]
            have := W4.out
            rw [HTT.out, List.append_assoc] at this
            exact this
          case measure => simp [intOf]
        · have hc0I : ¬ (0 : Int) < (c : Int) := by omega
          rw [if_neg hc0, List.append_nil] at HST
          clear hc0
          go_wp2_with fail
          have W1 := Hid.mk' (hw.out.alloc (.cells #[.string ⟨#[109]⟩, .int .i64 60000] 56))
          go_roundw
          case rel => exact ⟨3, r, by first | rfl | simp, by first | exact int_eq hrI | exact int_eq (by omega) | rfl, by decide, HST.out.2, hrb, by rw [HST.out.1]; exact W1⟩
          case measure => simp [intOf]
      · have hix := idxU3
        have hst : spT n 4 = spT n 3 ++ (if 0 < m / 1000 then dec (m / 1000) ++ [115] else []) := by
          rw [← hm.out]; rfl
        have hrm : spRm n 4 = m % 1000 := by rw [← hm.out]; rfl
        obtain ⟨c, hc⟩ : ∃ c, m / 1000 = c := ⟨_, rfl⟩
        obtain ⟨r, hr⟩ : ∃ r, m % 1000 = r := ⟨_, rfl⟩
        rw [hc] at hst
        rw [hr] at hrm
        have hcI : (m : Int) / 1000 = (c : Int) := by omega
        have hrI : (m : Int) % 1000 = (r : Int) := by omega
        have hcb : c ≤ 253402300799999 := by omega
        have hrb : r ≤ 253402300799999 := by omega
        have HST := Hid.mk' (And.intro hst hrm)
        clear hst hrm hc hr hi hi5
        by_cases hc0 : 0 < c
        · have hc0I : (0 : Int) < (c : Int) := by omega
          rw [if_pos hc0] at HST
          clear hc0
          go_wp2_with fail
          have W1 := Hid.mk' (hw.out.alloc (.cells #[.string ⟨#[115]⟩, .int .i64 1000] 56))
          have u1 := heap_alloc_new wr (.cells #[.string ⟨#[115]⟩, .int .i64 1000] 56)
          have hlt := hw.out.lt
          generalize hU : wr.heap.size = U at *
          generalize (wr.alloc _) = w1 at *
          refine (itoa_any c _ (by omega) (HP.out.below W1.out.bel h3)).mono ?_
          rintro e w2 ⟨⟨t, ht, rfl⟩, hb⟩
          have W2 := Hid.mk' (W1.out.next hb)
          have hUlt : U < w1.heap.size := (Array.getElem?_eq_some_iff.1 u1).1
          have u2 := (hb.block U hUlt).trans u1
          clear u1 hb W1
          have htl : t.size ≤ 15 := by rw [← Sums.bl_length, ht]; exact dec_short c hcb
          go_wp2_with fail
          refine (wstrS w _ t _ W2.out (by have := HL.out; omega)).mono ?_
          rintro e w3 ⟨rfl, hw3, hre⟩
          have W3 := Hid.mk' hw3
          have u3 := hre U _ _ (by omega) (by decide) u2
          clear hw3 hre u2 W2
          have cn3 : w3.cell? ⟨U, 0, none⟩ = some (.string ⟨#[115]⟩) := by simp [World.cell?, u3]
          go_wp2_with fail
          refine (wstrS w _ ⟨#[115]⟩ _ W3.out (by have h1 := HL.out; have h2 : (Sums.bl t).length = t.size := Sums.bl_length t; rw [List.length_append]; have h4 : (⟨#[115]⟩ : ByteArray).size ≤ 2 := (by decide); omega)).mono ?_
          rintro e w4 ⟨rfl, hw4, hre⟩
          have W4 := Hid.mk' hw4
          have u4 := hre U _ _ (by omega) (by decide) u3
          clear hw4 hre u3 W3 cn3
          have cm4 : w4.cell? ⟨U, 1, none⟩ = some (.int .i64 1000) := by simp [World.cell?, u4]
          have HTT := Hid.mk' ht
          clear ht u4
          go_wp2_with fail
          go_roundw
          case rel =>
            refine ⟨4, r, by first | rfl | simp, by first | exact int_eq hrI | exact int_eq (by omega) | rfl, by decide, HST.out.2, hrb, ?_⟩
            rw [HST.out.1]
            have := W4.out
            rw [HTT.out, List.append_assoc] at this
            exact this
          case measure => simp [intOf]
        · have hc0I : ¬ (0 : Int) < (c : Int) := by omega
          rw [if_neg hc0, List.append_nil] at HST
          clear hc0
          go_wp2_with fail
          have W1 := Hid.mk' (hw.out.alloc (.cells #[.string ⟨#[115]⟩, .int .i64 1000] 56))
          go_roundw
          case rel => exact ⟨4, r, by first | rfl | simp, by first | exact int_eq hrI | exact int_eq (by omega) | rfl, by decide, HST.out.2, hrb, by rw [HST.out.1]; exact W1⟩
          case measure => simp [intOf]
      · have hix := idxU4
        have hst : spT n 5 = spT n 4 ++ (if 0 < m / 1 then dec (m / 1) ++ [109, 115] else []) := by
          rw [← hm.out]; rfl
        have hrm : spRm n 5 = m % 1 := by rw [← hm.out]; rfl
        obtain ⟨c, hc⟩ : ∃ c, m / 1 = c := ⟨_, rfl⟩
        obtain ⟨r, hr⟩ : ∃ r, m % 1 = r := ⟨_, rfl⟩
        rw [hc] at hst
        rw [hr] at hrm
        have hcI : (m : Int) / 1 = (c : Int) := by omega
        have hrI : (m : Int) % 1 = (r : Int) := by omega
        have hcb : c ≤ 253402300799999 := by omega
        have hrb : r ≤ 253402300799999 := by omega
        have HST := Hid.mk' (And.intro hst hrm)
        have hcm : c = m := by omega
        subst hcm
        clear hst hrm hc hr hi hi5
        by_cases hc0 : 0 < c
        · have hc0I : (0 : Int) < (c : Int) := by omega
          rw [if_pos hc0] at HST
          clear hc0
          go_wp2_with fail
          have W1 := Hid.mk' (hw.out.alloc (.cells #[.string ⟨#[109, 115]⟩, .int .i64 1] 56))
          have u1 := heap_alloc_new wr (.cells #[.string ⟨#[109, 115]⟩, .int .i64 1] 56)
          have hlt := hw.out.lt
          generalize hU : wr.heap.size = U at *
          generalize (wr.alloc _) = w1 at *
          refine (itoa_any c _ (by omega) (HP.out.below W1.out.bel h3)).mono ?_
          rintro e w2 ⟨⟨t, ht, rfl⟩, hb⟩
          have W2 := Hid.mk' (W1.out.next hb)
          have hUlt : U < w1.heap.size := (Array.getElem?_eq_some_iff.1 u1).1
          have u2 := (hb.block U hUlt).trans u1
          clear u1 hb W1
          have htl : t.size ≤ 15 := by rw [← Sums.bl_length, ht]; exact dec_short c hcb
          go_wp2_with fail
          refine (wstrS w _ t _ W2.out (by have := HL.out; omega)).mono ?_
          rintro e w3 ⟨rfl, hw3, hre⟩
          have W3 := Hid.mk' hw3
          have u3 := hre U _ _ (by omega) (by decide) u2
          clear hw3 hre u2 W2
          have cn3 : w3.cell? ⟨U, 0, none⟩ = some (.string ⟨#[109, 115]⟩) := by simp [World.cell?, u3]
          go_wp2_with fail
          refine (wstrS w _ ⟨#[109, 115]⟩ _ W3.out (by have h1 := HL.out; have h2 : (Sums.bl t).length = t.size := Sums.bl_length t; rw [List.length_append]; have h4 : (⟨#[109, 115]⟩ : ByteArray).size ≤ 2 := (by decide); omega)).mono ?_
          rintro e w4 ⟨rfl, hw4, hre⟩
          have W4 := Hid.mk' hw4
          have u4 := hre U _ _ (by omega) (by decide) u3
          clear hw4 hre u3 W3 cn3
          have cm4 : w4.cell? ⟨U, 1, none⟩ = some (.int .i64 1) := by simp [World.cell?, u4]
          have HTT := Hid.mk' ht
          clear ht u4
          go_wp2_with fail
          go_roundw
          case rel =>
            refine ⟨5, r, by first | rfl | simp, by first | exact int_eq hrI | exact int_eq (by omega) | rfl, by decide, HST.out.2, hrb, ?_⟩
            rw [HST.out.1]
            have := W4.out
            rw [HTT.out, List.append_assoc] at this
            exact this
          case measure => simp [intOf]
        · have hc0I : ¬ (0 : Int) < (c : Int) := by omega
          rw [if_neg hc0, List.append_nil] at HST
          clear hc0
          go_wp2_with fail
          have W1 := Hid.mk' (hw.out.alloc (.cells #[.string ⟨#[109, 115]⟩, .int .i64 1] 56))
          go_roundw
          case rel => exact ⟨5, r, by first | rfl | simp, by first | exact int_eq hrI | exact int_eq (by omega) | rfl, by decide, HST.out.2, hrb, by rw [HST.out.1]; exact W1⟩
          case measure => simp [intOf]
end Go.Proofs.YthmpokndffbkdaaDoor
