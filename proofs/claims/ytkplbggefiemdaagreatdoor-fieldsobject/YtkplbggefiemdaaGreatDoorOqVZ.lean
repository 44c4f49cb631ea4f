/-
  Plain facts: what is read is right. Conditions: as each says.
-/
import Derived.Test.YtkplbggefiemdaaGreatDoorOqAG
import Derived.Test.YtkplbggefiemdaaGreatDoorObX
import Derived.Lib.ValidLaws
import Derived.Test.YtkplbggefiemdaaGreatDoorObZ
import Derived.Test.YtkplbggefiemdaaGreatDoorOqH
import Derived.Test.YtkplbggefiemdaaGreatDoorObZA
namespace Go.Proofs.YtkplbggefiemdaaGreatDoor
open Go.RowKit
set_option linter.unusedVariables false
set_option linter.unusedSimpArgs false
/-- is a text in UTF-8? -/
def vaN (l : List Nat) : Bool := Lib.validD (l.map UInt8.ofNat)
theorem nums_data (m : List Nat) : (nums m).data.toList = m.map UInt8.ofNat := by
  show ((m.map fun z => ((z : Nat) : Int)).map fun n => UInt8.ofNat n.toNat).toArray.toList = _
  rw [List.toList_toArray, List.map_map]
  rfl
theorem toN (x : Nat) (h : x < 256) : (UInt8.ofNat x).toNat = x := by
  rw [UInt8.toNat_ofNat']
  exact Nat.mod_eq_of_lt h
theorem va_one (x : Nat) (l : List Nat) (h : x < 128) : vaN (x :: l) = vaN l := by
  unfold vaN
  rw [List.map_cons]
  exact Lib.validD_cons _ _ (by rw [toN x (by omega)]; exact h)
theorem row_tab : ∀ r ∈ rowL, ∀ x : Fin 256, r.1 ≤ x.val → x.val ≤ r.2.1 → 128 ≤ x.val ∧ Lib.firstT x.val % 8 = r.2.2.2.2 + 2 ∧ Lib.accLo (Lib.firstT x.val / 16) = r.2.2.1 ∧ Lib.accHi (Lib.firstT x.val / 16) = r.2.2.2.1 ∧ r.2.2.2.2 ≤ 2 ∧ 128 ≤ r.2.2.1 ∧ r.2.2.2.1 ≤ 191 := by decide +kernel
theorem va_row (a b lo hi k : Nat) (hr : (a, b, lo, hi, k) ∈ rowL) (x y : Nat) (zs l : List Nat) (hx : x < 256) (h1 : a ≤ x) (h2 : x ≤ b) (h3 : lo ≤ y) (h4 : y ≤ hi) (hz : zs.length = k) (hzs : ∀ z ∈ zs, 128 ≤ z ∧ z ≤ 191) : vaN (x :: y :: (zs ++ l)) = vaN l := by
  obtain ⟨t0, t1, t2, t3, t4, t5, t6⟩ := row_tab _ hr ⟨x, hx⟩ h1 h2
  dsimp only at t0 t1 t2 t3 t4 t5 t6
  have hy : y < 256 := by omega
  unfold vaN
  have hl := Lib.validD_lead ((x :: y :: (zs ++ l)).map UInt8.ofNat) (by simp) (by simp [toN x hx]; exact t0)
  rw [hl]
  have e0 : (((x :: y :: (zs ++ l)).map UInt8.ofNat).getD 0 0).toNat = x := by simp [toN x hx]
  have e1 : (((x :: y :: (zs ++ l)).map UInt8.ofNat).getD 1 0).toNat = y := by simp [toN y hy]
  rw [e0, e1, t1, t2, t3]
  rcases (show k = 0 ∨ k = 1 ∨ k = 2 by omega) with rfl | rfl | rfl
  · have : zs = [] := List.eq_nil_of_length_eq_zero hz
    subst this
    have hc : ∀ (n c d : Nat), 2 ≤ n → Lib.checkN n y c d (0 + 2) lo hi = some 2 := fun n c d hn => by
      unfold Lib.checkN
      rw [if_pos rfl, if_neg (by omega)]
    rw [hc _ _ _ (by simp)]
    rfl
  · obtain ⟨z, rfl⟩ : ∃ z, zs = [z] := List.length_eq_one_iff.1 hz
    have hzb := hzs z (by simp)
    have e2 : (((x :: y :: ([z] ++ l)).map UInt8.ofNat).getD 2 0).toNat = z := by simp [toN z (by omega)]
    rw [e2]
    have hc : ∀ (n d : Nat), 3 ≤ n → Lib.checkN n y z d (1 + 2) lo hi = some 3 := fun n d hn => by
      unfold Lib.checkN
      rw [if_neg (by decide), if_pos rfl, if_neg (by omega)]
    rw [hc _ _ (by simp)]
    rfl
  · obtain ⟨z, u, rfl⟩ : ∃ z u, zs = [z, u] := by match zs, hz with | [z, u], _ => exact ⟨z, u, rfl⟩
    have hzb := hzs z (by simp)
    have hub := hzs u (by simp)
    have e2 : (((x :: y :: ([z, u] ++ l)).map UInt8.ofNat).getD 2 0).toNat = z := by simp [toN z (by omega)]
    have e3 : (((x :: y :: ([z, u] ++ l)).map UInt8.ofNat).getD 3 0).toNat = u := by simp [toN u (by omega)]
    rw [e2, e3]
    have hc : ∀ (n : Nat), 4 ≤ n → Lib.checkN n y z u (2 + 2) lo hi = some 4 := fun n hn => by
      unfold Lib.checkN
      rw [if_neg (by decide), if_neg (by decide), if_pos rfl, if_neg (by omega)]
    rw [hc _ (by simp)]
    rfl
theorem va_enc (n : Nat) (h : n ≤ 1114111) (hs : n < 55296 ∨ 57343 < n) (l : List Nat) : vaN (encU n ++ l) = vaN l := by
  unfold encU
  by_cases h1 : n ≤ 127
  · rw [Lib.encodeRuneZ_one (by omega) (by omega)]
    exact va_one n l (by omega)
  by_cases h2 : n ≤ 2047
  · rw [Lib.encodeRuneZ_two (by omega) (by omega)]
    have e : (List.map Int.toNat [192 + (n : Int) / 64, 128 + (n : Int) % 64]) = [192 + n / 64, 128 + n % 64] := by simp; omega
    rw [e]
    exact va_row 194 223 128 191 0 (by decide) _ _ [] l (by omega) (by omega) (by omega) (by omega) (by omega) rfl (fun z hz => by cases hz)
  by_cases h3 : n ≤ 65535
  · rw [Lib.encodeRuneZ_three (by omega)]
    have e : (List.map Int.toNat [224 + (n : Int) / 4096, 128 + (n : Int) / 64 % 64, 128 + (n : Int) % 64]) = [224 + n / 4096, 128 + n / 64 % 64, 128 + n % 64] := by simp; omega
    rw [e]
    have hz : ∀ z ∈ [128 + n % 64], 128 ≤ z ∧ z ≤ 191 := fun z hz => by rw [List.mem_singleton.1 hz]; omega
    by_cases c1 : n / 4096 = 0
    · exact va_row 224 224 160 191 1 (by decide) _ _ [128 + n % 64] l (by omega) (by omega) (by omega) (by omega) (by omega) rfl hz
    by_cases c2 : n / 4096 ≤ 12
    · exact va_row 225 236 128 191 1 (by decide) _ _ [128 + n % 64] l (by omega) (by omega) (by omega) (by omega) (by omega) rfl hz
    by_cases c3 : n / 4096 = 13
    · exact va_row 237 237 128 159 1 (by decide) _ _ [128 + n % 64] l (by omega) (by omega) (by omega) (by omega) (by omega) rfl hz
    · exact va_row 238 239 128 191 1 (by decide) _ _ [128 + n % 64] l (by omega) (by omega) (by omega) (by omega) (by omega) rfl hz
  · rw [Lib.encodeRuneZ_four (by omega) (by omega)]
    have e : (List.map Int.toNat [240 + (n : Int) / 262144, 128 + (n : Int) / 4096 % 64, 128 + (n : Int) / 64 % 64, 128 + (n : Int) % 64]) = [240 + n / 262144, 128 + n / 4096 % 64, 128 + n / 64 % 64, 128 + n % 64] := by simp; omega
    rw [e]
    have hz : ∀ z ∈ [128 + n / 64 % 64, 128 + n % 64], 128 ≤ z ∧ z ≤ 191 := fun z hz => by
      rcases List.mem_cons.1 hz with rfl | hz
      · omega
      · rw [List.mem_singleton.1 hz]; omega
    by_cases c1 : n / 262144 = 0
    · exact va_row 240 240 144 191 2 (by decide) _ _ [128 + n / 64 % 64, 128 + n % 64] l (by omega) (by omega) (by omega) (by omega) (by omega) rfl hz
    by_cases c2 : n / 262144 ≤ 3
    · exact va_row 241 243 128 191 2 (by decide) _ _ [128 + n / 64 % 64, 128 + n % 64] l (by omega) (by omega) (by omega) (by omega) (by omega) rfl hz
    · exact va_row 244 244 128 143 2 (by decide) _ _ [128 + n / 64 % 64, 128 + n % 64] l (by omega) (by omega) (by omega) (by omega) (by omega) rfl hz
end Go.Proofs.YtkplbggefiemdaaGreatDoor

namespace Go.Proofs.YtkplbggefiemdaaGreatDoor
open Go.RowKit
set_option linter.unusedVariables false
set_option linter.unusedSimpArgs false
theorem rng_cons {a b : Nat} {l : List Nat} (h : rngO a b l = true) : ∃ x r, l = x :: r ∧ a ≤ x ∧ x ≤ b := by
  cases l with
  | nil => cases h
  | cons x r =>
    simp only [rngO, Bool.and_eq_true, decide_eq_true_eq] at h
    exact ⟨x, r, rfl, h.1, h.2⟩
theorem seg_split (L : List Nat) (p m q : Nat) (h1 : p ≤ m) (h2 : m ≤ q) : (L.drop p).take (q - p) = (L.drop p).take (m - p) ++ (L.drop m).take (q - m) := by
  have e : q - p = (m - p) + (q - m) := by omega
  rw [e, List.take_add, List.drop_drop, show p + (m - p) = m by omega]
theorem txS_add : ∀ (l : List Nat) (a : Nat), txS l a = a + txS l 0
  | [], a => by simp [txS]
  | c :: r, a => by
    rw [txS, txS, txS_add r (a + byS c), txS_add r (0 + byS c)]
    omega
theorem txS_app (a b : List Nat) : txS (a ++ b) 0 = txS a 0 + txS b 0 := by
  induction a with
  | nil => simp [txS]
  | cons c r ih => rw [List.cons_append, txS, txS, txS_add (r ++ b), txS_add r, ih]; omega
theorem byS_one : ∀ x : Nat, x < 256 → 32 ≤ x → x ≠ 34 → x ≠ 92 → byS x = 1 := by
  intro x hx
  have h : ∀ x : Fin 256, 32 ≤ x.val → x.val ≠ 34 → x.val ≠ 92 → byS x.val = 1 := by decide +kernel
  exact h ⟨x, hx⟩
theorem txS_ones : ∀ l : List Nat, (∀ x ∈ l, x < 256 ∧ 128 ≤ x) → txS l 0 = l.length
  | [], _ => rfl
  | x :: r, h => by
    have hx := h x (by simp)
    rw [txS, txS_add, txS_ones r (fun y hy => h y (List.mem_cons_of_mem _ hy)), byS_one x hx.1 (by omega) (by omega) (by omega), List.length_cons]
    omega
theorem mul_seg (L : List Nat) : ∀ (k p : Nat) (b : Bool) (q : Nat), mulP L k p = .ok b q → ((L.drop p).take k).length = k ∧ ∀ z ∈ (L.drop p).take k, 128 ≤ z ∧ z ≤ 191
  | 0, p, b, q, h => by simp
  | k + 1, p, b, q, h => by
    rw [mulP] at h
    split at h
    · rename_i hr
      obtain ⟨x, r, hd, h1, h2⟩ := rng_cons hr
      obtain ⟨i1, i2⟩ := mul_seg L k (p + 1) b q h
      have e : (L.drop p).take (k + 1) = x :: (L.drop (p + 1)).take k := by rw [hd, List.take_succ_cons, ← List.drop_drop, hd]; rfl
      rw [e]
      refine ⟨by rw [List.length_cons, i1], fun z hz => ?_⟩
      rcases List.mem_cons.1 hz with rfl | hz
      · exact ⟨h1, h2⟩
      · exact i2 z hz
    · cases h
theorem sev_seg (L : List Nat) (hL : ∀ x ∈ L, x < 256) (p : Nat) : ∀ (rs : List (Nat × Nat × Nat × Nat × Nat)), (∀ r ∈ rs, r ∈ rowL) → ∀ q, sevR L p rs = .ok true q → (∀ l, vaN ((L.drop p).take (q - p) ++ l) = vaN l) ∧ ((L.drop p).take (q - p)).length = q - p ∧ ∀ z ∈ (L.drop p).take (q - p), z < 256 ∧ 128 ≤ z
  | [], _, q, h => by rw [sevR] at h; cases h
  | (a, b, lo, hi, k) :: r, hrs, q, h => by
    rw [sevR] at h
    dsimp only at h
    split at h
    · rename_i h1
      split at h
      · rename_i h2
        obtain ⟨x, r1, hd, x1, x2⟩ := rng_cons h1
        have hd1 : L.drop (p + 1) = r1 := by rw [← List.drop_drop, hd]; rfl
        rw [hd1] at h2
        obtain ⟨y, r2, hd', y1, y2⟩ := rng_cons h2
        have hd2 : L.drop (p + 2) = r2 := by rw [show p + 2 = (p + 1) + 1 by omega, ← List.drop_drop, hd1, hd']; rfl
        have hm := mulP_ok L k (p + 2) true q h
        obtain ⟨s1, s2⟩ := mul_seg L k (p + 2) true q h
        rw [hd2] at s1 s2
        have hxm : x ∈ L := List.mem_of_mem_drop (i := p) (by rw [hd]; simp)
        have hin := hrs _ (List.mem_cons_self ..)
        have hx := hL x hxm
        obtain ⟨t0, _, _, _, _, t5, t6⟩ := row_tab _ hin ⟨x, hx⟩ x1 x2
        dsimp only at t0 t5 t6
        have e : (L.drop p).take (q - p) = x :: y :: r2.take k := by
          rw [show q - p = k + 1 + 1 by omega, hd, hd', List.take_succ_cons, List.take_succ_cons]
        rw [e]
        refine ⟨fun l => va_row a b lo hi k hin x y (r2.take k) l hx x1 x2 y1 y2 s1 s2, by simp only [List.length_cons, s1]; omega, fun z hz => ?_⟩
        rcases List.mem_cons.1 hz with rfl | hz
        · exact ⟨hx, t0⟩
        · rcases List.mem_cons.1 hz with rfl | hz
          · omega
          · have := s2 z hz; omega
      · cases h
    · exact sev_seg L hL p r (fun y hy => hrs y (List.mem_cons_of_mem _ hy)) q h
theorem run_seg (L : List Nat) (hL : ∀ x ∈ L, x < 256) : ∀ (n p : Nat) (b : Bool) (q : Nat), runP L n p = .ok b q → (∀ l, vaN ((L.drop p).take (q - p) ++ l) = vaN l) ∧ txS ((L.drop p).take (q - p)) 0 ≤ q - p
  | 0, p, b, q, h => by rw [runP] at h; cases h
  | n + 1, p, b, q, h => by
    rw [runP] at h
    split at h
    · rename_i hs
      have hq := runP_ok L n _ b q h
      obtain ⟨i1, i2⟩ := run_seg L hL n (p + 1) b q h
      cases hd : L.drop p with
      | nil => rw [hd] at hs; cases hs
      | cons x r =>
        rw [hd] at hs
        have hx : 32 ≤ x ∧ x ≤ 127 ∧ x ≠ 34 ∧ x ≠ 92 := by simpa [sgl] using hs
        have hxm : x < 256 := hL x (List.mem_of_mem_drop (i := p) (by rw [hd]; simp))
        have e : (L.drop p).take (q - p) = x :: (L.drop (p + 1)).take (q - (p + 1)) := by
          rw [show q - p = (q - (p + 1)) + 1 by omega, hd, List.take_succ_cons, ← List.drop_drop, hd]; rfl
        rw [← hd, e]
        refine ⟨fun l => by rw [List.cons_append, va_one x _ (by omega)]; exact i1 l, ?_⟩
        rw [txS, txS_add, byS_one x hxm hx.1 hx.2.2.1 hx.2.2.2]
        omega
    · cases hs : sevP L p with
      | no c z => rw [hs] at h; cases h
      | ok b2 z =>
        rw [hs] at h
        have h2 : (if b2 = true then runP L n z else .ok true z) = .ok b q := h
        cases b2
        · rw [if_neg (by decide)] at h2
          injection h2 with h3 h4
          rcases sevR_ok L p _ _ _ hs with ⟨_, e⟩ | ⟨e, _⟩
          · have e0 : q - p = 0 := by omega
            rw [e0, List.take_zero]
            exact ⟨fun l => rfl, by simp [txS]⟩
          · cases e
        · rw [if_pos rfl] at h2
          have hz : p + 2 ≤ z := by
            rcases sevR_ok L p _ _ _ hs with ⟨e, _⟩ | ⟨_, e⟩
            · cases e
            · exact e
          have hq := runP_ok L n _ b q h2
          obtain ⟨i1, i2⟩ := run_seg L hL n z b q h2
          obtain ⟨s1, s2, s3⟩ := sev_seg L hL p rowL (fun r hr => hr) z hs
          rw [seg_split L p z q (by omega) hq]
          refine ⟨fun l => by rw [List.append_assoc, s1]; exact i1 l, ?_⟩
          rw [txS_app, txS_ones _ s3, s2]
          omega
theorem sgn_sz {L : List Nat} {p n q : Nat} : ∀ (l : List (Nat × Nat)), (∀ x ∈ l, x.2 < 128 ∧ byS x.2 ≤ 2) → sgnP L p l = .ok n q → txS (encU n) 0 ≤ q - p + 1
  | [], _, h => by
    rw [sgnP] at h
    split at h
    · injection h with e1 e2
      subst e1
      have : txS (encU 47) 0 = 1 := by rw [encU_one 47 (by decide)]; decide +kernel
      omega
    · split at h
      · have hn := numP_ok h
        by_cases h8 : n < 128
        · rw [encU_one n h8, txS, txS]
          have := byS_le n
          omega
        · have hb : ∀ x ∈ encU n, x < 256 ∧ 128 ≤ x := by
            intro x hx
            refine ⟨encU_byt n x hx, ?_⟩
            unfold encU at hx
            by_cases h2 : n ≤ 2047
            · rw [Lib.encodeRuneZ_two (by omega) (by omega)] at hx
              simp at hx
              omega
            by_cases h3 : n ≤ 65535
            · rw [Lib.encodeRuneZ_three (by omega)] at hx
              simp at hx
              omega
            · rw [Lib.encodeRuneZ_four (by omega) (by omega)] at hx
              simp at hx
              omega
          rw [txS_ones _ hb]
          have := encU_len n
          omega
      · cases h
  | x :: r, hl, h => by
    rw [sgnP] at h
    split at h
    · injection h with e1 e2
      subst e1
      have hx := hl x (by simp)
      rw [encU_one x.2 hx.1, txS, txS]
      omega
    · exact sgn_sz r (fun y hy => hl y (List.mem_cons_of_mem _ hy)) h
theorem esc_sz {L : List Nat} {p n q : Nat} (h : escP L p = .ok n q) : txS (encU n) 0 ≤ q - p + 1 := sgn_sz sgnL (by decide +kernel) h
theorem qb_seg (L : List Nat) (hL : ∀ x ∈ L, x < 256) : ∀ (n : Nat) (m : List Nat) (p : Nat) (t : List Nat) (q : Nat), (∀ l, vaN (m ++ l) = vaN l) → qbP L n m p = .ok t q → (∀ l, vaN (t ++ l) = vaN l) ∧ txS t 0 + 1 ≤ txS m 0 + (q - p) ∧ p < q
  | 0, m, p, t, q, _, h => by rw [qbP] at h; cases h
  | n + 1, m, p, t, q, hm, h => by
    rw [qbP] at h
    cases hr : runP L (L.length + 1) p with
    | no c z => rw [hr] at h; cases h
    | ok b z =>
      rw [hr] at h
      have hz := runP_ok L _ _ _ _ hr
      obtain ⟨s1, s2⟩ := run_seg L hL _ _ _ _ hr
      have h' : (if rngO 34 34 (L.drop z) = true then Rv.ok (m ++ (L.drop p).take (z - p)) (z + 1) else if rngO 92 92 (L.drop z) = true then (escP L (z + 1)).bind fun r y => qbP L n (m ++ (L.drop p).take (z - p) ++ encU r) y else .no 130 z) = .ok t q := h
      have hv : ∀ l, vaN ((m ++ (L.drop p).take (z - p)) ++ l) = vaN l := fun l => by rw [List.append_assoc, hm]; exact s1 l
      split at h'
      · injection h' with e1 e2
        subst e1 e2
        refine ⟨hv, ?_, by omega⟩
        rw [txS_app]
        omega
      · split at h'
        · cases he : escP L (z + 1) with
          | no c y => rw [he] at h'; cases h'
          | ok r y =>
            rw [he] at h'
            obtain ⟨e1, e2, e3, e4⟩ := escP_ok he
            have e5 := esc_sz he
            have h2 : qbP L n (m ++ (L.drop p).take (z - p) ++ encU r) y = .ok t q := h'
            obtain ⟨i1, i2, i3⟩ := qb_seg L hL n _ y t q (fun l => by rw [List.append_assoc, hv]; exact va_enc r e2 e3 l) h2
            rw [txS_app, txS_app] at i2
            exact ⟨i1, by omega, by omega⟩
        · cases h'
/-- what is read between quotation marks -/
theorem pqG_right {S : ByteArray} (hS : S.size ≤ 65536) {a b : Nat} {t : ByteArray} (h : pqG S a = .ok t b) : shT t = true ∧ txS (Sums.bl t) 2 ≤ b - a ∧ a < b ∧ b ≤ S.size := by
  have h0 := pqG_lt hS a t b h
  unfold pqG qtP at h
  split at h
  · cases hq : qbP (Sums.bl S) ((Sums.bl S).length + 1) [] (a + 1) with
    | no c z => rw [hq] at h; cases h
    | ok m z =>
      rw [hq] at h
      have hb := qbP_ok _ _ _ _ _ _ (Sums.bl_byt S) (fun x hx => by cases hx) (by simp) hq
      obtain ⟨s1, s2, s3⟩ := qb_seg _ (Sums.bl_byt S) _ _ _ _ _ (fun l => rfl) hq
      injection h with e1 e2
      subst e1 e2
      refine ⟨?_, ?_, by omega, by have := hb.2.2.1; rw [Sums.bl_length] at this; exact this⟩
      · unfold shT
        rw [decide_eq_true h0.2, Bool.true_and, nums_data]
        have := s1 []
        rw [List.append_nil] at this
        exact this
      · rw [bl_nums _ hb.2.2.2, txS_add]
        simp [txS] at s2
        omega
  · cases h
end Go.Proofs.YtkplbggefiemdaaGreatDoor

namespace Go.Proofs.YtkplbggefiemdaaGreatDoor
open Go.RowKit
set_option linter.unusedVariables false
set_option linter.unusedSimpArgs false
def cutL (L : List Nat) (p q : Nat) : List Nat := (L.drop p).take (q - p)
theorem cut_drop (L : List Nat) (p q i : Nat) (h : p ≤ i) : (cutL L p q).drop (i - p) = (L.drop i).take (q - i) := by
  unfold cutL
  rw [List.drop_take, List.drop_drop, show p + (i - p) = i by omega, show q - p - (i - p) = q - i by omega]
theorem cut_in (L : List Nat) (p q i a b : Nat) (h : p ≤ i) (hq : i < q) : rngO a b ((cutL L p q).drop (i - p)) = rngO a b (L.drop i) := by
  rw [cut_drop L p q i h]
  cases hd : L.drop i with
  | nil => rw [List.take_nil]
  | cons x r =>
    rw [show q - i = (q - i - 1) + 1 by omega, List.take_succ_cons]
    rfl
theorem cut_no (L : List Nat) (p q i a b : Nat) (h : p ≤ i) (hl : rngO a b (L.drop i) = false) : rngO a b ((cutL L p q).drop (i - p)) = false := by
  rcases Nat.lt_or_ge i q with hq | hq
  · rw [cut_in L p q i a b h hq]; exact hl
  · rw [cut_drop L p q i h, show q - i = 0 by omega, List.take_zero]; rfl
theorem dgF_cut (L : List Nat) (p q : Nat) : ∀ (n i a : Nat), (L.drop i).length = n → p ≤ i → dgF (L.drop i) i = a → a ≤ q → dgF ((cutL L p q).drop (i - p)) (i - p) = a - p
  | n, i, a, hn, hp, h, ha => by
    have hle := (dgF_le (L.drop i) i).1
    rw [h] at hle
    rw [cut_drop L p q i hp]
    cases hd : L.drop i with
    | nil => rw [hd] at h; rw [List.take_nil, dgF]; rw [dgF] at h; omega
    | cons x r =>
      rw [hd, dgF] at h
      by_cases hq : q - i = 0
      · rw [hq, List.take_zero, dgF]; omega
      · rw [show q - i = (q - i - 1) + 1 by omega, List.take_succ_cons, dgF]
        by_cases hx : 48 ≤ x ∧ x ≤ 57
        · rw [if_pos hx] at h ⊢
          have hr : L.drop (i + 1) = r := by rw [← List.drop_drop, hd]; rfl
          cases n with
          | zero => rw [hd] at hn; cases hn
          | succ n =>
            have := dgF_cut L p q n (i + 1) a (by rw [hr]; rw [hd, List.length_cons] at hn; omega) (by omega) (by rw [hr]; exact h) ha
            rw [cut_drop L p q (i + 1) (by omega), hr] at this
            rw [show q - i - 1 = q - (i + 1) by omega, show i - p + 1 = i + 1 - p by omega]
            exact this
        · rw [if_neg hx] at h ⊢
          omega
theorem dgP_cut (L : List Nat) (p q i a : Nat) (hp : p ≤ i) (h : dgP L i = .ok a) (ha : a ≤ q) : dgP (cutL L p q) (i - p) = .ok (a - p) := by
  have hi := dgP_le h
  unfold dgP at h ⊢
  rw [cut_in L p q i 48 57 hp (by omega)]
  split at h
  · rename_i hr
    rw [if_pos hr]
    simp at h
    have := dgF_cut L p q _ (i + 1) a rfl (by omega) h ha
    rw [show i - p + 1 = i + 1 - p by omega, this]
  · cases h
theorem nmP_cut (L : List Nat) (p q : Nat) (h : nmP L p = .ok q) : nmP (cutL L p q) 0 = .ok (q - p) := by
  have hpq := nmP_lt h
  unfold nmP at h
  obtain ⟨a, h1, h2⟩ := bind_ok h
  obtain ⟨b, h3, h4⟩ := bind_ok h2
  have x1 := nm1_le h1
  have x0 : p ≤ nm0 L p := adv_le _ _
  have x2 := nm2_le h3
  have x3 := nm3_le h4
  have e0 : nm0 (cutL L p q) 0 = nm0 L p - p := by
    unfold nm0
    have := cut_in L p q p 45 45 (Nat.le_refl _) hpq
    rw [Nat.sub_self] at this
    rw [this]
    unfold adv
    split <;> omega
  generalize nm0 L p = z at h1 x0 x1 e0
  have e1 : nm1 (cutL L p q) (z - p) = .ok (a - p) := by
    unfold nm1 at h1 ⊢
    rw [cut_in L p q z 48 48 x0 (by omega)]
    split at h1
    · rename_i hr
      rw [if_pos hr]
      simp at h1
      rw [show z - p + 1 = a - p by omega]
    · rename_i hr
      rw [if_neg hr]
      exact dgP_cut L p q z a x0 h1 (by omega)
  have e2 : nm2 (cutL L p q) (a - p) = .ok (b - p) := by
    unfold nm2 at h3 ⊢
    split at h3
    · rename_i hr
      have hb := dgP_le h3
      rw [cut_in L p q a 46 46 (by omega) (by omega), if_pos hr, show a - p + 1 = a + 1 - p by omega]
      exact dgP_cut L p q (a + 1) b (by omega) h3 (by omega)
    · rename_i hr
      rw [cut_no L p q a 46 46 (by omega) (by simpa using hr), if_neg (by decide)]
      simp at h3
      rw [h3]
  have eS : ∀ i c, p ≤ i → dgP L (nmS L i) = .ok c → c ≤ q → dgP (cutL L p q) (nmS (cutL L p q) (i - p)) = .ok (c - p) := by
    intro i c hi hc hcq
    have hs := nmS_le L i
    have hc1 := dgP_le hc
    have e : nmS (cutL L p q) (i - p) = nmS L i - p := by
      unfold nmS
      rw [cut_in L p q i 43 43 hi (by omega), cut_in L p q i 45 45 hi (by omega)]
      split
      · omega
      · unfold adv; split <;> omega
    rw [e]
    exact dgP_cut L p q _ c (by omega) hc hcq
  have e3 : nm3 (cutL L p q) (b - p) = .ok (q - p) := by
    unfold nm3 at h4 ⊢
    split at h4
    · rename_i hr
      have := dgP_le h4
      have := nmS_le L (b + 1)
      rw [cut_in L p q b 101 101 (by omega) (by omega), if_pos hr, show b - p + 1 = b + 1 - p by omega]
      exact eS (b + 1) q (by omega) h4 (Nat.le_refl _)
    · rename_i hr
      split at h4
      · rename_i hr2
        have := dgP_le h4
        have := nmS_le L (b + 1)
        rw [cut_in L p q b 101 101 (by omega) (by omega), if_neg hr, cut_in L p q b 69 69 (by omega) (by omega), if_pos hr2, show b - p + 1 = b + 1 - p by omega]
        exact eS (b + 1) q (by omega) h4 (Nat.le_refl _)
      · rename_i hr2
        rw [cut_no L p q b 101 101 (by omega) (by simpa using hr), if_neg (by decide), cut_no L p q b 69 69 (by omega) (by simpa using hr2), if_neg (by decide)]
        simp at h4
        rw [h4]
  unfold nmP
  rw [e0, e1]
  show ((nm2 (cutL L p q) (a - p)).bind fun b => nm3 (cutL L p q) b) = .ok (q - p)
  rw [e2]
  exact e3
theorem rng_lt {a b : Nat} {L : List Nat} {i : Nat} (h : rngO a b (L.drop i) = true) : i < L.length := by
  rcases Nat.lt_or_ge i L.length with q | q
  · exact q
  · rw [List.drop_eq_nil_of_le q] at h; cases h
theorem dgP_len {L : List Nat} {p q : Nat} (h : dgP L p = .ok q) : q ≤ L.length := by
  unfold dgP at h
  split at h
  · rename_i hr
    have := rng_lt hr
    have := (dgF_le (L.drop (p + 1)) (p + 1)).2
    rw [List.length_drop] at this
    simp at h
    omega
  · cases h
theorem nmP_len {L : List Nat} {p q : Nat} (h : nmP L p = .ok q) : q ≤ L.length := by
  unfold nmP at h
  obtain ⟨a, h1, h2⟩ := bind_ok h
  obtain ⟨b, h3, h4⟩ := bind_ok h2
  have ha : a ≤ L.length := by
    unfold nm1 at h1
    split at h1
    · rename_i hr
      have := rng_lt hr
      simp at h1
      omega
    · exact dgP_len h1
  have hb : b ≤ L.length := by
    unfold nm2 at h3
    split at h3
    · exact dgP_len h3
    · simp at h3; omega
  unfold nm3 at h4
  split at h4
  · exact dgP_len h4
  · split at h4
    · exact dgP_len h4
    · simp at h4; omega
/-- a number's text -/
theorem num_right {S : ByteArray} (hS : S.size ≤ 65536) {p q : Nat} (h : nmP (Sums.bl S) p = .ok q) (hq : q ≤ S.size) : numT (S.extract p q) = true ∧ (S.extract p q).size = q - p := by
  have hs : (S.extract p q).size = q - p := by rw [ByteArray.size_extract]; omega
  have hb : Sums.bl (S.extract p q) = cutL (Sums.bl S) p q := by
    unfold cutL Sums.bl
    rw [ByteArray.data_extract]
    simp [List.take_drop, List.map_drop, List.map_take]
    try omega
  refine ⟨?_, hs⟩
  unfold numT
  rw [hb, nmP_cut _ p q h, hs]
  simp
  omega
end Go.Proofs.YtkplbggefiemdaaGreatDoor

namespace Go.Proofs.YtkplbggefiemdaaGreatDoor
open Go.RowKit Go.Maps
set_option linter.unusedVariables false
set_option linter.unusedSimpArgs false
def cV (v : Vl) : Nat := (accV v (0, 0)).1
def sV (v : Vl) : Nat := (accV v (0, 0)).2
def cL (l : List Vl) : Nat := (accL l (0, 0)).1
def sL (l : List Vl) : Nat := (accL l (0, 0)).2
mutual
theorem accV_add : ∀ (v : Vl) (a s : Nat), accV v (a, s) = (a + cV v, s + sV v)
  | .mk k t ns ks, a, s => by
    unfold cV sV
    rw [accV, accV, accL_add ks (a + 1), accL_add ks (0 + 1)]
    ext <;> simp <;> omega
theorem accL_add : ∀ (l : List Vl) (a s : Nat), accL l (a, s) = (a + cL l, s + sL l)
  | [], a, s => by unfold cL sL; rw [accL, accL]; rfl
  | v :: vs, a, s => by
    unfold cL sL
    rw [accL, accL, accV_add v a s, accV_add v 0 0, accL_add vs, accL_add vs]
    ext <;> simp <;> omega
end
theorem cV_mk (k : Nat) (t : ByteArray) (ns : List ByteArray) (ks : List Vl) : cV (.mk k t ns ks) = 1 + cL ks ∧ sV (.mk k t ns ks) = ownS k t ns ks.length + sL ks := by
  have h : accV (.mk k t ns ks) (0, 0) = accL ks (0 + 1, 0 + ownS k t ns ks.length) := by rw [accV]
  unfold cV sV
  rw [h, accL_add]
  exact ⟨by simp, by simp⟩
theorem cL_nil : cL [] = 0 ∧ sL [] = 0 := by unfold cL sL; rw [accL]; exact ⟨rfl, rfl⟩
theorem cL_cons (v : Vl) (vs : List Vl) : cL (v :: vs) = cV v + cL vs ∧ sL (v :: vs) = sV v + sL vs := by
  have h : accL (v :: vs) (0, 0) = accL vs (accV v (0, 0)) := by rw [accL]
  unfold cL sL
  rw [h, accV_add v 0 0, accL_add]
  exact ⟨by simp [cL], by simp [sL]⟩
theorem cL_snoc (v : Vl) : ∀ l : List Vl, cL (l ++ [v]) = cL l + cV v ∧ sL (l ++ [v]) = sL l + sV v
  | [] => by rw [List.nil_append, (cL_cons v []).1, (cL_cons v []).2, cL_nil.1, cL_nil.2]; omega
  | u :: l => by
    have h := cL_snoc v l
    rw [List.cons_append, (cL_cons u _).1, (cL_cons u _).2, (cL_cons u l).1, (cL_cons u l).2, h.1, h.2]
    omega
theorem okL_snoc (n : Nat) (v : Vl) : ∀ l : List Vl, okL n (l ++ [v]) = (okL n l && okV n v)
  | [] => by rw [List.nil_append, okL, okL, okL]; simp
  | u :: l => by rw [List.cons_append, okL, okL, okL_snoc n v l, Bool.and_assoc]
theorem cL_len : ∀ l : List Vl, l.length ≤ cL l
  | [] => by simp
  | v :: l => by
    have h := cL_len l
    have h1 : 1 ≤ cV v := by cases v with | mk k t ns ks => rw [(cV_mk k t ns ks).1]; omega
    rw [(cL_cons v l).1, List.length_cons]
    omega
theorem ok_word (n k : Nat) (h : 1 ≤ k ∧ k ≤ 3) : okV n (.mk k ByteArray.empty [] []) = true := by
  rw [okV]
  have : decide (1 ≤ k ∧ k ≤ 3) = true := decide_eq_true h
  rw [this]
  rfl
theorem ok_num (n : Nat) (t : ByteArray) (h : numT t = true) : okV n (.mk 4 t [] []) = true := by
  rw [okV, h]
  simp
theorem ok_text (n : Nat) (t : ByteArray) (h : shT t = true) : okV n (.mk 5 t [] []) = true := by
  rw [okV, h]
  simp
theorem ok_list (n : Nat) (ks : List Vl) (hn : 0 < n) (hl : ks.length ≤ 65536) (h : okL (n - 1) ks = true) : okV n (.mk 6 ByteArray.empty [] ks) = true := by
  rw [okV, h]
  have e : decide (0 < n) = true := decide_eq_true hn
  have e2 : decide (ks.length ≤ 65536) = true := decide_eq_true hl
  have e3 : decide (Sums.bl ByteArray.empty = []) = true := by decide
  rw [e, e2, e3]
  simp
theorem ok_obj (n : Nat) (ns : List ByteArray) (ks : List Vl) (hn : 0 < n) (hl : ks.length ≤ 65536) (hk : ns.length = ks.length) (hs : ns.all shT = true) (hd : dstN ns = true) (h : okL (n - 1) ks = true) : okV n (.mk 7 ByteArray.empty ns ks) = true := by
  rw [okV, h, hs, hd]
  have e : decide (0 < n) = true := decide_eq_true hn
  have e2 : decide (ks.length ≤ 65536) = true := decide_eq_true hl
  have e3 : decide (Sums.bl ByteArray.empty = []) = true := by decide
  have e4 : decide (ns.length = ks.length) = true := decide_eq_true hk
  rw [e, e2, e3, e4]
  simp
/-- a value that was read from one place to another -/
structure Rgt (S : ByteArray) (n : Nat) (v : Vl) (p q : Nat) : Prop where
  lt : p < q
  le : q ≤ S.size
  ok : okV n v = true
  c : cV v ≤ q - p
  s : sV v ≤ q - p
theorem wrd_ok (L : List Nat) (k : Nat) : ∀ (l : List Nat) (p : Nat) (v : Vl) (q : Nat), wrdP L k l p = .ok v q → v = .mk k ByteArray.empty [] [] ∧ q = p + l.length ∧ (l ≠ [] → q ≤ L.length)
  | [], p, v, q, h => by rw [wrdP] at h; injection h with h1 h2; exact ⟨h1.symm, by simp; omega, fun h => absurd rfl h⟩
  | c :: r, p, v, q, h => by
    rw [wrdP] at h
    split at h
    · rename_i hr
      have hl := rng_lt hr
      obtain ⟨i1, i2, i3⟩ := wrd_ok L k r (p + 1) v q h
      refine ⟨i1, by simp; omega, fun _ => ?_⟩
      cases r with
      | nil => simp at i2; omega
      | cons d r => exact i3 (by simp)
    · cases h
/-- what is known of a list, as far as it is read -/
structure LiS (S : ByteArray) (m p0 : Nat) (s : List Vl) (p : Nat) : Prop where
  ok : okL m s = true
  c : cL s + 1 ≤ p - p0
  s : sL s + s.length ≤ p - p0
  lt : p0 < p
  le : p ≤ S.size
theorem lst_step {S : ByteArray} {m p0 : Nat} {val : Nat → Rv Vl} (hv : ∀ p v q, val p = .ok v q → Rgt S m v p q) {s s' : List Vl} {p p1 q : Nat} (h : LiS S m p0 s p ∨ (s = [] ∧ p0 < p1 ∧ p = p1)) (hp : p ≤ p1) (hs : s ≠ [] → p + 1 ≤ p1) (hr : lstT val s p1 = .ok s' q) : LiS S m p0 s' q ∧ s' ≠ [] := by
  unfold lstT at hr
  cases hx : val p1 with
  | no c z => rw [hx] at hr; cases hr
  | ok v z =>
    rw [hx] at hr
    have hr' : Rv.ok (s ++ [v]) z = .ok s' q := hr
    injection hr' with e1 e2
    subst e1 e2
    have hg := hv p1 v z hx
    have h1 := hg.lt
    have h2 := hg.c
    have h3 := hg.s
    refine ⟨⟨?_, ?_, ?_, ?_, hg.le⟩, by simp⟩
    · rw [okL_snoc, hg.ok, Bool.and_true]
      rcases h with h | ⟨rfl, _, _⟩
      · exact h.ok
      · rw [okL]
    · rw [(cL_snoc v s).1]
      rcases h with h | ⟨rfl, h, _⟩
      · have := h.c; have := h.lt; omega
      · rw [cL_nil.1]; omega
    · rw [(cL_snoc v s).2, List.length_append]
      rcases h with h | ⟨rfl, h, _⟩
      · have := h.s
        have := h.lt
        by_cases hn : s = []
        · subst hn; rw [cL_nil.2] at *; simp; omega
        · have := hs hn; simp; omega
      · rw [cL_nil.2]; simp; omega
    · rcases h with h | ⟨_, h, _⟩
      · have := h.lt; omega
      · omega
theorem lst_thgs {S : ByteArray} {m p0 : Nat} {val : Nat → Rv Vl} (hv : ∀ p v q, val p = .ok v q → Rgt S m v p q) : ∀ (k : Nat) (s : List Vl) (p : Nat) (r : List Vl) (q : Nat), LiS S m p0 s p → s ≠ [] → thgs (lstT val) (Sums.bl S) 93 k s p = .ok r q → LiS S m p0 r (q - 1) ∧ r ≠ [] ∧ p0 + 1 < q ∧ q ≤ S.size
  | 0, s, p, r, q, _, _, h => by rw [thgs] at h; cases h
  | k + 1, s, p, r, q, hi, hne, h => by
    rw [thgs] at h
    split at h
    · rename_i hr
      have hl := rng_lt hr
      rw [Sums.bl_length] at hl
      injection h with e1 e2
      subst e1 e2
      have := hi.lt
      exact ⟨by rw [Nat.add_sub_cancel]; exact hi, hne, by omega, by omega⟩
    · split at h
      · cases ht : lstT val s (p + 1) with
        | no c z => rw [ht] at h; cases h
        | ok s' z =>
          rw [ht] at h
          obtain ⟨i1, i2⟩ := lst_step hv (.inl hi) (by omega) (fun _ => Nat.le_refl _) ht
          exact lst_thgs hv k s' z r q i1 i2 h
      · cases h
theorem brk_list {S : ByteArray} (hS : S.size ≤ 65536) {n p : Nat} {val : Nat → Rv Vl} (hv : 0 < n → ∀ p v q, val p = .ok v q → Rgt S (n - 1) v p q) {r : List Vl} {q : Nat} (h : brk (lstT val) (Sums.bl S) 93 n [] p = .ok r q) : Rgt S n (.mk 6 ByteArray.empty [] r) p q := by
  unfold brk at h
  split at h
  · cases h
  · rename_i hn
    have hn0 : 0 < n := by omega
    have hb := blP_le (Sums.bl S) (p + 1)
    have own : ∀ l : List Vl, ownS 6 ByteArray.empty [] l.length = 2 + (l.length - 1) := fun l => rfl
    split at h
    · rename_i hr
      have hl := rng_lt hr
      rw [Sums.bl_length] at hl
      injection h with e1 e2
      subst e1 e2
      refine ⟨by omega, by omega, ok_list n [] hn0 (by simp) (by rw [okL]), ?_, ?_⟩
      · rw [(cV_mk _ _ _ _).1, cL_nil.1]; omega
      · rw [(cV_mk _ _ _ _).2, cL_nil.2, own]; simp; omega
    · cases ht : lstT val [] (blP (Sums.bl S) (p + 1)) with
      | no c z => rw [ht] at h; cases h
      | ok s' z =>
        rw [ht] at h
        obtain ⟨i1, i2⟩ := lst_step (p0 := p) (p := blP (Sums.bl S) (p + 1)) (hv hn0) (.inr ⟨rfl, by omega, rfl⟩) (Nat.le_refl _) (fun h => absurd rfl h) ht
        obtain ⟨j1, j2, j3, j4⟩ := lst_thgs (hv hn0) _ _ _ _ _ i1 i2 h
        have c1 := j1.c
        have c2 := j1.s
        have c3 := cL_len r
        have hrl : 0 < r.length := List.length_pos_iff.2 j2
        refine ⟨by omega, j4, ok_list n r hn0 (by omega) j1.ok, ?_, ?_⟩
        · rw [(cV_mk _ _ _ _).1]; omega
        · rw [(cV_mk _ _ _ _).2, own]; omega
end Go.Proofs.YtkplbggefiemdaaGreatDoor

namespace Go.Proofs.YtkplbggefiemdaaGreatDoor
open Go.RowKit Go.Maps
set_option linter.unusedVariables false
set_option linter.unusedSimpArgs false
theorem nmSz_add : ∀ (l : List ByteArray) (a : Nat), nmSz l a = a + nmSz l 0
  | [], a => by rw [nmSz, nmSz]; omega
  | t :: r, a => by rw [nmSz, nmSz, nmSz_add r (a + _), nmSz_add r (0 + _)]; omega
theorem nmSz_snoc (t : ByteArray) : ∀ l : List ByteArray, nmSz (l ++ [t]) 0 = nmSz l 0 + (txS (Sums.bl t) 2 + 1)
  | [] => by rw [List.nil_append, nmSz, nmSz, nmSz]
  | u :: l => by
    have h1 := nmSz_add (l ++ [t]) (0 + (txS (Sums.bl u) 2 + 1))
    have h2 := nmSz_add l (0 + (txS (Sums.bl u) 2 + 1))
    have h3 := nmSz_snoc t l
    rw [List.cons_append, nmSz, nmSz]
    omega
theorem amg_snoc (m : List ByteArray) (x t : ByteArray) : amg (m ++ [x]) t = (amg m t || decide (Sums.bl x = Sums.bl t)) := by
  unfold amg
  rw [List.any_append]
  simp
theorem amg_same {m : List ByteArray} {x t : ByteArray} (h : amg m x = true) (e : Sums.bl x = Sums.bl t) : amg m t = true := by
  unfold amg at h ⊢
  rw [← e]
  exact h
theorem add_key (m : List ByteArray) (x : ByteArray) : addKey (m.map keyL) (keyL x) = if amg m x = true then m.map keyL else (m ++ [x]).map keyL := by
  have h : ((m.map keyL).any fun y => y.sameKey (keyL x)) = amg m x := by
    unfold amg
    rw [List.any_map]
    congr 1
    funext y
    exact bl_data
  unfold addKey
  rw [h]
  split
  · rfl
  · rw [List.map_append]; rfl
theorem fold_mem (t : ByteArray) : ∀ (l m : List ByteArray), ∃ m', (l.map keyL).foldl addKey (m.map keyL) = m'.map keyL ∧ amg m' t = (amg m t || amg l t)
  | [], m => ⟨m, rfl, by show amg m t = (amg m t || false); simp⟩
  | x :: l, m => by
    rw [List.map_cons, List.foldl_cons, add_key]
    have e : amg (x :: l) t = (decide (Sums.bl x = Sums.bl t) || amg l t) := rfl
    rw [e]
    by_cases hx : amg m x = true
    · rw [if_pos hx]
      obtain ⟨m', h1, h2⟩ := fold_mem t l m
      refine ⟨m', h1, ?_⟩
      rw [h2]
      by_cases hb : Sums.bl x = Sums.bl t
      · rw [amg_same hx hb]; simp
      · simp [hb]
    · rw [if_neg hx]
      obtain ⟨m', h1, h2⟩ := fold_mem t l (m ++ [x])
      refine ⟨m', h1, ?_⟩
      rw [h2, amg_snoc, Bool.or_assoc]
theorem dst_snoc (ns : List ByteArray) (t : ByteArray) (h : dstN ns = true) (hn : amg ns t = false) : dstN (ns ++ [t]) = true := by
  unfold dstN at h ⊢
  rw [decide_eq_true_eq] at h ⊢
  obtain ⟨m, h1, h2⟩ := fold_mem t ns []
  have h1' : (ns.map keyL).foldl addKey [] = m.map keyL := h1
  have h2' : amg m t = false := by rw [h2, hn]; rfl
  rw [h1'] at h
  rw [List.map_append, List.foldl_append, h1', List.map_singleton, List.foldl_cons, List.foldl_nil, add_key, h2', if_neg (by decide)]
  simp at h ⊢
  exact h
/-- what is known of an object, as far as it is read -/
structure ObS (S : ByteArray) (m p0 : Nat) (s : List ByteArray × List Vl) (p : Nat) : Prop where
  len : s.1.length = s.2.length
  sh : s.1.all shT = true
  dst : dstN s.1 = true
  ok : okL m s.2 = true
  c : cL s.2 + 1 ≤ p - p0
  s : nmSz s.1 0 + sL s.2 + s.2.length ≤ p - p0
  lt : p0 < p
  le : p ≤ S.size
theorem nam_ok {S : ByteArray} (hS : S.size ≤ 65536) {ns : List ByteArray} {p q : Nat} {t : ByteArray} (h : namP (pqG S) (Sums.bl S) ns p = .ok t q) : shT t = true ∧ amg ns t = false ∧ txS (Sums.bl t) 2 + 1 ≤ q - p ∧ p < q := by
  unfold namP at h
  have hb := blP_le (Sums.bl S) p
  cases hq : pqG S (blP (Sums.bl S) p) with
  | no c z => rw [hq] at h; cases h
  | ok u z =>
    rw [hq] at h
    obtain ⟨g1, g2, g3, g4⟩ := pqG_right hS hq
    have hb2 := blP_le (Sums.bl S) z
    have h' : (if amg ns u = true then Rv.no 131 (blP (Sums.bl S) p) else if rngO 58 58 ((Sums.bl S).drop (blP (Sums.bl S) z)) = true then Rv.ok u (blP (Sums.bl S) z + 1) else .no 130 (blP (Sums.bl S) z)) = .ok t q := h
    split at h'
    · cases h'
    · rename_i ha
      split at h'
      · injection h' with e1 e2
        subst e1 e2
        exact ⟨g1, by simpa using ha, by omega, by omega⟩
      · cases h'
theorem obj_step {S : ByteArray} (hS : S.size ≤ 65536) {m p0 : Nat} {val : Nat → Rv Vl} (hv : ∀ p v q, val p = .ok v q → Rgt S m v p q) {s s' : List ByteArray × List Vl} {p p1 q : Nat} (h : ObS S m p0 s p ∨ (s = ([], []) ∧ p0 < p1 ∧ p = p1)) (hp : p ≤ p1) (hs : s.2 ≠ [] → p + 1 ≤ p1) (hr : objT (pqG S) val (Sums.bl S) s p1 = .ok s' q) : ObS S m p0 s' q ∧ s'.2 ≠ [] := by
  unfold objT at hr
  cases hx : namP (pqG S) (Sums.bl S) s.1 p1 with
  | no c z => rw [hx] at hr; cases hr
  | ok t z =>
    rw [hx] at hr
    obtain ⟨n1, n2, n3, n4⟩ := nam_ok hS hx
    have hr' : (val z).bind (fun v y => Rv.ok (s.1 ++ [t], s.2 ++ [v]) y) = .ok s' q := hr
    cases hy : val z with
    | no c y => rw [hy] at hr'; cases hr'
    | ok v y =>
      rw [hy] at hr'
      have hr2 : Rv.ok (s.1 ++ [t], s.2 ++ [v]) y = .ok s' q := hr'
      injection hr2 with e1 e2
      subst e1 e2
      have hg := hv z v y hy
      have h1 := hg.lt
      have h2 := hg.c
      have h3 := hg.s
      refine ⟨⟨?_, ?_, ?_, ?_, ?_, ?_, ?_, hg.le⟩, by simp⟩
      · show (s.1 ++ [t]).length = (s.2 ++ [v]).length
        rw [List.length_append, List.length_append]
        rcases h with h | ⟨rfl, _, _⟩
        · rw [h.len]; rfl
        · rfl
      · show (s.1 ++ [t]).all shT = true
        rw [List.all_append]
        rcases h with h | ⟨rfl, _, _⟩
        · rw [h.sh]; simp [n1]
        · simp [n1]
      · show dstN (s.1 ++ [t]) = true
        refine dst_snoc _ _ ?_ n2
        rcases h with h | ⟨rfl, _, _⟩
        · exact h.dst
        · rfl
      · show okL m (s.2 ++ [v]) = true
        rw [okL_snoc, hg.ok, Bool.and_true]
        rcases h with h | ⟨rfl, _, _⟩
        · exact h.ok
        · rw [okL]
      · show cL (s.2 ++ [v]) + 1 ≤ _
        rw [(cL_snoc v s.2).1]
        rcases h with h | ⟨rfl, h, _⟩
        · have := h.c; have := h.lt; omega
        · rw [cL_nil.1]; omega
      · show nmSz (s.1 ++ [t]) 0 + sL (s.2 ++ [v]) + (s.2 ++ [v]).length ≤ _
        rw [(cL_snoc v s.2).2, List.length_append, nmSz_snoc]
        rcases h with h | ⟨rfl, h, _⟩
        · have hs1 := h.s
          have hs2 := h.lt
          by_cases hn : s.2 = []
          · have e := h.len
            rw [hn] at e ⊢
            have hz : s.1 = [] := List.eq_nil_of_length_eq_zero e
            rw [hz]
            rw [cL_nil.2]
            simp [nmSz]
            omega
          · have := hs hn; simp; omega
        · rw [cL_nil.2]; simp [nmSz]; omega
      · rcases h with h | ⟨_, h, _⟩
        · have := h.lt; omega
        · omega
theorem obj_thgs {S : ByteArray} (hS : S.size ≤ 65536) {m p0 : Nat} {val : Nat → Rv Vl} (hv : ∀ p v q, val p = .ok v q → Rgt S m v p q) : ∀ (k : Nat) (s : List ByteArray × List Vl) (p : Nat) (r : List ByteArray × List Vl) (q : Nat), ObS S m p0 s p → s.2 ≠ [] → thgs (objT (pqG S) val (Sums.bl S)) (Sums.bl S) 125 k s p = .ok r q → ObS S m p0 r (q - 1) ∧ r.2 ≠ [] ∧ p0 + 1 < q ∧ q ≤ S.size
  | 0, s, p, r, q, _, _, h => by rw [thgs] at h; cases h
  | k + 1, s, p, r, q, hi, hne, h => by
    rw [thgs] at h
    split at h
    · rename_i hr
      have hl := rng_lt hr
      rw [Sums.bl_length] at hl
      injection h with e1 e2
      subst e1 e2
      have := hi.lt
      exact ⟨by rw [Nat.add_sub_cancel]; exact hi, hne, by omega, by omega⟩
    · split at h
      · cases ht : objT (pqG S) val (Sums.bl S) s (p + 1) with
        | no c z => rw [ht] at h; cases h
        | ok s' z =>
          rw [ht] at h
          obtain ⟨i1, i2⟩ := obj_step hS hv (.inl hi) (by omega) (fun _ => Nat.le_refl _) ht
          exact obj_thgs hS hv k s' z r q i1 i2 h
      · cases h
theorem brk_obj {S : ByteArray} (hS : S.size ≤ 65536) {n p : Nat} {val : Nat → Rv Vl} (hv : 0 < n → ∀ p v q, val p = .ok v q → Rgt S (n - 1) v p q) {r : List ByteArray × List Vl} {q : Nat} (h : brk (objT (pqG S) val (Sums.bl S)) (Sums.bl S) 125 n ([], []) p = .ok r q) : Rgt S n (.mk 7 ByteArray.empty r.1 r.2) p q := by
  unfold brk at h
  split at h
  · cases h
  · rename_i hn
    have hn0 : 0 < n := by omega
    have hb := blP_le (Sums.bl S) (p + 1)
    have own : ∀ (ns : List ByteArray) (l : List Vl), ownS 7 ByteArray.empty ns l.length = 2 + (l.length - 1) + nmSz ns 0 := fun ns l => by
      rw [← nmSz_add]; rfl
    split at h
    · rename_i hr
      have hl := rng_lt hr
      rw [Sums.bl_length] at hl
      injection h with e1 e2
      subst e1 e2
      refine ⟨by omega, by omega, ok_obj n [] [] hn0 (by simp) rfl rfl rfl (by rw [okL]), ?_, ?_⟩
      · rw [(cV_mk _ _ _ _).1, cL_nil.1]; omega
      · rw [(cV_mk _ _ _ _).2, cL_nil.2, own]; simp [nmSz]; omega
    · cases ht : objT (pqG S) val (Sums.bl S) ([], []) (blP (Sums.bl S) (p + 1)) with
      | no c z => rw [ht] at h; cases h
      | ok s' z =>
        rw [ht] at h
        obtain ⟨i1, i2⟩ := obj_step hS (p0 := p) (p := blP (Sums.bl S) (p + 1)) (hv hn0) (.inr ⟨rfl, by omega, rfl⟩) (Nat.le_refl _) (fun h => absurd rfl h) ht
        obtain ⟨j1, j2, j3, j4⟩ := obj_thgs hS (hv hn0) _ _ _ _ _ i1 i2 h
        have c1 := j1.c
        have c2 := j1.s
        have c3 := cL_len r.2
        have hrl : 0 < r.2.length := List.length_pos_iff.2 j2
        refine ⟨by omega, j4, ok_obj n r.1 r.2 hn0 (by omega) j1.len j1.sh j1.dst j1.ok, ?_, ?_⟩
        · rw [(cV_mk _ _ _ _).1]; omega
        · rw [(cV_mk _ _ _ _).2, own]; omega
theorem bar_right {S : ByteArray} (hS : S.size ≤ 65536) {n p : Nat} {val : Nat → Rv Vl} (hv : 0 < n → ∀ p v q, val p = .ok v q → Rgt S (n - 1) v p q) {v : Vl} {q : Nat} (h : barP S (pqG S) n val p = .ok v q) : Rgt S n v p q := by
  have hsl : (Sums.bl S).length = S.size := Sums.bl_length S
  unfold barP at h
  split at h
  · obtain ⟨rfl, h2, h3⟩ := wrd_ok _ _ _ _ _ _ h
    have h4 := h3 (by simp)
    simp at h2
    refine ⟨by omega, by omega, ok_word n 1 (by decide), ?_, ?_⟩
    · rw [(cV_mk _ _ _ _).1, cL_nil.1]; omega
    · rw [(cV_mk _ _ _ _).2, cL_nil.2]; show 4 + 0 ≤ _; omega
  · split at h
    · obtain ⟨rfl, h2, h3⟩ := wrd_ok _ _ _ _ _ _ h
      have h4 := h3 (by simp)
      simp at h2
      refine ⟨by omega, by omega, ok_word n 2 (by decide), ?_, ?_⟩
      · rw [(cV_mk _ _ _ _).1, cL_nil.1]; omega
      · rw [(cV_mk _ _ _ _).2, cL_nil.2]; show 5 + 0 ≤ _; omega
    · split at h
      · obtain ⟨rfl, h2, h3⟩ := wrd_ok _ _ _ _ _ _ h
        have h4 := h3 (by simp)
        simp at h2
        refine ⟨by omega, by omega, ok_word n 3 (by decide), ?_, ?_⟩
        · rw [(cV_mk _ _ _ _).1, cL_nil.1]; omega
        · rw [(cV_mk _ _ _ _).2, cL_nil.2]; show 4 + 0 ≤ _; omega
      · split at h
        · cases hq : pqG S p with
          | no c z => rw [hq] at h; cases h
          | ok t z =>
            rw [hq] at h
            obtain ⟨g1, g2, g3, g4⟩ := pqG_right hS hq
            have h' : Rv.ok (Vl.mk 5 t [] []) z = .ok v q := h
            injection h' with e1 e2
            subst e1 e2
            refine ⟨g3, g4, ok_text n t g1, ?_, ?_⟩
            · rw [(cV_mk _ _ _ _).1, cL_nil.1]; omega
            · rw [(cV_mk _ _ _ _).2, cL_nil.2]; show txS (Sums.bl t) 2 + 0 ≤ _; omega
        · split at h
          · cases hq : brk (lstT val) (Sums.bl S) 93 n [] p with
            | no c z => rw [hq] at h; cases h
            | ok ks z =>
              rw [hq] at h
              have h' : Rv.ok (Vl.mk 6 ByteArray.empty [] ks) z = .ok v q := h
              injection h' with e1 e2
              subst e1 e2
              exact brk_list hS hv hq
          · split at h
            · cases hq : brk (objT (pqG S) val (Sums.bl S)) (Sums.bl S) 125 n ([], []) p with
              | no c z => rw [hq] at h; cases h
              | ok ks z =>
                rw [hq] at h
                have h' : Rv.ok (Vl.mk 7 ByteArray.empty ks.1 ks.2) z = .ok v q := h
                injection h' with e1 e2
                subst e1 e2
                exact brk_obj hS hv hq
            · cases hq : nmP (Sums.bl S) p with
              | no c z => rw [hq] at h; cases h
              | ok z =>
                rw [hq] at h
                have h' : Rv.ok (Vl.mk 4 (S.extract p z) [] []) z = .ok v q := h
                injection h' with e1 e2
                subst e1 e2
                have hz := nmP_len hq
                rw [hsl] at hz
                have hlt := nmP_lt hq
                obtain ⟨g1, g2⟩ := num_right hS hq hz
                refine ⟨hlt, hz, ok_num n _ g1, ?_, ?_⟩
                · rw [(cV_mk _ _ _ _).1, cL_nil.1]; omega
                · rw [(cV_mk _ _ _ _).2, cL_nil.2]; show (S.extract p z).size + 0 ≤ _; omega
theorem val_blank {S : ByteArray} {n : Nat} {r : Rv Vl} {p v q} (hr : ∀ v z, r = .ok v z → Rgt S n v (blP (Sums.bl S) p) z) (h : (r.bind fun v q => Rv.ok v (blP (Sums.bl S) q)) = .ok v q) : Rgt S n v p q := by
  cases r with
  | no c z => cases h
  | ok u z =>
    have h' : Rv.ok u (blP (Sums.bl S) z) = .ok v q := h
    injection h' with e1 e2
    subst e1 e2
    have hg := hr u z rfl
    have b1 := blP_le (Sums.bl S) p
    have b2 := blP_le (Sums.bl S) z
    have b3 : blP (Sums.bl S) z ≤ S.size := by
      have := (blF_le ((Sums.bl S).drop z) z).2
      rw [List.length_drop, Sums.bl_length] at this
      have := hg.le
      unfold blP
      omega
    have := hg.lt
    have := hg.c
    have := hg.s
    exact ⟨by omega, b3, hg.ok, by omega, by omega⟩
theorem val_right {S : ByteArray} (hS : S.size ≤ 65536) : ∀ (n p : Nat) (v : Vl) (q : Nat), valP S (pqG S) n p = .ok v q → Rgt S n v p q
  | 0, p, v, q, h => by
    rw [valP] at h
    exact val_blank (fun v z hz => bar_right hS (fun h0 => absurd h0 (by decide)) hz) h
  | n + 1, p, v, q, h => by
    rw [valP] at h
    exact val_blank (fun v z hz => bar_right (n := n + 1) hS (fun _ p v q hq => by rw [Nat.add_sub_cancel]; exact val_right hS n p v q hq) hz) h
/-- what object.Parse reads is right -/
theorem whl_right {S : ByteArray} (hS : S.size ≤ 65536) {v : Vl} {q : Nat} (h : whlP S (pqG S) = .ok v q) : okV 40 v = true ∧ (accV v (0, 0)).1 ≤ 65536 ∧ (accV v (0, 0)).2 ≤ 65536 := by
  unfold whlP at h
  cases hv : valP S (pqG S) 40 0 with
  | no c z => rw [hv] at h; cases h
  | ok u z =>
    rw [hv] at h
    have h' : (if z = S.size then Rv.ok u z else .no 130 z) = .ok v q := h
    split at h'
    · injection h' with e1 e2
      subst e1 e2
      have hg := val_right hS 40 0 u z hv
      have := hg.c
      have := hg.s
      have := hg.le
      unfold cV at *
      unfold sV at *
      exact ⟨hg.ok, by omega, by omega⟩
    · cases h'
end Go.Proofs.YtkplbggefiemdaaGreatDoor
