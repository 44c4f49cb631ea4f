/-
  What the laws over found know from step to step. Conditions: as each says.
-/
import Derived.Test.YtlejfeapnnioeaaFo3
import Derived.Test.YtlejfeapnnioeaaFo4
import Derived.Test.YtlejfeapnnioeaaMnQ
namespace Mn
theorem seen_plc (l : List (Nat × Nat)) (i : Nat) : seen l i = decide (0 < (plc l i).length) := by
  unfold seen plc
  rw [List.length_map]
  by_cases h : (l.any fun x => x.2 == i) = true
  · rw [h]
    obtain ⟨x, h1, h2⟩ := List.any_eq_true.1 h
    have := List.length_pos_of_mem (List.mem_filter (p := fun x => x.2 == i).2 ⟨h1, h2⟩)
    exact (decide_eq_true this).symm
  · rw [Bool.not_eq_true] at h
    rw [h]
    have : l.filter (fun x => x.2 == i) = [] := by
      rw [List.filter_eq_nil_iff]
      intro x hx hx2
      have := List.any_eq_false.1 h x hx
      exact this hx2
    rw [this]
    rfl
def cntK (l : List (Nat × Nat)) (i : Nat) : Nat := ((List.range i).filter fun j => seen l j).length
theorem cntK_next (l : List (Nat × Nat)) (i : Nat) : cntK l (i + 1) = if seen l i = true then cntK l i + 1 else cntK l i := by
  unfold cntK
  rw [List.range_succ, List.filter_append, List.length_append]
  by_cases h : seen l i = true
  · rw [if_pos h]
    simp [h]
  · rw [if_neg h]
    simp [h]
theorem hasL_split (W : List (List Nat)) (T : List Nat) (i : Nat) (hi : i ≤ 64) : hasL W T = ((List.range i).filter fun j => seen (allF W T) j) ++ ((List.range (64 - i)).map (i + ·)).filter fun j => seen (allF W T) j := by
  unfold hasL
  rw [← List.filter_append, ← List.range_add]
  congr 2
  omega
theorem hasL_at (W : List (List Nat)) (T : List Nat) (i : Nat) (hi : i < 64) (h : seen (allF W T) i = true) : (hasL W T)[cntK (allF W T) i]? = some i := by
  rw [hasL_split W T i (by omega), List.getElem?_append_right (by unfold cntK; omega)]
  unfold cntK
  rw [Nat.sub_self]
  obtain ⟨d, hd⟩ : ∃ d, 64 - i = d + 1 := ⟨63 - i, by omega⟩
  rw [hd, List.range_succ_eq_map, List.map_cons, List.filter_cons_of_pos (by simpa using h)]
  simp
theorem hasL_len (W : List (List Nat)) (hn : W.Nodup) (T : List Nat) (hW : W.length ≤ 64) : (hasL W T).length = cntK (allF W T) W.length := by
  rw [hasL_split W T W.length hW, List.length_append]
  have : (((List.range (64 - W.length)).map (W.length + ·)).filter fun j => seen (allF W T) j) = [] := by
    rw [List.filter_eq_nil_iff]
    intro j hj hs
    obtain ⟨d, _, rfl⟩ := List.mem_map.1 hj
    obtain ⟨⟨q, v⟩, h1, h2⟩ := List.any_eq_true.1 hs
    have h3 := (all_lt hn h1).1
    have h4 : v = W.length + d := by simpa using h2
    omega
  rw [this]
  rfl
theorem fst_zero {W : List (List Nat)} (T : List Nat) : Fs W T 0 (fstF (nsOf W) W T [] 0 0 (-1)).1 (fstF (nsOf W) W T [] 0 0 (-1)).2 := by
  have h := fst_right (nsOf_tr W) (nsOf_word (W := W)) T 0 (T.drop 0) 0 0 (-1) rfl (Nat.le_refl _) (Nat.zero_le _) (Fi.start W T 0)
  exact h
theorem any_has {W : List (List Nat)} (hn : W.Nodup) (hW : W.length ≤ 64) (T : List Nat) : decide ((fstF (nsOf W) W T [] 0 0 (-1)).2 ≠ -1) = decide (0 < (hasL W T).length) := by
  have hF := fst_zero (W := W) T
  have hmem : ∀ v, v ∈ hasL W T ↔ v < 64 ∧ ∃ q, (q, v) ∈ allF W T := by
    intro v
    unfold hasL
    rw [List.mem_filter, List.mem_range]
    constructor
    · rintro ⟨h1, h2⟩
      obtain ⟨⟨q, u⟩, h3, h4⟩ := List.any_eq_true.1 h2
      have h5 : u = v := by simpa using h4
      subst h5
      exact ⟨h1, q, h3⟩
    · rintro ⟨h1, q, h2⟩
      exact ⟨h1, List.any_eq_true.2 ⟨(q, v), h2, by simp⟩⟩
  by_cases h : (fstF (nsOf W) W T [] 0 0 (-1)).2 = -1
  · have h1 : hasL W T = [] := by
      rw [List.eq_nil_iff_forall_not_mem]
      intro v hv
      obtain ⟨_, q, h2⟩ := (hmem v).1 hv
      exact hF.none_ h _ _ (Nat.zero_le _) (all_occ hn h2).2
    rw [h, h1]
    rfl
  · have hge := hF.ge
    obtain ⟨v, hv⟩ := Int.eq_ofNat_of_zero_le (show 0 ≤ (fstF (nsOf W) W T [] 0 0 (-1)).2 by omega)
    have h2 := (hF.some_ v hv).2.1
    have h3 := occ_all hn h2
    have h4 := (all_lt hn h3).1
    have h5 := List.length_pos_of_mem ((hmem v).2 ⟨by omega, _, h3⟩)
    rw [decide_eq_true h, decide_eq_true h5]
end Mn
namespace Go.Proofs.Ytlejfeapnnioeaa
open Go.RowKit Go.Shelf
set_option linter.unusedVariables false
/-- it is kept where what lies there is kept -/
def KeptA (K : World → Prop) : Prop := ∀ V V', Below V.heap.size V V' → K V → K V'
structure AlW (K : World → Prop) (b : Nat) (w V : World) : Prop where
  bel : Below b w V
  siz : b ≤ V.heap.size
  kp : KeptA K
  ex : K V
section
variable {K : World → Prop} {b : Nat} {w V V' : World} {fold : Bool}
theorem AlW.keep (h : AlW K b w V) (hb : Below V.heap.size V V') : AlW K b w V' :=
  ⟨h.bel.trans ⟨hb.os, hb.tape, hb.output, hb.size, fun k hk => hb.block k (by have := h.siz; omega)⟩, Nat.le_trans h.siz hb.size, h.kp, h.kp _ _ hb h.ex⟩
theorem AlW.drew (h : AlW K b w V) (e : ∃ j, V' = V.drewN j) : AlW K b w V' := by
  obtain ⟨j, rfl⟩ := e
  exact h.keep ((Below.refl _ V).drewN' j)
theorem AlW.more {K' : World → Prop} (h : AlW K b w V) (hk : KeptA K') (hx : K' V) : AlW (fun V => K V ∧ K' V) b w V :=
  ⟨h.bel, h.siz, fun V V' hb hx => ⟨h.kp V V' hb hx.1, hk V V' hb hx.2⟩, h.ex, hx⟩
theorem kept_str (p : Option Addr) (R : List ByteArray) : KeptA (fun V => StrAt V p R) := fun V V' hb h => h.keep hb
theorem kept_many (sb : Nat) (W : List (List Nat)) (fold : Bool) : KeptA (fun V => ∃ B, ManyM B sb W fold V) := fun V V' hb ⟨B, h⟩ => ⟨B, h.keep hb⟩
theorem kept_rows (base o m : Nat) (F : Nat → List Nat) (v : Nat → Value) : KeptA (fun V => RowsM base o m F v V) := fun V V' hb h => h.keep hb
theorem kept_row (B n : Nat) (t : TypeId) (v : Value) (xs : List Value) : KeptA (fun V => V.ownsRow B t 1 v n xs) := fun V V' hb h => mr_kept h fun k hk => hb.block k (h.lt k hk).2
theorem al_fits (p : Option Addr) (cap n : Nat) (R : List ByteArray) (hn : R.length = n) (h : AlW K b w V) (hs : StrAt V p R) (hl : n ≤ 1125899906842624) (hR : ∀ x ∈ R, x.size ≤ 1125899906842624) {L : List ByteArray} (hL : Mn.fitL fold R = L) {m : Nat} (hm : L.length = m) (h0 : 0 < m) :
    Calls Try.prog 17 #[.slice p n cap, .bool fold] V fun e w' => ∃ gw c, e = .returned (.slice (some ⟨gw, 0, none⟩) m c) ∧ m ≤ c ∧ c ≤ 9223372036854775807 ∧ AlW (fun V => K V ∧ StrAt V (some ⟨gw, 0, none⟩) L) b w w' := by
  subst hn hL
  refine (fits_any p cap R fold V hs hl hR).mono ?_
  rintro e w' ⟨q, c, rfl, ho, hb⟩
  rcases ho.2 with ⟨_, h1⟩ | ⟨g, cap', cur, h1, h2, h3, h4, h5, _⟩
  · omega
  · simp only [Value.slice.injEq] at h1
    obtain ⟨rfl, _, rfl⟩ := h1
    refine ⟨g, c, by rw [hm], by omega, by unfold maxLen at h5; omega, (h.keep hb).more (kept_str _ _) (str_at ho rfl)⟩
theorem al_new (q : Option Addr) (c : Nat) {L : List ByteArray} {m : Nat} (hm : L.length = m) (h : AlW K b w V) (hs : StrAt V q L) (hg : Mn.Good fold L) (hz : ∀ x ∈ L, x.size ≤ 1125899906842624) (hc : m ≤ c) (hcm : c ≤ 9223372036854775807) :
    Calls Try.prog 9 #[.slice q m c, .bool fold] V fun e w' => ∃ sb, e = .returned (.tuple #[.pointer (some ⟨sb, 0, none⟩), .int .i64 0, .int .i64 0]) ∧ AlW (fun V => K V ∧ ∃ B, ManyM B sb (Mn.wds fold L) fold V) b w w' := by
  subst hm
  refine (new_any q c L fold V hs hg.some_ hg.few hc hcm hz).mono ?_
  rintro e w' ⟨hB, h1⟩
  rcases h1 with ⟨k, hk, h2, _⟩ | ⟨_, sb, rfl, hm⟩
  · rw [hg.none_ k hk] at h2
    cases h2
  · exact ⟨sb, rfl, (h.keep hB).more (kept_many _ _ _) ⟨_, hm⟩⟩
theorem al_found (sb : Nat) (q : Option Addr) (c : Nat) (s : ByteArray) {L : List ByteArray} {m : Nat} (hm : L.length = m) (h : AlW K b w V) (hM : ∃ B, ManyM B sb (Mn.wds fold L) fold V) (hs : StrAt V q L) (hg : Mn.Good fold L) (hz : s.size ≤ 4294967296) :
    Calls Try.prog 21 #[.pointer (some ⟨sb, 0, none⟩), .slice q m c, .string s] V fun e w' => ∃ o base v, e = .returned (.tuple #[.slice (some ⟨o, 0, none⟩) m m, .bool true]) ∧ AlW (fun V => K V ∧ RowsM base o m (Mn.plc (Mn.allF (Mn.wds fold L) (tx fold s))) v V) b w w' := by
  obtain ⟨B, hM⟩ := hM
  refine (found_any B sb q c m L fold s V hM hs hm hg hz).mono ?_
  rintro e w' ⟨v, rfl, hr, hb⟩
  exact ⟨_, _, v, rfl, (h.keep hb).more (kept_rows _ _ _ _ _) hr⟩
end
end Go.Proofs.Ytlejfeapnnioeaa
