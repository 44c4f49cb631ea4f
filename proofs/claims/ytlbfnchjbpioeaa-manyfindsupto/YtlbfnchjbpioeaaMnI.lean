/-
  many.New: texts that may be a set, and the set that is made of them. Conditions: as each says.
-/
import Derived.Test.YtlbfnchjbpioeaaMnH
import Derived.Test.YtlbfnchjbpioeaaFoldS
import Derived.Test.YtlbfnchjbpioeaaSameFold
namespace Mn
/-- a text as a set looks at it -/
def fd (fold : Bool) (s : ByteArray) : ByteArray := if fold then Swar.foldL s else s
def wds (fold : Bool) (L : List ByteArray) : List (List Nat) := L.map fun s => Sums.bl (fd fold s)
def word (s : ByteArray) : Bool := decide (1 ≤ s.size ∧ s.size ≤ 256)
def among (fold : Bool) (L : List ByteArray) (s : ByteArray) : Bool := L.any fun x => decide (fd fold x = fd fold s)
def bad (fold : Bool) (L : List ByteArray) (k : Nat) : Bool := !word (L.getD k ByteArray.empty) || among fold (L.take k) (L.getD k ByteArray.empty)
theorem fd_size (fold : Bool) (s : ByteArray) : (fd fold s).size = s.size := by
  unfold fd
  split
  · exact Swar.fold_size s
  · rfl
theorem wds_len (fold : Bool) (L : List ByteArray) : (wds fold L).length = L.length := by simp [wds]
theorem wds_take (fold : Bool) (L : List ByteArray) (k : Nat) : wds fold (L.take k) = (wds fold L).take k := by simp [wds, List.map_take]
theorem wds_get (fold : Bool) (L : List ByteArray) (k : Nat) (h : k < L.length) : (wds fold L)[k]? = some (Sums.bl (fd fold (L.getD k ByteArray.empty))) := by
  simp [wds, h]
theorem mem_wds {fold : Bool} {L : List ByteArray} {t : List Nat} : t ∈ wds fold L ↔ ∃ x ∈ L, Sums.bl (fd fold x) = t := by simp [wds]
theorem among_wds (fold : Bool) (L : List ByteArray) (s : ByteArray) : among fold L s = true ↔ Sums.bl (fd fold s) ∈ wds fold L := by
  rw [mem_wds, among, List.any_eq_true]
  constructor
  · rintro ⟨x, h1, h2⟩
    exact ⟨x, h1, by rw [of_decide_eq_true h2]⟩
  · rintro ⟨x, h1, h2⟩
    exact ⟨x, h1, decide_eq_true (Sums.bl_inj h2)⟩
structure Good (fold : Bool) (L : List ByteArray) : Prop where
  some_ : 0 < L.length
  few : L.length ≤ 64
  none_ : ∀ k, k < L.length → bad fold L k = false
theorem Good.fits {fold : Bool} {L : List ByteArray} (h : Good fold L) (k : Nat) (hk : k < L.length) : 1 ≤ (L.getD k ByteArray.empty).size ∧ (L.getD k ByteArray.empty).size ≤ 256 ∧ Sums.bl (fd fold (L.getD k ByteArray.empty)) ∉ (wds fold L).take k := by
  have := h.none_ k hk
  unfold bad at this
  simp only [Bool.or_eq_false_iff, Bool.not_eq_false'] at this
  have h1 : 1 ≤ (L.getD k ByteArray.empty).size ∧ (L.getD k ByteArray.empty).size ≤ 256 := of_decide_eq_true this.1
  refine ⟨h1.1, h1.2, fun hm => ?_⟩
  rw [← wds_take] at hm
  rw [(among_wds _ _ _).2 hm] at this
  exact absurd this.2 (by simp)
theorem Good.len {fold : Bool} {L : List ByteArray} (h : Good fold L) : ∀ x ∈ wds fold L, 1 ≤ x.length ∧ x.length ≤ 256 ∧ ∀ b ∈ x, b < 256 := by
  intro x hx
  obtain ⟨y, hy, rfl⟩ := mem_wds.1 hx
  obtain ⟨k, hk⟩ := List.getElem?_of_mem hy
  have hkl := (List.getElem?_eq_some_iff.1 hk).1
  have hg : L.getD k ByteArray.empty = y := by rw [List.getD_eq_getElem?_getD, hk]; rfl
  have := h.fits k hkl
  rw [hg] at this
  rw [Sums.bl_length, fd_size]
  exact ⟨this.1, this.2.1, Sums.bl_byt _⟩
theorem Good.nodup {fold : Bool} {L : List ByteArray} (h : Good fold L) : (wds fold L).Nodup := by
  rw [List.nodup_iff_pairwise_ne, List.pairwise_iff_getElem]
  intro i j hi hj hij e
  rw [wds_len] at hi hj
  have h1 := (h.fits j hj).2.2
  apply h1
  have h2 := wds_get fold L j hj
  have h3 := (List.getElem?_eq_some_iff.1 h2).2
  rw [← h3, ← e]
  apply mem_take (j := i) ?_ hij
  rw [List.getElem?_eq_getElem]
theorem Good.zero {fold : Bool} {L : List ByteArray} (h : Good fold L) : [] ∉ wds fold L := fun hm => by
  have := (h.len [] hm).1
  simp at this
theorem nsOf_byt {W : List (List Nat)} (h : ∀ x ∈ W, ∀ b ∈ x, b < 256) : ∀ s c, s ++ [c] ∈ nsOf W → c < 256 := by
  intro s c hm
  rcases (nsOf_mem W _).1 hm with h0 | ⟨x, h1, h2⟩
  · simp at h0
  · exact h x h1 c (h2.subset (by simp))
theorem nsOf_word {W : List (List Nat)} : ∀ x ∈ W, x ∈ nsOf W := fun x hx => (nsOf_mem W x).2 (.inr ⟨x, hx, List.prefix_refl _⟩)
end Mn
namespace Go.Proofs.Ytlbfnchjbpioeaa
open Go.RowKit
set_option linter.unusedVariables false
/-- texts in a row that somebody else owns -/
def StrAt (w : World) (p : Option Addr) (L : List ByteArray) : Prop := ∀ i, i < L.length → ∃ g off, p = some ⟨g, off, none⟩ ∧ w.cell? ⟨g, off + i, none⟩ = some (.string (L.getD i ByteArray.empty))
theorem StrAt.keep {w w' : World} {p : Option Addr} {L : List ByteArray} (h : StrAt w p L) (hb : Below w.heap.size w w') : StrAt w' p L := fun i hi => by
  obtain ⟨g, off, h1, h2⟩ := h i hi
  exact ⟨g, off, h1, (hb.cell (p := ⟨g, off + i, none⟩) (World.block_lt_of_cell? w ⟨g, off + i, none⟩ h2)).trans h2⟩
theorem StrAt.take {w : World} {p : Option Addr} {L : List ByteArray} (h : StrAt w p L) (k : Nat) : StrAt w p (L.take k) := fun i hi => by
  rw [List.length_take] at hi
  obtain ⟨g, off, h1, h2⟩ := h i (by omega)
  refine ⟨g, off, h1, ?_⟩
  rw [h2, List.getD_eq_getElem?_getD, List.getD_eq_getElem?_getD, List.getElem?_take, if_pos (by omega)]
theorem StrAt.drew {w : World} {p : Option Addr} {L : List ByteArray} (h : StrAt w p L) (k : Nat) : StrAt (w.drewN k) p L := h
theorem toL_ne {a b : ByteArray} (h : ¬ a = b) : ¬ a.toList = b.toList := fun e => h (by
  rw [ByteArray.toList_eq, ByteArray.toList_eq] at e
  cases a
  cases b
  congr 1
  exact Array.toList_inj.1 e)
theorem isWord_any (s : ByteArray) (w : World) (hs : s.size ≤ 1125899906842624) : Calls Try.prog 25 #[.string s] w fun e w' => e = .returned (.bool (Mn.word s)) ∧ w' = w := by
  by_cases h1 : 1 ≤ s.size
  · have h1I : (1 : Int) ≤ (s.size : Int) := by omega
    have h1B : decide ((1 : Int) ≤ (s.size : Int)) = true := by simp; omega
    by_cases h2 : s.size ≤ 256
    · have h2I : (s.size : Int) ≤ 256 := by omega
      have h2B : decide ((s.size : Int) ≤ 256) = true := by simp; omega
      have hw : Mn.word s = true := decide_eq_true ⟨h1, h2⟩
      rw [hw]
      clear hw
      go_enter Try.func25, Try.ntmps25
      go_wp2
      go_ret
      exact ⟨rfl, rfl⟩
    · have h2I : ¬ (s.size : Int) ≤ 256 := by omega
      have h2B : decide ((s.size : Int) ≤ 256) = false := by simp; omega
      have hw : Mn.word s = false := decide_eq_false (by omega)
      rw [hw]
      clear hw
      go_enter Try.func25, Try.ntmps25
      go_wp2
      go_ret
      exact ⟨rfl, rfl⟩
  · have h1I : ¬ (1 : Int) ≤ (s.size : Int) := by omega
    have h1B : decide ((1 : Int) ≤ (s.size : Int)) = false := by simp; omega
    have hw : Mn.word s = false := decide_eq_false (by omega)
    rw [hw]
    clear hw
    go_enter Try.func25, Try.ntmps25
    go_wp2
    go_ret
    exact ⟨rfl, rfl⟩
set_option maxRecDepth 100000 in
set_option maxHeartbeats 1000000 in
theorem isAmong_any (p : Option Addr) (cap : Nat) (L : List ByteArray) (s : ByteArray) (fold : Bool) (w : World) (h : StrAt w p L) (hL : ∀ x ∈ L, x.size ≤ 1125899906842624) (hs : s.size ≤ 1125899906842624) (hl : L.length ≤ 1000000) :
    Calls Try.prog 26 #[.slice p L.length cap, .string s, .bool fold] w fun e w' => e = .returned (.bool (Mn.among fold L s)) ∧ ∃ n, w' = w.drewN n := by
  obtain ⟨R, hR⟩ : ∃ R, Mn.among fold L s = R := ⟨_, rfl⟩
  rw [hR]
  have HR := Hid.mk' hR
  have HS := Hid.mk' h
  obtain ⟨n, hn⟩ : ∃ n, L.length = n := ⟨_, rfl⟩
  rw [hn] at hl ⊢
  have HN := Hid.mk' hn
  clear hR h hn
  go_enter Try.func26, Try.ntmps26
  go_wp2
  go_loopw [11] (fun kv wr => ∃ (k j : Nat), kv = .int .i64 (k : Int) ∧ k ≤ n ∧ Hid (R = Mn.among fold (L.drop k) s) ∧ wr = w.drewN j) (fun kv _ => n - (intOf kv).toNat)
  case atStart => exact ⟨0, 0, rfl, Nat.zero_le _, by rw [List.drop_zero]; exact HR.out.symm, rfl⟩
  case round =>
    obtain ⟨k, j, rfl, hk, hR, rfl⟩ := hrel
    by_cases hkn : k < n
    · have hkI : (k : Int) < (n : Int) := by omega
      obtain ⟨x, hx⟩ : ∃ x, L.getD k ByteArray.empty = x := ⟨_, rfl⟩
      obtain ⟨g, off, rfl, hc⟩ := HS.out k (by have := HN.out; omega)
      rw [hx] at hc
      have hc2 : (w.drewN j).cell? ⟨g, off + k, none⟩ = some (.string x) := hc
      have hxm : x ∈ L := by
        rw [← hx, List.getD_eq_getElem?_getD, List.getElem?_eq_getElem (by have := HN.out; omega)]
        exact List.getElem_mem _
      have hxs := hL x hxm
      have hstep : Mn.among fold (L.drop k) s = (decide (Mn.fd fold x = Mn.fd fold s) || Mn.among fold (L.drop (k + 1)) s) := by
        unfold Mn.among
        rw [List.drop_eq_getElem_cons (by have := HN.out; omega), List.any_cons]
        congr 1
        rw [← hx, List.getD_eq_getElem?_getD, List.getElem?_eq_getElem (by have := HN.out; omega)]
        rfl
      have hr2 := hR.out
      rw [hstep] at hr2
      have HR2 := Hid.mk' hr2
      clear hstep hr2 hR hx hxm hc
      by_cases hxe : x = s
      · subst hxe
        have HRT : Hid (R = true) := by
          rw [HR2.out, decide_eq_true rfl]
          exact rfl
        have hRt := HRT.out
        subst hRt
        go_wp2
        go_ret
        exact ⟨rfl, j, rfl⟩
      · have hne := toL_ne hxe
        have hneB : (x.toList == s.toList) = false := by simp [hne]
        cases fold with
        | false =>
          have HRT : Hid (R = Mn.among false (L.drop (k + 1)) s) := by
            have h9 : decide (Mn.fd false x = Mn.fd false s) = false := decide_eq_false hxe
            rw [HR2.out, h9]
            exact rfl
          go_wp2
          go_roundw
          case rel => exact ⟨k + 1, j, by simp, by omega, HRT, rfl⟩
          case measure =>
            simp [intOf]
            omega
        | true =>
          have HSF := Hid.mk' (fun w => sameFold_any x s w hxs hs)
          obtain ⟨c, hc⟩ : ∃ c, Swar.sameL x s = c := ⟨_, rfl⟩
          rw [hc] at HSF
          have hc3 : decide (Mn.fd true x = Mn.fd true s) = c := by
            rw [← hc, Swar.same_eq]
            rfl
          have HC := Hid.mk' hc3
          clear hc hc3
          cases c with
          | true =>
            have HRT : Hid (R = true) := by
              rw [HR2.out, HC.out]
              exact rfl
            go_wp2_with (go_at_call 20; refine (HSF.out _).mono ?_; rintro e w1 ⟨rfl, nd, rfl⟩)
            go_ret
            rw [HRT.out]
            exact ⟨rfl, j + nd, rfl⟩
          | false =>
            have HRT : Hid (R = Mn.among true (L.drop (k + 1)) s) := by
              rw [HR2.out, HC.out]
              exact rfl
            go_wp2_with (go_at_call 20; refine (HSF.out _).mono ?_; rintro e w1 ⟨rfl, nd, rfl⟩)
            go_roundw
            case rel => exact ⟨k + 1, j + nd, by simp, by omega, HRT, rfl⟩
            case measure =>
              simp [intOf]
              omega
    · have hkI : ¬ (k : Int) < (n : Int) := by omega
      have HRT : Hid (R = false) := by
        rw [hR.out, List.drop_eq_nil_of_le (by have := HN.out; omega)]
        exact rfl
      clear hR
      go_wp2
      go_ret
      rw [HRT.out]
      exact ⟨rfl, j, rfl⟩
end Go.Proofs.Ytlbfnchjbpioeaa
