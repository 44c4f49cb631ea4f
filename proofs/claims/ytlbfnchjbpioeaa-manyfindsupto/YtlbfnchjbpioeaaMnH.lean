/-
  (*many.Set).takeCapitals: each capital goes where the small letter goes. Conditions: as it says.
-/
import Derived.Test.YtlbfnchjbpioeaaMnG
import Derived.Laws.CopyRow
namespace Mn
def low (c : Nat) : Nat := if 65 ≤ c ∧ c ≤ 90 then c + 32 else c
theorem low_lt (c : Nat) (h : c < 256) : low c < 256 := by
  unfold low
  split <;> omega
end Mn
namespace Go.Proofs.Ytlbfnchjbpioeaa
open Go.RowKit
set_option linter.unusedVariables false
section
variable {B sb g : Nat} {wv : Value} {n cn m : Nat} {nx : Nat → Nat → Int} {ln wd wl sh : Nat → Int} {w : World}
theorem setRow_far (w : World) (b k : Nat) (R : Array Value) (h : k ≠ b) : (w.setRow b R).heap[k]? = w.heap[k]? := setRow_other w b k R h
theorem mr_setRow {w : World} {base n size : Nat} {e : TypeId} {v : Value} {xs : List Value} (h : w.ownsRow base e size v n xs) {b : Nat} (hne : v.ownBlock ≠ some b) (R : Array Value) : (w.setRow b R).ownsRow base e size v n xs :=
  mr_kept h fun k hk => setRow_far w b k R (fun q => hne (by rw [hk, q]))
set_option maxRecDepth 100000 in
theorem caps_run (h : SetM B sb g wv n cn m nx ln wd wl sh w) (i : Nat) (hi : i < n) : ∃ R : Array Value, (∀ j ty, (Builtin.copy_ #[104, 104] ty #[.slice (some ⟨g, i * 258 + 65, none⟩) 26 191, .slice (some ⟨g, i * 258 + 97, none⟩) 26 159]).run Try.prog (w.drewN j) = .ok (goInt 26) ((w.drewN j).setRow g R)) ∧
    (∀ j, SetM B sb g wv n cn m (fun x y => if x = i ∧ 65 ≤ y ∧ y ≤ 90 then nx i (y + 32) else nx x y) ln wd wl sh ((w.drewN j).setRow g R)) ∧ (∀ j (w0 : World), Below B w0 w → Below B w0 ((w.drewN j).setRow g R)) := by
  obtain ⟨i0, hi0, hz0, hz1, hz2⟩ := info_parts infoH
  rcases h.nod.2 with ⟨h0, _⟩ | ⟨g', cap, cur, e1, e2, e3, e4, e5, e6, e7⟩
  · simp at h0
  · simp only [Value.slice.injEq, Option.some.injEq, Addr.mk.injEq, and_true] at e1
    obtain ⟨rfl, _, rfl⟩ := e1
    have hsz : n * 258 ≤ cur.size := by rw [e6]; exact Nat.mul_le_mul_right _ e4
    obtain ⟨cs, hcs⟩ : ∃ cs, cs = rowV (fun q => Value.int .i16 (nx i (97 + q))) 26 := ⟨_, rfl⟩
    have hcl : cs.length = 26 := by rw [hcs]; exact rowV_len _ _
    refine ⟨(cur.toList.take (i * 258 + 65) ++ cs ++ cur.toList.drop (i * 258 + 65 + cs.length)).toArray, fun j ty => ?_, fun j => ?_, fun j w0 hb => ?_⟩
    · have := run_copy_row (P := Try.prog) (w.drewN j) 104 104 ty 76 g (i * 258 + 65) 26 191 ⟨g, i * 258 + 97, none⟩ 26 159 cur 79 cs Try.underlying104 (by rw [hi0]; simp [hz1]) e3 hcl (fun q v hv => by
        have hq : q < 26 := by rw [← hcl]; exact (List.getElem?_eq_some_iff.1 hv).1
        rw [hcs, rowV_get _ _ _ hq] at hv
        rw [Addr.add_lit]
        have := (h.c_nx i (97 + q) hi (by omega)).1
        rw [show i * 258 + (97 + q) = i * 258 + 97 + q by omega] at this
        exact this.trans hv) (by omega) (fun v hv => by
        rw [hcs] at hv
        simp only [rowV, List.mem_map] at hv
        obtain ⟨_, _, rfl⟩ := hv
        rfl)
      rw [hcl] at this
      rw [hcl]
      exact this
    · have hne := h.sb_ne
      obtain ⟨cur2, hcur2⟩ := mr_block h.nod (k := g) rfl
      refine ⟨(setRow_far _ g sb _ hne).trans h.st, ⟨by rw [rowV_len], .inr ⟨g, cn, _, rfl, e2, setRow_heap (w.drewN j) g cur _ 79 (0, 0) e3, e4, e5, ?_, ?_⟩⟩, mr_setRow (w := w.drewN j) h.wrd (mr_other h.wrd hcur2 (by decide)) _, h.sB⟩
      · simp only [List.size_toArray, List.length_append, List.length_take, List.length_drop, Array.length_toList, hcl]
        rw [e6]
        have : n * 258 ≤ cn * 258 := Nat.mul_le_mul_right _ e4
        omega
      · apply List.ext_getElem?
        intro q
        rw [List.getElem?_take]
        by_cases hq : q < n * 258
        · rw [if_pos hq, rowV_get _ _ _ hq]
          have h8 := congrArg (fun l => l[q]?) e7
          simp only [List.getElem?_take] at h8
          rw [if_pos hq, rowV_get _ _ _ hq] at h8
          rw [List.append_assoc]
          by_cases q1 : q < i * 258 + 65
          · rw [List.getElem?_append_left (by simp; omega), List.getElem?_take, if_pos q1, h8]
            unfold ndF
            split
            · dsimp only
              rw [if_neg (by omega)]
            · rfl
          · rw [List.getElem?_append_right (by simp; omega)]
            have hl : (List.take (i * 258 + 65) cur.toList).length = i * 258 + 65 := by simp; omega
            rw [hl]
            by_cases q2 : q < i * 258 + 91
            · rw [List.getElem?_append_left (by omega), hcs, rowV_get _ _ _ (by omega)]
              unfold ndF
              rw [if_pos (by omega)]
              dsimp only
              rw [if_pos (by omega)]
              congr 3
              omega
            · rw [List.getElem?_append_right (by omega), List.getElem?_drop, hcl, show i * 258 + 65 + 26 + (q - (i * 258 + 65) - 26) = q by omega, h8]
              unfold ndF
              split
              · dsimp only
                rw [if_neg (by omega)]
              · rfl
        · rw [if_neg hq, List.getElem?_eq_none (by rw [rowV_len]; omega)]
    · have hb2 := hb.drewN' j
      exact ⟨hb2.os, hb2.tape, hb2.output, by simpa using hb2.size, fun k hk => by rw [setRow_far _ g k _ (by have := h.gB.1; omega)]; exact hb2.block k hk⟩
end
set_option maxRecDepth 100000 in
set_option maxHeartbeats 2000000 in
theorem capitals_any {B sb g : Nat} {wv : Value} {n cn m : Nat} {nx : Nat → Nat → Int} {ln wd wl sh : Nat → Int} (w0 : World) (h : SetM B sb g wv n cn m nx ln wd wl sh w0) (hn : n ≤ 32000) :
    Calls Try.prog 40 #[.pointer (some ⟨sb, 0, none⟩)] w0 fun e w' => e = .returned (.tuple #[]) ∧ SetM B sb g wv n cn m (fun i c => nx i (Mn.low c)) ln wd wl sh w' ∧ Below B w0 w' := by
  obtain ⟨s0, _, _, _⟩ := h.st0
  have HST := Hid.mk' h
  clear h
  go_enter Try.func40, Try.ntmps40
  go_wp2
  go_loopw [9] (fun kv wr => ∃ k : Nat, kv = .int .i64 (k : Int) ∧ k ≤ n ∧ Hid (SetM B sb g wv n cn m (fun i c => if i < k then nx i (Mn.low c) else nx i c) ln wd wl sh wr ∧ Below B w0 wr)) (fun kv _ => n - (intOf kv).toNat)
  case atStart => exact ⟨0, rfl, Nat.zero_le _, ⟨HST.out.congr (fun i c _ _ => by rw [if_neg (by omega)]) (fun _ _ => rfl) (fun _ _ => rfl) (fun _ _ => rfl) (fun _ _ => rfl), Below.refl _ _⟩⟩
  case round =>
    obtain ⟨k, rfl, hk, hs⟩ := hrel
    clear HST s0
    by_cases hkn : k < n
    · have hkI : (k : Int) < (n : Int) := by omega
      obtain ⟨s0, _, _, _⟩ := hs.out.1.st0
      obtain ⟨R, r1, r2, r3⟩ := caps_run hs.out.1 k hkn
      have HR := Hid.mk' (And.intro r2 r3)
      have r1' : (Builtin.copy_ #[104, 104] 3 #[.slice (some ⟨g, k * 258 + 65, none⟩) 26 191, .slice (some ⟨g, k * 258 + 97, none⟩) 26 159]).run Try.prog wr.drew = .ok (goInt 26) (wr.drew.setRow g R) := r1 1 3
      clear r1 r2 r3
      go_upto_region 4 with fail
      go_region
      all_goals
        go_wp2_with fail
        refine ⟨⟨k + 1, by simp, by omega, ⟨(HR.out.1 1).congr (fun i c hi hc => ?_) (fun _ _ => rfl) (fun _ _ => rfl) (fun _ _ => rfl) (fun _ _ => rfl), HR.out.2 1 w0 hs.out.2⟩⟩, ?_⟩
        · by_cases e : i = k
          · subst e
            rw [if_pos (show i < i + 1 by omega)]
            unfold Mn.low
            by_cases hl : 65 ≤ c ∧ c ≤ 90
            · rw [if_pos ⟨rfl, hl⟩, if_pos hl, if_neg (by omega)]
            · rw [if_neg (fun h => hl h.2), if_neg hl, if_neg (by omega)]
          · rw [if_neg (fun h => e h.1)]
            by_cases h2 : i < k
            · rw [if_pos h2, if_pos (by omega)]
            · rw [if_neg h2, if_neg (by omega)]
        · show n - ((k : Int) + 1).toNat < n - ((k : Int)).toNat
          omega
    · have hkI : ¬ (k : Int) < (n : Int) := by omega
      go_wp2
      go_end0
      refine ⟨rfl, hs.out.1.congr (fun i c hi _ => by rw [if_pos (by omega)]) (fun _ _ => rfl) (fun _ _ => rfl) (fun _ _ => rfl) (fun _ _ => rfl), hs.out.2⟩
end Go.Proofs.Ytlbfnchjbpioeaa
