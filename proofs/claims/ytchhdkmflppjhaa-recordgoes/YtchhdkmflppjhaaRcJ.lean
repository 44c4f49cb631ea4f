/-
  record: what reads the next stamp, the next length. Conditions: as each says.
-/
import Derived.Test.YtchhdkmflppjhaaRcC
import Derived.Test.YtchhdkmflppjhaaRTake
namespace Go.Proofs.Ytchhdkmflppjhaa
open Go.RowKit
set_option linter.unusedVariables false
/-- of what was there only the blocks g and h are written -/
structure Two (g h : Nat) (w w' : World) : Prop where
  os : w'.os = w.os
  tape : w'.tape = w.tape
  output : w'.output = w.output
  size : w.heap.size ≤ w'.heap.size
  block : ∀ k, k < w.heap.size → k ≠ g → k ≠ h → w'.heap[k]? = w.heap[k]?
theorem Two.refl (g h : Nat) (w : World) : Two g h w w := ⟨rfl, rfl, rfl, Nat.le_refl _, fun _ _ _ _ => rfl⟩
theorem Two.trans {g h : Nat} {a b c : World} (x : Two g h a b) (y : Two g h b c) : Two g h a c :=
  ⟨y.os.trans x.os, y.tape.trans x.tape, y.output.trans x.output, Nat.le_trans x.size y.size, fun k hk h1 h2 => (y.block k (Nat.lt_of_lt_of_le hk x.size) h1 h2).trans (x.block k hk h1 h2)⟩
theorem Only.two {g : Nat} {a b : World} (x : Only g a b) (h : Nat) : Two g h a b := ⟨x.os, x.tape, x.output, x.size, fun k hk h1 _ => x.block k hk h1⟩
theorem Two.below {g h B : Nat} {a b : World} (x : Two g h a b) (hg : B ≤ g) (hh : B ≤ h) (hs : B ≤ a.heap.size) : Below B a b := ⟨x.os, x.tape, x.output, x.size, fun k hk => x.block k (by omega) (by omega) (by omega)⟩
def stepS (q : Nat × Nat × Nat) (p : Int) : Int × Nat × Int := if q.2.1 ≠ 0 then (0, q.2.1, p) else if Code.zag q.1 < -p ∨ Rec.MS - p < Code.zag q.1 then (0, 171, p) else (p + Code.zag q.1, 0, p + Code.zag q.1)
def stepL (q : Nat × Nat × Nat) : Nat × Nat := if q.2.1 ≠ 0 then (0, q.2.1) else if 8192 < q.1 then (0, 170) else (q.1, 0)
theorem zag_le (n : Nat) (h : n < 18446744073709551616) : -9223372036854775808 ≤ Code.zag n ∧ Code.zag n ≤ 9223372036854775807 := by
  unfold Code.zag
  split <;> omega
set_option maxHeartbeats 1000000 in
set_option maxRecDepth 100000 in
theorem nst_any (g bx ls : Nat) (s : ByteArray) (a : Nat) (p : Int) (w : World) (hr : Rdr g s a w) (hb : w.heap[bx]? = some (.cells #[.pointer (some ⟨g, 0, none⟩)] 53 (0, 0))) (hl : w.heap[ls]? = some (.cells #[.int .i64 p] 3 (0, 0))) (hp0 : 0 ≤ p) (hp1 : p ≤ 253402300799999) (ha : a ≤ s.size) (hs : s.size ≤ 1125899906842624) :
    Calls Try.prog 51 #[.pointer (some ⟨bx, 0, none⟩), .pointer (some ⟨ls, 0, none⟩)] w fun e w' => e = .returned (.tuple #[.int .i64 (stepS (rdAt s a) p).1, .int .i64 ((stepS (rdAt s a) p).2.1 : Int)]) ∧ w'.heap[ls]? = some (.cells #[.int .i64 (stepS (rdAt s a) p).2.2] 3 (0, 0)) ∧ Rdr g s (a + (rdAt s a).2.2) w' ∧ Two g ls w w' := by
  have hlt := (rdAt_lt s a ha).1
  have c0 : w.cell? ⟨bx, 0, none⟩ = some (.pointer (some ⟨g, 0, none⟩)) := by simp [World.cell?, hb]
  have hgl : g ≠ ls := fun e => by
    subst e
    unfold Rdr at hr
    rw [hr] at hl
    cases hl
  have hbg : bx ≠ g := fun e => by
    subst e
    unfold Rdr at hr
    rw [hr] at hb
    cases hb
  have HR := Hid.mk' (rint_any g s a w hr ha hs)
  have hll := (Array.getElem?_eq_some_iff.1 hl).1
  have HL := Hid.mk' hl
  have hlg : ls ≠ g := hgl.symm
  have HLG := Hid.mk' hlg
  have HLL := Hid.mk' hll
  obtain ⟨q1, q2, q3, hq⟩ : ∃ q1 q2 q3, rdAt s a = (q1, q2, q3) := ⟨_, _, _, rfl⟩
  rw [hq] at HR hlt ⊢
  have hz := zag_le q1 hlt
  obtain ⟨z, hz'⟩ : ∃ z, Hid (z = Code.zag q1) := ⟨_, rfl⟩
  have HS : Hid (stepS (q1, q2, q3) p = if q2 ≠ 0 then (0, q2, p) else if z < -p ∨ Rec.MS - p < z then (0, 171, p) else (p + z, 0, p + z)) := by rw [hz'.out]; rfl
  simp only at HR hlt
  rw [← hz'.out] at HR hz
  clear hr hb hl hq ha hs hlt hgl hbg hlg hll hz'
  have hmsp : IntKind.i64.wrap (253402300799999 - p) = 253402300799999 - p := by rw [IntKind.wrap_i64]; omega
  by_cases h2 : q2 = 0
  · by_cases h3 : z < -p
    · rw [if_neg (by omega), if_pos (.inl h3)] at HS
      rw [HS.out]
      have h2' : (q2 : Int) = 0 := by omega
      have H2 := Hid.mk' h2
      clear h2
      go_enter Try.func51, Try.ntmps51
      go_wp2_with fail
      refine HR.out.mono ?_
      rintro e w1 ⟨rfl, hr1, ho1⟩
      have HR1 := Hid.mk' hr1
      have HO1 := Hid.mk' ho1
      have c1 : w1.cell? ⟨ls, 0, none⟩ = some (.int .i64 p) := by
        have := (ho1.block ls HLL.out HLG.out).trans HL.out
        simp [World.cell?, this]
      have HL1 := Hid.mk' ((ho1.block ls HLL.out HLG.out).trans HL.out)
      clear hr1 ho1
      go_wp2_with fail
      go_ret2
      exact ⟨rfl, HL1.out, HR1.out, HO1.out.two ls⟩
    · by_cases h4 : 253402300799999 - p < z
      · rw [if_neg (by omega), if_pos (.inr h4)] at HS
        rw [HS.out]
        have h2' : (q2 : Int) = 0 := by omega
        have H2 := Hid.mk' h2
        clear h2
        go_enter Try.func51, Try.ntmps51
        go_wp2_with fail
        refine HR.out.mono ?_
        rintro e w1 ⟨rfl, hr1, ho1⟩
        have HR1 := Hid.mk' hr1
        have HO1 := Hid.mk' ho1
        have c1 : w1.cell? ⟨ls, 0, none⟩ = some (.int .i64 p) := by
          have := (ho1.block ls HLL.out HLG.out).trans HL.out
          simp [World.cell?, this]
        have HL1 := Hid.mk' ((ho1.block ls HLL.out HLG.out).trans HL.out)
        clear hr1 ho1
        go_wp2_with fail
        go_ret2
        exact ⟨rfl, HL1.out, HR1.out, HO1.out.two ls⟩
      · rw [if_neg (by omega), if_neg (fun h => h.elim h3 h4)] at HS
        rw [HS.out]
        have h2' : (q2 : Int) = 0 := by omega
        have H2 := Hid.mk' h2
        have hpz : IntKind.i64.wrap (p + z) = p + z := by rw [IntKind.wrap_i64]; omega
        clear h2
        go_enter Try.func51, Try.ntmps51
        go_wp2_with fail
        refine HR.out.mono ?_
        rintro e w1 ⟨rfl, hr1, ho1⟩
        have HR1 := Hid.mk' hr1
        have HO1 := Hid.mk' ho1
        have c1 : w1.cell? ⟨ls, 0, none⟩ = some (.int .i64 p) := by
          have := (ho1.block ls HLL.out HLG.out).trans HL.out
          simp [World.cell?, this]
        have HL1 := Hid.mk' ((ho1.block ls HLL.out HLG.out).trans HL.out)
        have f1 : w1.frozen? ⟨ls, 0, none⟩ = false := by
          simp [World.frozen?, HL1.out]
        clear hr1 ho1
        go_wp2_with fail
        go_ret2
        have hset := setc_at HL1.out 0 (.int .i64 (p + z))
        have hgr := grown_setc w1 ls 0 (.int .i64 (p + z))
        refine ⟨?_, hset, ?_, (HO1.out.two ls).trans ⟨rfl, rfl, rfl, hgr.size, fun k hk _ h2 => hgr.block k hk (by simpa using h2)⟩⟩
        · rfl
        · exact (hgr.block g HR1.out.lt (by simpa using HLG.out.symm)).trans HR1.out
  · rw [if_pos h2] at HS
    rw [HS.out]
    have h2' : ¬ (q2 : Int) = 0 := by omega
    have H2 := Hid.mk' h2
    clear h2
    go_enter Try.func51, Try.ntmps51
    go_wp2_with fail
    refine HR.out.mono ?_
    rintro e w1 ⟨rfl, hr1, ho1⟩
    have HR1 := Hid.mk' hr1
    have HO1 := Hid.mk' ho1
    have HL1 := Hid.mk' ((ho1.block ls HLL.out HLG.out).trans HL.out)
    clear hr1 ho1
    go_wp2_with fail
    go_ret2
    exact ⟨rfl, HL1.out, HR1.out, HO1.out.two ls⟩
end Go.Proofs.Ytchhdkmflppjhaa
