/-
  moment.Read. Conditions: none.
-/
import Derived.Test.YthmpokndffbkdaaDoorMoP
import Derived.Deep.DeepCutAuto
import Derived.Deep.CutBlock
namespace Go.Proofs.YthmpokndffbkdaaDoor
open Go.RowKit
set_option linter.unusedVariables false
def timMs (l : List Nat) : Nat := if hasF 46 (secL l) = true then numN 3 0 (restF 46 (secL l)) else 0
def rd2 (l : List Nat) : List Nat := restF 84 (dayL l)
def rd3 (l : List Nat) : List Nat := timL (rd2 l)
def rdBad (l : List Nat) : Bool := dayB l || !hasF 84 (dayL l) || timB (rd2 l) || zonB (rd3 l)
def readR (l : List Nat) : Ending := if (rdBad l || !(zonL (rd3 l)).isEmpty) = true then .returned (.tuple #[.int .i64 0, .int .i64 33]) else stR (day0 l) (day1 l) (day2 l) (sec0 (rd2 l)) (sec1 (rd2 l)) (sec2 (rd2 l)) (timMs (rd2 l)) (zonS (rd3 l)) (zonH (rd3 l)) (zonM (rd3 l))
theorem stR_tup (y m d h mi s ms : Nat) (sg : Int) (zh zm : Nat) : ∃ a c, stR y m d h mi s ms sg zh zm = .returned (.tuple #[.int .i64 a, .int .i64 c]) := by
  unfold stR
  split <;> exact ⟨_, _, rfl⟩
def toldL (y m d h mi s ms : Nat) (sg : Int) (zh zm : Nat) : List Value := [.int .i64 (y : Int), .int .i64 (m : Int), .int .i64 (d : Int), .int .i64 (h : Int), .int .i64 (mi : Int), .int .i64 (s : Int), .int .i64 (ms : Int), .int .i64 sg, .int .i64 (zh : Int), .int .i64 (zm : Int)]
theorem toldL_tim (l : List Nat) (y m d h mi s : Nat) (sg : Int) (zh zm : Nat) : timC l (toldL y m d h mi s 0 sg zh zm) = toldL y m d h mi s (timMs l) sg zh zm := by
  unfold timC timMs
  split <;> rfl
theorem sizeTold (cs : Array Value) (h : cs.size = 10) : (Tryd.prog.info? 76).map (·.size) = some cs.size := by
  have : (Tryd.prog.info? 76).map (·.size) = some 10 := by kernel_rfl
  rw [this, h]
theorem zonS_is (l : List Nat) : zonS l = 0 ∨ zonS l = 1 ∨ zonS l = -1 := by
  unfold zonS pmV; split
  · exact .inl rfl
  · split
    · exact .inr (.inr rfl)
    · exact .inr (.inl rfl)
theorem num2_le (l : List Nat) : numN 2 0 l ≤ 99 := by have := numN_lt 2 0 l; omega
theorem zonH_le (l : List Nat) : zonH l ≤ 99 := by unfold zonH; split; omega; exact num2_le _
theorem zonM_le (l : List Nat) : zonM l ≤ 99 := by unfold zonM; split; omega; exact num2_le _
theorem Tm.init (w : World) (s : ByteArray) : Tm w.heap.size (w.heap.size + 1) 76 (Sums.bl s) false (toldL 0 0 0 0 0 0 0 0 0 0) ((w.alloc (.cells #[.string s, .bool false] 72)).alloc (.cells #[.int .i64 0, .int .i64 0, .int .i64 0, .int .i64 0, .int .i64 0, .int .i64 0, .int .i64 0, .int .i64 0, .int .i64 0, .int .i64 0] 76)) ((w.alloc (.cells #[.string s, .bool false] 72)).alloc (.cells #[.int .i64 0, .int .i64 0, .int .i64 0, .int .i64 0, .int .i64 0, .int .i64 0, .int .i64 0, .int .i64 0, .int .i64 0, .int .i64 0] 76)) := by
  have a1 : Tk w.heap.size (Sums.bl s) false (w.alloc (.cells #[.string s, .bool false] 72)) := ⟨s, rfl, heap_alloc_new w _⟩
  have a2 : (w.alloc (.cells #[.string s, .bool false] 72)).heap.size = w.heap.size + 1 := by simp
  refine ⟨a1.alloc _, ?_, Only2.refl _ _ _, by omega⟩
  rw [← a2]
  exact heap_alloc_new _ _
theorem Tm.left {g h : Nat} {T : TypeId} {l : List Nat} {b : Bool} {cs : List Value} {w0 w : World} (x : Tm g h T l b cs w0 w) : ∃ t : ByteArray, Sums.bl t = l ∧ w.cell? ⟨g, 0, none⟩ = some (.string t) ∧ w.cell? ⟨g, 1, none⟩ = some (.bool b) := by
  obtain ⟨t, ht, hg⟩ := x.tk.ex
  exact ⟨t, ht, by simp [World.cell?, hg], by simp [World.cell?, hg]⟩
theorem Tm.below {g h B : Nat} {T : TypeId} {l : List Nat} {b : Bool} {cs : List Value} {w0 w : World} (x : Tm g h T l b cs w0 w) (hg : B ≤ g) (hh : B ≤ h) (hs : B ≤ w0.heap.size) : Below B w0 w := x.kept.below hg hh hs
set_option maxRecDepth 100000 in
set_option maxHeartbeats 4000000 in
theorem read_any (s : ByteArray) (w : World) :
    Calls Tryd.prog 24 #[.string s] w fun e w' => e = readR (Sums.bl s) ∧ Below w.heap.size w w' := by
  have HB0 : Hid (∀ o1 o2, Below w.heap.size w ((w.alloc o1).alloc o2)) := fun o1 o2 => ((Below.refl w.heap.size w).alloc (Nat.le_refl _) o1).alloc (by simp) o2
  go_enter Tryd.func24, Tryd.ntmps24
  go_wp2_with fail
  have HX := Hid.mk' (Tm.init w s)
  have HB := Hid.mk' (HB0.out (.cells #[.string s, .bool false] 72) (.cells #[.int .i64 0, .int .i64 0, .int .i64 0, .int .i64 0, .int .i64 0, .int .i64 0, .int .i64 0, .int .i64 0, .int .i64 0, .int .i64 0] 76))
  have hsz : w.heap.size ≤ ((w.alloc (.cells #[.string s, .bool false] 72)).alloc (.cells #[.int .i64 0, .int .i64 0, .int .i64 0, .int .i64 0, .int .i64 0, .int .i64 0, .int .i64 0, .int .i64 0, .int .i64 0, .int .i64 0] 76)).heap.size := by simp; omega
  generalize hl : Sums.bl s = l at *
  generalize ((w.alloc _).alloc _) = W0 at *
  have HL := Hid.mk' hl
  clear HB0 hl
  generalize hG : w.heap.size = G at *
  have HG := Hid.mk' hG
  clear hG
  refine (day_any G (G + 1) _ _ _ _ _ _ HX.out (by decide)).mono ?_
  rintro e W1 ⟨rfl, x⟩
  have X1 := Hid.mk' x
  clear x HX
  go_wp2_with fail
  refine (sign_any G 84 _ _ _ X1.out.tk).mono ?_
  rintro e W2 ⟨rfl, ht, ho⟩
  have X2 := Hid.mk' (X1.out.call ht ho)
  clear ht ho X1
  go_wp2_with fail
  refine (tim_any G (G + 1) _ _ _ _ _ _ X2.out (by simp [toldL])).mono ?_
  rintro e W3 ⟨rfl, x⟩
  have X3 := Hid.mk' x
  clear x X2
  go_wp2_with fail
  refine (zon_any G _ _ _ X3.out.tk).mono ?_
  rintro e W4 ⟨rfl, ht, ho⟩
  have x4 := X3.out.call ht ho
  clear ht ho X3
  have e2 : restF 84 (dayL l) = rd2 l := rfl
  have e3 : timL (rd2 l) = rd3 l := rfl
  have hrow : timC (rd2 l) ((((((toldL 0 0 0 0 0 0 0 0 0 0).set 0 (.int .i64 ((day0 l : Nat) : Int))).set 1 (.int .i64 ((day1 l : Nat) : Int))).set 2 (.int .i64 ((day2 l : Nat) : Int))).set 3 (.int .i64 ((sec0 (rd2 l) : Nat) : Int))).set 4 (.int .i64 ((sec1 (rd2 l) : Nat) : Int)) |>.set 5 (.int .i64 ((sec2 (rd2 l) : Nat) : Int))) = toldL (day0 l) (day1 l) (day2 l) (sec0 (rd2 l)) (sec1 (rd2 l)) (sec2 (rd2 l)) (timMs (rd2 l)) 0 0 0 := toldL_tim (rd2 l) _ _ _ _ _ _ 0 0 0
  rw [e2] at x4
  rw [e3] at x4
  rw [hrow] at x4
  rw [e2, e3]
  rw [show (false || dayB l || !hasF 84 (dayL l) || timB (rd2 l) || zonB (rd3 l)) = rdBad l by unfold rdBad; simp] at x4
  have X4 := Hid.mk' x4
  clear hrow e2 e3
  have hlen : (toldL (day0 l) (day1 l) (day2 l) (sec0 (rd2 l)) (sec1 (rd2 l)) (sec2 (rd2 l)) (timMs (rd2 l)) 0 0 0).length = 10 := rfl
  obtain ⟨u7, cu7, fu7⟩ := x4.cell (o := 7) (by rw [hlen]; decide)
  obtain ⟨u8, cu8, fu8⟩ := x4.cell (o := 8) (by rw [hlen]; decide)
  obtain ⟨u9, cu9, fu9⟩ := x4.cell (o := 9) (by rw [hlen]; decide)
  clear x4 hlen
  have x5 := ((X4.out.store 7 (.int .i64 (zonS (rd3 l)))).store 8 (.int .i64 ((zonH (rd3 l) : Nat) : Int))).store 9 (.int .i64 ((zonM (rd3 l) : Nat) : Int))
  change Tm G (G + 1) _ _ _ (toldL (day0 l) (day1 l) (day2 l) (sec0 (rd2 l)) (sec1 (rd2 l)) (sec2 (rd2 l)) (timMs (rd2 l)) (zonS (rd3 l)) (zonH (rd3 l)) (zonM (rd3 l))) W0 _ at x5
  have X5 := Hid.mk' x5
  have HR := Hid.mk' x5.row
  have hs1 : G ≤ G := Nat.le_refl _
  have B5 := Hid.mk' (HB.out.trans (x5.below (Nat.le_refl _) (Nat.le_succ _) hsz))
  have HST := Hid.mk' (fun w => stamp_any (day0 l) (day1 l) (day2 l) (sec0 (rd2 l)) (sec1 (rd2 l)) (sec2 (rd2 l)) (timMs (rd2 l)) (zonS (rd3 l)) (zonH (rd3 l)) (zonM (rd3 l)) w (zonS_is _) (zonH_le _) (zonM_le _))
  clear x5
  obtain ⟨t, ht, ct, cb⟩ := X4.out.left
  have HZL : Hid (∀ z : Bool, rdBad l = z → Sums.bl t = zonL (rd3 l)) := fun _ _ => ht
  clear X4
  cases hbad : rdBad l
  · rw [hbad] at cb
    cases hz : zonL (rd3 l) with
    | nil =>
      rw [hz] at ht
      obtain ⟨he, he2⟩ := tk_nil t ht
      have hne : (t.toList != []) = false := by rw [he]; rfl
      have HRR : Hid (readR l = stR (day0 l) (day1 l) (day2 l) (sec0 (rd2 l)) (sec1 (rd2 l)) (sec2 (rd2 l)) (timMs (rd2 l)) (zonS (rd3 l)) (zonH (rd3 l)) (zonM (rd3 l))) := by
        show _ = _
        unfold readR
        rw [hbad, hz]
        rfl
      clear hz hbad ht
      unfold toldV at HST
      go_wp2_with (first | (refine wpList_load_row rfl 76 _ rfl (G + 1) rfl 76 _ _ _ HR.out Tryd.underlying76 rfl (sizeTold _ rfl) ?_) | fail)
      refine (HST.out _).mono ?_
      rintro e W6 ⟨he6, hb6⟩
      have B6 := Hid.mk' (B5.out.trans (hb6.mono (by have := B5.out.size; rw [HG.out] at this; exact this)))
      obtain ⟨a, c, hac⟩ := stR_tup (day0 l) (day1 l) (day2 l) (sec0 (rd2 l)) (sec1 (rd2 l)) (sec2 (rd2 l)) (timMs (rd2 l)) (zonS (rd3 l)) (zonH (rd3 l)) (zonM (rd3 l))
      have HAC : Hid (readR l = .returned (.tuple #[.int .i64 a, .int .i64 c])) := HRR.out.trans hac
      rw [hac] at he6
      subst he6
      clear hac hb6 HRR
      go_wp2_with fail
      go_ret2
      exact ⟨by rw [HL.out]; exact HAC.out.symm, by rw [HG.out]; exact B6.out⟩
    | cons x r =>
      rw [hz] at ht
      obtain ⟨n1, n2, n3, n4⟩ := tk_cons t x r ht
      have HRR : Hid (readR l = .returned (.tuple #[.int .i64 0, .int .i64 33])) := by
        show _ = _
        unfold readR
        rw [hbad, hz]
        rfl
      clear hz hbad ht
      go_wp2_with fail
      go_ret2
      exact ⟨by rw [HL.out]; exact HRR.out.symm, by rw [HG.out]; exact B5.out⟩
  · rw [hbad] at cb
    have HRR : Hid (readR l = .returned (.tuple #[.int .i64 0, .int .i64 33])) := by
      show _ = _
      unfold readR
      rw [hbad]
      rfl
    clear hbad
    go_wp2_with fail
    go_ret2
    exact ⟨by rw [HL.out]; exact HRR.out.symm, by rw [HG.out]; exact B5.out⟩
end Go.Proofs.YthmpokndffbkdaaDoor
