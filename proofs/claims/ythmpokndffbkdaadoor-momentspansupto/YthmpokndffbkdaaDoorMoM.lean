/-
  moment: the taker: day, seconds, time, plusOrMinus. Conditions: taker and date lie in blocks of their own.
-/
import Derived.Test.YthmpokndffbkdaaDoorMoL
namespace Go.Proofs.YthmpokndffbkdaaDoor
open Go.RowKit
set_option linter.unusedVariables false
/-- of what was there only blocks g and h are written -/
structure Only2 (g h : Nat) (w w' : World) : Prop where
  os : w'.os = w.os
  tape : w'.tape = w.tape
  output : w'.output = w.output
  size : w.heap.size ≤ w'.heap.size
  block : ∀ k, k < w.heap.size → k ≠ g → k ≠ h → w'.heap[k]? = w.heap[k]?
theorem Only2.refl (g h : Nat) (w : World) : Only2 g h w w := ⟨rfl, rfl, rfl, Nat.le_refl _, fun _ _ _ _ => rfl⟩
theorem Only2.trans {g h : Nat} {a b c : World} (x : Only2 g h a b) (y : Only2 g h b c) : Only2 g h a c :=
  ⟨y.os.trans x.os, y.tape.trans x.tape, y.output.trans x.output, Nat.le_trans x.size y.size, fun i hi h1 h2 => (y.block i (Nat.lt_of_lt_of_le hi x.size) h1 h2).trans (x.block i hi h1 h2)⟩
theorem Only.two {g h : Nat} {a b : World} (x : Only g a b) : Only2 g h a b := ⟨x.os, x.tape, x.output, x.size, fun i hi h1 _ => x.block i hi h1⟩
theorem Only.two' {g h : Nat} {a b : World} (x : Only h a b) : Only2 g h a b := ⟨x.os, x.tape, x.output, x.size, fun i hi _ h2 => x.block i hi h2⟩
theorem Only2.below {g h B : Nat} {a b : World} (x : Only2 g h a b) (hg : B ≤ g) (hh : B ≤ h) (hs : B ≤ a.heap.size) : Below B a b := ⟨x.os, x.tape, x.output, x.size, fun k hk => x.block k (by omega) (by omega) (by omega)⟩
/-- a taker in block g, a row in block h, all else as in w0 -/
structure Tm (g h : Nat) (T : TypeId) (l : List Nat) (b : Bool) (cs : List Value) (w0 w : World) : Prop where
  tk : Tk g l b w
  row : w.heap[h]? = some (.cells cs.toArray T (0, 0))
  kept : Only2 g h w0 w
  ne : h ≠ g
theorem Tm.lt {g h : Nat} {T : TypeId} {l : List Nat} {b : Bool} {cs : List Value} {w0 w : World} (x : Tm g h T l b cs w0 w) : h < w.heap.size := (Array.getElem?_eq_some_iff.1 x.row).1
theorem Tm.call {g h : Nat} {T : TypeId} {l l' : List Nat} {b b' : Bool} {cs : List Value} {w0 w w' : World} (x : Tm g h T l b cs w0 w) (ht : Tk g l' b' w') (ho : Only g w w') : Tm g h T l' b' cs w0 w' :=
  ⟨ht, (ho.block h x.lt x.ne).trans x.row, x.kept.trans ho.two, x.ne⟩
theorem Tm.store {g h : Nat} {T : TypeId} {l : List Nat} {b : Bool} {cs : List Value} {w0 w : World} (x : Tm g h T l b cs w0 w) (o : Nat) (u : Value) : Tm g h T l b (cs.set o u) w0 (w.setCell ⟨h, o, none⟩ u) := by
  have hq := only_set (o := o) w u x.row
  obtain ⟨t, ht, hg⟩ := x.tk.ex
  have hlt : g < w.heap.size := (Array.getElem?_eq_some_iff.1 hg).1
  refine ⟨⟨t, ht, (hq.1.block g hlt (fun e => x.ne e.symm)).trans hg⟩, ?_, x.kept.trans hq.1.two', x.ne⟩
  have := hq.2
  simpa using this
theorem Tm.cell {g h o : Nat} {T : TypeId} {l : List Nat} {b : Bool} {cs : List Value} {w0 w : World} (x : Tm g h T l b cs w0 w) (ho : o < cs.length) : ∃ u, w.cell? ⟨h, o, none⟩ = some u ∧ w.frozen? ⟨h, o, none⟩ = false := by
  refine ⟨cs[o], ?_, ?_⟩
  · simp [World.cell?, x.row, ho]
  · simp [World.frozen?, x.row]
def dayL (l : List Nat) : List Nat := numL 2 (restF 45 (numL 2 (restF 45 (numL 4 (l)))))
def dayB (l : List Nat) : Bool := (numB 4 (l)) || (!hasF 45 (numL 4 (l))) || (numB 2 (restF 45 (numL 4 (l)))) || (!hasF 45 (numL 2 (restF 45 (numL 4 (l))))) || (numB 2 (restF 45 (numL 2 (restF 45 (numL 4 (l))))))
def day0 (l : List Nat) : Nat := numN 4 0 (l)
def day1 (l : List Nat) : Nat := numN 2 0 (restF 45 (numL 4 (l)))
def day2 (l : List Nat) : Nat := numN 2 0 (restF 45 (numL 2 (restF 45 (numL 4 (l)))))
set_option maxHeartbeats 1000000 in
theorem day_any (g h : Nat) (T : TypeId) (l : List Nat) (b : Bool) (cs : List Value) (w0 w : World) (x : Tm g h T l b cs w0 w) (hl : 7 ≤ cs.length) :
    Calls Tryd.prog 47 #[.pointer (some ⟨g, 0, none⟩), .pointer (some ⟨h, 0, none⟩)] w fun e w' => e = .returned (.tuple #[]) ∧ Tm g h T (dayL l) (b || dayB l) (((cs.set 0 (.int .i64 ((day0 l : Nat) : Int))).set 1 (.int .i64 ((day1 l : Nat) : Int))).set 2 (.int .i64 ((day2 l : Nat) : Int))) w0 w' := by
  have HX := Hid.mk' x
  have HL := Hid.mk' hl
  unfold dayL dayB day0 day1 day2
  clear x hl
  go_enter Tryd.func47, Tryd.ntmps47
  go_wp2_with fail
  refine (number_any g 4 _ _ _ HX.out.tk (by decide)).mono ?_
  rintro e a0 ⟨rfl, ht, ho⟩
  have X0 := Hid.mk' (HX.out.call ht ho)
  obtain ⟨u0, cu, fu⟩ := X0.out.cell (o := 0) (by have := HL.out; simp; omega)
  clear ht ho HX
  go_wp2_with fail
  have Y0 := Hid.mk' (X0.out.store 0 (.int .i64 ((numN 4 0 (l) : Nat) : Int)))
  clear X0 cu fu
  generalize (a0.setCell _ _) = v0 at *
  refine (sign_any g 45 _ _ _ Y0.out.tk).mono ?_
  rintro e d0 ⟨rfl, ht, ho⟩
  have Z0 := Hid.mk' (Y0.out.call ht ho)
  clear ht ho Y0
  go_wp2_with fail
  refine (number_any g 2 _ _ _ Z0.out.tk (by decide)).mono ?_
  rintro e a1 ⟨rfl, ht, ho⟩
  have X1 := Hid.mk' (Z0.out.call ht ho)
  obtain ⟨u1, cu, fu⟩ := X1.out.cell (o := 1) (by have := HL.out; simp; omega)
  clear ht ho Z0
  go_wp2_with fail
  have Y1 := Hid.mk' (X1.out.store 1 (.int .i64 ((numN 2 0 (restF 45 (numL 4 (l))) : Nat) : Int)))
  clear X1 cu fu
  generalize (a1.setCell _ _) = v1 at *
  refine (sign_any g 45 _ _ _ Y1.out.tk).mono ?_
  rintro e d1 ⟨rfl, ht, ho⟩
  have Z1 := Hid.mk' (Y1.out.call ht ho)
  clear ht ho Y1
  go_wp2_with fail
  refine (number_any g 2 _ _ _ Z1.out.tk (by decide)).mono ?_
  rintro e a2 ⟨rfl, ht, ho⟩
  have X2 := Hid.mk' (Z1.out.call ht ho)
  obtain ⟨u2, cu, fu⟩ := X2.out.cell (o := 2) (by have := HL.out; simp; omega)
  clear ht ho Z1
  go_wp2_with fail
  have Y2 := Hid.mk' (X2.out.store 2 (.int .i64 ((numN 2 0 (restF 45 (numL 2 (restF 45 (numL 4 (l))))) : Nat) : Int)))
  go_end0
  refine ⟨rfl, ?_⟩
  have := Y2.out
  simpa [Bool.or_assoc] using this
def secL (l : List Nat) : List Nat := numL 2 (restF 58 (numL 2 (restF 58 (numL 2 (l)))))
def secB (l : List Nat) : Bool := (numB 2 (l)) || (!hasF 58 (numL 2 (l))) || (numB 2 (restF 58 (numL 2 (l)))) || (!hasF 58 (numL 2 (restF 58 (numL 2 (l))))) || (numB 2 (restF 58 (numL 2 (restF 58 (numL 2 (l))))))
def sec0 (l : List Nat) : Nat := numN 2 0 (l)
def sec1 (l : List Nat) : Nat := numN 2 0 (restF 58 (numL 2 (l)))
def sec2 (l : List Nat) : Nat := numN 2 0 (restF 58 (numL 2 (restF 58 (numL 2 (l)))))
set_option maxHeartbeats 1000000 in
theorem sec_any (g h : Nat) (T : TypeId) (l : List Nat) (b : Bool) (cs : List Value) (w0 w : World) (x : Tm g h T l b cs w0 w) (hl : 7 ≤ cs.length) :
    Calls Tryd.prog 67 #[.pointer (some ⟨g, 0, none⟩), .pointer (some ⟨h, 0, none⟩)] w fun e w' => e = .returned (.tuple #[]) ∧ Tm g h T (secL l) (b || secB l) (((cs.set 3 (.int .i64 ((sec0 l : Nat) : Int))).set 4 (.int .i64 ((sec1 l : Nat) : Int))).set 5 (.int .i64 ((sec2 l : Nat) : Int))) w0 w' := by
  have HX := Hid.mk' x
  have HL := Hid.mk' hl
  unfold secL secB sec0 sec1 sec2
  clear x hl
  go_enter Tryd.func67, Tryd.ntmps67
  go_wp2_with fail
  refine (number_any g 2 _ _ _ HX.out.tk (by decide)).mono ?_
  rintro e a0 ⟨rfl, ht, ho⟩
  have X0 := Hid.mk' (HX.out.call ht ho)
  obtain ⟨u0, cu, fu⟩ := X0.out.cell (o := 3) (by have := HL.out; simp; omega)
  clear ht ho HX
  go_wp2_with fail
  have Y0 := Hid.mk' (X0.out.store 3 (.int .i64 ((numN 2 0 (l) : Nat) : Int)))
  clear X0 cu fu
  generalize (a0.setCell _ _) = v0 at *
  refine (sign_any g 58 _ _ _ Y0.out.tk).mono ?_
  rintro e d0 ⟨rfl, ht, ho⟩
  have Z0 := Hid.mk' (Y0.out.call ht ho)
  clear ht ho Y0
  go_wp2_with fail
  refine (number_any g 2 _ _ _ Z0.out.tk (by decide)).mono ?_
  rintro e a1 ⟨rfl, ht, ho⟩
  have X1 := Hid.mk' (Z0.out.call ht ho)
  obtain ⟨u1, cu, fu⟩ := X1.out.cell (o := 4) (by have := HL.out; simp; omega)
  clear ht ho Z0
  go_wp2_with fail
  have Y1 := Hid.mk' (X1.out.store 4 (.int .i64 ((numN 2 0 (restF 58 (numL 2 (l))) : Nat) : Int)))
  clear X1 cu fu
  generalize (a1.setCell _ _) = v1 at *
  refine (sign_any g 58 _ _ _ Y1.out.tk).mono ?_
  rintro e d1 ⟨rfl, ht, ho⟩
  have Z1 := Hid.mk' (Y1.out.call ht ho)
  clear ht ho Y1
  go_wp2_with fail
  refine (number_any g 2 _ _ _ Z1.out.tk (by decide)).mono ?_
  rintro e a2 ⟨rfl, ht, ho⟩
  have X2 := Hid.mk' (Z1.out.call ht ho)
  obtain ⟨u2, cu, fu⟩ := X2.out.cell (o := 5) (by have := HL.out; simp; omega)
  clear ht ho Z1
  go_wp2_with fail
  have Y2 := Hid.mk' (X2.out.store 5 (.int .i64 ((numN 2 0 (restF 58 (numL 2 (restF 58 (numL 2 (l))))) : Nat) : Int)))
  go_end0
  refine ⟨rfl, ?_⟩
  have := Y2.out
  simpa [Bool.or_assoc] using this
end Go.Proofs.YthmpokndffbkdaaDoor
